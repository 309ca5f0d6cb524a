/-
  deadboltref12: acts, tidy, which programs may be; whether two are the same; words, digits.
-/
import Derived.Test.YtocojdiapaeajaaDoorProgFn
import Derived.Laws.BytesArg
namespace Go.Proofs.YtocojdiapaeajaaDoor
open Go.ChangeShapes Go.WideShapes Go.ChangeAt Go.RowKit
set_option linter.unusedVariables false
set_option linter.unusedSimpArgs false
set_option maxRecDepth 100000
namespace P12

theorem take_more {α : Type} {l : List α} {k : Nat} {x : α} (h : l[k]? = some x) : l.take (k + 1) = l.take k ++ [x] := by
  rw [List.take_add_one, h]; rfl
set_option maxHeartbeats 2000000 in
theorem rAct_is {a : Ac} {B : Bool} (hB : okA a = B) (w : World) : Calls Tryd.prog 31 #[.agg #[.int .i64 a.1, .int .i64 a.2]] w fun e w' => e = .returned (.bool B) ∧ Gr w w' := by
  obtain ⟨k, n⟩ := a
  have key : ∀ B', okA (k, n) = B' → Hid (B' = B) := fun B' h => Lib.hid (by rw [← h, hB])
  clear hB
  by_cases h3 : k = 3
  · subst h3
    by_cases h0 : 0 ≤ n
    · by_cases h1 : n ≤ 1000
      · have HB := key true (by unfold okA; simp; omega)
        clear key
        go_enter Tryd.func31, Tryd.ntmps31
        go_wp2_with fail
        go_ret
        rw [← HB.out]
        exact ⟨rfl, (Gr.refl w).al _⟩
      · have HB := key false (by unfold okA; simp; omega)
        clear key
        go_enter Tryd.func31, Tryd.ntmps31
        go_wp2_with fail
        go_ret
        rw [← HB.out]
        exact ⟨rfl, (Gr.refl w).al _⟩
    · have HB := key false (by unfold okA; simp; omega)
      clear key
      go_enter Tryd.func31, Tryd.ntmps31
      go_wp2_with fail
      go_ret
      rw [← HB.out]
      exact ⟨rfl, (Gr.refl w).al _⟩
  · have n3 : (k == 3) = false := by simpa using h3
    by_cases h0 : 0 ≤ k
    · by_cases h1 : k ≤ 2
      · by_cases h4 : 0 ≤ n
        · by_cases h5 : n ≤ 3
          · have HB := key true (by unfold okA; rw [if_neg (by simpa using h3)]; simp; omega)
            clear key
            go_enter Tryd.func31, Tryd.ntmps31
            go_wp2_with fail
            go_ret
            rw [← HB.out]
            exact ⟨rfl, (Gr.refl w).al _⟩
          · have HB := key false (by unfold okA; rw [if_neg (by simpa using h3)]; simp; omega)
            clear key
            go_enter Tryd.func31, Tryd.ntmps31
            go_wp2_with fail
            go_ret
            rw [← HB.out]
            exact ⟨rfl, (Gr.refl w).al _⟩
        · have HB := key false (by unfold okA; rw [if_neg (by simpa using h3)]; simp; omega)
          clear key
          go_enter Tryd.func31, Tryd.ntmps31
          go_wp2_with fail
          go_ret
          rw [← HB.out]
          exact ⟨rfl, (Gr.refl w).al _⟩
      · have HB := key false (by unfold okA; rw [if_neg (by simpa using h3)]; simp; omega)
        clear key
        go_enter Tryd.func31, Tryd.ntmps31
        go_wp2_with fail
        go_ret
        rw [← HB.out]
        exact ⟨rfl, (Gr.refl w).al _⟩
    · have HB := key false (by unfold okA; rw [if_neg (by simpa using h3)]; simp; omega)
      clear key
      go_enter Tryd.func31, Tryd.ntmps31
      go_wp2_with fail
      go_ret
      rw [← HB.out]
      exact ⟨rfl, (Gr.refl w).al _⟩

set_option maxHeartbeats 4000000 in
theorem rTidy_is {A : Option Addr} {n c : Nat} {l : List Ac} {B : Bool} (hB : tidyB l = B) (hn : n ≤ 9223372036854775807) (w : World) (hm : Mem w A n l) :
    Calls Tryd.prog 15 #[.slice A n c] w fun e w' => e = .returned (.bool B) ∧ Gr w w' := by
  have HB0 := Lib.hid (show (held (ho false (-1)) l == some none) = B from hB)
  clear hB
  go_enter Tryd.func15, Tryd.ntmps15
  go_wp2_with fail
  go_loopw [3, 4, 9] (fun m b i wr => ∃ (k : Nat) (v : Bool) (u : Int), k ≤ n ∧ b = .bool v ∧ m = .int .i64 u ∧ i = .int .i64 k ∧ Hid ((held (ho v u) (l.drop k) == some none) = B) ∧ Gr w wr) (fun _ _ i _ => n - (intOf i).toNat)
  case atStart => exact ⟨0, false, -1, Nat.zero_le _, rfl, rfl, rfl, HB0, Gr.refl _⟩
  case round =>
    obtain ⟨k, v, u, hk, rfl, rfl, rfl, HB, hg⟩ := hrel
    by_cases hlt : k < n
    · obtain ⟨b, off, x, rfl, hbl, hx, h1, h2, c0, c1⟩ := (hm.gr hg).at_ hlt
      have hd : l.drop k = x :: l.drop (k + 1) := by
        obtain ⟨hl, rfl⟩ := List.getElem?_eq_some_iff.1 hx
        exact List.drop_eq_getElem_cons hl
      have HK := HB.out
      rw [hd] at HK
      obtain ⟨x0, x1⟩ := x
      clear hd hx HB hm HB0
      dsimp only at c0 c1 h1 h2
      by_cases e1 : x0 = 1
      · rw [held_try e1] at HK
        have HK := Lib.hid HK
        subst e1
        go_wp2_with fail
        go_ret
        exact ⟨ret_bool HK.out, hg.al _⟩
      · have n1 : (x0 == 1) = false := by simpa using e1
        by_cases e0 : x0 = 0
        · cases v
          · rw [held_lock e0] at HK
            have HK := Lib.hid HK
            subst e0
            clear e1
            go_wp2_with fail
            go_roundw
            case rel => exact ⟨k + 1, true, _, by omega, rfl, rfl, by go_num, HK, hg.al _⟩
            case measure => simp [intOf]; omega
          · rw [held_lock_no e0] at HK
            have HK := Lib.hid HK
            subst e0
            clear e1
            go_wp2_with fail
            go_ret
            exact ⟨ret_bool HK.out, hg.al _⟩
        · have n0 : (x0 == 0) = false := by simpa using e0
          by_cases e2 : x0 = 2
          · by_cases hv : v = true ∧ x1 = u
            · obtain ⟨rfl, rfl⟩ := hv
              rw [held_unlock (a := (x0, x1)) e2 rfl] at HK
              have HK := Lib.hid HK
              subst e2
              clear e0 e1
              have nb : (x1 != x1) = false := by simp
              go_wp2_with fail
              go_roundw
              case rel => exact ⟨k + 1, false, _, by omega, rfl, rfl, by go_num, HK, hg.al _⟩
              case measure => simp [intOf]; omega
            · rw [held_unlock_no e2 (by cases v; exact .inl rfl; exact .inr fun e => hv ⟨rfl, e⟩)] at HK
              have HK := Lib.hid HK
              subst e2
              clear e0 e1
              cases v
              · go_wp2_with fail
                go_ret
                exact ⟨ret_bool HK.out, hg.al _⟩
              · have hu : (x1 == u) = false := by simpa using fun e => hv ⟨rfl, e⟩
                have hu' : (x1 != u) = true := by simp [bne, hu]
                go_wp2_with fail
                go_ret
                exact ⟨ret_bool HK.out, hg.al _⟩
          · have n2 : (x0 == 2) = false := by simpa using e2
            rw [held_other e0 e1 e2] at HK
            have HK := Lib.hid HK
            clear e0 e1 e2
            go_wp2_with fail
            go_roundw
            case rel => exact ⟨k + 1, v, u, by omega, rfl, rfl, by go_num, HK, hg.al _⟩
            case measure => simp [intOf]; omega
    · obtain rfl : k = n := by omega
      have HK := HB.out
      rw [List.drop_of_length_le (by have := hm.1; omega), tidy_end] at HK
      have HK := Lib.hid HK
      clear HB hm HB0
      go_wp2_with fail
      go_ret
      exact ⟨rfl, hg⟩

theorem plainInt : Tryd.prog.plainKey 3 = true := by kernel_rfl
theorem act_neq (a b : Ac) (W : World) : (binOp .neq 38 (.agg #[.int .i64 a.1, .int .i64 a.2]) (.agg #[.int .i64 b.1, .int .i64 b.2])).run Tryd.prog W = .ok (.bool (!(a == b))) W := by
  have h1 : (Op.equalIn 9999 3 (.int .i64 a.1) (.int .i64 b.1)).run Tryd.prog W = .ok (a.1 == b.1) W := run_equalIn_int W 9998 3 .i64 .i64 a.1 b.1 Tryd.underlying3
  have h2 : (Op.equalIn 9999 3 (.int .i64 a.2) (.int .i64 b.2)).run Tryd.prog W = .ok (a.2 == b.2) W := run_equalIn_int W 9998 3 .i64 .i64 a.2 b.2 Tryd.underlying3
  have p1 : ∀ x y : Int, (part 3 #[.int .i64 x, .int .i64 y] 0).run Tryd.prog W = .ok (.int .i64 x) W := fun x y => run_part_plain W plainInt rfl
  have p2 : ∀ x y : Int, (part 3 #[.int .i64 x, .int .i64 y] 1).run Tryd.prog W = .ok (.int .i64 y) W := fun x y => run_part_plain W plainInt rfl
  have hk : (Tryd.prog.fieldsOf 38).toList.map (fun f => (f.name == "_", f.type, f.offset)) = [(false, 3, 0), (false, 3, 1)] := by kernel_rfl
  rw [run_neq_struct, run_equalIn_struct W 9999 38 _ _ (by kernel_rfl) (by kernel_rfl)]
  generalize (Tryd.prog.fieldsOf 38).toList = F at hk ⊢
  rcases F with _ | ⟨f0, _ | ⟨f1, _ | ⟨f2, F⟩⟩⟩
  · simp at hk
  · simp at hk
  rotate_left
  · simp at hk
  simp only [List.map_cons, List.map_nil, List.cons.injEq, Prod.mk.injEq, and_true, beq_eq_false_iff_ne] at hk
  obtain ⟨⟨n0, t0, o0⟩, n1, t1, o1⟩ := hk
  rw [Op.eqFields, if_pos n0, t0, o0, Sem.run_bind, p1, Result.andThen_ok, Sem.run_bind, p1, Result.andThen_ok, Sem.run_bind, h1, Result.andThen_ok, Op.eqFields, if_pos n1, t1, o1]
  obtain ⟨a0, a1⟩ := a
  obtain ⟨b0, b1⟩ := b
  dsimp only at h1 h2 ⊢
  by_cases h : a0 = b0
  · subst h
    rw [show (a0 == a0) = true from by simp, if_neg (by simp), Sem.run_bind, p2, Result.andThen_ok, Sem.run_bind, p2, Result.andThen_ok, Sem.run_bind, h2, Result.andThen_ok]
    by_cases g : a1 = b1
    · subst g
      simp [Op.eqFields]
    · have g' : (a1 == b1) = false := by simpa using g
      rw [g']
      simp [g]
  · have h' : (a0 == b0) = false := by simpa using h
    rw [h']
    simp [h]
set_option maxHeartbeats 2000000 in
/-- Whether two programs are the same. -/
theorem rActs_is {A B : Option Addr} {n c m d : Nat} {a b : List Ac} {v : Bool} (hv : (a == b) = v) (hn : n ≤ 9223372036854775807) (hmm : m ≤ 9223372036854775807) (w : World) (ha : Mem w A n a) (hb : Mem w B m b) :
    Calls Tryd.prog 19 #[.slice A n c, .slice B m d] w fun e w' => e = .returned (.bool v) ∧ ∃ k, w' = w.drewN k := by
  have la := ha.1
  have lb := hb.1
  by_cases hnm : n = m
  · subst hnm
    have t1 : ((n : Int) != (n : Int)) = false := by simp
    have HV := Lib.hid hv
    have HLA := Lib.hid la
    have HLB := Lib.hid lb
    have H0 := Lib.hid (show a.take 0 = b.take 0 from rfl)
    clear hv la lb
    go_enter Tryd.func19, Tryd.ntmps19
    go_wp2_with fail
    go_loopw [13] (fun i wr => ∃ k : Nat, k ≤ n ∧ i = .int .i64 k ∧ Hid (a.take k = b.take k) ∧ Hid (∃ q, wr = w.drewN q)) (fun i _ => n - (intOf i).toNat)
    case atStart => exact ⟨0, Nat.zero_le _, rfl, H0, Lib.hid ⟨0, rfl⟩⟩
    case round =>
      obtain ⟨k, hk, rfl, HK, HQ⟩ := hrel
      have hG : Gr w wr := by obtain ⟨q, rfl⟩ := HQ.out; exact (Gr.refl w).drN q
      by_cases hlt : k < n
      · obtain ⟨b1, o1, x, rfl, hb1, hx, -, -, c0, c1⟩ := (ha.gr hG).at_ hlt
        obtain ⟨b2, o2, y, rfl, hb2, hy, -, -, d0, d1⟩ := (hb.gr hG).at_ hlt
        obtain ⟨E, hE⟩ : ∃ E, (x == y) = E := ⟨_, rfl⟩
        have hne := fun W => act_neq x y W
        rw [hE] at hne
        have k0 : (0 : Int) ≤ (k : Int) := by omega
        have k1 : (k : Int) < (n : Int) := by omega
        have HX := Lib.hid hx
        have HY := Lib.hid hy
        have HE := Lib.hid hE
        clear hx hy hE ha hb
        cases E
        · go_wp2_with fail
          go_quiet (fail)
          go_wp2_with fail
          go_ret
          refine ⟨ret_bool ?_, by obtain ⟨q, rfl⟩ := HQ.out; exact ⟨_, World.drewN_drewN _ _ _⟩⟩
          rw [← HV.out]
          refine (beq_eq_false_iff_ne.2 fun e => ?_).symm
          subst e
          have h1 := HX.out
          rw [HY.out] at h1
          cases h1
          have h2 := HE.out
          simp at h2
        · go_wp2_with fail
          go_quiet (fail)
          go_wp2_with fail
          go_roundw
          case rel => exact ⟨k + 1, by omega, by go_num, Lib.hid (by rw [take_more HX.out, take_more HY.out, HK.out, eq_of_beq HE.out]), Lib.hid (by obtain ⟨q, rfl⟩ := HQ.out; exact ⟨_, World.drewN_drewN _ _ _⟩)⟩
          case measure => simp [intOf]; omega
      · obtain rfl : k = n := by omega
        clear ha hb
        go_wp2_with fail
        go_ret
        refine ⟨ret_bool ?_, HQ.out⟩
        rw [← HV.out]
        have h := HK.out
        rw [List.take_of_length_le (by rw [HLA.out]; exact Nat.le_refl _), List.take_of_length_le (by rw [HLB.out]; exact Nat.le_refl _)] at h
        rw [h]
        simp
  · have t1 : ((n : Int) != (m : Int)) = true := by simp; omega
    have HV := Lib.hid (show v = false from by
      rw [← hv]
      refine beq_eq_false_iff_ne.2 fun e => hnm ?_
      rw [← la, ← lb, e])
    clear hv la lb ha hb
    go_enter Tryd.func19, Tryd.ntmps19
    go_wp2_with fail
    go_ret
    exact ⟨ret_bool HV.out.symm, 0, rfl⟩
end P12
end Go.Proofs.YtocojdiapaeajaaDoor
