/-
  deadboltref12: which programs may be; whether two rows are the same; words, digits.
-/
import Derived.Test.YtocojdiapaeajaaDoorProgRefA
import Derived.Test.YtocojdiapaeajaaDoorProgLib
namespace Go.Proofs.YtocojdiapaeajaaDoor
open Go.ChangeShapes Go.WideShapes Go.ChangeAt Go.RowKit
set_option linter.unusedVariables false
set_option linter.unusedSimpArgs false
set_option maxRecDepth 100000
namespace P12

theorem all_no {α : Type} {p : α → Bool} {l : List α} {k : Nat} {x : α} (hx : l[k]? = some x) (h : p x = false) : l.all p = false := by
  rw [List.all_eq_false]
  exact ⟨x, List.mem_of_getElem? hx, by rw [h]; simp⟩
theorem all_more {α : Type} {p : α → Bool} {l : List α} {k : Nat} {x : α} (hx : l[k]? = some x) (h : p x = true) (g : (l.take k).all p = true) : (l.take (k + 1)).all p = true := by
  rw [take_more hx, List.all_append, g]; simp [h]
set_option maxHeartbeats 4000000 in
theorem rRight_is {A : Option Addr} {n c : Nat} {R : List PV} {B : Bool} (hB : rightB (pl R) = B) (hn : n ≤ 9223372036854775807) (w : World) (hm : PMem w A n R) :
    Calls Tryd.prog 17 #[.slice A n c] w fun e w' => e = .returned (.bool B) ∧ Gr w w' := by
  have hall : (pl R).all okP = R.all okV := by unfold pl; rw [List.all_map]; rfl
  have hlen : (pl R).length = n := by unfold pl; rw [List.length_map, hm.len]
  rw [rightB_okP, hall, hlen] at hB
  have HB := Lib.hid hB
  have HL := Lib.hid hm.len
  have H0 := Lib.hid (show (R.take 0).all okV = true from rfl)
  clear hB hall hlen
  go_enter Tryd.func17, Tryd.ntmps17
  go_wp2_with fail
  go_loopw [9] (fun i wr => ∃ k : Nat, k ≤ n ∧ i = .int .i64 k ∧ Hid ((R.take k).all okV = true) ∧ Gr w wr) (fun i _ => n - (intOf i).toNat)
  case atStart => exact ⟨0, Nat.zero_le _, rfl, H0, Gr.refl _⟩
  case round =>
    obtain ⟨k, hk, rfl, HK, hg⟩ := hrel
    by_cases hlt : k < n
    · obtain ⟨b, off, x, rfl, hbl, hx, hok, c0⟩ := (hm.gr hg).at_ hlt
      have HX := Lib.hid hx
      have hxn := hok.lt
      have hmx := hok.1
      have H1 := Lib.hid (show (x.l.take 0).all okA = true from rfl)
      have k0 : (0 : Int) ≤ (k : Int) := by omega
      have k1 : (k : Int) < (n : Int) := by omega
      have hokp : ∀ v, okP x.l = v → Hid (okV x = v) := fun v h => Lib.hid h
      obtain ⟨xA, xn, xc, xl⟩ := x
      dsimp only at hxn hmx c0 H1 hokp
      have hxl := hmx.1
      clear hx hok
      go_wp2_with fail
      rename World => wo
      go_loopw [15] (fun j wr => ∃ i : Nat, i ≤ xn ∧ j = .int .i64 i ∧ Hid ((xl.take i).all okA = true) ∧ Gr wo wr) (fun j _ => xn - (intOf j).toNat)
      case atStart => exact ⟨0, Nat.zero_le _, rfl, H1, Gr.refl _⟩
      case round =>
        obtain ⟨i, hi, rfl, HI, hgi⟩ := hrel
        by_cases hit : i < xn
        · obtain ⟨b2, off2, y, rfl, hbl2, hy, hy1, hy2, d0, d1⟩ := (hmx.gr hgi).at_ hit
          have HY := Lib.hid hy
          obtain ⟨E, hE⟩ : ∃ E, okA y = E := ⟨_, rfl⟩
          have ca := fun W => Lib.hid (rAct_is hE W)
          have HE := Lib.hid hE
          have i0 : (0 : Int) ≤ (i : Int) := by omega
          have i1 : (i : Int) < (xn : Int) := by omega
          clear hy hE hmx hm
          cases E
          · have HF := hokp false (by
              unfold okP
              rw [all_no HY.out HE.out]
              simp)
            have HR := Lib.hid (show false = B from by
              rw [← HB.out, all_no HX.out HF.out]
              simp)
            clear hokp
            go_wp2_with fail
            with_reducible refine (ca _).out.mono ?_
            rintro e w2 ⟨rfl, hb2⟩
            go_wp2_with fail
            go_ret
            exact ⟨ret_bool HR.out, (hg.trans (hgi.al _)).trans hb2⟩
          · clear hokp
            go_wp2_with fail
            with_reducible refine (ca _).out.mono ?_
            rintro e w2 ⟨rfl, hb2⟩
            go_wp2_with fail
            go_roundw
            case rel => exact ⟨i + 1, by omega, by go_num, Lib.hid (all_more HY.out HE.out HI.out), (hgi.al _).trans hb2⟩
            case measure => simp [intOf]; omega
        · obtain rfl : i = xn := by omega
          have hal := HI.out
          rw [List.take_of_length_le (by omega)] at hal
          by_cases h64 : i ≤ 64
          · have HF := hokp true (by unfold okP; rw [hal, hxl]; simpa using h64)
            have h65 : ¬ (64 : Int) < (i : Int) := by omega
            clear hokp hmx hm
            go_wp2_with fail
            go_roundw
            case rel => exact ⟨k + 1, by omega, by go_num, Lib.hid (all_more HX.out HF.out HK.out), hg.trans hgi⟩
            case measure => simp [intOf]; omega
          · have HF := hokp false (by unfold okP; rw [hxl]; simp; omega)
            have HR := Lib.hid (show false = B from by
              rw [← HB.out, all_no HX.out HF.out]
              simp)
            have h65 : (64 : Int) < (i : Int) := by omega
            clear hokp hmx hm
            go_wp2_with fail
            go_ret
            exact ⟨ret_bool HR.out, hg.trans hgi⟩
    · obtain rfl : k = n := by omega
      have hal := HK.out
      rw [List.take_of_length_le (by rw [HL.out]; exact Nat.le_refl _)] at hal
      have HR := Lib.hid (show decide (k ≤ 8) = B from by rw [← HB.out, hal]; simp)
      clear hm hal
      by_cases h8 : k ≤ 8
      · have h9 : (k : Int) ≤ 8 := by omega
        rw [decide_eq_true h8] at HR
        go_wp2_with fail
        go_ret
        exact ⟨ret_bool HR.out, hg⟩
      · have h9 : ¬ (k : Int) ≤ 8 := by omega
        rw [decide_eq_false h8] at HR
        go_wp2_with fail
        go_ret
        exact ⟨ret_bool HR.out, hg⟩

set_option maxHeartbeats 2000000 in
theorem rSame_is {A B : Option Addr} {n c m d : Nat} {R T : List PV} {v : Bool} (hv : (pl R == pl T) = v) (hn : n ≤ 9223372036854775807) (hmm : m ≤ 9223372036854775807) (w : World) (ha : PMem w A n R) (hb : PMem w B m T) :
    Calls Tryd.prog 11 #[.slice A n c, .slice B m d] w fun e w' => e = .returned (.bool v) ∧ ∃ k, w' = w.drewN k := by
  have la : (pl R).length = n := by unfold pl; rw [List.length_map, ha.len]
  have lb : (pl T).length = m := by unfold pl; rw [List.length_map, hb.len]
  by_cases hnm : n = m
  · subst hnm
    have t1 : ((n : Int) != (n : Int)) = false := by simp
    have HV := Lib.hid hv
    have HLA := Lib.hid la
    have HLB := Lib.hid lb
    have H0 := Lib.hid (show (pl R).take 0 = (pl T).take 0 from rfl)
    clear hv la lb
    go_enter Tryd.func11, Tryd.ntmps11
    go_wp2_with fail
    go_loopw [13] (fun i wr => ∃ k : Nat, k ≤ n ∧ i = .int .i64 k ∧ Hid ((pl R).take k = (pl T).take k) ∧ Hid (∃ q, wr = w.drewN q)) (fun i _ => n - (intOf i).toNat)
    case atStart => exact ⟨0, Nat.zero_le _, rfl, H0, Lib.hid ⟨0, rfl⟩⟩
    case round =>
      obtain ⟨k, hk, rfl, HK, HQ⟩ := hrel
      have hG : Gr w wr := by obtain ⟨q, rfl⟩ := HQ.out; exact (Gr.refl w).drN q
      by_cases hlt : k < n
      · obtain ⟨b1, o1, x, rfl, hb1, hx, okx, c0⟩ := (ha.gr hG).at_ hlt
        obtain ⟨b2, o2, y, rfl, hb2, hy, oky, d0⟩ := (hb.gr hG).at_ hlt
        obtain ⟨E, hE⟩ : ∃ E, (x.l == y.l) = E := ⟨_, rfl⟩
        have hro := fun (n : Nat) => Lib.hid (Calls.quiet_of (rActs_is (c := x.c) (d := y.c) hE okx.lt oky.lt (wr.drewN n) (okx.1.gr ((Gr.refl wr).drN n)) (oky.1.gr ((Gr.refl wr).drN n))))
        have k0 : (0 : Int) ≤ (k : Int) := by omega
        have k1 : (k : Int) < (n : Int) := by omega
        have HX := Lib.hid (show (pl R)[k]? = some x.l from by unfold pl; rw [List.getElem?_map, hx]; rfl)
        have HY := Lib.hid (show (pl T)[k]? = some y.l from by unfold pl; rw [List.getElem?_map, hy]; rfl)
        have HE := Lib.hid hE
        clear hx hy hE ha hb okx oky
        cases E
        · go_wp2_with fail
          go_quiet ((go_at_call 19; with_reducible exact (hro _).out))
          go_wp2_with fail
          go_ret
          refine ⟨ret_bool ?_, by obtain ⟨q, rfl⟩ := HQ.out; exact ⟨_, World.drewN_drewN _ _ _⟩⟩
          rw [← HV.out]
          refine (beq_eq_false_iff_ne.2 fun e => ?_).symm
          have h1 := HX.out
          rw [e, HY.out] at h1
          have h2 := HE.out
          rw [Option.some.inj h1] at h2
          simp at h2
        · go_wp2_with fail
          go_quiet ((go_at_call 19; with_reducible exact (hro _).out))
          go_wp2_with fail
          go_roundw
          case rel => exact ⟨k + 1, by omega, by go_num, Lib.hid (by rw [take_more HX.out, take_more HY.out, HK.out, eq_of_beq HE.out]), Lib.hid (by obtain ⟨q, rfl⟩ := HQ.out; exact ⟨_, World.drewN_drewN _ _ _⟩)⟩
          case measure => simp [intOf]; omega
      · obtain rfl : k = n := by omega
        clear ha hb
        go_wp2_with fail
        go_ret
        refine ⟨ret_bool ?_, HQ.out⟩
        rw [← HV.out]
        have h := HK.out
        rw [List.take_of_length_le (by rw [HLA.out]; exact Nat.le_refl _), List.take_of_length_le (by rw [HLB.out]; exact Nat.le_refl _)] at h
        rw [h]
        simp
  · have t1 : ((n : Int) != (m : Int)) = true := by simp; omega
    have HV := Lib.hid (show v = false from by
      rw [← hv]
      refine beq_eq_false_iff_ne.2 fun e => hnm ?_
      rw [← la, ← lb, e])
    clear hv la lb ha hb
    go_enter Tryd.func11, Tryd.ntmps11
    go_wp2_with fail
    go_ret
    exact ⟨ret_bool HV.out.symm, 0, rfl⟩

set_option maxHeartbeats 1000000 in
theorem rwords_is (w : World) : Calls Tryd.prog 32 #[] w fun e w' => e = .returned (.slice (some ⟨w.heap.size, 0, none⟩) 4 4) ∧ w' = w.alloc (.cells #[.string (bs (wd 0)), .string (bs (wd 1)), .string (bs (wd 2)), .string (bs (wd 3))] 9) := by
  go_enter Tryd.func32, Tryd.ntmps32
  go_wp2_with fail
  go_ret
  exact ⟨rfl, rfl⟩

theorem rdgs_small {k : Int} (h : 0 ≤ k ∧ k < 10) : strOfNums [48 + k] = bs (dgs k) := by
  apply WideShapes.bytes_inj
  have e : (bs (dgs k)).data.toList = Lib.decDigits k.toNat := bs_list _
  rw [strOfNums_data, e, Lib.decDigits_one (by omega)]
  show [UInt8.ofNat (48 + k).toNat] = _
  rw [show (48 + k).toNat = 48 + k.toNat from by omega]
theorem rdgs_big {k : Int} (h : 10 ≤ k) : bs (dgs (k / 10)) ++ bs (dgs (k % 10)) = bs (dgs k) := by
  rw [bs_append]
  congr 1
  unfold dgs
  rw [Lib.decDigits_one (i := (k % 10).toNat) (by omega)]
  conv => rhs; rw [Lib.decDigits]
  rw [dif_neg (by omega)]
  rw [show (k / 10).toNat = k.toNat / 10 from by omega, show (k % 10).toNat = k.toNat % 10 from by omega]
set_option maxHeartbeats 1000000 in
theorem rdig_small (k : Int) (h : 0 ≤ k ∧ k < 10) (w : World) : Calls Tryd.prog 33 #[.int .i64 k] w fun e w' => e = .returned (.string (bs (dgs k))) ∧ Gr w w' := by
  have hd := rdgs_small h
  obtain ⟨h1, h2⟩ := h
  have hconv := run_convert_bytes_arg (P := Tryd.prog) (w.alloc (.cells #[.int .u8 (48 + k)] 5)) 51 5 Tryd.underlying51 Tryd.underlying5 w.heap.size 0 1 1 [48 + k] rfl
    (fun q hq => by obtain rfl : q = 0 := by omega
                    simp) 9 Tryd.underlying9
  rw [hd] at hconv
  clear hd
  go_enter Tryd.func33, Tryd.ntmps33
  go_wp2_with fail
  go_ret
  exact ⟨rfl, (Gr.refl w).al _⟩
set_option maxHeartbeats 1000000 in
theorem rdig_step (k : Int) (h : 10 ≤ k ∧ k ≤ 999999) (w : World) (hc : ∀ w, Calls Tryd.prog 33 #[.int .i64 (k / 10)] w fun e w' => e = .returned (.string (bs (dgs (k / 10)))) ∧ Gr w w') : Calls Tryd.prog 33 #[.int .i64 k] w fun e w' => e = .returned (.string (bs (dgs k))) ∧ Gr w w' := by
  have c1 := fun w => Lib.hid (hc w)
  have c2 := fun w => Lib.hid (rdig_small (k % 10) (by omega) w)
  have HD := Lib.hid (rdgs_big h.1)
  have s1 := (dgs_len (n := k / 10) (by omega)).2
  have s2 := (dgs_len (n := k % 10) (by omega)).2
  rw [← bs_size] at s1 s2
  obtain ⟨h1, h2⟩ := h
  clear hc
  have hq : wrap64 (k.tdiv 10) = k / 10 := by rw [Int.tdiv_eq_ediv_of_nonneg (by omega)]; unfold wrap64; omega
  have hm : k.tmod 10 = k % 10 := Int.tmod_eq_emod_of_nonneg (by omega)
  generalize bs (dgs (k / 10)) = A at *
  generalize bs (dgs (k % 10)) = B at *
  generalize bs (dgs k) = D at *
  have hz : ¬ 9223372036854775807 < A.size + B.size := by omega
  clear s1 s2
  have g : ¬ k < 10 := by omega
  go_enter Tryd.func33, Tryd.ntmps33
  go_wp2_with fail
  refine (c1 _).out.mono ?_
  rintro e w1 ⟨rfl, hb1⟩
  go_wp2_with fail
  refine (c2 _).out.mono ?_
  rintro e w2 ⟨rfl, hb2⟩
  go_wp2_with fail
  go_ret
  exact ⟨by rw [← HD.out]; rfl, hb1.trans hb2⟩
theorem rdig_is (k : Int) (h : 0 ≤ k ∧ k ≤ 999999) (w : World) : Calls Tryd.prog 33 #[.int .i64 k] w fun e w' => e = .returned (.string (bs (dgs k))) ∧ Gr w w' := by
  obtain ⟨u, rfl⟩ : ∃ u : Nat, k = (u : Int) := ⟨k.toNat, by omega⟩
  induction u using Nat.strongRecOn generalizing w with
  | ind u ih =>
    by_cases hs : u < 10
    · exact rdig_small _ (by omega) w
    · exact rdig_step _ (by omega) w (fun w => by
        have := ih (u / 10) (by omega) w (by omega)
        have e : ((u / 10 : Nat) : Int) = (u : Int) / 10 := by omega
        rw [e] at this
        exact this)
end P12
end Go.Proofs.YtocojdiapaeajaaDoor
