/-
  deadboltref05.Sort.
-/
import Derived.Test.YthldaebinchpdaaOrderRows
namespace Go.Proofs.Ythldaebinchpdaa
open Go.ChangeShapes Go.WideShapes Go.ChangeAt Go.RowKit
set_option linter.unusedVariables false

/-- f put in at i. -/
def insL (l : List Nat) (i f : Nat) : List Nat := l.take i ++ [f] ++ l.drop i
theorem insL_len {l : List Nat} {i f : Nat} (h : i ≤ l.length) : (insL l i f).length = l.length + 1 := by
  unfold insL
  rw [List.length_append, List.length_append, List.length_take, List.length_drop]
  simp; omega
theorem insL_G {l : List Nat} {i f : Nat} (h : i ≤ l.length) (p : Nat) : G (insL l i f) p = if p < i then G l p else if p = i then f else G l (p - 1) := by
  unfold G insL
  rw [List.getD_eq_getElem?_getD, List.append_assoc]
  by_cases h1 : p < i
  · rw [if_pos h1, List.getElem?_append_left (by rw [List.length_take]; omega), List.getElem?_take, if_pos h1, ← List.getD_eq_getElem?_getD]
  · rw [if_neg h1, List.getElem?_append_right (by rw [List.length_take]; omega), List.length_take, Nat.min_eq_left h]
    by_cases h2 : p = i
    · subst h2
      rw [if_pos rfl, Nat.sub_self]
      rfl
    · rw [if_neg h2, List.getElem?_append_right (by simp; omega), List.getElem?_drop, List.length_singleton, show i + (p - i - 1) = p - 1 by omega, ← List.getD_eq_getElem?_getD]
theorem insL_perm (l : List Nat) (i f : Nat) : (insL l i f).Perm (l ++ [f]) := by
  unfold insL
  have h1 : (l.take i ++ [f] ++ l.drop i).Perm (l.take i ++ (l.drop i ++ [f])) := by
    rw [List.append_assoc]
    exact List.Perm.append_left _ List.perm_append_comm
  rw [← List.append_assoc, List.take_append_drop] at h1
  exact h1
theorem insL_sd {l : List Nat} {i f k : Nat} (hl : l.length = k) (hs : Sd l 0 k) (hi : i ≤ k) (h1 : ∀ j, j < i → K l j ≤ key f) (h2 : i = k ∨ key f < K l i) : Sd (insL l i f) 0 (k + 1) := by
  have g := insL_G (l := l) (i := i) (f := f) (by omega)
  have e : ∀ p, p < k + 1 → (p < i ∧ K (insL l i f) p = K l p) ∨ (p = i ∧ K (insL l i f) p = key f) ∨ (i < p ∧ K (insL l i f) p = K l (p - 1)) := fun p hp => by
    unfold K
    rw [g]
    by_cases c1 : p < i
    · rw [if_pos c1]; exact .inl ⟨c1, rfl⟩
    · rw [if_neg c1]
      by_cases c2 : p = i
      · rw [if_pos c2]; exact .inr (.inl ⟨c2, rfl⟩)
      · rw [if_neg c2]; exact .inr (.inr ⟨by omega, rfl⟩)
  intro p q p1 p2 p3
  rcases e p (by omega) with ⟨x1, x2⟩ | ⟨x1, x2⟩ | ⟨x1, x2⟩ <;> rcases e q p3 with ⟨y1, y2⟩ | ⟨y1, y2⟩ | ⟨y1, y2⟩
  · rw [x2, y2]; exact hs _ _ (by omega) p2 (by omega)
  · rw [x2, y2]; exact h1 p x1
  · rw [x2, y2]; exact hs _ _ (by omega) (by omega) (by omega)
  · omega
  · rw [x2, y2]; exact Int.le_refl _
  · rw [x2, y2]
    have := hs i (q - 1) (by omega) (by omega) (by omega)
    omega
  · omega
  · omega
  · rw [x2, y2]; exact hs _ _ (by omega) (by omega) (by omega)
theorem insL_all {l : List Nat} {i f : Nat} (hl : ∀ x ∈ l, F64 x) (hf : F64 f) : ∀ x ∈ insL l i f, F64 x := by
  intro x hx
  unfold insL at hx
  rcases List.mem_append.1 hx with h | h
  · rcases List.mem_append.1 h with h | h
    · exact hl x (List.mem_of_mem_take h)
    · simp at h; exact h ▸ hf
  · exact hl x (List.mem_of_mem_drop h)
theorem own0b (w : World) (B : Nat) (hB : B ≤ w.heap.size) : (w.alloc (.cells #[] 22)).ownsRow B 22 1 (.slice (some ⟨w.heap.size, 0, none⟩) 0 0) 0 (([] : List Nat).map (Value.float .f64)) :=
  World.ownsRow_made w #[] 0 hB (by unfold maxLen; omega) rfl
theorem one_mem {w : World} {f : Nat} (hf : F64 f) : FMem (w.alloc (.cells #[.float .f64 f] 22)) (some ⟨w.heap.size, 0, none⟩) 1 [f] :=
  ⟨rfl, fun x hx => by simp at hx; exact hx ▸ hf, fun _ => ⟨w.heap.size, 0, rfl, by simp, fun j x hx => by
    cases j with
    | zero => simp at hx; subst hx; simp
    | succ j => simp at hx⟩⟩

theorem own_weak {w : World} {B B' n : Nat} {v : Value} {e : TypeId} {xs : List Value} (h : w.ownsRow B e 1 v n xs) (hB : B' ≤ B) : w.ownsRow B' e 1 v n xs := by
  refine ⟨h.1, ?_⟩
  rcases h.2 with h | ⟨g, cap, cur, h1, h2, h3⟩
  · exact .inl h
  · exact .inr ⟨g, cap, cur, h1, by omega, h3⟩
section
variable {A : Option Addr} {n c : Nat} {l : List Nat} {w : World}
/-- What is sorted of the first k: a row of the call's own. -/
def RS (w : World) (l : List Nat) (k : Nat) (ov : Value) (wr : World) (L : List Nat) : Prop :=
  wr.ownsRow w.heap.size 22 1 ov k (L.map (Value.float .f64)) ∧ L.length = k ∧ (∀ x ∈ L, F64 x) ∧ L.Perm (l.take k) ∧ Sd L 0 k ∧ Gr w wr
theorem RS.mem {k g c' : Nat} {wr : World} {L : List Nat} (h : RS w l k (.slice (some ⟨g, 0, none⟩) k c') wr L) : FMem wr (some ⟨g, 0, none⟩) k L := by
  obtain ⟨B, m, hv, hm, _⟩ := own_emem (ok := F64) h.2.1 h.2.2.1 h.1
  cases hv
  exact hm
theorem own_cap {w : World} {B k g c' : Nat} {xs : List Value} (h : w.ownsRow B 22 1 (.slice (some ⟨g, 0, none⟩) k c') k xs) : k ≤ c' := by
  rcases h.2 with ⟨h, _⟩ | ⟨_, _, _, h1, _, _, h2, _⟩
  · cases h
  · cases h1; exact h2
theorem own_cap2 {w : World} {B k g c' : Nat} {xs : List Value} (h : w.ownsRow B 22 1 (.slice (some ⟨g, 0, none⟩) k c') k xs) (_ : k ≤ c') : c' ≤ maxLen := by
  rcases h.2 with ⟨h, _⟩ | ⟨_, _, _, h1, _, _, _, h2, _⟩
  · cases h
  · cases h1; exact h2
theorem rs_step {k i f g c' g3 cap3 : Nat} {wr w3 : World} {L : List Nat} (h : RS w l k (.slice (some ⟨g, 0, none⟩) k c') wr L)
    (own3 : w3.ownsRow wr.heap.size 22 1 (.slice (some ⟨g3, 0, none⟩) (k + 1) cap3) (k + 1) ((L.take i ++ [f] ++ L.drop i).map (Value.float .f64))) (G3 : Gr wr w3) (hi : i ≤ k) (hk : k < n) (hl : l.length = n)
    (hf : G l k = f) (ff : F64 f) (h1 : ∀ j, j < i → K L j ≤ key f) (h2 : i = k ∨ key f < K L i) : RS w l (k + 1) (.slice (some ⟨g3, 0, none⟩) (k + 1) cap3) w3 (insL L i f) := by
  obtain ⟨r1, r2, r3, r4, r5, r6⟩ := h
  refine ⟨own_weak own3 r6.size, by rw [insL_len (by omega), r2], insL_all r3 ff, ?_, insL_sd r2 r5 hi h1 h2, r6.trans G3⟩
  rw [List.take_succ_eq_append_getElem (by omega), ← G_lt (by omega), hf]
  exact (insL_perm L i f).trans (r4.append_right [f])
set_option maxHeartbeats 4000000 in
set_option maxRecDepth 100000 in
theorem rSort_ok (hm : FMem w A n l) (hc : n ≤ c) (hn : n ≤ 60) : Calls Try.prog 16 #[.slice A n c] w (GotS w n l) := by
  obtain ⟨i0, hi0, hz0, hz1, hz2⟩ := info_parts infoFloat
  have HM := Lib.hid hm
  have HZ := Lib.hid hz0
  have HZ1 := Lib.hid hz1
  have HZ2 := Lib.hid hz2
  have HI0 := Lib.hid hi0
  clear hz0 hz1 hz2 hi0 hm
  go_enter Try.func16, Try.ntmps16
  go_wp2_with fail
  go_loopw [3, 11] (fun ov kv wr => ∃ (k g c' : Nat) (L : List Nat), kv = .int .i64 k ∧ k ≤ n ∧ ov = .slice (some ⟨g, 0, none⟩) k c' ∧ k ≤ c' ∧ Hid (RS w l k (.slice (some ⟨g, 0, none⟩) k c') wr L)) (fun _ kv _ => n - (intOf kv).toNat)
  case atStart => exact ⟨0, w.heap.size, 0, [], rfl, Nat.zero_le _, rfl, Nat.le_refl _, Lib.hid ⟨own0b w _ (Nat.le_refl _), rfl, by simp, by rw [List.take_zero], fun i j h1 h2 h3 => by omega, (Gr.refl w).al _⟩⟩
  case round =>
    obtain ⟨k, g, c', L, rfl, hk, rfl, hkc, HR⟩ := hrel
    by_cases hkt : k < n
    · obtain ⟨b, off, rfl, hbl, ff, cf⟩ := mem_at (HM.out.gr HR.out.2.2.2.2.2) hkt
      obtain ⟨f, hf⟩ : ∃ f, Go.Proofs.Ythldaebinchpdaa.G l k = f := ⟨_, rfl⟩
      rw [hf] at ff cf
      have HF := Lib.hid hf
      clear hf
      go_wp2_with fail
      go_loop [6] (fun iv => ∃ i : Nat, iv = .int .i64 i ∧ i ≤ k ∧ Hid (∀ j, j < i → K L j ≤ key f)) (fun iv => k - (intOf iv).toNat)
      case atStart => exact ⟨0, rfl, Nat.zero_le _, Lib.hid (fun j hj => by omega)⟩
      case round =>
        obtain ⟨i, rfl, hi, HI⟩ := hrel
        by_cases hik : i < k
        · have hkz : (i : Int) < (k : Int) := by omega
          obtain ⟨b2, o2, hbe2, _, fx, cx⟩ := mem_at HR.out.mem hik
          cases hbe2
          rw [Nat.zero_add] at cx
          by_cases ha : ahd f (Go.Proofs.Ythldaebinchpdaa.G L i) = true
          · have y1 := fun w => Lib.hid (show Calls Try.prog 13 #[.float .f64 f, .float .f64 (Go.Proofs.Ythldaebinchpdaa.G L i)] w fun e w' => e = .returned (.bool true) ∧ w' = w from by
              have h := rAhead_ok f (Go.Proofs.Ythldaebinchpdaa.G L i) ff fx w
              rwa [ha] at h)
            have HS : Hid (i = k ∨ key f < K L i) := Lib.hid (.inr (ahd_iff.1 ha))
            clear ha
            generalize Go.Proofs.Ythldaebinchpdaa.G L i = x at *
            have hci : ¬ c' = i := by omega
            go_wp2_with fail
            refine (y1 _).out.mono ?_
            rintro e w0 ⟨rfl, hw0⟩
            obtain rfl : wr = w0 := hw0.symm
            clear y1 cx fx
            go_wp2_with (at_builtin; refine Mark.stop ?_)
            refine Mark.go ?_
            have o0 := own0b wr wr.heap.size (Nat.le_refl _)
            refine wpList_append_emem _ (Value.float .f64) F64 rfl (.tmp 31) (.tmp 34) 23 rfl (fun _ => rfl) wr.heap.size 22 i0 (.float .f64 0) 8 Try.underlying23 HI0.out HZ.out HZ1.out HZ2.out rfl _ 0 [] rfl o0 _ i _ (L.take i) rfl ((HR.out.mem.gr ((Gr.refl wr).al _)).take_ i hi) (by unfold maxLen; omega) (by omega) (by simp) ?_
            intro v1 w1 own1 gb1
            simp only [Nat.zero_add, List.nil_append] at own1
            have G1 : Gr wr w1 := ((Gr.refl wr).al _).gb gb1 (fun k hk => (o0.lt k hk).1)
            clear o0 gb1
            go_wp2_with (at_builtin; refine Mark.stop ?_)
            refine Mark.go ?_
            refine wpList_append_emem _ (Value.float .f64) F64 rfl (.tmp 36) (.tmp 38) 23 rfl (fun _ => rfl) wr.heap.size 22 i0 (.float .f64 0) 8 Try.underlying23 HI0.out HZ.out HZ1.out HZ2.out rfl v1 i (L.take i) rfl (own1.alloc _) (some ⟨w1.heap.size, 0, none⟩) 1 1 [f] rfl (one_mem ff) (by unfold maxLen; omega) (by omega) (by have := G1.size; simp; omega) ?_
            intro v2 w2 own2 gb2
            have G2 := (G1.al _).gb gb2 (fun k hk => (own1.lt k hk).1)
            clear own1 gb2 G1
            go_wp2_with (at_builtin; refine Mark.stop ?_)
            refine Mark.go ?_
            have hmd : FMem w2 (some ⟨g, i, none⟩) (k - i) (L.drop i) := by
              have h := (HR.out.mem.gr G2).drop_ rfl i hi
              rwa [Nat.zero_add] at h
            refine wpList_append_emem _ (Value.float .f64) F64 rfl (.tmp 40) (.tmp 43) 23 rfl (fun _ => rfl) wr.heap.size 22 i0 (.float .f64 0) 8 Try.underlying23 HI0.out HZ.out HZ1.out HZ2.out rfl v2 (i + 1) (L.take i ++ [f]) rfl own2 _ (k - i) _ (L.drop i) rfl (hmd) (by unfold maxLen; omega) (by omega) (by exact G2.size) ?_
            intro v3 w3 own3 gb3
            have G3 := G2.gb gb3 (fun k hk => (own2.lt k hk).1)
            rw [show i + 1 + (k - i) = k + 1 by omega] at own3
            obtain ⟨g3, cap3, rfl, _, _⟩ := own3.form (by omega)
            have HR3 : Hid (RS w l (k + 1) (.slice (some ⟨g3, 0, none⟩) (k + 1) cap3) w3 (insL L i f)) := Lib.hid (rs_step HR.out own3 G3 hi hkt HM.out.len HF.out ff HI.out HS.out)
            have hc3 : k + 1 ≤ cap3 := own_cap own3
            clear own2 own3 gb3 G2 G3 hmd HR HI HS
            go_wp2_with fail
            go_roundw
            case rel => exact ⟨k + 1, g3, cap3, insL L i f, by go_num, by omega, rfl, hc3, HR3⟩
            case measure => simp [intOf]; omega
          · have ha' : ahd f (Go.Proofs.Ythldaebinchpdaa.G L i) = false := by cases h : ahd f (Go.Proofs.Ythldaebinchpdaa.G L i); rfl; exact absurd h ha
            have y1 := fun w => Lib.hid (show Calls Try.prog 13 #[.float .f64 f, .float .f64 (Go.Proofs.Ythldaebinchpdaa.G L i)] w fun e w' => e = .returned (.bool false) ∧ w' = w from by
              have h := rAhead_ok f (Go.Proofs.Ythldaebinchpdaa.G L i) ff fx w
              rwa [ha'] at h)
            have HI2 : Hid (∀ j, j < i + 1 → K L j ≤ key f) := Lib.hid (fun j hj => by
              by_cases e : j = i
              · subst e; exact ahd_not.1 ha'
              · exact HI.out j (by omega))
            clear ha ha' HI
            generalize Go.Proofs.Ythldaebinchpdaa.G L i = x at *
            go_wp2_with fail
            refine (y1 _).out.mono ?_
            rintro e w0 ⟨rfl, rfl⟩
            go_wp2_with fail
            go_round
            case rel => exact ⟨i + 1, by go_num, by omega, HI2⟩
            case measure => simp [intOf]; omega
        · have hkz : ¬ (i : Int) < (k : Int) := by omega
          have HS : Hid (i = k ∨ key f < K L i) := Lib.hid (.inl (by omega))
          by_cases hci : c' = i
          · obtain rfl : i = c' := hci.symm
            go_wp2_with (at_builtin; refine Mark.stop ?_)
            refine Mark.go ?_
            have o0 := own0b wr wr.heap.size (Nat.le_refl _)
            refine wpList_append_emem _ (Value.float .f64) F64 rfl (.tmp 31) (.tmp 34) 23 rfl (fun _ => rfl) wr.heap.size 22 i0 (.float .f64 0) 8 Try.underlying23 HI0.out HZ.out HZ1.out HZ2.out rfl _ 0 [] rfl o0 _ i _ (L.take i) rfl ((HR.out.mem.gr ((Gr.refl wr).al _)).take_ i hi) (by unfold maxLen; omega) (by omega) (by simp) ?_
            intro v1 w1 own1 gb1
            simp only [Nat.zero_add, List.nil_append] at own1
            have G1 : Gr wr w1 := ((Gr.refl wr).al _).gb gb1 (fun k hk => (o0.lt k hk).1)
            clear o0 gb1
            go_wp2_with (at_builtin; refine Mark.stop ?_)
            refine Mark.go ?_
            refine wpList_append_emem _ (Value.float .f64) F64 rfl (.tmp 36) (.tmp 38) 23 rfl (fun _ => rfl) wr.heap.size 22 i0 (.float .f64 0) 8 Try.underlying23 HI0.out HZ.out HZ1.out HZ2.out rfl v1 i (L.take i) rfl (own1.alloc _) (some ⟨w1.heap.size, 0, none⟩) 1 1 [f] rfl (one_mem ff) (by unfold maxLen; omega) (by omega) (by have := G1.size; simp; omega) ?_
            intro v2 w2 own2 gb2
            have G2 := (G1.al _).gb gb2 (fun k hk => (own1.lt k hk).1)
            clear own1 gb2 G1
            go_wp2_with (at_builtin; refine Mark.stop ?_)
            refine Mark.go ?_
            have hmd : FMem w2 (some ⟨g, 0, none⟩) 0 (L.drop i) := by
              have h := (HR.out.mem.gr G2).drop_ rfl i hi
              exact ⟨by rw [h.1]; omega, h.2.1, fun hh => by omega⟩
            refine wpList_append_emem _ (Value.float .f64) F64 rfl (.tmp 40) (.tmp 43) 23 rfl (fun _ => rfl) wr.heap.size 22 i0 (.float .f64 0) 8 Try.underlying23 HI0.out HZ.out HZ1.out HZ2.out rfl v2 (i + 1) (L.take i ++ [f]) rfl own2 _ 0 _ (L.drop i) rfl (hmd) (by unfold maxLen; omega) (by omega) (by exact G2.size) ?_
            intro v3 w3 own3 gb3
            have G3 := G2.gb gb3 (fun k hk => (own2.lt k hk).1)
            rw [show i + 1 + 0 = k + 1 by omega] at own3
            obtain ⟨g3, cap3, rfl, _, _⟩ := own3.form (by omega)
            have HR3 : Hid (RS w l (k + 1) (.slice (some ⟨g3, 0, none⟩) (k + 1) cap3) w3 (insL L i f)) := Lib.hid (rs_step HR.out own3 G3 hi hkt HM.out.len HF.out ff HI.out HS.out)
            have hc3 : k + 1 ≤ cap3 := own_cap own3
            clear own2 own3 gb3 G2 G3 hmd HR HI HS
            go_wp2_with fail
            go_roundw
            case rel => exact ⟨k + 1, g3, cap3, insL L i f, by go_num, by omega, rfl, hc3, HR3⟩
            case measure => simp [intOf]; omega
          · skip
            go_wp2_with (at_builtin; refine Mark.stop ?_)
            refine Mark.go ?_
            have o0 := own0b wr wr.heap.size (Nat.le_refl _)
            refine wpList_append_emem _ (Value.float .f64) F64 rfl (.tmp 31) (.tmp 34) 23 rfl (fun _ => rfl) wr.heap.size 22 i0 (.float .f64 0) 8 Try.underlying23 HI0.out HZ.out HZ1.out HZ2.out rfl _ 0 [] rfl o0 _ i _ (L.take i) rfl ((HR.out.mem.gr ((Gr.refl wr).al _)).take_ i hi) (by unfold maxLen; omega) (by omega) (by simp) ?_
            intro v1 w1 own1 gb1
            simp only [Nat.zero_add, List.nil_append] at own1
            have G1 : Gr wr w1 := ((Gr.refl wr).al _).gb gb1 (fun k hk => (o0.lt k hk).1)
            clear o0 gb1
            go_wp2_with (at_builtin; refine Mark.stop ?_)
            refine Mark.go ?_
            refine wpList_append_emem _ (Value.float .f64) F64 rfl (.tmp 36) (.tmp 38) 23 rfl (fun _ => rfl) wr.heap.size 22 i0 (.float .f64 0) 8 Try.underlying23 HI0.out HZ.out HZ1.out HZ2.out rfl v1 i (L.take i) rfl (own1.alloc _) (some ⟨w1.heap.size, 0, none⟩) 1 1 [f] rfl (one_mem ff) (by unfold maxLen; omega) (by omega) (by have := G1.size; simp; omega) ?_
            intro v2 w2 own2 gb2
            have G2 := (G1.al _).gb gb2 (fun k hk => (own1.lt k hk).1)
            clear own1 gb2 G1
            go_wp2_with (at_builtin; refine Mark.stop ?_)
            refine Mark.go ?_
            have hmd : FMem w2 (some ⟨g, i, none⟩) (k - i) (L.drop i) := by
              have h := (HR.out.mem.gr G2).drop_ rfl i hi
              rwa [Nat.zero_add] at h
            refine wpList_append_emem _ (Value.float .f64) F64 rfl (.tmp 40) (.tmp 43) 23 rfl (fun _ => rfl) wr.heap.size 22 i0 (.float .f64 0) 8 Try.underlying23 HI0.out HZ.out HZ1.out HZ2.out rfl v2 (i + 1) (L.take i ++ [f]) rfl own2 _ (k - i) _ (L.drop i) rfl (hmd) (by unfold maxLen; omega) (by omega) (by exact G2.size) ?_
            intro v3 w3 own3 gb3
            have G3 := G2.gb gb3 (fun k hk => (own2.lt k hk).1)
            rw [show i + 1 + (k - i) = k + 1 by omega] at own3
            obtain ⟨g3, cap3, rfl, _, _⟩ := own3.form (by omega)
            have HR3 : Hid (RS w l (k + 1) (.slice (some ⟨g3, 0, none⟩) (k + 1) cap3) w3 (insL L i f)) := Lib.hid (rs_step HR.out own3 G3 hi hkt HM.out.len HF.out ff HI.out HS.out)
            have hc3 : k + 1 ≤ cap3 := own_cap own3
            clear own2 own3 gb3 G2 G3 hmd HR HI HS
            go_wp2_with fail
            go_roundw
            case rel => exact ⟨k + 1, g3, cap3, insL L i f, by go_num, by omega, rfl, hc3, HR3⟩
            case measure => simp [intOf]; omega
    · obtain rfl : k = n := by omega
      go_wp2_with fail
      go_ret
      obtain ⟨h1, h2, h3, h4, h5, h6⟩ := HR.out
      exact ⟨_, c', L, rfl, HR.out.mem, by rw [List.take_of_length_le (by rw [HM.out.len]; exact Nat.le_refl _)] at h4; exact h4, h5, hkc, own_cap2 h1 hkc, h6⟩
end
end Go.Proofs.Ythldaebinchpdaa
