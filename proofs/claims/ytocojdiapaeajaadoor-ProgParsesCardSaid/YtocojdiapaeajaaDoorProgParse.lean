/-
  Package prog: a number, an act, the acts of pieces, a line: what they are read as.
-/
import Derived.Test.YtocojdiapaeajaaDoorProgKinds
namespace Go.Proofs.YtocojdiapaeajaaDoor
open Go.ChangeShapes Go.WideShapes Go.ChangeAt Go.RowKit
set_option linter.unusedVariables false
set_option linter.unusedSimpArgs false
set_option maxRecDepth 100000
namespace P12

set_option maxHeartbeats 1000000 in
theorem number_yes {s : Bs} {n : Int} (h : NumR s n) {w : World} (hg : Glob w) (hs : s.length ≤ 281474976710656) :
    Calls Tryd.prog 59 #[.string (bs s)] w fun e w' => e = .returned (.tuple #[.int .i64 n, .bool true]) ∧ Gr w w' := by
  have c1 := fun w => Lib.hid (Atoi_ok hs h.atoi w)
  have c2 := fun w hg => Lib.hid (Itoa_is (n := n) h.1 (by have := h.2.1; omega) (w := w) hg)
  have h0 : ¬ n < 0 := by have := h.1; omega
  have h1 : ¬ 999999 < n := by have := h.2.1; omega
  have he : dgs n = s := h.2.2.symm
  rw [he] at c2
  clear h he
  go_enter Tryd.func59, Tryd.ntmps59
  go_wp2_with fail
  with_reducible refine (c1 _).out.mono ?_
  rintro e w1 ⟨rfl, hb1⟩
  go_wp2_with fail
  with_reducible refine (c2 _ (hg.gr hb1)).out.mono ?_
  rintro e w2 ⟨rfl, hb2⟩
  go_wp2_with fail
  go_ret2
  exact ⟨rfl, hb1.trans hb2⟩
set_option maxHeartbeats 1000000 in
theorem number_no {s : Bs} (h : ¬ ∃ n, NumR s n) {w : World} (hg : Glob w) (hs : s.length ≤ 281474976710656) :
    Calls Tryd.prog 59 #[.string (bs s)] w fun e w' => e = .returned (.tuple #[.int .i64 0, .bool false]) ∧ Gr w w' := by
  by_cases hv : ∃ v, Lib.atoiAll s = .ok v
  · obtain ⟨v, hv⟩ := hv
    have c1 := fun w => Lib.hid (Atoi_ok hs hv w)
    by_cases h0 : v < 0
    · clear hv h
      go_enter Tryd.func59, Tryd.ntmps59
      go_wp2_with fail
      with_reducible refine (c1 _).out.mono ?_
      rintro e w1 ⟨rfl, hb1⟩
      go_wp2_with fail
      go_ret2
      exact ⟨rfl, hb1⟩
    · by_cases h1 : 999999 < v
      · clear hv h
        go_enter Tryd.func59, Tryd.ntmps59
        go_wp2_with fail
        with_reducible refine (c1 _).out.mono ?_
        rintro e w1 ⟨rfl, hb1⟩
        go_wp2_with fail
        go_ret2
        exact ⟨rfl, hb1⟩
      · have c2 := fun w hg => Lib.hid (Itoa_is (n := v) (by omega) (by omega) (w := w) hg)
        have hne : ((bs (dgs v)).toList == (bs s).toList) = false := by
          rw [bs_eq]
          simp
          exact fun e => h ⟨v, by omega, by omega, e.symm⟩
        have hne2 : ((bs (dgs v)).toList != (bs s).toList) = true := by simp [bne, hne]
        clear hv h
        go_enter Tryd.func59, Tryd.ntmps59
        go_wp2_with fail
        with_reducible refine (c1 _).out.mono ?_
        rintro e w1 ⟨rfl, hb1⟩
        go_wp2_with fail
        with_reducible refine (c2 _ (hg.gr hb1)).out.mono ?_
        rintro e w2 ⟨rfl, hb2⟩
        go_wp2_with fail
        go_ret2
        exact ⟨rfl, hb1.trans hb2⟩
  · have c1 := fun w hg => Lib.hid (Atoi_no hs (fun v e => hv ⟨v, e⟩) (w := w) hg)
    clear hv h
    go_enter Tryd.func59, Tryd.ntmps59
    go_wp2_with fail
    with_reducible refine (c1 _ hg).out.mono ?_
    rintro e w1 ⟨⟨v, N, rfl⟩, hb1⟩
    go_wp2_with fail
    go_ret2
    exact ⟨rfl, hb1⟩

section
variable {s : Bs} {w : World} {m : Nat}
set_option maxHeartbeats 2000000 in
theorem parseAct_word (h : ¬ ∃ k d, WordR s k d) (hg : Glob w) (hm : KMap w m) (hs : s.length < 4294967281) :
    Calls Tryd.prog 49 #[.map (some m), .string (bs s)] w fun e w' => e = .returned (.tuple #[.agg #[.int .i64 0, .int .i64 0], .int .i64 8]) ∧ Gr w w' := by
  have c1 := fun w hg => Lib.hid (Cut_is (s := s) (d := [32]) hs (w := w) hg)
  rw [show bs [32] = ({ data := #[32] } : ByteArray) from rfl] at c1
  have hcase : (∃ k : Int, (0 ≤ k ∧ k ≤ 3) ∧ (Lib.cut s [32]).1 = wd k ∧ (Lib.cut s [32]).2.1 = []) ∨ (∀ k : Int, 0 ≤ k ∧ k ≤ 3 → (Lib.cut s [32]).1 ≠ wd k) := by
    by_cases hx : ∃ k : Int, (0 ≤ k ∧ k ≤ 3) ∧ (Lib.cut s [32]).1 = wd k
    · obtain ⟨k, hk, e⟩ := hx
      exact .inl ⟨k, hk, e, cut_no h hk e⟩
    · exact .inr fun k hk e => hx ⟨k, hk, e⟩
  generalize Lib.cut s [32] = T at *
  obtain ⟨X, Y, v⟩ := T
  have B0 := Blk.new w #[.int .i64 0, .int .i64 0] 38
  have g0 := (Gr.refl w).al (.cells #[.int .i64 0, .int .i64 0] 38)
  have hg0 := hg.gr g0
  have HKM := Lib.hid (hm.gr g0)
  dsimp only at hcase c1
  clear h
  go_enter Tryd.func49, Tryd.ntmps49
  go_wp2_with fail
  with_reducible refine (c1 _ hg0).out.mono ?_
  rintro e w1 ⟨rfl, hb1⟩
  have BR := B0.gr hb1
  have KM := HKM.out.gr hb1
  obtain ⟨p0, z0⟩ := BR.at_ (k := 0) rfl
  obtain ⟨p1, z1⟩ := BR.at_ (k := 1) rfl
  have HBR := Lib.hid ((BR.set 0 (.int .i64 0)).set 1 (.int .i64 0))
  have HGW := Lib.hid (((g0.trans hb1).st (p := ⟨w.heap.size, 0, none⟩) (Nat.le_refl _) (.int .i64 0)).st (p := ⟨w.heap.size, 1, none⟩) (Nat.le_refl _) (.int .i64 0))
  clear B0 BR g0 hb1
  rcases hcase with ⟨k, hk, rfl, rfl⟩ | hx
  · have hl := run_find KM hk
    have hY : (bs []).toList.isEmpty = true := by rw [ByteArray.toList_eq, bs_list]; rfl
    clear KM
    go_wp2_with fail
    have BF := HBR.out
    have GW := HGW.out
    clear p0 z0 p1 z1 HBR HGW
    generalize (w1.setCell _ _).setCell _ _ = WF at BF GW ⊢
    have q0 : WF.cell? ⟨w.heap.size, 0, none⟩ = some (.int .i64 0) := (BF.at_ (k := 0) rfl).1
    have q1 : WF.cell? ⟨w.heap.size, 1, none⟩ = some (.int .i64 0) := (BF.at_ (k := 1) rfl).1
    exact bodyPost_ret (v := .tuple #[.agg #[.int .i64 0, .int .i64 0], .int .i64 8]) (by simp [results, Tryd.results49, go_sem, q0, q1]) rfl ⟨rfl, GW⟩
  · have hl := run_miss KM hx
    clear KM hx
    go_wp2_with fail
    have BF := HBR.out
    have GW := HGW.out
    clear p0 z0 p1 z1 HBR HGW
    generalize (w1.setCell _ _).setCell _ _ = WF at BF GW ⊢
    have q0 : WF.cell? ⟨w.heap.size, 0, none⟩ = some (.int .i64 0) := (BF.at_ (k := 0) rfl).1
    have q1 : WF.cell? ⟨w.heap.size, 1, none⟩ = some (.int .i64 0) := (BF.at_ (k := 1) rfl).1
    exact bodyPost_ret (v := .tuple #[.agg #[.int .i64 0, .int .i64 0], .int .i64 8]) (by simp [results, Tryd.results49, go_sem, q0, q1]) rfl ⟨rfl, GW⟩
set_option maxHeartbeats 2000000 in
theorem parseAct_char {k : Int} {d : Bs} (h : WordR s k d) (hn : ¬ ∃ n, NumR d n) (hg : Glob w) (hm : KMap w m) (hs : s.length < 4294967281) :
    Calls Tryd.prog 49 #[.map (some m), .string (bs s)] w fun e w' => e = .returned (.tuple #[.agg #[.int .i64 0, .int .i64 0], .int .i64 9]) ∧ Gr w w' := by
  have c1 := fun w hg => Lib.hid (Cut_is (s := s) (d := [32]) hs (w := w) hg)
  rw [show bs [32] = ({ data := #[32] } : ByteArray) from rfl] at c1
  rw [cut_word h] at c1
  have hd : d.length ≤ 281474976710656 := by
    have := congrArg List.length h.2.2.2
    simp at this
    omega
  have c2 := fun w hg => Lib.hid (number_no hn (w := w) hg hd)
  have hk : 0 ≤ k ∧ k ≤ 3 := ⟨h.1, h.2.1⟩
  have hY : (bs d).toList.isEmpty = false := by
    rw [ByteArray.toList_eq, bs_list]; simpa using h.2.2.1
  have B0 := Blk.new w #[.int .i64 0, .int .i64 0] 38
  have g0 := (Gr.refl w).al (.cells #[.int .i64 0, .int .i64 0] 38)
  have hg0 := hg.gr g0
  have HKM := Lib.hid (hm.gr g0)
  dsimp only at c1
  clear h hn
  go_enter Tryd.func49, Tryd.ntmps49
  go_wp2_with fail
  with_reducible refine (c1 _ hg0).out.mono ?_
  rintro e w1 ⟨rfl, hb1⟩
  have hl := run_find (HKM.out.gr hb1) hk
  go_wp2_with fail
  with_reducible refine (c2 _ (hg0.gr hb1)).out.mono ?_
  rintro e w2 ⟨rfl, hb2⟩
  have BR := (B0.gr hb1).gr hb2
  obtain ⟨p0, z0⟩ := BR.at_ (k := 0) rfl
  obtain ⟨p1, z1⟩ := BR.at_ (k := 1) rfl
  have HBR := Lib.hid ((BR.set 0 (.int .i64 0)).set 1 (.int .i64 0))
  have HGW := Lib.hid ((((g0.trans hb1).trans hb2).st (p := ⟨w.heap.size, 0, none⟩) (Nat.le_refl _) (.int .i64 0)).st (p := ⟨w.heap.size, 1, none⟩) (Nat.le_refl _) (.int .i64 0))
  clear B0 BR g0 hb1 hb2 hl
  go_wp2_with fail
  have BF := HBR.out
  have GW := HGW.out
  clear p0 z0 p1 z1 HBR HGW
  generalize (w2.setCell _ _).setCell _ _ = WF at BF GW ⊢
  have q0 : WF.cell? ⟨w.heap.size, 0, none⟩ = some (.int .i64 0) := (BF.at_ (k := 0) rfl).1
  have q1 : WF.cell? ⟨w.heap.size, 1, none⟩ = some (.int .i64 0) := (BF.at_ (k := 1) rfl).1
  exact bodyPost_ret (v := .tuple #[.agg #[.int .i64 0, .int .i64 0], .int .i64 9]) (by simp [results, Tryd.results49, go_sem, q0, q1]) rfl ⟨rfl, GW⟩
set_option maxHeartbeats 2000000 in
theorem parseAct_num {k n : Int} {d : Bs} {B : Bool} {a b r : Int} (h : WordR s k d) (hn : NumR d n) (hB : okA (k, n) = B) (hr : (B = true ∧ a = k ∧ b = n ∧ r = 0) ∨ (B = false ∧ a = 0 ∧ b = 0 ∧ r = 3)) (hg : Glob w) (hm : KMap w m) (hs : s.length < 4294967281) :
    Calls Tryd.prog 49 #[.map (some m), .string (bs s)] w fun e w' => e = .returned (.tuple #[.agg #[.int .i64 a, .int .i64 b], .int .i64 r]) ∧ Gr w w' := by
  have c1 := fun w hg => Lib.hid (Cut_is (s := s) (d := [32]) hs (w := w) hg)
  rw [show bs [32] = ({ data := #[32] } : ByteArray) from rfl] at c1
  rw [cut_word h] at c1
  have hd : d.length ≤ 281474976710656 := by
    have := congrArg List.length h.2.2.2
    simp at this
    omega
  have c2 := fun w hg => Lib.hid (number_yes hn (w := w) hg hd)
  have c3 := fun w => Lib.hid (unfit_is (a := (k, n)) hB w)
  have hk : 0 ≤ k ∧ k ≤ 3 := ⟨h.1, h.2.1⟩
  have hY : (bs d).toList.isEmpty = false := by
    rw [ByteArray.toList_eq, bs_list]; simpa using h.2.2.1
  have B0 := Blk.new w #[.int .i64 0, .int .i64 0] 38
  have g0 := (Gr.refl w).al (.cells #[.int .i64 0, .int .i64 0] 38)
  have hg0 := hg.gr g0
  have HKM := Lib.hid (hm.gr g0)
  dsimp only at c1 c3
  clear h hn hB
  go_enter Tryd.func49, Tryd.ntmps49
  go_wp2_with fail
  with_reducible refine (c1 _ hg0).out.mono ?_
  rintro e w1 ⟨rfl, hb1⟩
  have hl := run_find (HKM.out.gr hb1) hk
  go_wp2_with fail
  with_reducible refine (c2 _ (hg0.gr hb1)).out.mono ?_
  rintro e w2 ⟨rfl, hb2⟩
  have BN := Blk.new w2 #[.int .i64 k, .int .i64 n] 38
  have gN := (Gr.refl w2).al (.cells #[.int .i64 k, .int .i64 n] 38)
  clear hl
  go_wp2_with fail
  with_reducible refine (c3 _).out.mono ?_
  rintro e w3 ⟨rfl, hb3⟩
  have BR := (((B0.gr hb1).gr hb2).gr gN).gr hb3
  obtain ⟨p0, z0⟩ := BR.at_ (k := 0) rfl
  obtain ⟨p1, z1⟩ := BR.at_ (k := 1) rfl
  have BM := BN.gr hb3
  obtain ⟨m0, y0⟩ := BM.at_ (k := 0) rfl
  obtain ⟨m1, y1⟩ := BM.at_ (k := 1) rfl
  have HBR := Lib.hid ((BR.set 0 (.int .i64 a)).set 1 (.int .i64 b))
  have HGW := Lib.hid ((((((g0.trans hb1).trans hb2).trans gN).trans hb3).st (p := ⟨w.heap.size, 0, none⟩) (Nat.le_refl _) (.int .i64 a)).st (p := ⟨w.heap.size, 1, none⟩) (Nat.le_refl _) (.int .i64 b))
  clear B0 BR BN BM gN g0 hb1 hb2 hb3
  rcases hr with ⟨rfl, rfl, rfl, rfl⟩ | ⟨rfl, rfl, rfl, rfl⟩
  · go_wp2_with fail
    have BF := HBR.out
    have GW := HGW.out
    clear p0 z0 p1 z1 m0 m1 y0 y1 HBR HGW
    generalize (w3.setCell _ _).setCell _ _ = WF at BF GW ⊢
    have q0 : WF.cell? ⟨w.heap.size, 0, none⟩ = some (.int .i64 a) := (BF.at_ (k := 0) rfl).1
    have q1 : WF.cell? ⟨w.heap.size, 1, none⟩ = some (.int .i64 b) := (BF.at_ (k := 1) rfl).1
    exact bodyPost_ret (v := .tuple #[.agg #[.int .i64 a, .int .i64 b], .int .i64 0]) (by simp [results, Tryd.results49, go_sem, q0, q1]) rfl ⟨rfl, GW⟩
  · go_wp2_with fail
    have BF := HBR.out
    have GW := HGW.out
    clear p0 z0 p1 z1 m0 m1 y0 y1 HBR HGW
    generalize (w3.setCell _ _).setCell _ _ = WF at BF GW ⊢
    have q0 : WF.cell? ⟨w.heap.size, 0, none⟩ = some (.int .i64 0) := (BF.at_ (k := 0) rfl).1
    have q1 : WF.cell? ⟨w.heap.size, 1, none⟩ = some (.int .i64 0) := (BF.at_ (k := 1) rfl).1
    exact bodyPost_ret (v := .tuple #[.agg #[.int .i64 0, .int .i64 0], .int .i64 3]) (by simp [results, Tryd.results49, go_sem, q0, q1]) rfl ⟨rfl, GW⟩
theorem parseAct_is {e0 : Int} {a : Ac} (h : actP s = (e0, a)) (hg : Glob w) (hm : KMap w m) (hs : s.length < 4294967281) :
    Calls Tryd.prog 49 #[.map (some m), .string (bs s)] w fun e w' => e = .returned (.tuple #[.agg #[.int .i64 a.1, .int .i64 a.2], .int .i64 e0]) ∧ Gr w w' := by
  rcases actP_cases s with ⟨hn, h1⟩ | ⟨k, d, hw, ⟨hn, h1⟩ | ⟨n, hn, ⟨ho, h1⟩ | ⟨ho, h1⟩⟩⟩ <;> (rw [h1] at h; cases h)
  · exact parseAct_word hn hg hm hs
  · exact parseAct_char hw hn hg hm hs
  · exact parseAct_num hw hn ho (.inr ⟨rfl, rfl, rfl, rfl⟩) hg hm hs
  · exact parseAct_num hw hn ho (.inl ⟨rfl, rfl, rfl, rfl⟩) hg hm hs
end

/-- A slice of strings that reads as a list. -/
abbrev StrMem (w : World) (A : Option Addr) (n : Nat) (L : List Bs) : Prop := EMem (fun l : Bs => Value.string (bs l)) (fun l => l.length < 4294967281) w A n L
theorem okA_inb {a : Ac} (h : okA a = true) : Inb a.1 ∧ Inb a.2 := by
  have := okA_iff.1 h
  unfold Inb
  omega
/-- What a call answers of a program: where it lies, in new blocks. -/
def GotP (B : Nat) (w : World) (p : List Ac) (x : PV) : Prop := x.ok w ∧ x.l = p ∧ Late B x.A
theorem blk_new2 (w : World) (o : Obj) (vs : Array Value) (t : TypeId) : Blk ((w.alloc o).alloc (.cells vs t)) (w.heap.size + 1) vs t := by
  have h := Blk.new (w.alloc o) vs t
  have e : (w.alloc o).heap.size = w.heap.size + 1 := by simp
  rwa [e] at h
theorem mem_one {w : World} {g : Nat} {a : Ac} {t : TypeId} (h : Blk w g #[.int .i64 a.1, .int .i64 a.2] t) (ha : Inb a.1 ∧ Inb a.2) : Mem w (some ⟨g, 0, none⟩) 1 [a] :=
  mem_blk (l := [a]) h rfl (by simpa using ha)

set_option maxHeartbeats 4000000 in
theorem parseActs_is {w : World} {A : Option Addr} {n c : Nat} {L : List Bs} {e0 : Int} {p : List Ac} (h : pcsP 0 L = (e0, p)) (hg : Glob w) (hm : StrMem w A n L) (hn : n ≤ 9223372036854775807) :
    Calls Tryd.prog 36 #[.slice A n c] w fun e w' => (∃ x : PV, e = .returned (.tuple #[.slice x.A x.n x.c, .int .i64 e0]) ∧ GotP w.heap.size w' p x) ∧ Gr w w' := by
  have c1 := fun w hg => Lib.hid (kinds_is (w := w) hg)
  have HP := Lib.hid (show comb [] (pcsP 0 (L.drop 0)) = (e0, p) by rw [comb_nil]; exact h)
  have HN := Lib.hid hm.1
  clear h
  go_enter Tryd.func36, Tryd.ntmps36
  go_wp2_with fail
  with_reducible refine (c1 _ hg).out.mono ?_
  rintro e w1 ⟨⟨m, rfl, hkm⟩, hb1⟩
  have hg1 := hg.gr hb1
  have hm1 := hm.gr hb1
  clear hg hm c1
  go_wp2_with fail
  go_loopw [5, 13] (fun v i wr => ∃ (k : Nat) (out : List Ac) (B : Option Addr) (q : Nat), k ≤ n ∧ k ≤ 64 ∧ out.length = k ∧ i = .int .i64 k ∧ v = .slice B k q ∧ Hid (AOwn wr w1.heap.size (.slice B k q) out) ∧ Hid (∀ x ∈ out, Inb x.1 ∧ Inb x.2) ∧ Hid (comb out (pcsP k (L.drop k)) = (e0, p)) ∧ Hid (Gr w1 wr)) (fun _ i _ => n - (intOf i).toNat)
  case atStart => exact ⟨0, [], none, 0, Nat.zero_le _, by omega, rfl, rfl, rfl, Lib.hid (AOwn.nil _ _), Lib.hid (by simp), HP, Lib.hid (Gr.refl _)⟩
  case round =>
    obtain ⟨k, out, B, q, hk, hk64, hout, rfl, rfl, HO, HI, HC, HG⟩ := hrel
    by_cases hlt : k < n
    · obtain ⟨b, off, s, rfl, hbl, hs, hsl, c0⟩ := (hm1.gr HG.out).at_ hlt
      by_cases h64 : 64 ≤ k
      · have hr := pcsP_full (out := out) (show k < L.length by rw [HN.out]; exact hlt) h64
        rw [HC.out] at hr
        cases hr
        clear hs HC HP HO HI
        go_wp2_with fail
        go_ret2
        exact ⟨⟨⟨none, 0, 0, []⟩, rfl, ⟨Mem.nil_, Nat.le_refl _, by show 0 ≤ _; omega⟩, rfl, Late.none⟩, hb1.trans HG.out⟩
      · obtain ⟨e1, a⟩ : ∃ e1 a, actP s = (e1, a) := ⟨_, _, rfl⟩
        obtain ⟨a, ha⟩ := a
        have c2 := fun w hg hm => Lib.hid (parseAct_is (w := w) (m := m) ha hg hm hsl)
        have hgr := hg1.gr HG.out
        have hkr := hkm.gr HG.out
        by_cases he : e1 = 0
        · subst he
          have hstep := pcsP_step (out := out) hs (by omega) (by rw [ha])
          rw [HC.out, ha] at hstep
          have hok : okA a = true := by have := actP_ok (s := s) (by rw [ha]); rw [ha] at this; exact this.1
          have HST := Lib.hid hstep.symm
          have hia := okA_inb hok
          have k64 : ¬ (64 : Int) ≤ (k : Int) := by omega
          clear hstep hs ha hok HC HP
          go_wp2_with fail
          with_reducible refine (c2 _ hgr hkr).out.mono ?_
          rintro e w2 ⟨rfl, hb2⟩
          have g2 := ((Gr.refl w2).al (.cells #[.int .i64 a.1, .int .i64 a.2] 38)).al (.cells #[.int .i64 a.1, .int .i64 a.2] 38)
          have HM := Lib.hid (mem_one (blk_new2 w2 (.cells #[.int .i64 a.1, .int .i64 a.2] 38) #[.int .i64 a.1, .int .i64 a.2] 38) hia)
          have HO2 := Lib.hid ((HO.out.gr hb2).gr g2)
          have HG2 := Lib.hid ((HG.out.trans hb2).trans g2)
          have hb := HG2.out.size
          clear c2 hgr hkr g2 hb2
          go_wp2_with (at_builtin; refine Mark.stop ?_)
          refine Mark.go ?_
          refine wpList_append_acts (l := out) rfl (.tmp 29) (.tmp 31) rfl rfl rfl HO2.out HM.out (by omega) hb ?_
          intro v' w3 h1 h2
          have hall : ∀ x ∈ out ++ [a], Inb x.1 ∧ Inb x.2 := by
            intro x hx
            rcases List.mem_append.1 hx with hx | hx
            · exact HI.out x hx
            · rw [List.mem_singleton] at hx; subst hx; exact hia
          obtain ⟨B', q', rfl, -, -, -, -⟩ := own_mem h1 hall
          have HA := Lib.hid hall
          have hlen : (out ++ [a]).length = k + 1 := by simp [hout]
          rw [hlen] at h1
          have H1 := Lib.hid h1
          have H2 := Lib.hid (HG2.out.gb h2 (fun j hj => HO2.out.late hj))
          clear h1 h2 hall HI HM HO HO2
          go_wp2_with fail
          go_roundw
          case rel => exact ⟨k + 1, out ++ [a], B', q', by omega, by omega, hlen, by go_num, rfl, H1, HA, HST, H2⟩
          case measure => simp [intOf]; omega
        · have hstep := pcsP_bad (out := out) hs (by omega) (by rw [ha]; exact he)
          rw [HC.out, ha] at hstep
          cases hstep
          have k64 : ¬ (64 : Int) ≤ (k : Int) := by omega
          have hne : (e1 == 0) = false := by simpa using he
          clear hs ha HC HP HO HI he
          go_wp2_with fail
          with_reducible refine (c2 _ hgr hkr).out.mono ?_
          rintro e w2 ⟨rfl, hb2⟩
          have HGF := Lib.hid (((hb1.trans HG.out).trans hb2).al (.cells #[.int .i64 a.1, .int .i64 a.2] 38))
          clear c2 hgr hkr
          go_wp2_with fail
          go_ret2
          exact ⟨⟨⟨none, 0, 0, []⟩, rfl, ⟨Mem.nil_, Nat.le_refl _, by show 0 ≤ _; omega⟩, rfl, Late.none⟩, HGF.out⟩
    · obtain rfl : k = n := by omega
      have hend := HC.out
      rw [← HN.out, pcsP_end] at hend
      cases hend
      have h1 := HO.out
      rw [← hout] at h1
      obtain ⟨B', q', hv, hm2, hq, hq2, hlate⟩ := own_mem h1 HI.out
      cases hv
      rw [hout] at hm2 hq
      have HF := Lib.hid (show GotP w.heap.size wr p ⟨B, k, q, p⟩ from ⟨⟨hm2, hq, hq2⟩, rfl, hlate.low hb1.size⟩)
      clear h1 hm2 HC HO HI HP
      go_wp2_with fail
      go_ret2
      exact ⟨⟨⟨B, k, q, p⟩, rfl, HF.out⟩, hb1.trans HG.out⟩

theorem spl_len : ∀ (s cur : Bs), ∀ x ∈ spl cur s, x.length ≤ cur.length + s.length
  | [], cur, x, h => by simp [spl] at h; subst h; simp
  | [y], cur, x, h => by simp [spl] at h; subst h; simp
  | y :: z :: r, cur, x, h => by
    rw [spl] at h
    split at h
    · rcases List.mem_cons.1 h with rfl | h
      · simp
      · have := spl_len r [] x h
        simp at this ⊢
        omega
    · have := spl_len (z :: r) (cur ++ [y]) x h
      simp at this ⊢
      omega
theorem str_mem_of_blk {w : World} {g : Nat} {L : List Bs} {t : TypeId} (h : Blk w g (L.map fun l => Value.string (bs l)).toArray t) (hL : ∀ x ∈ L, x.length < 4294967281) : StrMem w (some ⟨g, 0, none⟩) L.length L :=
  ⟨rfl, hL, fun _ => ⟨g, 0, rfl, h.lt, fun j x hj => by
    rw [Nat.zero_add]
    refine (h.at_ ?_).1
    simp [hj]⟩⟩
theorem spl_ne (s cur : Bs) : spl cur s ≠ [] := by
  match s with
  | [] => simp [spl]
  | [y] => simp [spl]
  | y :: z :: r =>
    rw [spl]
    split
    · simp
    · exact spl_ne (z :: r) _
/-- What a line is answered, so many being ahead of it. -/
noncomputable def lineP (i : Nat) (s : Bs) : Int × List Ac := if 8 ≤ i then (5, []) else linP s
theorem got_nil {w w' : World} : GotP w.heap.size w' [] ⟨none, 0, 0, []⟩ := ⟨⟨Mem.nil_, Nat.le_refl _, by show 0 ≤ _; omega⟩, rfl, Late.none⟩
set_option maxHeartbeats 2000000 in
theorem parseLine_is {w : World} {i : Nat} {s : Bs} {e0 : Int} {p : List Ac} (h : lineP i s = (e0, p)) (hg : Glob w) (hs : s.length ≤ 100000) (hi : i ≤ 1000000) :
    Calls Tryd.prog 21 #[.int .i64 i, .string (bs s)] w fun e w' => (∃ x : PV, e = .returned (.tuple #[.slice x.A x.n x.c, .int .i64 e0]) ∧ GotP w.heap.size w' p x) ∧ Gr w w' := by
  unfold lineP at h
  by_cases h8 : 8 ≤ i
  · rw [if_pos h8] at h
    cases h
    go_enter Tryd.func21, Tryd.ntmps21
    go_wp2_with fail
    go_ret2
    exact ⟨⟨⟨none, 0, 0, []⟩, rfl, got_nil⟩, Gr.refl _⟩
  · rw [if_neg h8] at h
    have h8' : ¬ (8 : Int) ≤ (i : Int) := by omega
    unfold linP at h
    by_cases hn : s = []
    · rw [if_pos hn] at h
      cases h
      have hY : (bs s).toList.isEmpty = true := by rw [ByteArray.toList_eq, bs_list, hn]; rfl
      clear hn
      go_enter Tryd.func21, Tryd.ntmps21
      go_wp2_with fail
      go_ret2
      exact ⟨⟨⟨none, 0, 0, []⟩, rfl, got_nil⟩, Gr.refl _⟩
    · rw [if_neg hn] at h
      have hY : (bs s).toList.isEmpty = false := by rw [ByteArray.toList_eq, bs_list]; simpa using hn
      have c1 := Split_is (s := s) (d := [59, 32]) (by omega) (by decide) hg
      rw [split_spl, show bs [59, 32] = ({ data := #[59, 32] } : ByteArray) from rfl] at c1
      have c1 := Lib.hid c1
      have hL : ∀ x ∈ spl [] s, x.length < 4294967281 := fun x hx => by have := spl_len s [] x hx; simp at this; omega
      have hm := str_mem_of_blk (Blk.new w ((spl [] s).map fun l => Value.string (bs l)).toArray 9) hL
      have g1 := (Gr.refl w).al (.cells ((spl [] s).map fun l => Value.string (bs l)).toArray 9)
      have hl : (spl [] s).length ≤ 9223372036854775807 := by
        have : ∀ (s cur : Bs), (spl cur s).length ≤ s.length + 1 := by
          intro s
          induction hn : s.length using Nat.strongRecOn generalizing s with
          | ind k ih =>
            intro cur
            match s, hn with
            | [], _ => simp [spl]
            | [y], _ => simp [spl]
            | y :: z :: r, hn =>
              simp at hn
              rw [spl]
              split
              · have := ih r.length (by omega) r rfl []
                simp
                omega
              · have := ih (z :: r).length (by simp; omega) (z :: r) rfl (cur ++ [y])
                simp at this ⊢
                omega
        have := this s []
        omega
      have c2 := Lib.hid (parseActs_is (c := (spl [] s).length) h (hg.gr g1) hm hl)
      have HG := Lib.hid g1
      generalize hW : w.alloc (.cells ((spl [] s).map fun l => Value.string (bs l)).toArray 9) = W at *
      generalize (spl [] s).length = q at *
      have HS := Lib.hid (show w.heap.size ≤ W.heap.size from g1.size)
      clear hm h hn g1 hL hW hl
      go_enter Tryd.func21, Tryd.ntmps21
      go_wp2_with fail
      with_reducible refine c1.out.mono ?_
      rintro e w1 ⟨rfl, hw1⟩
      obtain rfl : W = w1 := hw1.symm
      go_wp2_with fail
      with_reducible refine c2.out.mono ?_
      rintro e w2 ⟨⟨x, rfl, hx⟩, hb2⟩
      have HX := Lib.hid (show GotP w.heap.size w2 p x from ⟨hx.1, hx.2.1, hx.2.2.low HS.out⟩)
      clear hx
      go_wp2_with fail
      go_ret2
      exact ⟨⟨x, rfl, HX.out⟩, HG.out.trans hb2⟩
end P12
end Go.Proofs.YtocojdiapaeajaaDoor
