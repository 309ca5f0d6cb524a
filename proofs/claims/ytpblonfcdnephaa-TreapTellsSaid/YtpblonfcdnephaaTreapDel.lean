/-
  Package treap: Del.
-/
import Derived.Test.YtpblonfcdnephaaTreapPut
namespace Go.Proofs.Ytpblonfcdnephaa
open Go.ChangeShapes Go.WideShapes Go.ChangeAt Go.RowKit Go.Shelf
set_option linter.unusedVariables false
set_option linter.unusedSimpArgs false

section
theorem del_gives (x y : Int) (kb : Nat) (W : World) (hc : W.cell? ⟨kb, 0, none⟩ = some (.int .i64 x)) :
    FnGives Try.prog 39 #[.pointer (some ⟨kb, 0, none⟩)] #[.int .i64 y] (.bool (y == x)) W := by
  show Calls Try.prog 39 #[.int .i64 y, .pointer (some ⟨kb, 0, none⟩)] W _
  obtain ⟨v, hv⟩ : ∃ v, (y == x) = v := ⟨_, rfl⟩
  rw [hv]
  go_enter Try.func39, Try.ntmps39
  go_wp2_with fail
  go_ret
  exact ⟨rfl, 0, rfl⟩
variable {w : World} {r : Int} {A : Option Addr} {base n c : Nat} {x : Int} {l : List Nd} {t : T} {L : List Int}
/-- A row but one number: it lies where it lay. -/
theorem DelFunc_is {b off kb : Nat} (ho : IOwn base w (some ⟨b, off, none⟩) n c L) (hk : w.cell? ⟨kb, 0, none⟩ = some (.int .i64 x)) (hlt : kb < w.heap.size) (hne : kb ≠ b) (hn : n ≤ 1000000) (hb : b < w.heap.size) {R : List Int} (hR : R = L.filter (fun y => !(y == x))) :
    Calls Try.prog 38 #[.slice (some ⟨b, off, none⟩) n c, .func (.func 39) #[] #[.pointer (some ⟨kb, 0, none⟩)]] w fun e w' =>
      e = .returned (.slice (some ⟨b, off, none⟩) R.length c) ∧ IOwn base w' (some ⟨b, off, none⟩) R.length c R ∧ w.grownBy w' (some b) := by
  have hlen := ho.1.1
  have hcon := AnyE.slices_DeleteFunc Try.layDel (Value.int .i64) (fun _ => rfl) (fun y => y == x) 39 #[.pointer (some ⟨kb, 0, none⟩)] (enters_of Try.func39 (by kernel_rfl) rfl) 0 Try.zeroValue3 b off c L.toArray w
    (fun W y hb => del_gives x y kb W ((hb.cell (p := ⟨kb, 0, none⟩) hlt).trans hk))
    (fun m os dk y _ => del_gives x y kb _ (by
      unfold sortWorld
      rw [Sort.cell?_grow _ _ _ (by show kb < (Sort.putRow _ _ _ _ _).heap.size; rw [Sort.size_putRow]; exact hlt), Sort.cell?_putRow_other _ _ b off _ _ (Or.inl hne)]
      exact hk))
    ho.holds (by simp; omega) (by simp; have := ho.2.1; omega)
  simp only [List.size_toArray, List.toList_toArray, hlen] at hcon
  rw [← hR] at hcon
  refine hcon.mono ?_
  rintro e w' ⟨rfl, q, rfl⟩
  have hRl : R.length ≤ n := by rw [hR, ← hlen]; exact List.length_filter_le ..
  have hput := ho.put (R := R ++ List.replicate (n - R.length) 0) q #[] (by simp; omega) (fun y hy => by
    rcases List.mem_append.1 hy with h | h
    · rw [hR] at h; exact ho.1.2.1 y ((List.mem_filter.1 h).1)
    · obtain ⟨_, rfl⟩ := List.mem_replicate.1 h
      exact ⟨by decide, by decide⟩)
  have hgb := grownBy_put (b := b) (off := off) (w := w) q (R ++ List.replicate (n - R.length) 0) #[] hb
  rw [Sort.grow_empty] at hput hgb
  have htk := hput.take R.length hRl
  rw [List.take_left' rfl] at htk
  exact ⟨rfl, htk, hgb⟩

/-- Which error Del answers. -/
def DelE (l : List Nd) (r x e : Int) : Prop := (((¬ IsKey x) ∨ ¬ ∃ t, Good l r t) ∧ e = 1) ∨ (IsKey x ∧ ∃ t, Good l r t ∧ x ∉ t.inord ∧ e = 4)
theorem DelE.find {e : Int} (h : DelE l r x e) : ∃ d, FindR l r x d e ∧ (e = 1 ∨ e = 4) := by
  rcases h with ⟨h, rfl⟩ | ⟨h1, t, hg, h2, rfl⟩
  · refine ⟨0, ?_, .inl rfl⟩
    by_cases hk : IsKey x
    · exact .inr (.inl ⟨hk, h.resolve_left (fun h' => h' hk), rfl, rfl⟩)
    · exact .inl ⟨hk, rfl, rfl⟩
  · exact ⟨_, .inr (.inr ⟨h1, t, hg, .inl ⟨h2, rfl, rfl⟩⟩), .inr rfl⟩

set_option maxHeartbeats 4000000 in
theorem Del_no (hm : NMem w A n l) {e : Int} (h : DelE l r x e) :
    Calls Try.prog 24 #[.agg #[.int .i64 r, .slice A n c], .int .i64 x] w fun ee w' => ee = .returned (.tuple #[.agg #[.int .i64 0, .slice none 0 0], .int .i64 e]) ∧ Gr w w' := by
  have g0 := (((Gr.refl w).al (.cells #[.int .i64 r, .slice A n c] 24)).al (.cells #[.int .i64 x] 3)).al (.cells #[.int .i64 0, .slice none 0 0] 24)
  have B0 := ((Blk.new w #[.int .i64 r, .slice A n c] 24).al (.cells #[.int .i64 x] 3)).al (.cells #[.int .i64 0, .slice none 0 0] 24)
  have BK := (Blk.new (w.alloc (.cells #[.int .i64 r, .slice A n c] 24)) #[.int .i64 x] 3).al (.cells #[.int .i64 0, .slice none 0 0] 24)
  have B1 := Blk.new ((w.alloc (.cells #[.int .i64 r, .slice A n c] 24)).alloc (.cells #[.int .i64 x] 3)) #[.int .i64 0, .slice none 0 0] 24
  simp only [World.size_alloc] at B1 BK
  obtain ⟨d, hf, hcase⟩ := h.find
  have hlen := hm.1
  have hC := Lib.hid (Find_is (c := c) (hm.gr g0) hf)
  clear hm hf h
  go_enter Try.func24, Try.ntmps24
  go_wp2_with fail
  with_reducible refine hC.out.mono ?_
  rintro ee w3 ⟨rfl, hb3⟩
  have BB := B0.gr hb3
  have BR := B1.gr hb3
  have G3 := Lib.hid (g0.trans hb3)
  have f1 := (BB.at_ (k := 1) rfl).1
  obtain ⟨p0, z0⟩ := BR.at_ (k := 0) rfl
  obtain ⟨p1, z1⟩ := BR.at_ (k := 1) rfl
  have HBR := Lib.hid ((BR.set 0 (.int .i64 0)).set 1 (.slice none 0 0))
  have HGW := Lib.hid (((g0.trans hb3).st (p := ⟨w.heap.size + 1 + 1, 0, none⟩) (by show w.heap.size ≤ w.heap.size + 1 + 1; omega) (.int .i64 0)).st (p := ⟨w.heap.size + 1 + 1, 1, none⟩) (by show w.heap.size ≤ w.heap.size + 1 + 1; omega) (.slice none 0 0))
  clear hC B0 B1 BK BB BR hb3 g0
  rcases hcase with rfl | rfl
  · go_wp2_with fail
    have BF := HBR.out
    have GW := HGW.out
    clear p0 z0 p1 z1 f1 HBR HGW
    generalize (w3.setCell _ _).setCell _ _ = WF at BF GW ⊢
    have q0 : WF.cell? ⟨w.heap.size + 1 + 1, 0, none⟩ = some (.int .i64 0) := (BF.at_ (k := 0) rfl).1
    have q1 : WF.cell? ⟨w.heap.size + 1 + 1, 1, none⟩ = some (.slice none 0 0) := (BF.at_ (k := 1) rfl).1
    exact bodyPost_ret (v := .tuple #[.agg #[.int .i64 0, .slice none 0 0], .int .i64 1]) (by simp [results, Try.results24, go_sem, q0, q1]) rfl ⟨rfl, GW⟩
  · go_wp2_with fail
    have BF := HBR.out
    have GW := HGW.out
    clear p0 z0 p1 z1 f1 HBR HGW
    generalize (w3.setCell _ _).setCell _ _ = WF at BF GW ⊢
    have q0 : WF.cell? ⟨w.heap.size + 1 + 1, 0, none⟩ = some (.int .i64 0) := (BF.at_ (k := 0) rfl).1
    have q1 : WF.cell? ⟨w.heap.size + 1 + 1, 1, none⟩ = some (.slice none 0 0) := (BF.at_ (k := 1) rfl).1
    exact bodyPost_ret (v := .tuple #[.agg #[.int .i64 0, .slice none 0 0], .int .i64 4]) (by simp [results, Try.results24, go_sem, q0, q1]) rfl ⟨rfl, GW⟩

set_option maxHeartbeats 4000000 in
theorem Del_ok (hm : NMem w A n l) (hg : Good l r t) (hn : x ∈ t.inord) :
    Calls Try.prog 24 #[.agg #[.int .i64 r, .slice A n c], .int .i64 x] w (fun e w' => ∃ m, GotT w m (fun K => ∀ y, y ∈ K ↔ y ≠ x ∧ y ∈ t.inord) e w') := by
  have g0 := (((Gr.refl w).al (.cells #[.int .i64 r, .slice A n c] 24)).al (.cells #[.int .i64 x] 3)).al (.cells #[.int .i64 0, .slice none 0 0] 24)
  have B0 := ((Blk.new w #[.int .i64 r, .slice A n c] 24).al (.cells #[.int .i64 x] 3)).al (.cells #[.int .i64 0, .slice none 0 0] 24)
  have BK := (Blk.new (w.alloc (.cells #[.int .i64 r, .slice A n c] 24)) #[.int .i64 x] 3).al (.cells #[.int .i64 0, .slice none 0 0] 24)
  have B1 := Blk.new ((w.alloc (.cells #[.int .i64 r, .slice A n c] 24)).alloc (.cells #[.int .i64 x] 3)) #[.int .i64 0, .slice none 0 0] 24
  simp only [World.size_alloc] at B1 BK
  have hlen := hm.1
  have hle := hg.2.2.1
  have hn64 : n ≤ 64 := by omega
  have hn0 : 0 < n := by
    have := hg.2.1
    have := List.length_pos_of_mem hn
    rw [T.inord_len] at this
    omega
  have hx := hg.isKey hn
  have hC := Lib.hid (Find_is (c := c) (hm.gr g0) (x := x) (r := r) (d := dpt t x) (e := 0) (.inr (.inr ⟨hx, t, hg, .inr ⟨hn, rfl, rfl⟩⟩)))
  obtain ⟨R, hR⟩ : ∃ R, R = (l.map Nd.key).filter (fun y => !(y == x)) := ⟨_, rfl⟩
  have HLn := Lib.hid (show R.Nodup from hR ▸ (hg.perm.nodup_iff.2 hg.2.2.2.1.rising.nodup).filter _)
  have hmem : ∀ y, y ∈ R ↔ y ≠ x ∧ y ∈ t.inord := fun y => by
    rw [hR, List.mem_filter, hg.keys]
    simp only [Bool.not_eq_true', beq_eq_false_iff_ne, ne_eq]
    exact And.comm
  have HLk := Lib.hid (show ∀ y ∈ R, IsKey y from fun y hy => hg.isKey ((hmem y).1 hy).2)
  have HLm := Lib.hid (show ∀ y, y ∈ srt R ↔ y ≠ x ∧ y ∈ t.inord from fun y => by
    rw [(srt_perm _).mem_iff]; exact hmem y)
  have HRR := Lib.hid hR
  have hRn : R.length ≤ n := by rw [hR, ← hlen]; exact Nat.le_trans (List.length_filter_le ..) (by simp)
  obtain ⟨dd, hdd⟩ : ∃ dd : Int, (dpt t x : Int) = dd := ⟨_, rfl⟩
  rw [hdd] at hC
  have HM := Lib.hid hm
  clear hm hg hx hn hmem hR hdd hle
  go_enter Try.func24, Try.ntmps24
  go_wp2_with fail
  with_reducible refine hC.out.mono ?_
  rintro ee w3 ⟨rfl, hb3⟩
  have BB := B0.gr hb3
  have HBR := Lib.hid (B1.gr hb3)
  have G3 := Lib.hid (g0.trans hb3)
  have BK3 := BK.gr hb3
  have k0 := (BK3.at_ (k := 0) rfl).1
  have hkl := BK3.lt
  have f0 := (BB.at_ (k := 0) rfl).1
  have f1 := (BB.at_ (k := 1) rfl).1
  have kC := Lib.hid (keysFn_is (r := r) (c := c) (HM.out.gr G3.out) (by omega))
  clear hC B0 B1 BB BK hb3 g0
  go_wp2_with fail
  with_reducible refine kC.out.mono ?_
  rintro e w4 ⟨C, k, rfl, own4, hb4⟩
  have O4 := Lib.hid own4
  have G4 := Lib.hid hb4
  obtain ⟨b, off, rfl, hbl, _⟩ := own4.1.2.2 hn0
  have hge4 := (own4.lt b rfl).1
  have k4 := ((BK3.gr hb4).at_ (k := 0) rfl).1
  have dC := Lib.hid (DelFunc_is own4 k4 (BK3.gr hb4).lt (by omega) (by omega) hbl HRR.out)
  clear kC own4 hb4 f0 f1 k0 BK3
  go_wp2_with fail
  with_reducible refine dC.out.mono ?_
  rintro e w5 ⟨rfl, own5, gb5⟩
  have G5 := Lib.hid (G4.out.gb gb5 (fun k hk => by cases hk; exact hge4))
  have gC := Lib.hid (grow_is own5 (by omega) HLn.out HLk.out (Nat.le_refl _) G5.out)
  clear dC k4
  clear gb5 own5
  go_wp2_with fail
  with_reducible refine gC.out.mono ?_
  rintro e w6 ⟨r', g, l', t', rfl, hm6, hg6, hi6, hb6, hge⟩
  have BR := HBR.out.gr hb6
  obtain ⟨p0, z0⟩ := BR.at_ (k := 0) rfl
  obtain ⟨p1, z1⟩ := BR.at_ (k := 1) rfl
  have hlt := HBR.out.lt
  have BF := (BR.set 0 (.int .i64 r')).set 1 (.slice (some ⟨g, 0, none⟩) R.length R.length)
  have GW := ((G3.out.trans hb6).st (p := ⟨w.heap.size + 1 + 1, 0, none⟩) (by show w.heap.size ≤ w.heap.size + 1 + 1; omega) (.int .i64 r')).st (p := ⟨w.heap.size + 1 + 1, 1, none⟩) (by show w.heap.size ≤ w.heap.size + 1 + 1; omega) (.slice (some ⟨g, 0, none⟩) R.length R.length)
  have NM : NMem ((w6.setCell ⟨w.heap.size + 1 + 1, 0, none⟩ (.int .i64 r')).setCell ⟨w.heap.size + 1 + 1, 1, none⟩ (.slice (some ⟨g, 0, none⟩) R.length R.length)) (some ⟨g, 0, none⟩) R.length l' :=
    hm6.stays (by simp [World.setCell]) fun k hk _ => by
      simp only [Option.map_some, Option.some.injEq] at hk
      subst hk
      have : w.heap.size + 1 + 1 ≠ g := by omega
      simp [World.setCell, Array.getElem?_modify, this]
  rw [hi6.symm] at HLm
  have HF := Lib.hid (And.intro BF (And.intro GW (And.intro NM hg6)))
  have HGE := Lib.hid (show w.heap.size ≤ g from by have := G3.out.size; omega)
  clear gC BR BF GW NM hm6 hg6 hi6 hb6 hge hlt
  go_wp2_with fail
  obtain ⟨BF, GW, NM, hg6⟩ := HF.out
  clear p0 z0 p1 z1 HBR HF
  generalize (w6.setCell _ _).setCell _ _ = WF at BF GW NM ⊢
  have q0 : WF.cell? ⟨w.heap.size + 1 + 1, 0, none⟩ = some (.int .i64 r') := (BF.at_ (k := 0) rfl).1
  have q1 : WF.cell? ⟨w.heap.size + 1 + 1, 1, none⟩ = some (.slice (some ⟨g, 0, none⟩) R.length R.length) := (BF.at_ (k := 1) rfl).1
  exact bodyPost_ret (v := .tuple #[.agg #[.int .i64 r', .slice (some ⟨g, 0, none⟩) R.length R.length], .int .i64 0]) (by simp [results, Try.results24, go_sem, q0, q1]) rfl ⟨R.length, r', g, l', t', rfl, NM, hg6, HLm.out, GW, HGE.out⟩
end
end Go.Proofs.Ytpblonfcdnephaa
