/-
  Package treap: Put.
-/
import Derived.Test.YtmkkeknimpjfoaaTreapGrow
import Derived.Test.YtmkkeknimpjfoaaTreapFindFn
namespace Go.Proofs.Ytmkkeknimpjfoaa
open Go.ChangeShapes Go.WideShapes Go.ChangeAt Go.RowKit Go.Shelf
set_option linter.unusedVariables false
set_option linter.unusedSimpArgs false

section
variable {w : World} {r : Int} {A : Option Addr} {n c : Nat} {x : Int} {l : List Nd} {t : T}
/-- A new tree, and no error. -/
def GotT (w : World) (n : Nat) (K : List Int → Prop) (e : Ending) (w' : World) : Prop :=
  ∃ r g l t, e = .returned (.tuple #[.agg #[.int .i64 r, .slice (some ⟨g, 0, none⟩) n n], .int .i64 0]) ∧ NMem w' (some ⟨g, 0, none⟩) n l ∧ Good l r t ∧ K t.inord ∧ Gr w w' ∧ w.heap.size ≤ g
/-- Which error Put answers. -/
def PutE (l : List Nd) (r x e : Int) : Prop := (((¬ IsKey x) ∨ ¬ ∃ t, Good l r t) ∧ e = 1) ∨ (IsKey x ∧ ∃ t, Good l r t ∧ ((x ∈ t.inord ∧ e = 7) ∨ (x ∉ t.inord ∧ l.length = 64 ∧ e = 5)))
theorem PutE.find {e : Int} (h : PutE l r x e) : ∃ d f, FindR l r x d f ∧ ((f = 1 ∧ e = 1) ∨ (f = 0 ∧ e = 7) ∨ (f = 4 ∧ l.length = 64 ∧ e = 5)) := by
  rcases h with ⟨h, rfl⟩ | ⟨h1, t, hg, ⟨h2, rfl⟩ | ⟨h2, h3, rfl⟩⟩
  · refine ⟨0, 1, ?_, .inl ⟨rfl, rfl⟩⟩
    by_cases hk : IsKey x
    · exact .inr (.inl ⟨hk, h.resolve_left (fun h' => h' hk), rfl, rfl⟩)
    · exact .inl ⟨hk, rfl, rfl⟩
  · exact ⟨_, 0, .inr (.inr ⟨h1, t, hg, .inr ⟨h2, rfl, rfl⟩⟩), .inr (.inl ⟨rfl, rfl⟩)⟩
  · exact ⟨_, 4, .inr (.inr ⟨h1, t, hg, .inl ⟨h2, rfl, rfl⟩⟩), .inr (.inr ⟨rfl, h3, rfl⟩)⟩

set_option maxHeartbeats 4000000 in
theorem Put_no (hm : NMem w A n l) {e : Int} (h : PutE l r x e) :
    Calls Try.prog 61 #[.agg #[.int .i64 r, .slice A n c], .int .i64 x] w fun ee w' => ee = .returned (.tuple #[.agg #[.int .i64 0, .slice none 0 0], .int .i64 e]) ∧ Gr w w' := by
  have g0 := ((Gr.refl w).al (.cells #[.int .i64 r, .slice A n c] 84)).al (.cells #[.int .i64 0, .slice none 0 0] 84)
  have B0 := (Blk.new w #[.int .i64 r, .slice A n c] 84).al (.cells #[.int .i64 0, .slice none 0 0] 84)
  have B1 := Blk.new (w.alloc (.cells #[.int .i64 r, .slice A n c] 84)) #[.int .i64 0, .slice none 0 0] 84
  simp only [World.size_alloc] at B1
  obtain ⟨d, f, hf, hcase⟩ := h.find
  have hlen := hm.1
  have hC := Lib.hid (Find_is (c := c) (hm.gr g0) hf)
  clear hm hf h
  go_enter Try.func61, Try.ntmps61
  go_wp2_with fail
  with_reducible refine hC.out.mono ?_
  rintro ee w3 ⟨rfl, hb3⟩
  have BB := B0.gr hb3
  have BR := B1.gr hb3
  have G3 := Lib.hid (g0.trans hb3)
  have f1 := (BB.at_ (k := 1) rfl).1
  obtain ⟨p0, z0⟩ := BR.at_ (k := 0) rfl
  obtain ⟨p1, z1⟩ := BR.at_ (k := 1) rfl
  have HBR := Lib.hid ((BR.set 0 (.int .i64 0)).set 1 (.slice none 0 0))
  have HGW := Lib.hid (((g0.trans hb3).st (p := ⟨w.heap.size + 1, 0, none⟩) (by show w.heap.size ≤ w.heap.size + 1; omega) (.int .i64 0)).st (p := ⟨w.heap.size + 1, 1, none⟩) (by show w.heap.size ≤ w.heap.size + 1; omega) (.slice none 0 0))
  clear hC B0 B1 BB BR hb3 g0
  rcases hcase with ⟨rfl, rfl⟩ | ⟨rfl, rfl⟩ | ⟨rfl, h64, rfl⟩
  · go_wp2_with fail
    have BF := HBR.out
    have GW := HGW.out
    clear p0 z0 p1 z1 f1 HBR HGW
    generalize (w3.setCell _ _).setCell _ _ = WF at BF GW ⊢
    have q0 : WF.cell? ⟨w.heap.size + 1, 0, none⟩ = some (.int .i64 0) := (BF.at_ (k := 0) rfl).1
    have q1 : WF.cell? ⟨w.heap.size + 1, 1, none⟩ = some (.slice none 0 0) := (BF.at_ (k := 1) rfl).1
    exact bodyPost_ret (v := .tuple #[.agg #[.int .i64 0, .slice none 0 0], .int .i64 1]) (by simp [results, Try.results61, go_sem, q0, q1]) rfl ⟨rfl, GW⟩
  · go_wp2_with fail
    have BF := HBR.out
    have GW := HGW.out
    clear p0 z0 p1 z1 f1 HBR HGW
    generalize (w3.setCell _ _).setCell _ _ = WF at BF GW ⊢
    have q0 : WF.cell? ⟨w.heap.size + 1, 0, none⟩ = some (.int .i64 0) := (BF.at_ (k := 0) rfl).1
    have q1 : WF.cell? ⟨w.heap.size + 1, 1, none⟩ = some (.slice none 0 0) := (BF.at_ (k := 1) rfl).1
    exact bodyPost_ret (v := .tuple #[.agg #[.int .i64 0, .slice none 0 0], .int .i64 7]) (by simp [results, Try.results61, go_sem, q0, q1]) rfl ⟨rfl, GW⟩
  · obtain rfl : n = 64 := by omega
    go_wp2_with fail
    have BF := HBR.out
    have GW := HGW.out
    clear p0 z0 p1 z1 f1 HBR HGW
    generalize (w3.setCell _ _).setCell _ _ = WF at BF GW ⊢
    have q0 : WF.cell? ⟨w.heap.size + 1, 0, none⟩ = some (.int .i64 0) := (BF.at_ (k := 0) rfl).1
    have q1 : WF.cell? ⟨w.heap.size + 1, 1, none⟩ = some (.slice none 0 0) := (BF.at_ (k := 1) rfl).1
    exact bodyPost_ret (v := .tuple #[.agg #[.int .i64 0, .slice none 0 0], .int .i64 5]) (by simp [results, Try.results61, go_sem, q0, q1]) rfl ⟨rfl, GW⟩

set_option maxHeartbeats 4000000 in
theorem Put_ok (hm : NMem w A n l) (hg : Good l r t) (hx : IsKey x) (hn : x ∉ t.inord) (h64 : l.length ≠ 64) :
    Calls Try.prog 61 #[.agg #[.int .i64 r, .slice A n c], .int .i64 x] w (GotT w (n + 1) (fun K => ∀ y, y ∈ K ↔ y = x ∨ y ∈ t.inord)) := by
  have g0 := ((Gr.refl w).al (.cells #[.int .i64 r, .slice A n c] 84)).al (.cells #[.int .i64 0, .slice none 0 0] 84)
  have B0 := (Blk.new w #[.int .i64 r, .slice A n c] 84).al (.cells #[.int .i64 0, .slice none 0 0] 84)
  have B1 := Blk.new (w.alloc (.cells #[.int .i64 r, .slice A n c] 84)) #[.int .i64 0, .slice none 0 0] 84
  simp only [World.size_alloc] at B1
  have hlen := hm.1
  have hle := hg.2.2.1
  have hn64 : n ≤ 63 := by omega
  have hne : ((n : Int) == 64) = false := beq_eq_false_iff_ne.2 (by omega)
  have hC := Lib.hid (Find_is (c := c) (hm.gr g0) (x := x) (r := r) (d := 0) (e := 4) (.inr (.inr ⟨hx, t, hg, .inl ⟨hn, rfl, rfl⟩⟩)))
  have hxB : B64 x := by unfold IsKey at hx; unfold B64; omega
  have HLn := Lib.hid (show (l.map Nd.key ++ [x]).Nodup from by
    refine List.nodup_append.2 ⟨hg.perm.nodup_iff.2 hg.2.2.2.1.rising.nodup, by simp, fun a ha b hb e => ?_⟩
    rw [List.mem_singleton] at hb
    subst hb e
    exact hn ((hg.keys a).1 ha))
  have HLk := Lib.hid (show ∀ y ∈ l.map Nd.key ++ [x], IsKey y from fun y hy => by
    rcases List.mem_append.1 hy with h | h
    · exact hg.isKey ((hg.keys y).1 h)
    · rw [List.mem_singleton] at h; subst h; exact hx)
  have HLm := Lib.hid (show ∀ y, y ∈ srt (l.map Nd.key ++ [x]) ↔ y = x ∨ y ∈ t.inord from fun y => by
    rw [(srt_perm _).mem_iff, List.mem_append, List.mem_singleton, hg.keys]
    exact Or.comm)
  have HM := Lib.hid hm
  obtain ⟨i0, hi0, hz0, hz1, hz2⟩ := info_parts infoInt
  have HZ := Lib.hid hz0
  have HZ1 := Lib.hid hz1
  have HZ2 := Lib.hid hz2
  have HI0 := Lib.hid hi0
  clear hz0 hz1 hz2 hi0 hm hg hx hn h64 hle
  go_enter Try.func61, Try.ntmps61
  go_wp2_with fail
  with_reducible refine hC.out.mono ?_
  rintro ee w3 ⟨rfl, hb3⟩
  have BB := B0.gr hb3
  have HBR := Lib.hid (B1.gr hb3)
  have G3 := Lib.hid (g0.trans hb3)
  have f0 := (BB.at_ (k := 0) rfl).1
  have f1 := (BB.at_ (k := 1) rfl).1
  have kC := Lib.hid (keysFn_is (r := r) (c := c) (HM.out.gr G3.out) (by omega))
  clear hC B0 B1 BB hb3 g0
  go_wp2_with fail
  with_reducible refine kC.out.mono ?_
  rintro e w4 ⟨C, k, rfl, own4, hb4⟩
  have O4 := Lib.hid own4
  have G4 := Lib.hid hb4
  clear kC own4 hb4 f0 f1
  go_wp2_with (at_builtin; refine Mark.stop ?_)
  refine Mark.go ?_
  refine wpList_append_omem _ (Value.int .i64) B64 rfl (.tmp 30) (.tmp 32) 38 rfl (fun _ => rfl) w3.heap.size 3 i0 (.int .i64 0) 8 Try.underlying38 HI0.out HZ.out HZ1.out HZ2.out rfl C n k _ rfl (O4.out.gr ((Gr.refl _).al _)) _ 1 1 [x] rfl (emem_one _ x hxB _) (by unfold maxLen; omega) (by omega) (G4.out.al _).size ?_
  intro C5 k5 w5 own5 gb5
  have G5 := Lib.hid ((G4.out.al (.cells #[.int .i64 x] 3)).gb gb5 (fun k hk => (O4.out.lt k hk).1))
  have gC := Lib.hid (grow_is own5 (by omega) HLn.out HLk.out (Nat.le_refl _) G5.out)
  clear gb5 own5
  go_wp2_with fail
  with_reducible refine gC.out.mono ?_
  rintro e w6 ⟨r', g, l', t', rfl, hm6, hg6, hi6, hb6, hge⟩
  have BR := HBR.out.gr hb6
  obtain ⟨p0, z0⟩ := BR.at_ (k := 0) rfl
  obtain ⟨p1, z1⟩ := BR.at_ (k := 1) rfl
  have hlt := HBR.out.lt
  have BF := (BR.set 0 (.int .i64 r')).set 1 (.slice (some ⟨g, 0, none⟩) (n + 1) (n + 1))
  have GW := ((G3.out.trans hb6).st (p := ⟨w.heap.size + 1, 0, none⟩) (by show w.heap.size ≤ w.heap.size + 1; omega) (.int .i64 r')).st (p := ⟨w.heap.size + 1, 1, none⟩) (by show w.heap.size ≤ w.heap.size + 1; omega) (.slice (some ⟨g, 0, none⟩) (n + 1) (n + 1))
  have NM : NMem ((w6.setCell ⟨w.heap.size + 1, 0, none⟩ (.int .i64 r')).setCell ⟨w.heap.size + 1, 1, none⟩ (.slice (some ⟨g, 0, none⟩) (n + 1) (n + 1))) (some ⟨g, 0, none⟩) (n + 1) l' :=
    hm6.stays (by simp [World.setCell]) fun k hk _ => by
      simp only [Option.map_some, Option.some.injEq] at hk
      subst hk
      have : w.heap.size + 1 ≠ g := by omega
      simp [World.setCell, Array.getElem?_modify, this]
  rw [hi6.symm] at HLm
  have HF := Lib.hid (And.intro BF (And.intro GW (And.intro NM hg6)))
  have HGE := Lib.hid (show w.heap.size ≤ g from by have := G3.out.size; omega)
  clear gC BR BF GW NM hm6 hg6 hi6 hb6 hge hlt
  go_wp2_with fail
  obtain ⟨BF, GW, NM, hg6⟩ := HF.out
  clear p0 z0 p1 z1 HBR HF
  generalize (w6.setCell _ _).setCell _ _ = WF at BF GW NM ⊢
  have q0 : WF.cell? ⟨w.heap.size + 1, 0, none⟩ = some (.int .i64 r') := (BF.at_ (k := 0) rfl).1
  have q1 : WF.cell? ⟨w.heap.size + 1, 1, none⟩ = some (.slice (some ⟨g, 0, none⟩) (n + 1) (n + 1)) := (BF.at_ (k := 1) rfl).1
  exact bodyPost_ret (v := .tuple #[.agg #[.int .i64 r', .slice (some ⟨g, 0, none⟩) (n + 1) (n + 1)], .int .i64 0]) (by simp [results, Try.results61, go_sem, q0, q1]) rfl ⟨r', g, l', t', rfl, NM, hg6, HLm.out, GW, HGE.out⟩
end
end Go.Proofs.Ytmkkeknimpjfoaa
