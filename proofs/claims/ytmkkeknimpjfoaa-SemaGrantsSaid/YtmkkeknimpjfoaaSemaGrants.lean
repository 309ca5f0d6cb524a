/-
  The law SemaGrants: for every slice of threes of ints, the law's function returns true, and its argument reads behind the call as it read before. No condition.
-/
import Derived.Test.YtmkkeknimpjfoaaSemaAny
import Derived.Test.YtmkkeknimpjfoaaEnds
import Derived.Laws.IdiomArrays
import Derived.Deep.QuietTactic
import Derived.BigQuiet
namespace Go.Proofs.Ytmkkeknimpjfoaa
open Go.ChangeShapes Go.WideShapes Go.ChangeAt Go.RowKit Go.Joins
set_option maxRecDepth 100000
set_option linter.unusedVariables false
set_option linter.unusedSimpArgs false

/-- a % n, made to be from 0 on. -/
theorem mods (a : Int) (n : Nat) (h : 0 < n) (hn : n ≤ 64) : ∃ (t u : Int) (p : Nat), a.tmod (n : Int) = t ∧ wrap64 (t + n) = u ∧ u.tmod (n : Int) = (p : Int) ∧ p < n := by
  have h1 : a.tmod (n : Int) < n := Int.tmod_lt_of_pos a (by omega)
  have h2 : -(n : Int) < a.tmod (n : Int) := Int.lt_tmod_of_pos a (by omega)
  generalize a.tmod (n : Int) = t at *
  have hu : wrap64 (t + n) = t + n := by unfold wrap64; omega
  have h3 := Int.tmod_nonneg (n : Int) (show 0 ≤ t + n by omega)
  have h4 : (t + n).tmod (n : Int) < n := Int.tmod_lt_of_pos _ (by omega)
  refine ⟨t, t + n, ((t + n).tmod (n : Int)).toNat, rfl, hu, by omega, by omega⟩

/-- A slice of threes that reads as a list. -/
def TMem (w : World) (A : Option Addr) (n : Nat) (l : List (Int × Int × Int)) : Prop :=
  l.length = n ∧ (∀ x ∈ l, B64 x.1 ∧ B64 x.2.1 ∧ B64 x.2.2) ∧ (0 < n → ∃ b off, A = some ⟨b, off, none⟩ ∧ b < w.heap.size ∧ ∀ j x, l[j]? = some x →
    w.cell? ⟨b, off + j * 3, none⟩ = some (.int .i64 x.1) ∧ w.cell? ⟨b, off + j * 3 + 1, none⟩ = some (.int .i64 x.2.1) ∧ w.cell? ⟨b, off + j * 3 + 2, none⟩ = some (.int .i64 x.2.2))
section
variable {w w' : World} {A : Option Addr} {n : Nat} {l : List (Int × Int × Int)}
theorem TMem.gr (h : TMem w A n l) (g : Gr w w') : TMem w' A n l :=
  ⟨h.1, h.2.1, fun hn => by
    obtain ⟨b, off, rfl, hlt, hc⟩ := h.2.2 hn
    refine ⟨b, off, rfl, Nat.lt_of_lt_of_le hlt g.size, fun j x hj => ?_⟩
    rw [g.cell (p := ⟨b, off + j * 3, none⟩) hlt, g.cell (p := ⟨b, off + j * 3 + 1, none⟩) hlt, g.cell (p := ⟨b, off + j * 3 + 2, none⟩) hlt]
    exact hc j x hj⟩
theorem TMem.at_ {k : Nat} (h : TMem w A n l) (hk : k < n) :
    ∃ b off x y z, A = some ⟨b, off, none⟩ ∧ b < w.heap.size ∧ B64 x ∧ B64 y ∧ B64 z ∧
      w.cell? ⟨b, off + k * 3, none⟩ = some (.int .i64 x) ∧ w.cell? ⟨b, off + k * 3 + 1, none⟩ = some (.int .i64 y) ∧ w.cell? ⟨b, off + k * 3 + 2, none⟩ = some (.int .i64 z) := by
  obtain ⟨b, off, e, hb, hc⟩ := h.2.2 (by omega)
  have hl : k < l.length := by have := h.1; omega
  have hx : l[k]? = some l[k] := List.getElem?_eq_getElem hl
  obtain ⟨h1, h2, h3⟩ := h.2.1 _ (List.getElem_mem hl)
  obtain ⟨c0, c1, c2⟩ := hc k _ hx
  exact ⟨b, off, _, _, _, e, hb, h1, h2, h3, c0, c1, c2⟩
end
theorem cellsOfThree : Try.prog.cellsOf 40 = 3 := by kernel_rfl
theorem open_threes {H : Type} {enc : TypeId × Value → H} {W : World} {base : Nat} {sp : Nat → Bool} {v : Value} {d : DataW H} {ps : List MemPlace}
    (hval : Value.okWide Try.prog W .any base 37 v) (h : DataW.Trod enc Try.prog W 0 sp true 37 v d ps) :
    ∃ (A : Option Addr) (n c : Nat) (l : List (Int × Int × Int)), v = .slice A n c ∧ n ≤ c ∧ n ≤ 9223372036854775807 ∧ TMem W A n l := by
  obtain ⟨A, n, c, rfl, hnc, hcm, hel⟩ := open_rowK Try.underlying37 hval h
  unfold maxLen at hcm
  rw [cellsOfThree] at hel
  have hx : ∀ i, i < n → ∃ x : Int × Int × Int, (B64 x.1 ∧ B64 x.2.1 ∧ B64 x.2.2) ∧ ∃ a, A = some a ∧ W.cell? (a.add (i * 3)) = some (.int .i64 x.1) ∧ W.cell? (a.add (i * 3 + 1)) = some (.int .i64 x.2.1) ∧ W.cell? (a.add (i * 3 + 2)) = some (.int .i64 x.2.2) := fun i hi => by
    obtain ⟨a, cs, y, m, ha, h1, h2⟩ := hel i hi
    obtain ⟨_, hlen, hcell⟩ := World.cells?_some h1
    match cs, hlen with
    | [k0, k1, k2], _ =>
      obtain ⟨y0, y1, y2, fu, _, t0, t1, t2⟩ := trod_array3 Try.underlying40 cellsOfInt h2
      obtain ⟨p, hp, _, wp⟩ := DataW.trod_int Try.underlying3 t0
      obtain ⟨q, hq, _, wq⟩ := DataW.trod_int Try.underlying3 t1
      obtain ⟨r, hr, _, wr⟩ := DataW.trod_int Try.underlying3 t2
      simp at hp hq hr
      subst hp hq hr
      have e0 := hcell 0 (by omega)
      have e1 := hcell 1 (by omega)
      have e2 := hcell 2 (by omega)
      rw [Deep.add_add] at e0 e1 e2
      exact ⟨(p, q, r), ⟨wfb wp, wfb wq, wfb wr⟩, a, ha, by simpa using e0, by simpa using e1, by simpa using e2⟩
  obtain ⟨f, hf⟩ := Deep.choose_lt hx
  refine ⟨A, n, c, (List.range n).map f, rfl, hnc, by omega, by rw [List.length_map, List.length_range], fun x hx => ?_, fun hn => ?_⟩
  · obtain ⟨i, hi, rfl⟩ := List.mem_map.1 hx
    exact (hf i (List.mem_range.1 hi)).1
  · obtain ⟨_, a, rfl, h0, _⟩ := hf 0 hn
    obtain ⟨b, off, spot⟩ := a
    have hspot : spot = none := by simpa [Addr.add] using World.cell?_spot h0
    subst hspot
    refine ⟨b, off, rfl, World.block_lt_of_cell? W _ (by simpa [Addr.add] using h0), fun j x hj => ?_⟩
    rw [List.getElem?_map, Option.map_eq_some_iff] at hj
    obtain ⟨i, hi, rfl⟩ := hj
    obtain ⟨hi1, rfl⟩ := List.getElem?_eq_some_iff.1 hi
    rw [List.length_range] at hi1
    rw [List.getElem_range]
    obtain ⟨_, a', ha', h1, h2, h3⟩ := hf j hi1
    cases ha'
    rw [add_plain] at h1 h2 h3
    exact ⟨h1, h2, h3⟩

/-- One of a few set. -/
def upd {α : Type} (f : Nat → α) (k : Nat) (v : α) : Nat → α := fun j => if j = k then v else f j
theorem upd_same {α : Type} (f : Nat → α) (k : Nat) (v : α) : upd f k v k = v := if_pos rfl
theorem upd_other {α : Type} (f : Nat → α) {k j : Nat} (v : α) (h : j ≠ k) : upd f k v j = f j := if_neg h
theorem upd_self {α : Type} (f : Nat → α) (k : Nat) : upd f k (f k) = f := by
  funext j
  unfold upd
  split
  · subst j; rfl
  · rfl

/-- The table's part: three addresses, each with what is known of it. -/
structure GSt (T : List SV) (ls : Nat → List Int) (q : Nat → Int) (k : Nat) : Prop where
  tab : Tab T
  got : ∀ j : Nat, j < 3 → gt T (2008 * (j : Int)) = (q j, ls j)
  none_ : ∀ b : Int, (∀ j : Nat, j < 3 → b ≠ 2008 * (j : Int)) → gt T b = (0, [])
  small : ∀ j : Nat, j < 3 → ∀ x ∈ ls j, x < 20
  cnt : ∀ j : Nat, j < 3 → 0 ≤ q j ∧ q j ≤ (k : Int)
theorem key_of {j : Nat} (h : j < 3) : IsKey (2008 * (j : Int)) := by
  match j, h with
  | 0, _ => exact ⟨by decide, by decide⟩
  | 1, _ => exact ⟨by decide, by decide⟩
  | 2, _ => exact ⟨by decide, by decide⟩
theorem b64_of {j : Nat} (h : j < 3) : B64 (2008 * (j : Int)) := ⟨by omega, by omega⟩
theorem GSt.zero : GSt [] (fun _ => []) (fun _ => 0) 0 :=
  ⟨Tab.nil, fun _ _ => rfl, fun _ _ => rfl, fun _ _ _ h => (by cases h), fun _ _ => ⟨Int.le_refl _, Int.le_refl _⟩⟩
section
variable {T U : List SV} {ls : Nat → List Int} {q : Nat → Int} {k κ : Nat}
theorem GSt.more (h : GSt T ls q k) : GSt T ls q (k + 1) :=
  ⟨h.tab, h.got, h.none_, h.small, fun j hj => by have := h.cnt j hj; omega⟩
theorem GSt.ln (h : GSt T ls q k) (hκ : κ < 3) : L7.Ln (ls κ) := by
  have h1 := (gt_cnt h.tab.2 (key_of hκ)).2.2.1
  rw [h.got κ hκ] at h1
  exact h1
/-- Twenty may stand in a line. -/
theorem GSt.len (h : GSt T ls q k) (hκ : κ < 3) : (ls κ).length ≤ 20 := by
  have hl := (h.ln hκ).2
  have hs : ls κ ⊆ (List.range 20).map fun i : Nat => (i : Int) := fun x hx => by
    have h0 := hl.1 x hx
    have h1 := h.small κ hκ x hx
    exact List.mem_map.2 ⟨x.toNat, List.mem_range.2 (by omega), by omega⟩
  have := hl.2.length_le_of_subset hs
  simpa using this
/-- It has three spots at most. -/
theorem GSt.few (h : GSt T ls q k) : T.length ≤ 3 := by
  have hin : ∀ x ∈ T, x.addr ∈ [0, 2008, 4016] := fun x hx => by
    refine Classical.byContradiction fun hc => ?_
    have hn := h.none_ x.addr (fun j hj e => hc (by
      match j, hj with
      | 0, _ => rw [e]; simp
      | 1, _ => rw [e]; simp
      | 2, _ => rw [e]; simp))
    exact (gt_has h.tab.2).1 ⟨x, hx, rfl⟩ hn
  have hnd : (T.map (·.addr)).Nodup := by
    unfold List.Nodup
    rw [List.pairwise_map]
    exact h.tab.2.2.imp fun {a b} hab e => by rw [e] at hab; exact hab.irrefl
  have hsub : T.map (·.addr) ⊆ [0, 2008, 4016] := fun a ha => by
    obtain ⟨x, hx, rfl⟩ := List.mem_map.1 ha
    exact hin x hx
  have := hnd.length_le_of_subset hsub
  simpa using this
theorem GSt.step (h : GSt T ls q k) (hκ : κ < 3) {q' : Int} {l' : List Int} (hs : Stp T (2008 * (κ : Int)) q' l' U) (hl : ∀ x ∈ l', x < 20) (hq : 0 ≤ q' ∧ q' ≤ ((k + 1 : Nat) : Int)) : GSt U (upd ls κ l') (upd q κ q') (k + 1) := by
  refine ⟨hs.tab, fun j hj => ?_, fun b hb => ?_, fun j hj => ?_, fun j hj => ?_⟩
  · by_cases e : j = κ
    · subst e; rw [upd_same, upd_same]; exact hs.got
    · rw [upd_other _ _ e, upd_other _ _ e, hs.other _ (by omega)]
      exact h.got j hj
  · rw [hs.other _ (hb κ hκ)]
    exact h.none_ b hb
  · by_cases e : j = κ
    · subst e; rw [upd_same]; exact hl
    · rw [upd_other _ _ e]; exact h.small j hj
  · by_cases e : j = κ
    · subst e; rw [upd_same]; exact hq
    · rw [upd_other _ _ e]; have := h.cnt j hj; omega
end

/-- The memory's part: the two arrays, and the lines, which are the call's own. -/
structure GMem (wr : World) (b4 b5 : Nat) (C : Nat → Option Addr) (nn d : Nat → Nat) (ls : Nat → List Int) (q : Nat → Int) : Prop where
  ex4 : ∃ vs : Array Value, vs.size = 3 ∧ Blk wr b4 vs 39 ∧ ∀ j, j < 3 → vs[j]? = some (.slice (C j) (nn j) (d j))
  ex5 : ∃ vs : Array Value, vs.size = 3 ∧ Blk wr b5 vs 40 ∧ ∀ j, j < 3 → vs[j]? = some (.int .i64 (q j))
  own : ∀ j, j < 3 → IOwn (b5 + 1) wr (C j) (nn j) (d j) (ls j)
  lt : b4 < b5
section
variable {wr w' : World} {b4 b5 : Nat} {C : Nat → Option Addr} {nn d : Nat → Nat} {ls : Nat → List Int} {q : Nat → Int} {κ : Nat}
theorem GMem.gr (h : GMem wr b4 b5 C nn d ls q) (g : Gr wr w') : GMem w' b4 b5 C nn d ls q := by
  obtain ⟨vs, h1, h2, h3⟩ := h.ex4
  obtain ⟨us, k1, k2, k3⟩ := h.ex5
  exact ⟨⟨vs, h1, h2.gr g, h3⟩, ⟨us, k1, k2.gr g, k3⟩, fun j hj => (h.own j hj).gr g, h.lt⟩
theorem GMem.line (h : GMem wr b4 b5 C nn d ls q) (hκ : κ < 3) : wr.cell? ⟨b4, κ, none⟩ = some (.slice (C κ) (nn κ) (d κ)) ∧ wr.frozen? ⟨b4, κ, none⟩ = false := by
  obtain ⟨vs, h1, h2, h3⟩ := h.ex4
  exact h2.at_ (h3 κ hκ)
theorem GMem.left (h : GMem wr b4 b5 C nn d ls q) (hκ : κ < 3) : wr.cell? ⟨b5, κ, none⟩ = some (.int .i64 (q κ)) ∧ wr.frozen? ⟨b5, κ, none⟩ = false := by
  obtain ⟨vs, h1, h2, h3⟩ := h.ex5
  exact h2.at_ (h3 κ hκ)
theorem GMem.size4 (h : GMem wr b4 b5 C nn d ls q) : b4 < wr.heap.size := by
  obtain ⟨vs, h1, h2, h3⟩ := h.ex4
  exact h2.lt
theorem GMem.size5 (h : GMem wr b4 b5 C nn d ls q) : b5 < wr.heap.size := by
  obtain ⟨vs, h1, h2, h3⟩ := h.ex5
  exact h2.lt
theorem put_at {vs : Array Value} {f : Nat → Value} {v : Value} (hs : vs.size = 3) (hf : ∀ j, j < 3 → vs[j]? = some (f j)) (hκ : κ < 3) : ∀ j, j < 3 → (vs.setIfInBounds κ v)[j]? = some (upd f κ v j) := fun j hj => by
  rw [Array.getElem?_setIfInBounds]
  by_cases e : κ = j
  · subst e; rw [if_pos rfl, if_pos (by omega), upd_same]
  · rw [if_neg e, upd_other _ _ (fun h => e h.symm)]; exact hf j hj
theorem GMem.put4 (h : GMem wr b4 b5 C nn d ls q) (hκ : κ < 3) {C' : Option Addr} {n' d' : Nat} {l' : List Int} (ho : IOwn (b5 + 1) wr C' n' d' l') :
    GMem (wr.setCell ⟨b4, κ, none⟩ (.slice C' n' d')) b4 b5 (upd C κ C') (upd nn κ n') (upd d κ d') (upd ls κ l') q := by
  obtain ⟨vs, h1, h2, h3⟩ := h.ex4
  obtain ⟨us, k1, k2, k3⟩ := h.ex5
  have hl := h.lt
  refine ⟨⟨vs.setIfInBounds κ (.slice C' n' d'), by simpa using h1, h2.set κ _, fun j hj => ?_⟩, ⟨us, k1, k2.st (by show b4 ≠ b5; omega) _, k3⟩, fun j hj => ?_, hl⟩
  · rw [put_at (f := fun j => .slice (C j) (nn j) (d j)) h1 h3 hκ j hj]
    unfold upd
    split <;> rfl
  · by_cases e : j = κ
    · subst e; rw [upd_same, upd_same, upd_same, upd_same]; exact ho.st (by show b4 < b5 + 1; omega) _
    · rw [upd_other _ _ e, upd_other _ _ e, upd_other _ _ e, upd_other _ _ e]; exact (h.own j hj).st (by show b4 < b5 + 1; omega) _
theorem GMem.put5 (h : GMem wr b4 b5 C nn d ls q) (hκ : κ < 3) (q' : Int) : GMem (wr.setCell ⟨b5, κ, none⟩ (.int .i64 q')) b4 b5 C nn d ls (upd q κ q') := by
  obtain ⟨vs, h1, h2, h3⟩ := h.ex4
  obtain ⟨us, k1, k2, k3⟩ := h.ex5
  have hl := h.lt
  refine ⟨⟨vs, h1, h2.st (by show b5 ≠ b4; omega) _, h3⟩, ⟨us.setIfInBounds κ (.int .i64 q'), by simpa using k1, k2.set κ _, fun j hj => ?_⟩, fun j hj => (h.own j hj).st (by show b5 < b5 + 1; omega) _, hl⟩
  rw [put_at (f := fun j => .int .i64 (q j)) k1 k3 hκ j hj]
  unfold upd
  split <;> rfl
end
set_option maxRecDepth 100000 in
set_option maxHeartbeats 8000000 in
theorem SemaGrants_walk (w : World) (A0 : Option Addr) (n0 c0 : Nat) (l0 : List (Int × Int × Int)) (hc : n0 ≤ c0) (hn : n0 ≤ 9223372036854775807) (hm0 : TMem w A0 n0 l0) :
    Calls Try.prog 4 #[.slice A0 n0 c0] w fun e w' => e = .returned (.bool true) ∧ Gr w w' := by
  have CAL := Lib.hid alive_ok
  have HI := Lib.hid hm0
  obtain ⟨M, hM⟩ : ∃ M, (min (n0 : Int) 150).toNat = M := ⟨_, rfl⟩
  have hMn : M ≤ n0 := by omega
  have hM150 : M ≤ 150 := by omega
  have hi : min (n0 : Int) 150 = (M : Int) := by omega
  have hM0 : (0 : Int) ≤ (M : Int) := by omega
  have hM1 : (M : Int) ≤ (c0 : Int) := by omega
  have g0 := ((Gr.refl w).al (.cells #[.slice none 0 0, .slice none 0 0, .slice none 0 0] 39)).al (.cells #[.int .i64 0, .int .i64 0, .int .i64 0] 40)
  have B4 := (Blk.new w #[.slice none 0 0, .slice none 0 0, .slice none 0 0] 39).al (.cells #[.int .i64 0, .int .i64 0, .int .i64 0] 40)
  have B5 := Blk.new (w.alloc (.cells #[.slice none 0 0, .slice none 0 0, .slice none 0 0] 39)) #[.int .i64 0, .int .i64 0, .int .i64 0] 40
  simp only [World.size_alloc] at B5
  have GM0 : Hid (GMem ((w.alloc (.cells #[.slice none 0 0, .slice none 0 0, .slice none 0 0] 39)).alloc (.cells #[.int .i64 0, .int .i64 0, .int .i64 0] 40)) w.heap.size (w.heap.size + 1) (fun _ => none) (fun _ => 0) (fun _ => 0) (fun _ => []) (fun _ => 0)) := Lib.hid
    ⟨⟨_, rfl, B4, fun j hj => by match j, hj with | 0, _ => rfl | 1, _ => rfl | 2, _ => rfl⟩, ⟨_, rfl, B5, fun j hj => by match j, hj with | 0, _ => rfl | 1, _ => rfl | 2, _ => rfl⟩, fun _ _ => OMem.nil_, Nat.lt_succ_self _⟩
  have G0 := Lib.hid g0
  clear hm0 hM B4 B5 g0
  go_enter Try.func4, Try.ntmps4
  go_wp2_with fail
  go_loopw [3, 23] (fun V3 i wr => ∃ (k N m : Nat) (B : Option Addr) (T : List SV) (C : Nat → Option Addr) (nn d : Nat → Nat) (ls : Nat → List Int) (q : Nat → Int), k ≤ M ∧ i = .int .i64 (k : Int) ∧ V3 = .slice B N m ∧
    Hid (GMem wr w.heap.size (w.heap.size + 1) C nn d ls q) ∧ Hid (GSt T ls q k) ∧ Hid (SMem wr B N T) ∧ Hid (N ≤ m) ∧ Hid (m ≤ 9223372036854775807) ∧ Hid (Gr w wr)) (fun _ i _ => M - (intOf i).toNat)
  case atStart => exact ⟨0, 0, 0, none, [], _, _, _, _, _, Nat.zero_le _, rfl, rfl, GM0, Lib.hid GSt.zero, Lib.hid SMem.nil_, Lib.hid (Nat.le_refl _), Lib.hid (Nat.zero_le _), G0⟩
  case round =>
    clear GM0 G0
    obtain ⟨k, N, m, B, T, C, nn, d, ls, q, hk, rfl, rfl, HGM, HST, HT, HLE, HMX, HG⟩ := hrel
    by_cases hlt : k < M
    · obtain ⟨b, off, x0, x1, x2, rfl, hbl, i0, i1, i2, y0, y1, y2⟩ := (HI.out.gr HG.out).at_ (show k < n0 by omega)
      obtain ⟨t1, u1, κ, e1, e2, e3, hκ⟩ := mods x1 3 (by decide) (by decide)
      obtain ⟨t2, u2, ω, f1, f2, f3, hω⟩ := mods x2 20 (by decide) (by decide)
      obtain ⟨t3, h3⟩ : ∃ t, x0.tmod 2 = t := ⟨_, rfl⟩
      obtain ⟨t4, h4⟩ : ∃ t, x0.tmod 4 = t := ⟨_, rfl⟩
      obtain ⟨b0, hb0⟩ : ∃ b0, (t3 == 0) = b0 := ⟨_, rfl⟩
      obtain ⟨fb, hfb⟩ : ∃ fb, (t4 == 0) = fb := ⟨_, rfl⟩
      have e1' : x1.tmod 3 = t1 := e1
      have e2' : wrap64 (t1 + 3) = u1 := e2
      have e3' : u1.tmod 3 = (κ : Int) := e3
      have f1' : x2.tmod 20 = t2 := f1
      have f2' : wrap64 (t2 + 20) = u2 := f2
      have f3' : u2.tmod 20 = (ω : Int) := f3
      have k0 : (0 : Int) ≤ (k : Int) := by omega
      have k1 : (k : Int) < (M : Int) := by omega
      have z3 : ¬ (3 : Int) = 0 := by decide
      have z20 : ¬ (20 : Int) = 0 := by decide
      have CA := Lib.hid (fun W (g : Gr wr W) => Acquire_own (HT.out.gr g) HLE.out HMX.out (b64_of hκ) (who := (ω : Int)) ⟨by omega, by omega⟩ (first := fb))
      have CR := Lib.hid (fun W (g : Gr wr W) => Release_own (HT.out.gr g) HLE.out HMX.out (b64_of hκ))
      have G1 := Lib.hid ((Gr.refl wr).al (.cells #[.int .i64 x0, .int .i64 x1, .int .i64 x2] 40))
      clear e1 e2 e3 f1 f2 f3 i0 i1 i2
      go_wp2_with fail
      go_quiet (fail)
      have GX := G1.out.drN nq
      have X0 : ((wr.alloc (.cells #[.int .i64 x0, .int .i64 x1, .int .i64 x2] 40)).drewN nq).cell? ⟨wr.heap.size, 0, none⟩ = some (.int .i64 x0) := ((Blk.new wr #[.int .i64 x0, .int .i64 x1, .int .i64 x2] 40).at_ (k := 0) rfl).1
      generalize (wr.alloc (.cells #[.int .i64 x0, .int .i64 x1, .int .i64 x2] 40)).drewN nq = X at GX X0 ⊢
      have HGX := Lib.hid GX
      have κ0 : (0 : Int) ≤ (κ : Int) := by omega
      have κ3 : (κ : Int) < 3 := by omega
      have z2 : ¬ (2 : Int) = 0 := by decide
      have z4 : ¬ (4 : Int) = 0 := by decide
      obtain ⟨Cκ, hC⟩ : ∃ c, C κ = c := ⟨_, rfl⟩
      obtain ⟨nκ, hnκ⟩ : ∃ c, nn κ = c := ⟨_, rfl⟩
      obtain ⟨dκ, hdκ⟩ : ∃ c, d κ = c := ⟨_, rfl⟩
      obtain ⟨lκ, hlκ⟩ : ∃ c, ls κ = c := ⟨_, rfl⟩
      obtain ⟨qκ, hqκ⟩ : ∃ c, q κ = c := ⟨_, rfl⟩
      have own := HGM.out.own κ hκ
      have line := HGM.out.line hκ
      have left := HGM.out.left hκ
      have hcnt := HST.out.cnt κ hκ
      have hlen := HST.out.len hκ
      have hgot := HST.out.got κ hκ
      rw [hC, hnκ, hdκ, hlκ] at own
      rw [hC, hnκ, hdκ] at line
      rw [hqκ] at left hcnt hgot
      rw [hlκ] at hlen hgot
      have HOWN := Lib.hid own
      have HGOT := Lib.hid hgot
      have HLN := Lib.hid (own.mem.1)
      have hq0 := hcnt.1
      have hq1 := hcnt.2
      have L4 : Hid (∀ W, Gr wr W → W.cell? ⟨w.heap.size, κ, none⟩ = some (.slice Cκ nκ dκ) ∧ W.frozen? ⟨w.heap.size, κ, none⟩ = false) := Lib.hid fun W g => ⟨(g.cell (p := ⟨w.heap.size, κ, none⟩) HGM.out.size4).trans line.1, (g.frozen (p := ⟨w.heap.size, κ, none⟩) HGM.out.size4).trans line.2⟩
      have L5 : Hid (∀ W, Gr wr W → W.cell? ⟨w.heap.size + 1, κ, none⟩ = some (.int .i64 qκ) ∧ W.frozen? ⟨w.heap.size + 1, κ, none⟩ = false) := Lib.hid fun W g => ⟨(g.cell (p := ⟨w.heap.size + 1, κ, none⟩) HGM.out.size5).trans left.1, (g.frozen (p := ⟨w.heap.size + 1, κ, none⟩) HGM.out.size5).trans left.2⟩
      have UP : Hid (C κ = Cκ ∧ nn κ = nκ ∧ d κ = dκ ∧ ls κ = lκ ∧ q κ = qκ) := Lib.hid ⟨hC, hnκ, hdκ, hlκ, hqκ⟩
      have hn20 : nκ ≤ 20 := by rw [← own.mem.1]; exact hlen
      have FAR4 : Hid (∀ (B' : Option Addr) (N' m' : Nat) (T' : List SV) (W : World), Gr wr W → ∀ W', SOwn W' W.heap.size (.slice B' N' m') T' → Far (some w.heap.size) B' N' T' ∧ Far (some (w.heap.size + 1)) B' N' T') := Lib.hid fun B' N' m' T' W g W' h => by
        have h5 := HGM.out.size5
        have h6 := g.size
        exact ⟨h.far fun k e => by cases e; omega, h.far fun k e => by cases e; omega⟩
      clear hC hnκ hdκ hlκ hqκ own line left hcnt hlen hgot y0 y1 y2 GX e1' e2' e3' f1' f2' f3'
      cases b0 with
      | true =>
        go_wp2_with fail
        with_reducible refine (CA.out _ HGX.out).mono ?_
        rintro ee w5 ⟨B5, m5, N5, is, e, rfl, T5, hT5l, hT5, hle5, hmx5, hR5, h5, hso5⟩
        have g5 := HGX.out.trans h5
        have H5 := Lib.hid g5
        obtain ⟨l5, z5⟩ := L4.out _ g5
        obtain ⟨p, hp, hCP⟩ := L7.rPlace_any (c := dκ) (HOWN.out.mem.gr g5) (by omega) (ω : Int)
        have CP := Lib.hid hCP
        have far5 := Lib.hid (FAR4.out _ _ _ _ _ HGX.out _ hso5)
        have HT5 := Lib.hid hT5
        have HLE5 := Lib.hid hle5
        have HMX5 := Lib.hid hmx5
        clear hso5 hT5 hT5l hle5 hmx5 hCP h5 CA CR
        by_cases hin : (ω : Int) ∈ lκ
        · have he7 : e = 7 := by
            rcases hR5.plain with ⟨_, _, _, hiff⟩ | ⟨_, _, _, _, hno, _⟩
            · exact hiff.2 ⟨HST.out.tab, key_of hκ, by omega, by rw [HGOT.out]; exact hin⟩
            · rw [HGOT.out] at hno; exact absurd hin hno
          subst he7
          have hpp : ¬ p < 0 := fun h => hp.1 h hin
          have hpp' : 0 ≤ p := by omega
          clear hp hin hR5 far5 HT5 HLE5 HMX5
          go_wp2_with fail
          with_reducible refine CP.out.mono ?_
          rintro ee w6 ⟨rfl, hw6⟩
          obtain rfl : w5 = w6 := hw6.symm
          go_wp2_with fail
          go_roundw
          case rel => exact ⟨k + 1, N, m, B, T, C, nn, d, ls, q, by omega, by go_num, rfl, Lib.hid (HGM.out.gr H5.out), Lib.hid HST.out.more, Lib.hid (HT.out.gr H5.out), HLE, HMX, Lib.hid (HG.out.trans H5.out)⟩
          case measure => simp [intOf]; omega
        · have hpp : p < 0 := hp.2 hin
          have hpp' : ¬ 0 ≤ p := by omega
          have hfew : T.length < 64 := by have := HST.out.few; omega
          have hlen64 : lκ.length < 64 := by rw [HLN.out]; omega
          obtain rfl : e = 0 := hR5.must HST.out.tab (key_of hκ) (by omega) (by rw [HGOT.out]; exact hin) (by rw [HGOT.out]; exact hlen64) (.inr hfew)
          obtain ⟨_, _, _, _, _, hcase⟩ := hR5.plain.resolve_left (fun h => h.1 rfl)
          rw [HGOT.out] at hcase
          rcases hcase with ⟨hqp, rfl, hS⟩ | ⟨hqz, _, rfl, hS⟩
          · have hqp' : 0 < qκ := hqp
            obtain ⟨l5', y5'⟩ := L5.out _ H5.out
            have HST5 : Hid (GSt T5 ls (upd q κ (qκ - 1)) (k + 1)) := Lib.hid (by
              have h := HST.out.step hκ hS (by have := HST.out.small κ hκ; rw [UP.out.2.2.2.1] at this; exact this) ⟨by show 0 ≤ qκ - 1; omega, by show qκ - 1 ≤ ((k + 1 : Nat) : Int); omega⟩
              have e : upd ls κ (gt T (2008 * (κ : Int))).2 = ls := by rw [HST.out.got κ hκ]; exact upd_self ls κ
              have e' : upd ls κ lκ = ls := by rw [← UP.out.2.2.2.1]; exact upd_self ls κ
              rw [e'] at h
              exact h)
            have HGM5 := Lib.hid ((HGM.out.gr H5.out).put5 hκ (qκ - 1))
            have HT5' := Lib.hid (Far.kept HT5.out far5.out.2 (grownBy_cell w5 (w.heap.size + 1) κ (.int .i64 (qκ - 1))))
            have HG5 := Lib.hid ((HG.out.trans H5.out).st (p := ⟨w.heap.size + 1, κ, none⟩) (Nat.le_succ _) (.int .i64 (qκ - 1)))
            clear hp hin hR5 far5 HT5 hS hqp hfew hlen64
            go_wp2_with fail
            with_reducible refine CP.out.mono ?_
            rintro ee w6 ⟨rfl, hw6⟩
            obtain rfl : w5 = w6 := hw6.symm
            go_wp2_with fail
            go_roundw
            case rel => exact ⟨k + 1, N5, m5, B5, T5, C, nn, d, ls, upd q κ (qκ - 1), by omega, by go_num, rfl, HGM5, HST5, HT5', HLE5, HMX5, HG5⟩
            case measure => simp [intOf]; omega
          · obtain rfl : qκ = 0 := hqz
            obtain ⟨l5', y5'⟩ := L5.out _ H5.out
            have HST5 : Hid (GSt T5 (upd ls κ (psh fb lκ (ω : Int))) q (k + 1)) := Lib.hid (by
              have h := HST.out.step hκ hS (fun x hx => by
                have hsm := HST.out.small κ hκ
                rw [UP.out.2.2.2.1] at hsm
                have hx' : x ∈ psh fb lκ (ω : Int) := hx
                unfold psh at hx'
                split at hx'
                · rcases List.mem_cons.1 hx' with h | h
                  · omega
                  · exact hsm x h
                · rcases List.mem_append.1 hx' with h | h
                  · exact hsm x h
                  · rw [List.mem_singleton] at h; omega) ⟨Int.le_refl _, by omega⟩
              have e' : upd q κ 0 = q := by rw [← UP.out.2.2.2.2]; exact upd_self q κ
              rw [e'] at h
              exact h)
            have CPU := Lib.hid (L7.rPush_is (c := dκ) (HOWN.out.mem.gr H5.out) (by omega) (who := (ω : Int)) ⟨by omega, by omega⟩ (first := fb) (R := psh fb lκ (ω : Int)) rfl)
            clear hp hin hR5 hS hfew hlen64
            generalize psh fb lκ (ω : Int) = P at *
            go_wp2_with fail
            with_reducible refine CP.out.mono ?_
            rintro ee w6 ⟨rfl, hw6⟩
            obtain rfl : w5 = w6 := hw6.symm
            clear hw6
            go_wp2_with fail
            with_reducible refine CPU.out.mono ?_
            rintro ee w7 ⟨C7, k7, rfl, own7, h7⟩
            have g7 := H5.out.trans h7
            obtain ⟨l7, z7⟩ := L4.out _ g7
            obtain ⟨n7, hn7⟩ : ∃ n7, nκ + 1 = n7 := ⟨_, rfl⟩
            rw [hn7] at own7 ⊢
            have HGM7 := Lib.hid ((HGM.out.gr g7).put4 hκ (own7.low (show w.heap.size + 1 + 1 ≤ w5.heap.size from Nat.le_trans HGM.out.size5 H5.out.size)))
            have HT7 := Lib.hid (Far.kept (HT5.out.gr h7) far5.out.1 (grownBy_cell w7 w.heap.size κ (.slice C7 n7 k7)))
            have HG7 := Lib.hid ((HG.out.trans g7).st (p := ⟨w.heap.size, κ, none⟩) (Nat.le_refl _) (.slice C7 n7 k7))
            clear own7 h7 g7 hn7 CPU CP far5 HT5 l5 z5 l5' y5'
            go_wp2_with fail
            go_roundw
            case rel => exact ⟨k + 1, N5, m5, B5, T5, upd C κ C7, upd nn κ n7, upd d κ k7, upd ls κ P, q, by omega, by go_num, rfl, HGM7, HST5, HT7, HLE5, HMX5, HG7⟩
            case measure => simp [intOf]; omega
      | false =>
        go_wp2_with fail
        with_reducible refine (CR.out _ HGX.out).mono ?_
        rintro ee w5 ⟨B5, m5, N5, x, e, rfl, T5, hT5l, hT5, hle5, hmx5, hR5, h5, hso5⟩
        have g5 := HGX.out.trans h5
        have H5 := Lib.hid g5
        obtain ⟨l5, z5⟩ := L4.out _ g5
        obtain ⟨l5', z5'⟩ := L5.out _ g5
        have far5 := Lib.hid (FAR4.out _ _ _ _ _ HGX.out _ hso5)
        have HT5 := Lib.hid hT5
        have HLE5 := Lib.hid hle5
        have HMX5 := Lib.hid hmx5
        have hfew : T.length < 64 := by have := HST.out.few; omega
        obtain rfl : e = 0 := hR5.must HST.out.tab (key_of hκ) (by rw [HGOT.out]; show qκ < 2147483647; omega) (.inr hfew)
        obtain ⟨_, _, _, hcase⟩ := hR5.plain.resolve_left (fun h => h.1 rfl)
        rw [HGOT.out] at hcase
        clear hso5 hT5 hT5l hle5 hmx5 h5 CA CR hfew hR5 g5
        rcases hcase with ⟨r, hqz, hl, hS⟩ | ⟨hl, _, rfl, hS⟩
        · obtain rfl : lκ = x :: r := hl
          obtain rfl : qκ = 0 := hqz
          have hn1 : 1 ≤ nκ := by have := HLN.out; simp at this; omega
          have hcut := HOWN.out.cut 1 hn1
          have hcd := HOWN.out.le
          have hcm := HOWN.out.max
          unfold maxLen at hcm
          rw [show (x :: r).drop 1 = r from rfl] at hcut
          obtain ⟨bC, oC, y, rfl, hbC, hy, hiy, cy⟩ := HOWN.out.mem.at_ (show 0 < nκ by omega)
          obtain rfl : x = y := by simpa using hy
          rw [Nat.add_zero] at cy
          have cy5 : w5.cell? ⟨bC, oC, none⟩ = some (.int .i64 x) := (H5.out.cell (p := ⟨bC, oC, none⟩) hbC).trans cy
          have ne0 : ((nκ : Int) == 0) = false := beq_eq_false_iff_ne.2 (by omega)
          have hxx : (x != x) = false := by simp
          have y1 : (1 : Int) ≤ (nκ : Int) := by omega
          have y2 : (nκ : Int) ≤ (dκ : Int) := by omega
          have y3 : (0 : Int) < (nκ : Int) := by omega
          have HST5 : Hid (GSt T5 (upd ls κ r) q (k + 1)) := Lib.hid (by
            have h := HST.out.step hκ hS (fun z hz => by
              have hsm := HST.out.small κ hκ
              rw [UP.out.2.2.2.1] at hsm
              exact hsm z (List.mem_cons_of_mem _ hz)) ⟨Int.le_refl _, by omega⟩
            have e' : upd q κ 0 = q := by rw [← UP.out.2.2.2.2]; exact upd_self q κ
            rw [e'] at h
            exact h)
          obtain ⟨n7, hn7⟩ : ∃ n7, nκ - 1 = n7 := ⟨_, rfl⟩
          obtain ⟨d7, hd7⟩ : ∃ d7, dκ - 1 = d7 := ⟨_, rfl⟩
          rw [hn7, hd7] at hcut
          obtain ⟨C7, hC7⟩ : ∃ C7 : Option Addr, (dκ = 1 ∧ C7 = some ⟨bC, oC, none⟩) ∨ (¬ dκ = 1 ∧ C7 = some ⟨bC, oC + 1, none⟩) := by
            by_cases h : dκ = 1
            · exact ⟨_, .inl ⟨h, rfl⟩⟩
            · exact ⟨_, .inr ⟨h, rfl⟩⟩
          have own7 : IOwn (w.heap.size + 1 + 1) wr C7 n7 d7 r := by
            rcases hC7 with ⟨h, rfl⟩ | ⟨h, rfl⟩
            · rw [if_pos (by omega)] at hcut; exact hcut
            · rw [if_neg (by omega), Option.map_some, add_plain] at hcut; exact hcut
          have HGM7 := Lib.hid ((HGM.out.gr H5.out).put4 hκ (own7.gr H5.out))
          have HT7 := Lib.hid (Far.kept HT5.out far5.out.1 (grownBy_cell w5 w.heap.size κ (.slice C7 n7 d7)))
          have HG7 := Lib.hid ((HG.out.trans H5.out).st (p := ⟨w.heap.size, κ, none⟩) (Nat.le_refl _) (.slice C7 n7 d7))
          clear hcut own7 hy hiy hbC cy hS far5 HT5 l5' z5' HOWN UP HGOT HLN L4 L5 FAR4
          rcases hC7 with ⟨rfl, rfl⟩ | ⟨hd1, rfl⟩
          all_goals (
            go_wp2_with fail
            go_roundw
            case rel => exact ⟨k + 1, N5, m5, B5, T5, upd C κ _, upd nn κ n7, upd d κ d7, upd ls κ r, q, by omega, by go_num, rfl, HGM7, HST5, HT7, HLE5, HMX5, HG7⟩
            case measure => simp [intOf]; omega)
        · obtain rfl : lκ = [] := hl
          obtain rfl : 0 = nκ := HLN.out
          have HST5 : Hid (GSt T5 ls (upd q κ (qκ + 1)) (k + 1)) := Lib.hid (by
            have h := HST.out.step hκ hS (fun z hz => by cases hz) ⟨by show 0 ≤ qκ + 1; omega, by show qκ + 1 ≤ ((k + 1 : Nat) : Int); omega⟩
            have e' : upd ls κ [] = ls := by rw [← UP.out.2.2.2.1]; exact upd_self ls κ
            rw [e'] at h
            exact h)
          have HGM5 := Lib.hid ((HGM.out.gr H5.out).put5 hκ (qκ + 1))
          have HT5' := Lib.hid (Far.kept HT5.out far5.out.2 (grownBy_cell w5 (w.heap.size + 1) κ (.int .i64 (qκ + 1))))
          have HG5 := Lib.hid ((HG.out.trans H5.out).st (p := ⟨w.heap.size + 1, κ, none⟩) (Nat.le_succ _) (.int .i64 (qκ + 1)))
          clear hS far5 HT5 HOWN UP HGOT HLN L4 L5 FAR4
          go_wp2_with fail
          go_roundw
          case rel => exact ⟨k + 1, N5, m5, B5, T5, C, nn, d, ls, upd q κ (qκ + 1), by omega, by go_num, rfl, HGM5, HST5, HT5', HLE5, HMX5, HG5⟩
          case measure => simp [intOf]; omega
    · obtain rfl : k = M := by omega
      go_wp2_with fail
      with_reducible refine (CAL.out _).mono ?_
      rintro ee w4 ⟨rfl, h4⟩
      have G4 := Lib.hid (HG.out.trans h4)
      clear h4
      go_wp2_with fail
      go_ret
      exact ⟨rfl, G4.out⟩
set_option maxRecDepth 100000 in
theorem SemaGrants_lifted (os : Os) (started : os.Started) (H : Type) (enc : TypeId × Value → H) :
    ReturnsInHanded {} Try.checked os 4 .any (Rows.semaGrantsSpec.pre6 enc Try.prog Try.f4 Rows.semaGrantsRow.domain false) (Rows.semaGrantsSpec.post enc Try.prog Try.f4 false true false false) := by
  refine returnsInHanded_of_change (C := Try.checked) own started (by kernel_rfl) Try.func4
    (ChangeSpec.witness6 (enc := enc) (C := Try.checked) false ⟨#[], #[.slice none 0 0], []⟩ 8 (by kernel_rfl) (by kernel_rfl) (by kernel_rfl) (by kernel_rfl)) ?_
  intro W base args ds gs before hval0 hW hcnd _
  have hval : ∀ (j : Nat) t v, Try.f4.params[j]? = some t → args[j]? = some v → Value.okWide Try.prog W .any base t v := hval0
  have hW' := hW
  obtain ⟨p, q, hA0, hV, rfl, hfz, hnd⟩ := hW
  have hA : DataW.TrodAll enc Try.prog W 0 (fun _ => true) true Try.f4.params.toList args.toList ds p := hA0
  rw [Try.params4] at hA hval
  have hK := hA
  obtain ⟨v0, vs0, d0, ds0, p0, q0, hargs, rfl, hp, h0, r0⟩ := trodAll_cons hA
  obtain ⟨rfl, rfl, rfl⟩ := trodAll_nil r0
  obtain rfl : args = #[v0] := by cases args; simp_all
  obtain ⟨rfl, rfl⟩ := trodVars_none hV
  obtain ⟨A0, n0, c0, l0, rfl, hc0, hn0, hm0⟩ := open_threes (hval 0 37 v0 rfl rfl) h0
  clear hA0 hval0
  refine (SemaGrants_walk W A0 n0 c0 l0 hc0 hn0 hm0).mono fun e W' ⟨he, hg⟩ => ?_
  subst he
  exact ⟨_, rfl, post_below (pa := p) (pv := []) hW' (fun _ _ _ => (trodAll_cons_mk (shut_bool Try.underlying4 _) trodAll_mk0))
    (fun sp hs => trodAll_stays laidOut hg sp (by kernel_rfl) hK (fun x hx => hW'.lt x (List.mem_append_left _ hx)) (fun x hx => hs x (List.mem_append_left _ hx))) (fun _ _ => rfl) rfl
    hg (ok_one (by kernel_rfl) rfl (okWide_bool_mk Try.underlying4 _))⟩

theorem SemaGrants_over : Rows.semaGrantsRow.holds Try.pinned (OpenSpec.ofChange Rows.semaGrantsSpec) :=
  OpenClaim.holds_of_wide 4 Try.f4 rfl rfl rfl rfl rfl rfl rfl ⟨rfl, rfl, rfl, rfl, rfl⟩ rfl rfl rfl rfl rfl (by kernel_rfl) Try.func4 (by kernel_rfl)
    (of_decide_eq_true (by kernel_rfl)) (by unfold Func.isWrapper; first | (rw [if_pos (by decide +kernel)]; kernel_rfl) | (rw [if_neg (by decide +kernel)]; exact ⟨rfl, rfl⟩))
    (fun os started H enc _ => SemaGrants_lifted os started H enc)

/-- The statement. -/
theorem SemaGrants_holds : Rows.SemaGrantsSaid :=
  SemaGrants_over
#print axioms SemaGrants_holds
end Go.Proofs.Ytmkkeknimpjfoaa
