/-
  A slice of spots that reads as a list; a row of spots of the call's own, appended to; parameters []api.Spot and api.Spot, opened.
-/
import Derived.Test.YtmkkeknimpjfoaaRootMath
import Derived.Test.YtmkkeknimpjfoaaTreapMem
namespace Go.Proofs.Ytmkkeknimpjfoaa
open Go.ChangeShapes Go.WideShapes Go.ChangeAt Go.RowKit Go.Joins
set_option maxRecDepth 100000
set_option linter.unusedVariables false

/-- Its numbers are ints, and its line reads. -/
def SV.ok (w : World) (x : SV) : Prop := B64 x.addr ∧ B64 x.cnt ∧ IMem w x.A x.n x.line ∧ x.n ≤ x.c ∧ x.c ≤ 9223372036854775807
theorem SV.ok.gr {w w' : World} {x : SV} (h : x.ok w) (g : Gr w w') : x.ok w' := ⟨h.1, h.2.1, h.2.2.1.gr g, h.2.2.2⟩
theorem SV.ok.len {w : World} {x : SV} (h : x.ok w) : x.line.length = x.n := h.2.2.1.1
theorem SV.ok.lt {w : World} {x : SV} (h : x.ok w) : x.n ≤ 9223372036854775807 := by have := h.2.2.2; omega
/-- The slice at A, of n spots, reads as l. -/
def SMem (w : World) (A : Option Addr) (n : Nat) (l : List SV) : Prop :=
  l.length = n ∧ (∀ x ∈ l, x.ok w) ∧ (0 < n → ∃ b off, A = some ⟨b, off, none⟩ ∧ b < w.heap.size ∧ ∀ j x, l[j]? = some x →
    w.cell? ⟨b, off + j * 3, none⟩ = some (.int .i64 x.addr) ∧ w.cell? ⟨b, off + j * 3 + 1, none⟩ = some (.int .i64 x.cnt) ∧ w.cell? ⟨b, off + j * 3 + 2, none⟩ = some (.slice x.A x.n x.c))
section
variable {w w' : World} {A : Option Addr} {n : Nat} {l : List SV}
theorem SMem.nil_ {A : Option Addr} : SMem w A 0 [] := ⟨rfl, by simp, fun h => absurd h (by omega)⟩
theorem SMem.gr (h : SMem w A n l) (g : Gr w w') : SMem w' A n l :=
  ⟨h.1, fun x hx => (h.2.1 x hx).gr g, fun hn => by
    obtain ⟨b, off, rfl, hlt, hc⟩ := h.2.2 hn
    refine ⟨b, off, rfl, Nat.lt_of_lt_of_le hlt g.size, fun j x hj => ?_⟩
    rw [g.cell (p := ⟨b, off + j * 3, none⟩) hlt, g.cell (p := ⟨b, off + j * 3 + 1, none⟩) hlt, g.cell (p := ⟨b, off + j * 3 + 2, none⟩) hlt]
    exact hc j x hj⟩
theorem SMem.at_ {k : Nat} (h : SMem w A n l) (hk : k < n) :
    ∃ b off x, A = some ⟨b, off, none⟩ ∧ b < w.heap.size ∧ l[k]? = some x ∧ x.ok w ∧
      w.cell? ⟨b, off + k * 3, none⟩ = some (.int .i64 x.addr) ∧ w.cell? ⟨b, off + k * 3 + 1, none⟩ = some (.int .i64 x.cnt) ∧ w.cell? ⟨b, off + k * 3 + 2, none⟩ = some (.slice x.A x.n x.c) := by
  obtain ⟨b, off, e, hb, hc⟩ := h.2.2 (by omega)
  have hl : k < l.length := by have := h.1; omega
  have hx : l[k]? = some l[k] := List.getElem?_eq_getElem hl
  obtain ⟨c0, c1, c2⟩ := hc k _ hx
  exact ⟨b, off, l[k], e, hb, hx, h.2.1 _ (List.getElem_mem hl), c0, c1, c2⟩
theorem SMem.take_ (h : SMem w A n l) (k : Nat) (hk : k ≤ n) : SMem w A k (l.take k) :=
  ⟨by rw [List.length_take, h.1]; omega, fun x hx => h.2.1 x (List.mem_of_mem_take hx), fun hn => by
    obtain ⟨b, off, e, hb, hc⟩ := h.2.2 (by omega)
    refine ⟨b, off, e, hb, fun j u hu => hc j u ?_⟩
    rw [List.getElem?_take] at hu
    split at hu
    · exact hu
    · cases hu⟩
theorem SMem.drop_ (h : SMem w A n l) {b off : Nat} (hA : A = some ⟨b, off, none⟩) (k : Nat) (hk : k ≤ n) : SMem w (some ⟨b, off + k * 3, none⟩) (n - k) (l.drop k) :=
  ⟨by rw [List.length_drop, h.1], fun x hx => h.2.1 x (List.mem_of_mem_drop hx), fun hn => by
    obtain ⟨b', off', e, hb, hc⟩ := h.2.2 (by omega)
    rw [hA] at e
    cases e
    refine ⟨b, off + k * 3, rfl, hb, fun j u hu => ?_⟩
    rw [List.getElem?_drop] at hu
    have := hc _ u hu
    rw [show off + k * 3 + j * 3 = off + (k + j) * 3 from by omega]
    exact this⟩
/-- Cut at its front: v[k:], as the model's slice has it. -/
theorem SMem.cut (h : SMem w A n l) (k c : Nat) (hk : k ≤ n) (hc : n ≤ c) : SMem w (if c = k then A else A.map (·.add (k * 3))) (n - k) (l.drop k) := by
  by_cases hn : n - k = 0
  · rw [hn]
    have : l.drop k = [] := List.eq_nil_of_length_eq_zero (by rw [List.length_drop, h.1, hn])
    rw [this]
    exact SMem.nil_
  · obtain ⟨b, off, rfl, _, _⟩ := h.2.2 (by omega)
    rw [if_neg (by omega), Option.map_some, add_plain]
    exact h.drop_ rfl k hk
end

/-- The cells of a row of spots. -/
def flatS : List SV → List Value
  | [] => []
  | x :: r => .int .i64 x.addr :: .int .i64 x.cnt :: .slice x.A x.n x.c :: flatS r
theorem flatS_len : ∀ l : List SV, (flatS l).length = l.length * 3
  | [] => rfl
  | x :: r => by simp [flatS, flatS_len r]; omega
theorem flatS_app : ∀ l m : List SV, flatS (l ++ m) = flatS l ++ flatS m
  | [], m => rfl
  | x :: r, m => by simp [flatS, flatS_app r m]
theorem flatS_get : ∀ (l : List SV) (i : Nat) (x : SV), l[i]? = some x → (flatS l)[i * 3]? = some (.int .i64 x.addr) ∧ (flatS l)[i * 3 + 1]? = some (.int .i64 x.cnt) ∧ (flatS l)[i * 3 + 2]? = some (.slice x.A x.n x.c)
  | [], i, x, h => by simp at h
  | y :: r, 0, x, h => by simp at h; subst h; exact ⟨rfl, rfl, rfl⟩
  | y :: r, i + 1, x, h => by
    have := flatS_get r i x (by simpa using h)
    rw [show (i + 1) * 3 = i * 3 + 1 + 1 + 1 from by omega]
    simpa [flatS] using this
/-- A row of spots of the call's own. -/
abbrev SRow (w : World) (base : Nat) (v : Value) (n : Nat) (l : List SV) : Prop := w.ownsRow base 46 3 v n (flatS l)
theorem SRow.len {w : World} {base n : Nat} {v : Value} {l : List SV} (h : SRow w base v n l) : l.length = n := by
  have := h.1
  rw [flatS_len] at this
  omega
/-- What is owned reads. -/
theorem own_smem {w : World} {base n : Nat} {v : Value} {l : List SV} (h : SRow w base v n l) (hok : ∀ x ∈ l, x.ok w) : ∃ B m, v = .slice B n m ∧ SMem w B n l ∧ n ≤ m ∧ m ≤ 9223372036854775807 := by
  have hl := h.len
  rcases h.2 with ⟨rfl, rfl⟩ | ⟨g, cap, cur, rfl, _, hg, hnc, hcm, hs, ht⟩
  · exact ⟨none, 0, rfl, ⟨hl, hok, fun h => absurd h (by omega)⟩, Nat.le_refl _, by omega⟩
  · refine ⟨_, _, rfl, ⟨hl, hok, fun _ => ⟨g, 0, rfl, (Array.getElem?_eq_some_iff.1 hg).1, fun j u hu => ?_⟩⟩, hnc, by unfold maxLen at hcm; omega⟩
    have hj : j < n := by rw [← hl]; exact (List.getElem?_eq_some_iff.1 hu).1
    obtain ⟨f0, f1, f2⟩ := flatS_get l j u hu
    rw [← ht] at f0 f1 f2
    rw [List.getElem?_take, if_pos (by omega)] at f0 f1 f2
    rw [Nat.zero_add, cell_of_row w g _ cur _ (0, 0) hg, cell_of_row w g _ cur _ (0, 0) hg, cell_of_row w g _ cur _ (0, 0) hg]
    exact ⟨by simpa using f0, by simpa using f1, by simpa using f2⟩
theorem infoSpot : (Try.prog.info? 46).map (fun i => (i.zero, i.size, i.bytes)) = some (some (.agg #[.int .i64 0, .int .i64 0, .slice none 0 0]), 3, 40) := by kernel_rfl
theorem cellsOfSpot : Try.prog.cellsOf 46 = 3 := by kernel_rfl

section
variable {P : Program} (w : World)
/-- APPEND of something onto a row of the call's own: where there is no room, no old block is written. -/
theorem run_append_fine (t ty : TypeId) (base : Nat) (e : TypeId) (i : TypeInfo) (z : Value) (size bytes : Nat) (ht : P.underlying t = some (.slice e)) (hi : P.info? e = some i) (hz : i.zero = some z)
    (hsize : i.size = size) (hby : i.bytes = bytes) (hzs : z.cells.size = size) (hsz : 0 < size)
    (v : Value) (n : Nat) (xs : List Value) (hown : w.ownsRow base e size v n xs)
    (ad : Addr) (m c : Nat) (news : List Value) (hl : news.length = m * size) (hnews : ∀ j u, news[j]? = some u → w.cell? (ad.add j) = some u) (h1 : ∀ u ∈ news, u.oneCell' = true)
    (hm : 0 < m) (h63 : n + m ≤ maxLen) (hbytes : (n + m) * bytes ≤ 140737488355328) (hbase : base ≤ w.heap.size) :
    ∃ g cap w', (Builtin.append_ #[t, t] ty #[v, .slice (some ad) m c]).run P w = .ok (.slice (some ⟨g, 0, none⟩) (n + m) cap) w' ∧
      w'.ownsRow base e size (.slice (some ⟨g, 0, none⟩) (n + m) cap) (n + m) (xs ++ news) ∧ w.grownBy w' v.ownBlock ∧ (v.ownBlock = some g ∨ g = w.heap.size) ∧
      (w.grownBy w' none ∨ ∃ g0 cap0, v = .slice (some ⟨g0, 0, none⟩) n cap0 ∧ n + m ≤ cap0) := by
  obtain ⟨g, cap, w', hr, h2, h3, h4, h5⟩ := run_append_lies (P := P) w t ty base e i z size bytes ht hi hz hsize hby hzs hsz v n xs hown ad m c news hl hnews h1 hm h63 hbytes hbase _ rfl
  refine ⟨g, cap, w', hr, h2, h3, h4, ?_⟩
  rcases hown.2 with ⟨rfl, rfl⟩ | ⟨g0, cap0, cur, rfl, hb, hg, hnc, hcm, hcs, htk⟩
  · exact .inl h3
  · by_cases hroom : n + m ≤ cap0
    · exact .inr ⟨g0, cap0, rfl, hroom⟩
    · left
      obtain ⟨v'', w'', hr', _, hg'⟩ := run_append_arg_grows (P := P) w t ty e i z size bytes ht hi hz hsize hby hzs hsz ⟨g0, 0, none⟩ n cap0 xs hown.1 (fun j u hu => by
        rw [add_plain, Nat.zero_add, cell_of_row w g0 j cur _ (0, 0) hg]
        rw [← htk, List.getElem?_take] at hu
        split at hu
        · simpa using hu
        · cases hu) ad m c news hl hnews (by omega) h63 hbytes
      rw [hr] at hr'
      cases hr'
      exact hg'
end

section
variable {H : Type} {enc : TypeId × Value → H} {W : World}
theorem trod_ints {sp : Nat → Bool} {k : Nat} {cs : List Value} {y : DataW H × List MemPlace} (hf : DataW.trod enc Try.prog W 0 sp true k 38 cs = some y) :
    ∃ (A : Option Addr) (n c : Nat) (l : List Int), cs = [.slice A n c] ∧ n ≤ c ∧ c ≤ 9223372036854775807 ∧ IMem W A n l := by
  rcases DataW.trod_slice Try.underlying38 hf with ⟨hcs, _⟩ | ⟨a, len, cap, elems, rest, m, _, hcs, _, _, hl, hm, hlen, hel, _, _⟩
  · exact ⟨none, 0, 0, [], hcs, by omega, by omega, EMem.nil_⟩
  · unfold maxLen at hm
    have hx : ∀ i, i < len → ∃ q : Int, B64 q ∧ W.cell? (a.add i) = some (.int .i64 q) := by
      intro i hi
      have hy := hel i hi
      rw [List.getElem?_eq_getElem (by omega), Option.bind_eq_some_iff] at hy
      obtain ⟨cs', h1, h2⟩ := hy
      rw [cellsOfInt, Nat.mul_one] at h1
      obtain ⟨q, rfl, _, hw⟩ := DataW.trod_int Try.underlying3 h2
      exact ⟨q, wfb hw, cell_of_cells?_one h1⟩
    obtain ⟨q, hq⟩ := Deep.choose_lt hx
    refine ⟨some a, len, cap, (List.range len).map q, hcs, hl, by omega, by simp, ?_, ?_⟩
    · intro x hx
      simp only [List.mem_map, List.mem_range] at hx
      obtain ⟨i, hi, rfl⟩ := hx
      exact (hq i hi).1
    · intro h0
      obtain ⟨b, off, spot⟩ := a
      have hspot : spot = none := by simpa [Addr.add] using World.cell?_spot (hq 0 h0).2
      subst hspot
      refine ⟨b, off, rfl, World.block_lt_of_cell? W _ (by simpa [Addr.add] using (hq 0 h0).2), fun j x hj => ?_⟩
      rw [List.getElem?_map, Option.map_eq_some_iff] at hj
      obtain ⟨i, hi, rfl⟩ := hj
      obtain ⟨hi1, rfl⟩ := List.getElem?_eq_some_iff.1 hi
      rw [List.length_range] at hi1
      rw [List.getElem_range]
      have c0 := (hq j hi1).2
      rw [add_plain] at c0
      exact c0
set_option maxRecDepth 100000 in
theorem trod_spot {sp : Nat → Bool} {m : Nat} {cs : List Value} {y : DataW H × List MemPlace} (h : DataW.trod enc Try.prog W 0 sp true m 46 cs = some y) :
    ∃ x : SV, cs = [.int .i64 x.addr, .int .i64 x.cnt, .slice x.A x.n x.c] ∧ x.ok W := by
  obtain ⟨y0, y1, y2, k, rfl, hl, t0, t1, t2⟩ := Deep.trod_struct3 Try.underlying46 h
  rw [cellsOfSpot] at hl
  match cs, hl with
  | [v0, v1, v2], _ =>
    have e := cellsOfInt
    have e2 : Try.prog.cellsOf 38 = 1 := by kernel_rfl
    change DataW.trod enc Try.prog W 0 sp true k 3 (([v0, v1, v2].drop 0).take (Try.prog.cellsOf 3)) = some y0 at t0
    change DataW.trod enc Try.prog W 0 sp true k 3 (([v0, v1, v2].drop 1).take (Try.prog.cellsOf 3)) = some y1 at t1
    change DataW.trod enc Try.prog W 0 sp true k 38 (([v0, v1, v2].drop 2).take (Try.prog.cellsOf 38)) = some y2 at t2
    rw [e] at t0 t1
    rw [e2] at t2
    obtain ⟨a, ha, _, wa⟩ := DataW.trod_int Try.underlying3 t0
    obtain ⟨b, hb, _, wb⟩ := DataW.trod_int Try.underlying3 t1
    obtain ⟨A, n, c, l, hc, h1, h2, h3⟩ := trod_ints t2
    simp at ha hb hc
    subst ha hb hc
    exact ⟨⟨a, b, A, n, c, l⟩, rfl, wfb wa, wfb wb, h3, h1, h2⟩
theorem open_spot {base : Nat} {sp : Nat → Bool} {v : Value} {d : DataW H} {ps : List MemPlace}
    (hval : Value.okWide Try.prog W .any base 46 v) (h : DataW.Trod enc Try.prog W 0 sp true 46 v d ps) :
    ∃ x : SV, v = .agg #[.int .i64 x.addr, .int .i64 x.cnt, .slice x.A x.n x.c] ∧ x.ok W := by
  obtain ⟨v0, v1, v2, y0, y1, y2, k, rfl, rfl, rfl, t0, t1, t2⟩ := open_agg3 Try.underlying46 (by kernel_rfl) (by kernel_rfl) hval h
  obtain ⟨a, ha, -, wa⟩ := DataW.trod_int Try.underlying3 t0
  obtain ⟨b, hb, -, wb⟩ := DataW.trod_int Try.underlying3 t1
  obtain ⟨A, n, c, l, hs, h1, h2, h3⟩ := trod_ints t2
  cases ha
  cases hb
  cases hs
  exact ⟨⟨a, b, A, n, c, l⟩, rfl, wfb wa, wfb wb, h3, h1, h2⟩
theorem open_spots {base : Nat} {sp : Nat → Bool} {v : Value} {d : DataW H} {ps : List MemPlace}
    (hval : Value.okWide Try.prog W .any base 22 v) (h : DataW.Trod enc Try.prog W 0 sp true 22 v d ps) :
    ∃ (A : Option Addr) (n c : Nat) (l : List SV), v = .slice A n c ∧ n ≤ c ∧ n ≤ 9223372036854775807 ∧ SMem W A n l := by
  obtain ⟨A, n, c, rfl, hnc, hcm, hel⟩ := open_rowK Try.underlying22 hval h
  unfold maxLen at hcm
  rw [cellsOfSpot] at hel
  have hx : ∀ i, i < n → ∃ x : SV, x.ok W ∧ ∃ a, A = some a ∧ W.cell? (a.add (i * 3)) = some (.int .i64 x.addr) ∧ W.cell? (a.add (i * 3 + 1)) = some (.int .i64 x.cnt) ∧ W.cell? (a.add (i * 3 + 2)) = some (.slice x.A x.n x.c) := fun i hi => by
    obtain ⟨a, cs, y, m, ha, h1, h2⟩ := hel i hi
    obtain ⟨x, rfl, hx⟩ := trod_spot h2
    obtain ⟨_, _, hcell⟩ := World.cells?_some h1
    have e0 := hcell 0 (by omega)
    have e1 := hcell 1 (by omega)
    have e2 := hcell 2 (by omega)
    rw [Deep.add_add] at e0 e1 e2
    exact ⟨x, hx, a, ha, by simpa using e0, by simpa using e1, by simpa using e2⟩
  obtain ⟨f, hf⟩ := Deep.choose_lt hx
  refine ⟨A, n, c, (List.range n).map f, rfl, hnc, by omega, by rw [List.length_map, List.length_range], fun x hx => ?_, fun hn => ?_⟩
  · obtain ⟨i, hi, rfl⟩ := List.mem_map.1 hx
    exact (hf i (List.mem_range.1 hi)).1
  · obtain ⟨_, a, rfl, h0, _⟩ := hf 0 hn
    obtain ⟨b, off, spot⟩ := a
    have hspot : spot = none := by simpa [Addr.add] using World.cell?_spot h0
    subst hspot
    refine ⟨b, off, rfl, World.block_lt_of_cell? W _ (by simpa [Addr.add] using h0), fun j x hj => ?_⟩
    rw [List.getElem?_map, Option.map_eq_some_iff] at hj
    obtain ⟨i, hi, rfl⟩ := hj
    obtain ⟨hi1, rfl⟩ := List.getElem?_eq_some_iff.1 hi
    rw [List.length_range] at hi1
    rw [List.getElem_range]
    obtain ⟨_, a', ha', h1, h2, h3⟩ := hf j hi1
    cases ha'
    rw [add_plain] at h1 h2 h3
    exact ⟨h1, h2, h3⟩
end
end Go.Proofs.Ytmkkeknimpjfoaa
