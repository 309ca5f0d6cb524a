/-
  The reference of package treap: lighter, Keys, Right.
-/
import Derived.Test.YtpblonfcdnephaaTreapRefB
import Derived.IntWalk
namespace Go.Proofs.Ytpblonfcdnephaa
open Go.ChangeShapes Go.WideShapes Go.ChangeAt Go.RowKit
set_option linter.unusedVariables false
set_option linter.unusedSimpArgs false

theorem ris_lt {K : List Int} (hR : Rising K) {i j : Nat} {x y : Int} (hi : K[i]? = some x) (hj : K[j]? = some y) (h : i < j) : x < y := by
  obtain ⟨h1, rfl⟩ := List.getElem?_eq_some_iff.1 hi
  obtain ⟨h2, rfl⟩ := List.getElem?_eq_some_iff.1 hj
  exact List.pairwise_iff_getElem.1 hR i j h1 h2 h
theorem ris_more {K : List Int} {k : Nat} {x : Int} (hR : Rising (K.take k)) (hx : K[k]? = some x) (h : k = 0 ∨ ∃ z, K[k - 1]? = some z ∧ z < x) : Rising (K.take (k + 1)) := by
  rw [take_more hx]
  unfold Rising at *
  rw [List.pairwise_append]
  refine ⟨hR, by simp, fun y hy w hw => ?_⟩
  rw [List.mem_singleton] at hw
  subst hw
  obtain ⟨i, hi⟩ := List.mem_iff_getElem?.1 hy
  have hik : i < k := by
    have := (List.getElem?_eq_some_iff.1 hi).1
    rw [List.length_take] at this
    omega
  rcases h with rfl | ⟨z, hz, hlt⟩
  · omega
  · have hz' : (K.take k)[k - 1]? = some z := by rw [List.getElem?_take, if_pos (by omega)]; exact hz
    by_cases e : i = k - 1
    · subst e; rw [hz'] at hi; cases hi; exact hlt
    · have := ris_lt hR hi hz' (by omega); omega

section
variable {w : World} {r : Int} {A : Option Addr} {n c : Nat} {l : List Nd}
set_option maxHeartbeats 2000000 in
theorem rLighter_is (hm : NMem w A n l) (hk : ∀ nd ∈ l, IsKey nd.key) {a k : Int} (ha : a = -1 ∨ ∃ (j : Nat) (nd : Nd), a = (j : Int) ∧ l[j]? = some nd) (hkk : IsKey k) {v : Bool} (hv : v = true ↔ LtI l a k) :
    Calls Try.prog 35 #[.agg #[.int .i64 r, .slice A n c], .int .i64 a, .int .i64 k] w fun e w' => e = .returned (.bool v) ∧ Gr w w' := by
  have g0 := (Gr.refl w).al (.cells #[.int .i64 r, .slice A n c] 24)
  rcases ha with rfl | ⟨j, nd, rfl, hj⟩
  · obtain rfl : v = true := hv.2 (.inl (by decide))
    clear hv hm
    go_enter Try.func35, Try.ntmps35
    go_wp2_with fail
    go_ret
    exact ⟨rfl, g0⟩
  · have hjn : j < n := by have := (List.getElem?_eq_some_iff.1 hj).1; have := hm.1; omega
    obtain ⟨b, off, nd', rfl, hbl, hj', i0, i1, i2, d0, d1, d2⟩ := hm.at_ hjn
    rw [hj] at hj'
    cases hj'
    have hnk := hk nd (List.mem_of_getElem? hj)
    obtain ⟨x, y, z⟩ := nd
    dsimp only at *
    have g1 : ¬ ((j : Int) < 0) := by omega
    have g2 : (j : Int) < (n : Int) := by omega
    have g3 : (0 : Int) ≤ (j : Int) := by omega
    have hP1 := fun W => rPri_is hnk W
    have hP2 := fun W => rPri_is hkk W
    have hvd : v = decide (pri x < pri k) := by
      have : v = true ↔ pri x < pri k := by
        rw [hv]
        constructor
        · rintro (h | ⟨j', nd', e1, e2, e3⟩)
          · omega
          · obtain rfl : j = j' := by omega
            rw [hj] at e2; cases e2; exact e3
        · intro h
          exact .inr ⟨j, _, rfl, hj, h⟩
      cases v
      · exact (decide_eq_false (fun h => by simpa using this.2 h)).symm
      · exact (decide_eq_true (this.1 rfl)).symm
    generalize pri x = px at *
    generalize pri k = pk at *
    have k1 := Lib.hid hP1
    have k2 := Lib.hid hP2
    subst hvd
    clear hv hP1 hP2 hj hm hk hnk hkk d1 d2
    go_enter Try.func35, Try.ntmps35
    go_wp2_with fail
    with_reducible refine (k1.out _).mono ?_
    rintro e w1 ⟨rfl, rfl⟩
    go_wp2_with fail
    with_reducible refine (k2.out _).mono ?_
    rintro e w1 ⟨rfl, rfl⟩
    go_wp2_with fail
    go_ret
    exact ⟨rfl, g0⟩
set_option maxHeartbeats 2000000 in
theorem rKeys_is (hm : NMem w A n l) {t : T} (hg : Good l r t) : Calls Try.prog 18 #[.agg #[.int .i64 r, .slice A n c]] w fun e w' => ∃ C k, e = .returned (.slice C n k) ∧ IOwn w.heap.size w' C n k t.inord ∧ Gr w w' := by
  have g0 := (Gr.refl w).al (.cells #[.int .i64 r, .slice A n c] 24)
  have hlen := hm.1
  have hsz := hg.2.1
  have h64 := hg.2.2.1
  obtain ⟨o, hw, hs, hf⟩ := wk_ex l n r
  cases o with
  | none => have := hf rfl t hg.1; omega
  | some p =>
    obtain ⟨t', y⟩ := p
    obtain ⟨ht, hy⟩ := hs t' y rfl
    have htt := ht.det hg.1
    subst htt
    have hwk := rWalk_is (r := r) (c := c) hm hw (by omega) _ g0
    have hn : t'.size = n := by omega
    have kW := Lib.hid hwk
    have HN := Lib.hid hn
    clear hm hg hw hs hf ht hy hwk hsz hlen hn h64
    go_enter Try.func18, Try.ntmps18
    go_wp2_with fail
    with_reducible refine kW.out.mono ?_
    rintro e w1 ⟨C, k, rfl, own, hb⟩
    have O := Lib.hid (own.low g0.size)
    have HB := Lib.hid (g0.trans hb)
    rw [HN.out] at O
    clear own hb
    have hN2 := HN.out
    generalize t'.size = q at *
    subst hN2
    go_wp2_with fail
    go_ret
    exact ⟨C, k, rfl, O.out, HB.out⟩
end
end Go.Proofs.Ytpblonfcdnephaa
