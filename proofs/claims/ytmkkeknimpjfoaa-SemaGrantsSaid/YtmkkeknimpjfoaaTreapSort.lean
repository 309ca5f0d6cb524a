/-
  A row of ints sorted in its place, or with some struck: the shelf's contracts, for a row of the call's own; the keys of a tree in their order.
-/
import Derived.Test.YtmkkeknimpjfoaaLays
import Derived.Test.YtmkkeknimpjfoaaTreapMem
import Derived.Test.YtmkkeknimpjfoaaTreapShape
namespace Go.Proofs.Ytmkkeknimpjfoaa
open Go.ChangeShapes Go.WideShapes Go.ChangeAt Go.RowKit Go.Shelf
set_option linter.unusedVariables false
set_option linter.unusedSimpArgs false

section
variable {w w' : World} {base n c b off : Nat} {A : Option Addr} {L R : List Int}
theorem grownBy_put (q : Nat) (R : List Int) (os : Array Obj) (hb : b < w.heap.size) : w.grownBy (Sort.grow (Sort.putRow (Value.int .i64) (Sort.ahead w q) b off R.toArray) os) (some b) where
  os := rfl
  tape := rfl
  output := rfl
  size := by simp [Sort.ahead]
  block := fun k hk hne => by
    rw [Sort.heap_grow_old _ _ (by simpa [Sort.ahead] using hk)]
    have : b ≠ k := fun e => hne (by rw [e])
    simp [Sort.putRow, Sort.mapBlock, Array.getElem?_modify, this, Sort.ahead]
theorem OMem.holds (ho : IOwn base w (some ⟨b, off, none⟩) n c L) : Sort.Holds (Value.int .i64) w b off L.toArray := by
  intro j hj
  have hj' : j < L.length := by simpa using hj
  obtain ⟨h1, h2, h3, h4⟩ := ho
  have hn := h1.1
  obtain ⟨b', off', e, hlt, hc⟩ := h1.2.2 (by omega)
  cases e
  rcases h4 with ⟨e, _⟩ | ⟨b', off', e, h5, h6, h7⟩
  · cases e
  · cases e
    refine ⟨?_, (h7 j (by omega)).2⟩
    rw [hc j L[j] (List.getElem?_eq_getElem hj')]
    simp [hj']
theorem OMem.put (ho : IOwn base w (some ⟨b, off, none⟩) n c L) (q : Nat) (os : Array Obj) (hl : R.length = n) (hR : ∀ x ∈ R, B64 x) :
    IOwn base (Sort.grow (Sort.putRow (Value.int .i64) (Sort.ahead w q) b off R.toArray) os) (some ⟨b, off, none⟩) n c R := by
  have hh := ho.holds
  obtain ⟨h1, h2, h3, h4⟩ := ho
  rcases h4 with ⟨e, _⟩ | ⟨b', off', e, h5, h6, h7⟩
  · cases e
  · cases e
    have hs : b < (Sort.putRow (Value.int .i64) (Sort.ahead w q) b off R.toArray).heap.size := by simpa [Sort.ahead] using h6
    have hsz : R.toArray.size = L.toArray.size := by simp [hl, h1.1]
    have hin : ∀ j, j < n → (Sort.putRow (Value.int .i64) (Sort.ahead w q) b off R.toArray).cell? ⟨b, off + j, none⟩ = some (.int .i64 R.toArray[j]!) := fun j hj =>
      Sort.cell?_putRow (Value.int .i64) (Sort.ahead w q) b off L.toArray R.toArray hh hsz j (by simpa [hl] using hj)
    refine ⟨⟨hl, hR, fun hn => ⟨b, off, rfl, by simp [Sort.ahead]; omega, fun j x hx => ?_⟩⟩, h2, h3, .inr ⟨b, off, rfl, h5, by simp [Sort.ahead]; omega, fun j hj => ⟨?_, ?_⟩⟩⟩
    · have hj := (List.getElem?_eq_some_iff.1 hx).1
      rw [Sort.cell?_grow _ _ _ hs, hin j (by omega)]
      have := (List.getElem?_eq_some_iff.1 hx).2
      simp [hj, this]
    · rw [Sort.cell?_grow _ _ _ hs]
      by_cases hjn : j < n
      · rw [hin j hjn]; rfl
      · rw [Sort.cell?_putRow_other _ _ _ _ _ _ (.inr (.inr (by simp [hl]; omega)))]
        exact (h7 j hj).1
    · rw [Sort.frozen?_grow _ _ _ hs, Sort.frozen?_putRow]
      exact (h7 j hj).2
theorem OMem.take (ho : IOwn base w A n c L) (k : Nat) (hk : k ≤ n) : IOwn base w A k c (L.take k) := ⟨ho.1.take_ k hk, by have := ho.2.1; omega, ho.2.2.1, ho.2.2.2⟩

/-- Rising order. -/
def srt (L : List Int) : List Int := L.mergeSort (fun x y => decide (x ≤ y))
theorem srt_perm (L : List Int) : (srt L).Perm L := List.mergeSort_perm _ _
theorem srt_len (L : List Int) : (srt L).length = L.length := (srt_perm L).length_eq
theorem srt_rising {L : List Int} (h : L.Nodup) : Rising (srt L) := by
  have hs : (srt L).Pairwise (fun x y => decide (x ≤ y) = true) := List.pairwise_mergeSort (fun a b c h1 h2 => by simp only [decide_eq_true_eq] at *; omega) (fun a b => by simp only [Bool.or_eq_true, decide_eq_true_eq]; omega) L
  have hn : (srt L).Nodup := (srt_perm L).nodup_iff.2 h
  refine List.Pairwise.imp₂ ?_ hs hn
  intro a b h1 h2
  rw [decide_eq_true_eq] at h1
  omega
theorem srt_eq {L R : List Int} (hn : L.Nodup) (hR : Rising R) (hm : ∀ x, x ∈ L ↔ x ∈ R) : srt L = R :=
  rising_ext (srt_rising hn) hR fun x => (srt_perm L).mem_iff.trans (hm x)

theorem Sort_is (ho : IOwn base w A n c L) (hn : n ≤ 1000000) :
    Calls Try.prog 67 #[.slice A n c] w fun e w' => e = .returned (.tuple #[]) ∧ IOwn base w' A n c (srt L) ∧ w.grownBy w' (A.map (·.block)) := by
  have hlen := ho.1.1
  by_cases h0 : n = 0
  · subst h0
    have hL : L = [] := List.eq_nil_of_length_eq_zero hlen
    subst hL
    refine (AnyM.slices_Sort_int_none Try.laySort A c w).mono ?_
    rintro e w' ⟨rfl, rfl⟩
    exact ⟨rfl, by simpa [srt] using ho, World.grownBy.refl _ _⟩
  · have ho' := ho
    obtain ⟨h1, h2, h3, h4⟩ := ho
    obtain ⟨b, off, rfl, hlt, hc⟩ := h1.2.2 (by omega)
    unfold maxLen at h3
    have hcon := AnyM.slices_Sort_int Try.laySort b off c L w ho'.holds hlt (by omega)
    rw [hlen] at hcon
    refine hcon.mono ?_
    rintro e w' ⟨rfl, q, os, rfl⟩
    exact ⟨rfl, ho'.put q os ((srt_len L).trans hlen) (fun x hx => h1.2.1 x ((srt_perm L).mem_iff.1 hx)), grownBy_put q (srt L) os hlt⟩
end

/-- The keys as the nodes lie. -/
theorem Lay.inord_ids {l : List Nd} : ∀ {t : T} {a : Int}, Lay l t a → t.inord = t.ids.map fun i => (l[i]?.getD default).key
  | .nil, _, _ => rfl
  | .node j k L R, a, h => by
    obtain ⟨h1, nd, h2, h3, h4, h5⟩ := h
    simp only [T.inord, T.ids, List.map_append, List.map_cons, h2, Option.getD_some, h3]
    rw [Lay.inord_ids h4, Lay.inord_ids h5]
theorem Good.perm {l : List Nd} {r : Int} {t : T} (h : Good l r t) : (l.map Nd.key).Perm t.inord := by
  have e : l.map Nd.key = (List.range l.length).map fun i => (l[i]?.getD default).key := by
    apply List.ext_getElem
    · simp
    · intro i h1 h2
      have : i < l.length := by simpa using h1
      simp [this]
  rw [e, h.1.inord_ids]
  refine List.Perm.map _ ((List.perm_ext_iff_of_nodup List.nodup_range (h.1.nodup h.2.2.2.1)).2 fun i => ?_)
  rw [List.mem_range]
  refine ⟨fun hi => h.all hi, fun hi => ?_⟩
  obtain ⟨nd, e, _⟩ := h.1.key_of i hi
  exact (List.getElem?_eq_some_iff.1 e).1
theorem Good.srt {l : List Nd} {r : Int} {t : T} (h : Good l r t) : srt (l.map Nd.key) = t.inord :=
  srt_eq (h.perm.nodup_iff.2 h.2.2.2.1.rising.nodup) h.2.2.2.1.rising fun x => h.keys x
end Go.Proofs.Ytmkkeknimpjfoaa
