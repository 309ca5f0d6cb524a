/-
  Package treap: keys, Keys; the keys but one.
-/
import Derived.Test.YtmkkeknimpjfoaaTreapSort
import Derived.Test.YtmkkeknimpjfoaaTreapRightFn
namespace Go.Proofs.Ytmkkeknimpjfoaa
open Go.ChangeShapes Go.WideShapes Go.ChangeAt Go.RowKit Go.Shelf
set_option linter.unusedVariables false
set_option linter.unusedSimpArgs false

section
variable {w : World} {r : Int} {A : Option Addr} {n c : Nat} {l : List Nd}
theorem map_take_more {k : Nat} {nd : Nd} (h : l[k]? = some nd) : (l.take (k + 1)).map Nd.key = (l.take k).map Nd.key ++ [nd.key] := by
  rw [List.take_add_one, h]; simp
set_option maxHeartbeats 2000000 in
theorem keysFn_is (hm : NMem w A n l) (hn : n ≤ 1000000) : Calls Try.prog 65 #[.agg #[.int .i64 r, .slice A n c]] w fun e w' => ∃ C k, e = .returned (.slice C n k) ∧ IOwn w.heap.size w' C n k (l.map Nd.key) ∧ Gr w w' := by
  obtain ⟨i0, hi0, hz0, hz1, hz2⟩ := info_parts infoInt
  have HZ := Lib.hid hz0
  have HZ1 := Lib.hid hz1
  have HZ2 := Lib.hid hz2
  have HI0 := Lib.hid hi0
  have HM := Lib.hid hm
  clear hz0 hz1 hz2 hi0 hm
  have g0 := (Gr.refl w).al (.cells #[.int .i64 r, .slice A n c] 84)
  go_enter Try.func65, Try.ntmps65
  go_wp2_with fail
  go_loopw [3, 9] (fun L i wr => ∃ (k : Nat) (C : Option Addr) (d : Nat), k ≤ n ∧ i = .int .i64 (k : Int) ∧ L = .slice C k d ∧ Hid (IOwn w.heap.size wr C k d ((l.take k).map Nd.key)) ∧ Hid (Gr w wr)) (fun _ i _ => n - (intOf i).toNat)
  case atStart => exact ⟨0, _, 0, Nat.zero_le _, rfl, rfl, Lib.hid (by simpa using OMem.nil_), Lib.hid g0⟩
  case round =>
    clear g0
    obtain ⟨k, C, d, hk, rfl, rfl, HO, HG⟩ := hrel
    by_cases hlt : k < n
    · obtain ⟨b, off, nd, rfl, hbl, hx, i0', i1, i2, d0, d1, d2⟩ := (HM.out.gr HG.out).at_ hlt
      have HX := Lib.hid (map_take_more hx)
      obtain ⟨y, p, q⟩ := nd
      have HI := Lib.hid i0'
      dsimp only at d0 d1 d2
      clear hx i0' i1 i2
      go_wp2_with (at_builtin; refine Mark.stop ?_)
      refine Mark.go ?_
      refine wpList_append_omem _ (Value.int .i64) B64 rfl (.tmp 13) (.tmp 16) 38 rfl (fun _ => rfl) w.heap.size 3 i0 (.int .i64 0) 8 Try.underlying38 HI0.out HZ.out HZ1.out HZ2.out rfl C k d _ rfl (HO.out.gr (((Gr.refl _).al _).al _)) _ 1 1 [y] rfl (emem_one' _ y HI.out _ (by simp)) (by unfold maxLen; omega) (by omega) ((HG.out.al _).al _).size ?_
      intro C3 k3 w3 own3 gb3
      have G3 := Lib.hid (((HG.out.al (.cells #[.int .i64 y, .int .i64 p, .int .i64 q] 94)).al (.cells #[.int .i64 y] 3)).gb gb3 (fun k hk => (HO.out.lt k hk).1))
      clear gb3
      go_wp2_with fail
      go_roundw
      case rel => exact ⟨k + 1, C3, k3, by omega, by go_num, rfl, Lib.hid (by rw [HX.out]; exact own3), G3⟩
      case measure => simp [intOf]; omega
    · obtain rfl : k = n := by omega
      have own := HO.out
      rw [← HM.out.1, List.take_length] at own
      go_wp2_with fail
      go_ret
      exact ⟨C, d, rfl, HM.out.1 ▸ own, HG.out⟩
/-- What Keys answers. -/
def KeysR (l : List Nd) (r : Int) (R : List Int) (e : Int) : Prop := ((¬ ∃ t, Good l r t) ∧ R = [] ∧ e = 1) ∨ ∃ t, Good l r t ∧ R = t.inord ∧ e = 0
theorem KeysR.any (l : List Nd) (r : Int) : ∃ R e, KeysR l r R e := by
  by_cases g : ∃ t, Good l r t
  · obtain ⟨t, ht⟩ := g
    exact ⟨_, _, .inr ⟨t, ht, rfl, rfl⟩⟩
  · exact ⟨_, _, .inl ⟨g, rfl, rfl⟩⟩
theorem KeysR.len {R : List Int} {e : Int} (h : KeysR l r R e) : R.length ≤ 64 := by
  rcases h with ⟨_, rfl, _⟩ | ⟨t, ht, rfl, _⟩
  · simp
  · rw [T.inord_len, ht.2.1]; exact ht.2.2.1
end
end Go.Proofs.Ytmkkeknimpjfoaa
