/-
  order.All.
-/
import Derived.Test.YthldaebinchpdaaOrderAll
namespace Go.Proofs.Ythldaebinchpdaa
open Go.ChangeShapes Go.WideShapes Go.ChangeAt Go.RowKit
set_option linter.unusedVariables false

theorem run_store_float (a : Addr) (x : Nat) (m : Mode) (w : World) : (store a (.float .f64 x) m).run Try.prog w = stored Try.prog w a (.float .f64 x) m := run_store Try.prog w a _ m rfl
section
variable {w : World} {A : Option Addr} {n c : Nat} {l : List Nat}
set_option maxHeartbeats 1000000 in
theorem All_none (A : Option Addr) (c : Nat) (w : World) :
    Calls Try.prog 9 #[.slice A 0 c] w fun e w' => e = .returned (.tuple #[.agg #[.float .f64 0, .float .f64 0, .float .f64 0], .int .i64 4]) ∧ Gr w w' := by
  have stf := run_store_float
  go_enter Try.func9, Try.ntmps9
  go_wp2_with fail
  exact bodyPost_ret (v := .tuple #[.agg #[.float .f64 0, .float .f64 0, .float .f64 0], .int .i64 4]) (by simp [results, Try.results9, go_sem]) rfl ⟨rfl, (Gr.refl w).al _⟩

/-- What a row comes to. -/
def GotAll (w : World) (n : Nat) (l : List Nat) (e : Ending) (w' : World) : Prop :=
  ∃ S, F64 S ∧ cn S = csum l (n - 1) ∧ e = .returned (.tuple #[.agg #[.float .f64 (fmk ahd l (n - 1)), .float .f64 (fmk (fun x y => ahd y x) l (n - 1)), .float .f64 S], .int .i64 0]) ∧ Gr w w'
set_option maxHeartbeats 2000000 in
theorem All_some (hm : FMem w A n l) (h0 : 0 < n) (hc : n ≤ c) (hn : n ≤ 9223372036854775807) : Calls Try.prog 9 #[.slice A n c] w (GotAll w n l) := by
  obtain ⟨b, off, x, rfl, hbl, hx, hi, c0⟩ := hm.at_ h0
  rw [Nat.add_zero] at c0
  have E1 := Lib.hid (show csum l 0 = cn x by rw [← getD_of hx]; rfl)
  have HM := Lib.hid hm
  have h1 : ((n : Int) == 0) = false := beq_eq_false_iff_ne.2 (by omega)
  have k1 := fun w1 (g : Gr w w1) => Lib.hid (foremost_ahead (c := c) (hm.gr g) h0 hc hn)
  have k2 := fun w1 (g : Gr w w1) => Lib.hid (foremost_behind (c := c) (hm.gr g) h0 hc hn)
  obtain ⟨mn, hmn⟩ : ∃ m, fmk ahd l (n - 1) = m := ⟨_, rfl⟩
  obtain ⟨mx, hmx⟩ : ∃ m, fmk (fun x y => ahd y x) l (n - 1) = m := ⟨_, rfl⟩
  rw [hmn] at k1
  rw [hmx] at k2
  have HMN := Lib.hid hmn
  have HMX := Lib.hid hmx
  clear hmn hmx
  clear hx hm
  have stf := run_store_float
  by_cases hc1 : c = 1
  · obtain rfl : n = 1 := by omega
    subst hc1
    go_enter Try.func9, Try.ntmps9
    go_wp2_with fail
    go_loop [4, 17] (fun s i => i = .int .i64 0 ∧ s = .float .f64 x) (fun _ i => 0)
    case atStart => exact ⟨rfl, rfl⟩
    case round =>
      obtain ⟨rfl, rfl⟩ := hrel
      go_wp2_with fail
      refine (k1 _ ((Gr.refl w).al _)).out.mono ?_
      rintro e w1 ⟨rfl, rfl⟩
      go_wp2_with fail
      refine (k2 _ ((Gr.refl w).al _)).out.mono ?_
      rintro e w2 ⟨rfl, rfl⟩
      go_wp2_with fail
      refine bodyPost_ret (v := .tuple #[.agg #[.float .f64 mn, .float .f64 mx, .float .f64 x], .int .i64 0]) (by simp [results, Try.results9, go_sem]) rfl ⟨x, hi, E1.out.symm, ?_, (Gr.refl w).al _⟩
      rw [HMN.out, HMX.out]
  · have hcn : ¬ c < 1 := by omega
    go_enter Try.func9, Try.ntmps9
    go_wp2_with fail
    go_loopw [4, 17] (fun s i wr => ∃ (k S d : Nat), k ≤ n - 1 ∧ i = .int .i64 (k : Int) ∧ s = .float .f64 S ∧ F64 S ∧ Hid (cn S = csum l k) ∧ wr = (w.alloc (.cells #[.float .f64 0, .float .f64 0, .float .f64 0] 26)).drewN d) (fun _ i _ => n - (intOf i).toNat)
    case atStart => exact ⟨0, x, 0, by omega, rfl, rfl, hi, Lib.hid E1.out.symm, rfl⟩
    case round =>
      obtain ⟨k, S, d, hk, rfl, rfl, hS, HS, rfl⟩ := hrel
      by_cases hlt : k < n - 1
      · obtain ⟨b', off', y, hb', hbl', hy, hiy, cy⟩ := HM.out.at_ (show k + 1 < n by omega)
        obtain ⟨rfl, rfl⟩ : b = b' ∧ off = off' := by simpa using hb'
        have c1 : w.cell? ⟨b, off + 1 + k, none⟩ = some (.float .f64 y) := by rw [← cy]; congr 2; omega
        obtain ⟨r, q, hrun, hr, hcr⟩ := add_ex hS hiy 22 ((w.alloc (.cells #[.float .f64 0, .float .f64 0, .float .f64 0] 26)).drewN d)
        have HS' : Hid (cn r = csum l (k + 1)) := Lib.hid (by
          show cn r = cadd (csum l k) (l.getD (k + 1) 0)
          rw [hcr, ← HS.out, cadd_cn, getD_of hy])
        clear hy cy hb' hcr HS E1
        go_wp2_with fail
        go_roundw
        case rel => exact ⟨k + 1, r, _, by omega, by go_num, rfl, hr, HS', rfl⟩
        case measure => simp [intOf]; omega
      · obtain rfl : k = n - 1 := by omega
        go_wp2_with fail
        refine (k1 _ (((Gr.refl w).al _).drN _)).out.mono ?_
        rintro e w1 ⟨rfl, rfl⟩
        go_wp2_with fail
        refine (k2 _ (((Gr.refl w).al _).drN _)).out.mono ?_
        rintro e w2 ⟨rfl, rfl⟩
        go_wp2_with fail
        refine bodyPost_ret (v := .tuple #[.agg #[.float .f64 mn, .float .f64 mx, .float .f64 S], .int .i64 0]) (by simp [results, Try.results9, go_sem]) rfl ⟨S, hS, HS.out, ?_, (((((Gr.refl w).al _).drN _).st (Nat.le_refl _) _).st (Nat.le_refl _) _).st (Nat.le_refl _) _⟩
        rw [HMN.out, HMX.out]
end
end Go.Proofs.Ythldaebinchpdaa
