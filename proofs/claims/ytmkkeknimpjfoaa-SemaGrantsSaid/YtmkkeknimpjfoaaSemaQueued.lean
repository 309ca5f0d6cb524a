/-
  Package sema: Queued; the reference's Queued.
-/
import Derived.Test.YtmkkeknimpjfoaaSemaFn
namespace Go.Proofs.Ytmkkeknimpjfoaa
open Go.ChangeShapes Go.WideShapes Go.ChangeAt Go.RowKit
set_option maxRecDepth 100000
set_option linter.unusedVariables false
set_option linter.unusedSimpArgs false

/-- What Queued answers. -/
def QueR (L : List SV) (who v e : Int) : Prop := ((who < 0 ∨ ¬ Tab L) ∧ v = 0 ∧ e = 1) ∨ (0 ≤ who ∧ Tab L ∧ v = (qd L who : Int) ∧ e = 0)
theorem QueR.any (L : List SV) (who : Int) : ∃ v e, QueR L who v e := by
  by_cases h : 0 ≤ who ∧ Tab L
  · exact ⟨_, _, .inr ⟨h.1, h.2, rfl, rfl⟩⟩
  · refine ⟨_, _, .inl ⟨?_, rfl, rfl⟩⟩
    by_cases h1 : Tab L
    · exact .inl (by have : ¬ 0 ≤ who := fun h2 => h ⟨h2, h1⟩; omega)
    · exact .inr h1
theorem qd_take {L : List SV} {k : Nat} {x : SV} {who : Int} (h : L[k]? = some x) : qd (L.take (k + 1)) who = qd (L.take k) who + (if who ∈ x.line then 1 else 0) := by
  rw [take_snoc h]
  split
  · exact qd_snoc_hit (by assumption)
  · exact qd_snoc_miss (by assumption)
section
variable {w : World} {A : Option Addr} {n c : Nat} {L : List SV}
set_option maxHeartbeats 8000000 in
theorem Queued_is (hm : SMem w A n L) {who : Int} {v e : Int} (h : QueR L who v e) :
    Calls Try.prog 10 #[.slice A n c, .int .i64 who] w fun ee w' => ee = .returned (.tuple #[.int .i64 v, .int .i64 e]) ∧ Gr w w' := by
  have hlen := hm.1
  have HM := Lib.hid hm
  by_cases h0 : who < 0
  · obtain ⟨_, rfl, rfl⟩ := h.resolve_right (fun h' => by omega)
    clear h hm
    go_enter Try.func10, Try.ntmps10
    go_wp2_with fail
    go_ret2
    exact ⟨rfl, Gr.refl _⟩
  · obtain ⟨b, hb⟩ := yes_no (Tab L)
    have CR := Lib.hid (RRight_is (c := c) hm hb)
    cases b with
    | false =>
      obtain ⟨_, rfl, rfl⟩ := h.resolve_right (fun h' => absurd (hb.2 h'.2.1) (by simp))
      clear h hm hb
      go_enter Try.func10, Try.ntmps10
      go_wp2_with fail
      with_reducible refine CR.out.mono ?_
      rintro ee w1 ⟨rfl, h1⟩
      have G1 := Lib.hid h1
      clear h1
      go_wp2_with fail
      go_ret2
      exact ⟨rfl, G1.out⟩
    | true =>
      have ht := hb.1 rfl
      obtain ⟨_, _, rfl, rfl⟩ := h.resolve_left (fun h' => by rcases h'.1 with h1 | h1; exact h0 h1; exact h1 ht)
      have HT := Lib.hid ht
      have n64 : n ≤ 64 := by have := ht.1; omega
      clear h hm hb ht
      go_enter Try.func10, Try.ntmps10
      go_wp2_with fail
      with_reducible refine CR.out.mono ?_
      rintro ee w1 ⟨rfl, h1⟩
      have G1 := Lib.hid h1
      clear h1
      go_wp2_with fail
      go_loopw [6, 20] (fun T i wr => ∃ (k q : Nat), k ≤ n ∧ i = .int .i64 (k : Int) ∧ T = .int .i64 (q : Int) ∧ Hid (q = qd (L.take k) who) ∧ q ≤ k ∧ Hid (Gr w wr)) (fun _ i _ => n - (intOf i).toNat)
      case atStart => exact ⟨0, 0, Nat.zero_le _, rfl, rfl, Lib.hid (by simp [qd]), Nat.le_refl _, G1⟩
      case round =>
        clear G1
        obtain ⟨k, q, hk, rfl, rfl, HQ, hqk, HG⟩ := hrel
        by_cases hlt : k < n
        · obtain ⟨b, off, x, rfl, hbl, hx, hok, d0, d1, d2⟩ := (HM.out.gr HG.out).at_ hlt
          have k0 : (0 : Int) ≤ (k : Int) := by omega
          have k1 : (k : Int) < (n : Int) := by omega
          have hso := (HT.out.2.1 x (List.mem_of_getElem? hx)).1
          have HX := Lib.hid (qd_take (who := who) hx)
          have G2 := Lib.hid (HG.out.al (.cells #[.int .i64 x.addr, .int .i64 x.cnt, .slice x.A x.n x.c] 46))
          have hi := hok.2.2.1.gr ((Gr.refl wr).al (.cells #[.int .i64 x.addr, .int .i64 x.cnt, .slice x.A x.n x.c] 46))
          by_cases hin : who ∈ x.line
          · obtain ⟨x1, x2, hx12⟩ := L7.split_at hin
            have CP := Lib.hid (L7.Place_is hi hok.2.2.2.1 hok.lt (.inr (.inr ⟨by omega, hso.2.2.2.1, ⟨x1, x2, hx12, rfl⟩, rfl⟩)))
            have HN : Hid (q + 1 = qd (L.take (k + 1)) who) := Lib.hid (by rw [HX.out, if_pos hin, HQ.out])
            clear hx hok hso hi hin hx12 HX
            go_wp2_with fail
            with_reducible refine CP.out.mono ?_
            rintro ee w2 ⟨rfl, rfl⟩
            go_wp2_with fail
            go_roundw
            case rel => exact ⟨k + 1, q + 1, by omega, by go_num, by go_num, HN, by omega, G2⟩
            case measure => simp [intOf]; omega
          · have CP := Lib.hid (L7.Place_is hi hok.2.2.2.1 hok.lt (.inr (.inl ⟨by omega, hso.2.2.2.1, hin, rfl, rfl⟩)))
            have HN : Hid (q = qd (L.take (k + 1)) who) := Lib.hid (by rw [HX.out, if_neg hin, HQ.out]; rfl)
            clear hx hok hso hi hin HX
            go_wp2_with fail
            with_reducible refine CP.out.mono ?_
            rintro ee w2 ⟨rfl, rfl⟩
            go_wp2_with fail
            go_roundw
            case rel => exact ⟨k + 1, q, by omega, by go_num, rfl, HN, by omega, G2⟩
            case measure => simp [intOf]; omega
        · obtain rfl : k = n := by omega
          have hq : q = qd L who := by rw [HQ.out, List.take_of_length_le (by omega)]
          have HQQ := Lib.hid hq
          clear hq HQ
          go_wp2_with fail
          go_ret2
          exact ⟨by rw [HQQ.out]; rfl, HG.out⟩
set_option maxHeartbeats 8000000 in
theorem rQueued_is (hm : SMem w A n L) (hn : n ≤ 1000000) (who : Int) :
    Calls Try.prog 13 #[.slice A n c, .int .i64 who] w fun ee w' => ee = .returned (.int .i64 (qd L who : Int)) ∧ Gr w w' := by
  have hlen := hm.1
  have HM := Lib.hid hm
  clear hm
  go_enter Try.func13, Try.ntmps13
  go_wp2_with fail
  go_loopw [5, 10] (fun T i wr => ∃ (k q : Nat), k ≤ n ∧ i = .int .i64 (k : Int) ∧ T = .int .i64 (q : Int) ∧ Hid (q = qd (L.take k) who) ∧ q ≤ k ∧ Hid (Gr w wr)) (fun _ i _ => n - (intOf i).toNat)
  case atStart => exact ⟨0, 0, Nat.zero_le _, rfl, rfl, Lib.hid (by simp [qd]), Nat.le_refl _, Lib.hid (Gr.refl _)⟩
  case round =>
    obtain ⟨k, q, hk, rfl, rfl, HQ, hqk, HG⟩ := hrel
    by_cases hlt : k < n
    · obtain ⟨b, off, x, rfl, hbl, hx, hok, d0, d1, d2⟩ := (HM.out.gr HG.out).at_ hlt
      have k0 : (0 : Int) ≤ (k : Int) := by omega
      have k1 : (k : Int) < (n : Int) := by omega
      have HX := Lib.hid (qd_take (who := who) hx)
      have G2 := Lib.hid (HG.out.al (.cells #[.int .i64 x.addr, .int .i64 x.cnt, .slice x.A x.n x.c] 46))
      have hi := hok.2.2.1.gr ((Gr.refl wr).al (.cells #[.int .i64 x.addr, .int .i64 x.cnt, .slice x.A x.n x.c] 46))
      obtain ⟨p, hp, hC⟩ := L7.rPlace_any (c := x.c) hi hok.lt who
      have CP := Lib.hid hC
      by_cases hin : who ∈ x.line
      · have hpp : ¬ p < 0 := fun hc => hp.1 hc hin
        have HN : Hid (q + 1 = qd (L.take (k + 1)) who) := Lib.hid (by rw [HX.out, if_pos hin, HQ.out])
        clear hx hok hi hin HX hp hC
        go_wp2_with fail
        with_reducible refine CP.out.mono ?_
        rintro ee w2 ⟨rfl, rfl⟩
        go_wp2_with fail
        go_roundw
        case rel => exact ⟨k + 1, q + 1, by omega, by go_num, by go_num, HN, by omega, G2⟩
        case measure => simp [intOf]; omega
      · have hpp : p < 0 := hp.2 hin
        have HN : Hid (q = qd (L.take (k + 1)) who) := Lib.hid (by rw [HX.out, if_neg hin, HQ.out]; rfl)
        clear hx hok hi hin HX hp hC
        go_wp2_with fail
        with_reducible refine CP.out.mono ?_
        rintro ee w2 ⟨rfl, rfl⟩
        go_wp2_with fail
        go_roundw
        case rel => exact ⟨k + 1, q, by omega, by go_num, rfl, HN, by omega, G2⟩
        case measure => simp [intOf]; omega
    · obtain rfl : k = n := by omega
      have hq : q = qd L who := by rw [HQ.out, List.take_of_length_le (by omega)]
      have HQQ := Lib.hid hq
      clear hq HQ
      go_wp2_with fail
      go_ret
      exact ⟨by rw [HQQ.out]; rfl, HG.out⟩
end
end Go.Proofs.Ytmkkeknimpjfoaa
