/-
  deadboltref12: the text of programs that may be.
-/
import Derived.Test.YtocojdiapaeajaaDoorProgRefB
import Derived.Test.YtocojdiapaeajaaDoorProgPrint
namespace Go.Proofs.YtocojdiapaeajaaDoor
open Go.ChangeShapes Go.WideShapes Go.ChangeAt Go.RowKit
set_option linter.unusedVariables false
set_option linter.unusedSimpArgs false
set_option maxRecDepth 100000
namespace P12

theorem lineS_zero {p : List Ac} {a : Ac} (h : p[0]? = some a) : lineS (p.take 1) = actS a := by
  cases p with
  | nil => cases h
  | cons b r => cases h; exact lineS_one a
theorem lineS_snoc {p : List Ac} {j : Nat} {a : Ac} (hj : 0 < j) (h : p[j]? = some a) : lineS (p.take (j + 1)) = lineS (p.take j) ++ [59, 32] ++ actS a := by
  obtain ⟨i, rfl⟩ : ∃ i, j = i + 1 := ⟨j - 1, by omega⟩
  cases p with
  | nil => cases h
  | cons b r =>
    unfold lineS
    rw [List.take_succ_cons, List.take_succ_cons, List.map_cons, List.map_cons, Lib.join_cons, Lib.join_cons, List.map_take, List.map_take]
    rw [Lib.joinTail_take_succ _ _ i (actS a) (by rw [List.getElem?_map]; rw [List.getElem?_cons_succ] at h; rw [h]; rfl)]
    simp

theorem pmem_lenP {w : World} {A : Option Addr} {n : Nat} {R : List PV} (h : PMem w A n R) : (pl R).length = n := by unfold pl; rw [List.length_map, h.len]
set_option maxHeartbeats 8000000 in
theorem rPrint_is {w : World} {A : Option Addr} {n c : Nat} {R : List PV} (hB : rightB (pl R) = true) (hm : PMem w A n R) :
    Calls Tryd.prog 18 #[.slice A n c] w fun e w' => e = .returned (.string (bs (textS (pl R)))) ∧ Gr w w' := by
  obtain ⟨h8, hfit⟩ := right_iff.1 hB
  have hlen := pmem_lenP hm
  have hn8 : n ≤ 8 := by omega
  have HM := Lib.hid hm
  have HF := Lib.hid hfit
  have HL := Lib.hid hlen
  have H0 := Lib.hid (show bs (textS ((pl R).take 0)) = ⟨#[]⟩ from rfl)
  clear hm hfit hlen h8 hB
  go_enter Tryd.func18, Tryd.ntmps18
  go_wp2_with fail
  go_loopw [3, 10] (fun o i wr => ∃ (k : Nat) (S : ByteArray), k ≤ n ∧ i = .int .i64 (k : Int) ∧ o = .string S ∧ Hid (bs (textS ((pl R).take k)) = S) ∧ Hid (Gr w wr)) (fun _ i _ => n - (intOf i).toNat)
  case atStart => exact ⟨0, _, Nat.zero_le _, rfl, rfl, H0, Lib.hid (Gr.refl _)⟩
  case round =>
    obtain ⟨k, S, hk, rfl, rfl, HS, HG⟩ := hrel
    by_cases hlt : k < n
    · obtain ⟨b, off, x, rfl, hbl, hx, hxo, d0⟩ := (HM.out.gr HG.out).at_ hlt
      have hxl : (pl R)[k]? = some x.l := by unfold pl; rw [List.getElem?_map, hx]; rfl
      have hxf := HF.out x.l (List.mem_of_getElem? hxl)
      have hxn : x.n ≤ 64 := by rw [← hxo.1.1]; exact hxf.1
      have e1 : (pl R).take (k + 1) = (pl R).take k ++ [x.l] := by rw [List.take_add_one, hxl]; rfl
      have HT := Lib.hid (show bs (textS ((pl R).take k) ++ lineS x.l) ++ ⟨#[10]⟩ = bs (textS ((pl R).take (k + 1))) from by
        rw [show (⟨#[10]⟩ : ByteArray) = bs [10] from rfl, bs_append, e1, textS_append]
        simp [textS])
      have l2 := textS_len ((pl R).take k) (fun q hq => HF.out q (List.mem_of_mem_take hq))
      rw [List.length_take] at l2
      have hlT : (textS ((pl R).take k)).length ≤ 10000 := by omega
      have k0 : (0 : Int) ≤ (k : Int) := by omega
      have k1 : (k : Int) < (n : Int) := by omega
      obtain ⟨T0, hT0⟩ : ∃ T0, textS ((pl R).take k) = T0 := ⟨_, rfl⟩
      rw [hT0] at HT hlT HS
      obtain ⟨p, hp⟩ : ∃ p, x.l = p := ⟨_, rfl⟩
      rw [hp] at HT hxf
      have hmx := hxo.1
      rw [hp] at hmx
      have HMX := Lib.hid hmx
      have HOK := Lib.hid hxf.2
      have HPL := Lib.hid (show p.length = x.n from hmx.1)
      clear hx hxl hxo e1 l2 hT0 hp hxf hmx
      rename World => wo
      go_wp2_with fail
      have HS0 := Lib.hid (show bs (T0 ++ lineS (p.take 0)) = S from by rw [List.take_zero, lineS_nil, List.append_nil]; exact HS.out)
      go_loopw [3, 16] (fun o i wr => ∃ (j : Nat) (U : ByteArray), j ≤ x.n ∧ i = .int .i64 (j : Int) ∧ o = .string U ∧ Hid (bs (T0 ++ lineS (p.take j)) = U) ∧ Hid (Gr wo wr)) (fun _ i _ => x.n - (intOf i).toNat)
      case atStart => exact ⟨0, S, Nat.zero_le _, rfl, rfl, HS0, Lib.hid (Gr.refl _)⟩
      case round =>
        obtain ⟨j, U, hj, rfl, rfl, HU, HI⟩ := hrel
        by_cases hjl : j < x.n
        · obtain ⟨b2, off2, y, hyA, hbl2, hy, hy1, hy2, c0, c1⟩ := (HMX.out.gr HI.out).at_ hjl
          have hyo := HOK.out y (List.mem_of_getElem? hy)
          obtain ⟨n0, n1, n2, n3⟩ := okA_num hyo
          have HAP := Lib.hid (act_parts y)
          have l1 := wd_len y.1
          have l3 := (dgs_len ⟨n0, n1⟩).2
          rw [← bs_size] at l1 l3
          have l4 : U.size ≤ 11000 := by
            rw [← HU.out, bs_size, List.length_append]
            have := lineS_len (p.take j) (fun a ha => HOK.out a (List.mem_of_mem_take ha))
            rw [List.length_take] at this
            omega
          have HUP := Lib.hid (show bs (T0 ++ lineS (p.take (j + 1))) = (if j = 0 then U else U ++ ⟨#[59, 32]⟩) ++ bs (actS y) from by
            by_cases h0 : j = 0
            · subst h0
              rw [if_pos rfl, lineS_zero hy, ← HU.out, bs_append, List.take_zero, lineS_nil, List.append_nil]
            · rw [if_neg h0, lineS_snoc (by omega) hy, ← HU.out, show (⟨#[59, 32]⟩ : ByteArray) = bs [59, 32] from rfl, bs_append, bs_append]
              simp)
          obtain ⟨y0, x1⟩ := y
          dsimp only at *
          obtain ⟨x0, rfl⟩ : ∃ q : Nat, y0 = (q : Int) := ⟨y0.toNat, by omega⟩
          have hG5 := (Gr.refl wr).al (.cells #[.int .i64 (x0 : Int), .int .i64 x1] 38)
          have cd := fun W => Lib.hid (rdig_is x1 ⟨n0, n1⟩ W)
          have wcell : ∀ W : World, (W.alloc (.cells #[.string (bs (wd 0)), .string (bs (wd 1)), .string (bs (wd 2)), .string (bs (wd 3))] 9)).cell? ⟨W.heap.size, x0, none⟩ = some (.string (bs (wd (x0 : Int)))) := fun W => by
            have hb := Blk.new W #[.string (bs (wd 0)), .string (bs (wd 1)), .string (bs (wd 2)), .string (bs (wd 3))] 9
            have e : x0 = 0 ∨ x0 = 1 ∨ x0 = 2 ∨ x0 = 3 := by omega
            rcases e with rfl | rfl | rfl | rfl
            · exact (hb.at_ (k := 0) rfl).1
            · exact (hb.at_ (k := 1) rfl).1
            · exact (hb.at_ (k := 2) rfl).1
            · exact (hb.at_ (k := 3) rfl).1
          have k4 : (0 : Int) ≤ (j : Int) := by omega
          have k5 : (j : Int) < (x.n : Int) := by omega
          have x4 : (x0 : Int) < 4 := by omega
          have x5 : (0 : Int) ≤ (x0 : Int) := by omega
          obtain ⟨S1, hS1⟩ : ∃ S, bs (wd (x0 : Int)) = S := ⟨_, rfl⟩
          obtain ⟨S2, hS2⟩ : ∃ S, bs (dgs x1) = S := ⟨_, rfl⟩
          rw [hS1] at l1 HAP
          rw [hS2] at l3 HAP
          simp only [hS2] at cd
          have cw := fun W => Lib.hid (show Calls Tryd.prog 32 #[] W fun e w' => (∃ g, e = .returned (.slice (some ⟨g, 0, none⟩) 4 4) ∧ w'.cell? ⟨g, x0, none⟩ = some (.string S1) ∧ g < w'.heap.size) ∧ Gr W w' from
            (rwords_is W).mono fun e w' ⟨h1, h2⟩ => ⟨⟨W.heap.size, h1, by rw [h2, ← hS1]; exact wcell W, by rw [h2, World.size_alloc]; omega⟩, by rw [h2]; exact (Gr.refl W).al _⟩)
          clear hS1 hS2 wcell hy hyo hy1 hy2 n2 n3
          obtain ⟨xA, xn, xc, xl⟩ := x
          dsimp only at *
          subst hyA
          by_cases h0 : j = 0
          · have hj0 : ¬ (0 : Int) < (j : Int) := by omega
            have z1 : ¬ 9223372036854775807 < U.size + S1.size := by omega
            have z2 : ¬ 9223372036854775807 < U.size + S1.size + 1 := by omega
            have z3 : ¬ 9223372036854775807 < U.size + S1.size + 1 + S2.size := by omega
            have HV := Lib.hid (show U ++ S1 ++ ⟨#[32]⟩ ++ S2 = bs (T0 ++ lineS (p.take (j + 1))) from by
              rw [HUP.out, if_pos h0, ← HAP.out]
              simp only [ByteArray.append_assoc])
            clear h0 l1 l3 l4 HUP HAP
            go_wp2_with fail
            have cX := (Blk.new wr #[.int .i64 (x0 : Int), .int .i64 x1] 38).gr (Gr.refl _).dr
            have y0' := (cX.at_ (k := 0) rfl).1
            have y1' := (cX.at_ (k := 1) rfl).1
            go_region_with (first
                | ((go_at_call 33; (with_reducible refine (cd _).out.mono ?_); rintro e wD ⟨rfl, hbD⟩; have cD : Blk wD wr.heap.size #[.int .i64 (x0 : Int), .int .i64 x1] 38 := cW.gr hbD; have t0' : wD.cell? ⟨wr.heap.size, 0, none⟩ = some (.int .i64 (x0 : Int)) := (cD.at_ (k := 0) rfl).1; have t1' : wD.cell? ⟨wr.heap.size, 1, none⟩ = some (.int .i64 x1) := (cD.at_ (k := 1) rfl).1; have u0' : wD.cell? ⟨g, x0, none⟩ = some (.string S1) := (Below.cell (p := ⟨g, x0, none⟩) hbD hgl).trans hgc; have hID := hIW.trans hbD))
                | ((go_at_call 32; (with_reducible refine (cw _).out.mono ?_); rintro e wW ⟨⟨g, rfl, hgc, hgl⟩, hbW⟩; have hIW := hG5.dr.trans hbW; have cW : Blk wW wr.heap.size #[.int .i64 (x0 : Int), .int .i64 x1] 38 := cX.gr hbW; have v0' : wW.cell? ⟨wr.heap.size, 0, none⟩ = some (.int .i64 (x0 : Int)) := (cW.at_ (k := 0) rfl).1; have v1' : wW.cell? ⟨wr.heap.size, 1, none⟩ = some (.int .i64 x1) := (cW.at_ (k := 1) rfl).1)))
            all_goals (
              rw [HV.out]
              obtain ⟨U2, hU2⟩ : ∃ U2, bs (T0 ++ lineS (p.take (j + 1))) = U2 := ⟨_, rfl⟩
              rw [hU2]
              have HU2 := Lib.hid hU2
              have HI2 := Lib.hid (HI.out.trans hID)
              clear hU2 hID
              go_wp2_with fail
              go_roundw
              case rel => exact ⟨j + 1, U2, by omega, by go_num, rfl, HU2, HI2⟩
              case measure => simp [intOf]; omega)
          · have hj0 : (0 : Int) < (j : Int) := by omega
            have z0 : ¬ 9223372036854775807 < U.size + 2 := by omega
            have z1 : ¬ 9223372036854775807 < U.size + 2 + S1.size := by omega
            have z2 : ¬ 9223372036854775807 < U.size + 2 + S1.size + 1 := by omega
            have z3 : ¬ 9223372036854775807 < U.size + 2 + S1.size + 1 + S2.size := by omega
            have HV := Lib.hid (show U ++ ⟨#[59, 32]⟩ ++ S1 ++ ⟨#[32]⟩ ++ S2 = bs (T0 ++ lineS (p.take (j + 1))) from by
              rw [HUP.out, if_neg h0, ← HAP.out]
              simp only [ByteArray.append_assoc])
            clear h0 l1 l3 l4 HUP HAP
            go_wp2_with fail
            have cX := (Blk.new wr #[.int .i64 (x0 : Int), .int .i64 x1] 38).gr (Gr.refl _).dr
            have y0' := (cX.at_ (k := 0) rfl).1
            have y1' := (cX.at_ (k := 1) rfl).1
            go_region_with (first
                | ((go_at_call 33; (with_reducible refine (cd _).out.mono ?_); rintro e wD ⟨rfl, hbD⟩; have cD : Blk wD wr.heap.size #[.int .i64 (x0 : Int), .int .i64 x1] 38 := cW.gr hbD; have t0' : wD.cell? ⟨wr.heap.size, 0, none⟩ = some (.int .i64 (x0 : Int)) := (cD.at_ (k := 0) rfl).1; have t1' : wD.cell? ⟨wr.heap.size, 1, none⟩ = some (.int .i64 x1) := (cD.at_ (k := 1) rfl).1; have u0' : wD.cell? ⟨g, x0, none⟩ = some (.string S1) := (Below.cell (p := ⟨g, x0, none⟩) hbD hgl).trans hgc; have hID := hIW.trans hbD))
                | ((go_at_call 32; (with_reducible refine (cw _).out.mono ?_); rintro e wW ⟨⟨g, rfl, hgc, hgl⟩, hbW⟩; have hIW := hG5.dr.trans hbW; have cW : Blk wW wr.heap.size #[.int .i64 (x0 : Int), .int .i64 x1] 38 := cX.gr hbW; have v0' : wW.cell? ⟨wr.heap.size, 0, none⟩ = some (.int .i64 (x0 : Int)) := (cW.at_ (k := 0) rfl).1; have v1' : wW.cell? ⟨wr.heap.size, 1, none⟩ = some (.int .i64 x1) := (cW.at_ (k := 1) rfl).1)))
            all_goals (
              rw [HV.out]
              obtain ⟨U2, hU2⟩ : ∃ U2, bs (T0 ++ lineS (p.take (j + 1))) = U2 := ⟨_, rfl⟩
              rw [hU2]
              have HU2 := Lib.hid hU2
              have HI2 := Lib.hid (HI.out.trans hID)
              clear hU2 hID
              go_wp2_with fail
              go_roundw
              case rel => exact ⟨j + 1, U2, by omega, by go_num, rfl, HU2, HI2⟩
              case measure => simp [intOf]; omega)
        · obtain rfl : j = x.n := by omega
          have HZ := Lib.hid (show U ++ ⟨#[10]⟩ = bs (textS ((pl R).take (k + 1))) from by
            rw [← HT.out, ← HU.out, List.take_of_length_le (by rw [HPL.out]; exact Nat.le_refl _)])
          have hU : U.size ≤ 11000 := by
            rw [← HU.out, bs_size, List.length_append]
            have := lineS_len (p.take x.n) (fun a ha => HOK.out a (List.mem_of_mem_take ha))
            rw [List.length_take] at this
            omega
          have z1 : ¬ 9223372036854775807 < U.size + 1 := by omega
          clear hU
          go_wp2_with fail
          rw [HZ.out]
          obtain ⟨U2, hU2⟩ : ∃ U2, bs (textS ((pl R).take (k + 1))) = U2 := ⟨_, rfl⟩
          rw [hU2]
          have HU2 := Lib.hid hU2
          have HI2 := Lib.hid (HG.out.trans HI.out)
          clear hU2
          go_wp2_with fail
          go_roundw
          case rel => exact ⟨k + 1, U2, by omega, by go_num, rfl, HU2, HI2⟩
          case measure => simp [intOf]; omega
    · obtain rfl : k = n := by omega
      have hT : bs (textS (pl R)) = S := by rw [← HS.out, List.take_of_length_le (by rw [HL.out]; exact Nat.le_refl _)]
      have HT := Lib.hid hT
      clear hT
      go_wp2_with fail
      go_ret
      exact ⟨by rw [HT.out]; rfl, HG.out⟩
end P12
end Go.Proofs.YtocojdiapaeajaaDoor
