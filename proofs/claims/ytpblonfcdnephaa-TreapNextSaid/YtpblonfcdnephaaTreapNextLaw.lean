/-
  The law TreapNext.
-/
import Derived.Test.YtpblonfcdnephaaTreapAlive
import Derived.Test.YtpblonfcdnephaaTreapNext
import Derived.Test.YtpblonfcdnephaaEnds
namespace Go.Proofs.Ytpblonfcdnephaa
open Go.ChangeShapes Go.WideShapes Go.ChangeAt Go.RowKit
set_option linter.unusedVariables false
set_option linter.unusedSimpArgs false

/-- From where the k-th is sought. -/
def AtK (K : List Int) (k : Nat) (v : Int) : Prop := (k = 0 ∧ v = 0) ∨ ∃ j z, k = j + 1 ∧ K[j]? = some z ∧ v = min (z + 1) 4294967295
section
variable {K : List Int} {k : Nat} {v z : Int}
theorem rising_lt (hR : Rising K) {i j : Nat} {x y : Int} (hi : K[i]? = some x) (hj : K[j]? = some y) (h : i < j) : x < y := by
  obtain ⟨h1, rfl⟩ := List.getElem?_eq_some_iff.1 hi
  obtain ⟨h2, rfl⟩ := List.getElem?_eq_some_iff.1 hj
  exact List.pairwise_iff_getElem.1 hR i j h1 h2 h
theorem AtK.key (hK : ∀ y ∈ K, IsKey y) (h : AtK K k v) : IsKey v := by
  rcases h with ⟨_, rfl⟩ | ⟨j, z, _, hz, rfl⟩
  · exact ⟨by decide, by decide⟩
  · have := hK z (List.mem_of_getElem? hz)
    unfold IsKey at *; omega
theorem AtK.next (hR : Rising K) (hK : ∀ y ∈ K, IsKey y) (h : AtK K k v) (hz : K[k]? = some z) : K.find? (fun y => decide (v ≤ y)) = some z := by
  obtain ⟨hk, hzk⟩ := List.getElem?_eq_some_iff.1 hz
  rw [List.find?_eq_some_iff_getElem]
  have hzK := hK z (List.mem_of_getElem? hz)
  rcases h with ⟨rfl, rfl⟩ | ⟨j, y, rfl, hy, rfl⟩
  · refine ⟨by have := hzK.1; simpa using this, 0, hk, hzk, fun j hj => absurd hj (by omega)⟩
  · have hyz := rising_lt hR hy hz (by omega)
    unfold IsKey at hzK
    refine ⟨by rw [decide_eq_true_eq]; omega, j + 1, hk, hzk, fun i hi => ?_⟩
    have hi' : i < K.length := by omega
    have hx : K[i]? = some K[i] := List.getElem?_eq_getElem hi'
    have : K[i] ≤ y := by
      by_cases e : i = j
      · subst e; rw [hx] at hy; cases hy; omega
      · have := rising_lt hR hx hy (by omega); omega
    simp
    omega
theorem AtK.done (hR : Rising K) (hK : ∀ y ∈ K, IsKey y) (h : AtK K K.length v) :
    (K.find? (fun y => decide (v ≤ y)) = none ∧ (K = [] ∨ ∃ j z, K.length = j + 1 ∧ K[j]? = some z ∧ (z == 4294967295) = false)) ∨ (∃ j z, K.length = j + 1 ∧ K[j]? = some z ∧ z = 4294967295 ∧ K.find? (fun y => decide (v ≤ y)) = some z) := by
  rcases h with ⟨h, rfl⟩ | ⟨j, y, hl, hy, rfl⟩
  · have : K = [] := List.eq_nil_of_length_eq_zero h
    subst this
    exact .inl ⟨rfl, .inl rfl⟩
  · have hyK := hK y (List.mem_of_getElem? hy)
    have hle : ∀ i x, K[i]? = some x → x ≤ y ∧ (i < j → x < y) := fun i x hx => by
      have hi := (List.getElem?_eq_some_iff.1 hx).1
      by_cases e : i = j
      · subst e; rw [hx] at hy; cases hy; exact ⟨by omega, fun h => absurd h (by omega)⟩
      · have := rising_lt hR hx hy (by omega); exact ⟨by omega, fun _ => this⟩
    unfold IsKey at hyK
    by_cases e : y = 4294967295
    · refine .inr ⟨j, y, hl, hy, e, ?_⟩
      obtain ⟨hj, hyj⟩ := List.getElem?_eq_some_iff.1 hy
      rw [List.find?_eq_some_iff_getElem]
      refine ⟨by rw [decide_eq_true_eq]; omega, j, hj, hyj, fun i hi => ?_⟩
      have := (hle i K[i] (List.getElem?_eq_getElem (by omega))).2 hi
      simp
      omega
    · refine .inl ⟨List.find?_eq_none.2 fun x hx => ?_, .inr ⟨j, y, hl, hy, beq_eq_false_iff_ne.2 e⟩⟩
      obtain ⟨i, hi, rfl⟩ := List.mem_iff_getElem.1 hx
      have := (hle i K[i] (List.getElem?_eq_getElem hi)).1
      simp
      omega
end
section
variable {w : World} {A0 : Option Addr} {n0 c0 : Nat} {L : List Int} {a b : Int}
set_option maxHeartbeats 8000000 in
theorem TreapNext_walk (w : World) (A0 : Option Addr) (n0 c0 : Nat) (L : List Int) (hc : n0 ≤ c0) (hn : n0 ≤ 9223372036854775807) (hm : IMem w A0 n0 L) (a : Int) (ha : B64 a) (b : Int) (hb : B64 b) :
    Calls Try.prog 6 #[.slice A0 n0 c0, .int .i64 a, .int .i64 b] w fun e w' => e = .returned (.bool true) ∧ Gr w w' := by
  have c1 := Lib.hid (made_is hm hc hn)
  have hal := fun W => alive_ok W
  have kal := Lib.hid hal
  obtain ⟨ua, ea, ea1, ea2, ea3, ea4⟩ := wrap_mod a
  obtain ⟨ub, eb, eb1, eb2, eb3, eb4⟩ := wrap_mod b
  have hPa := fun W => Pri_is (a % 4294967296) W
  have hPb := fun W => Pri_is (b % 4294967296) W
  rw [prf_key ea3] at hPa
  rw [prf_key eb3] at hPb
  have hab : pri (a % 4294967296) = pri (b % 4294967296) ↔ a % 4294967296 = b % 4294967296 := ⟨fun h => pri_inj ea3 eb3 h, fun h => by rw [h]⟩
  generalize a % 4294967296 = ka at *
  generalize b % 4294967296 = kb at *
  generalize pri ka = pa at *
  generalize pri kb = pb at *
  have kPa := Lib.hid hPa
  have kPb := Lib.hid hPb
  clear hal hm hPa hPb ea3 eb3
  go_enter Try.func6, Try.ntmps6
  go_wp2_with fail
  with_reducible refine c1.out.mono ?_
  rintro e w1 ⟨r, A, n, c, l, t, C, d, rfl, hm1, hg, hk1, hb1, _⟩
  have BT := Blk.new w1 #[.int .i64 r, .slice A n c] 24
  have HB1 := Lib.hid hb1
  clear hb1 c1
  go_wp2_with fail
  with_reducible refine (kal.out _).mono ?_
  rintro e w2 ⟨rfl, hb2⟩
  have g12 := ((Gr.refl w1).al (.cells #[.int .i64 r, .slice A n c] 24)).trans hb2
  have HG := Lib.hid hg
  have HM := Lib.hid (hm1.gr g12)
  have HK := Lib.hid (hk1.gr g12)
  have HBT := Lib.hid (BT.gr hb2)
  have HG2 := Lib.hid (HB1.out.trans g12)
  have hn64 : n ≤ 64 := by have := hg.2.2.1; have := hm1.1; omega
  clear BT hb2 g12 hg hm1 hk1 HB1 kal
  generalize w1.heap.size = tb at *
  go_wp2_with fail
  go_loopw [10, 32] (fun V i wr => ∃ (k : Nat) (v : Int), k ≤ n ∧ i = .int .i64 (k : Int) ∧ V = .int .i64 v ∧ Hid (AtK t.inord k v) ∧ Hid (Gr w2 wr)) (fun _ i _ => n - (intOf i).toNat)
  case atStart => exact ⟨0, 0, Nat.zero_le _, rfl, rfl, Lib.hid (.inl ⟨rfl, rfl⟩), Lib.hid (Gr.refl _)⟩
  case round =>
    obtain ⟨k, v, hk, rfl, rfl, HAt, HR⟩ := hrel
    have hris := HG.out.2.2.2.1.rising
    have hkey : ∀ y ∈ t.inord, IsKey y := fun y hy => HG.out.isKey hy
    by_cases hlt : k < n
    · obtain ⟨bb, off, x, rfl, hbl, hx, hix, cx⟩ := (HK.out.gr HR.out).at_ hlt
      have hfind := HAt.out.next hris hkey hx
      have cN := Lib.hid (Next_is (c := c) (HM.out.gr HR.out) (x := v) (r := r) (d := x) (e := 0) (.inr (.inr ⟨HAt.out.key hkey, t, HG.out, .inr ⟨hfind, rfl⟩⟩)))
      have f0 := ((HBT.out.gr HR.out).at_ (k := 0) rfl).1
      have f1 := ((HBT.out.gr HR.out).at_ (k := 1) rfl).1
      have hxK := hkey x (List.mem_of_getElem? hx)
      obtain ⟨v2, hv2⟩ : ∃ v2, min (x + 1) 4294967295 = v2 := ⟨_, rfl⟩
      have HA2 := Lib.hid (show AtK t.inord (k + 1) v2 from .inr ⟨k, x, rfl, hx, hv2.symm⟩)
      have e1 : IntKind.i64.wrap (x + 1) = x + 1 := wrap_id (by unfold IsKey at hxK; omega) (by unfold IsKey at hxK; omega)
      clear hx hfind hxK hris hkey HAt
      go_wp2_with fail
      with_reducible refine cN.out.mono ?_
      rintro e w3 ⟨rfl, hb3⟩
      have HR3 := Lib.hid (HR.out.trans hb3)
      clear hb3 f0 f1 cN
      go_wp2_with fail
      go_roundw
      case rel => exact ⟨k + 1, v2, by omega, by go_num, rfl, HA2, HR3⟩
      case measure => simp [intOf]; omega
    · obtain rfl : k = n := by omega
      have hlen := HK.out.1
      have hd := HAt.out
      rw [← hlen] at hd
      have f0 := ((HBT.out.gr HR.out).at_ (k := 0) rfl).1
      have f1 := ((HBT.out.gr HR.out).at_ (k := 1) rfl).1
      have hvk := HAt.out.key hkey
      rcases hd.done hris hkey with ⟨hf, hK⟩ | ⟨j, z, hl, hz, rfl, hf⟩
      · have cN := Lib.hid (Next_is (c := c) (HM.out.gr HR.out) (x := v) (r := r) (d := 0) (e := 4) (.inr (.inr ⟨hvk, t, HG.out, .inl ⟨hf, rfl, rfl⟩⟩)))
        rcases hK with h0 | ⟨j, z, hl, hz, hne⟩
        · obtain rfl : k = 0 := by rw [← hlen, h0]; rfl
          clear h0 hf hd hris hkey hvk HAt
          go_wp2_with fail
          with_reducible refine cN.out.mono ?_
          rintro e w3 ⟨rfl, hb3⟩
          have GF := Lib.hid ((HG2.out.trans HR.out).trans hb3)
          skip
          clear hb3 f0 f1 cN
          by_cases hkk : ka = kb
          · subst hkk
            obtain rfl : pa = pb := hab.2 rfl
            go_wp2_with fail
            with_reducible refine (kPa.out _).mono ?_
            rintro e w4 ⟨rfl, rfl⟩
            go_wp2_with fail
            with_reducible refine (kPa.out _).mono ?_
            rintro e w4 ⟨rfl, rfl⟩
            go_wp2_with fail
            go_ret
            exact ⟨rfl, GF.out⟩
          · have n1 : (ka == kb) = false := beq_eq_false_iff_ne.2 hkk
            have n2 : (pa == pb) = false := beq_eq_false_iff_ne.2 (fun e => hkk (hab.1 e))
            go_wp2_with fail
            with_reducible refine (kPa.out _).mono ?_
            rintro e w4 ⟨rfl, rfl⟩
            go_wp2_with fail
            with_reducible refine (kPb.out _).mono ?_
            rintro e w4 ⟨rfl, rfl⟩
            go_wp2_with fail
            go_ret
            exact ⟨rfl, GF.out⟩
        · rw [hlen] at hl
          have HL := Lib.hid hl
          clear hl
          clear hf hd hris hkey hvk HAt
          go_wp2_with fail
          with_reducible refine cN.out.mono ?_
          rintro e w3 ⟨rfl, hb3⟩
          have GF := Lib.hid ((HG2.out.trans HR.out).trans hb3)
          have hl := HL.out
          obtain ⟨b2, o2, x2, rfl, hbl, hx2, hix, cx⟩ := (HK.out.gr (HR.out.trans hb3)).at_ (show j < k from by omega)
          rw [hz] at hx2
          cases hx2
          have e2 : IntKind.i64.wrap ((k : Int) - 1) = (j : Int) := by rw [wrap_id (by omega) (by omega)]; omega
          have e3 : (0 : Int) < (k : Int) := by omega
          have e4 : (0 : Int) ≤ (j : Int) := by omega
          have e5 : (j : Int) < (k : Int) := by omega
          clear hz hbl hl
          clear hb3 f0 f1 cN
          by_cases hkk : ka = kb
          · subst hkk
            obtain rfl : pa = pb := hab.2 rfl
            go_wp2_with fail
            with_reducible refine (kPa.out _).mono ?_
            rintro e w4 ⟨rfl, rfl⟩
            go_wp2_with fail
            with_reducible refine (kPa.out _).mono ?_
            rintro e w4 ⟨rfl, rfl⟩
            go_wp2_with fail
            go_ret
            exact ⟨rfl, GF.out⟩
          · have n1 : (ka == kb) = false := beq_eq_false_iff_ne.2 hkk
            have n2 : (pa == pb) = false := beq_eq_false_iff_ne.2 (fun e => hkk (hab.1 e))
            go_wp2_with fail
            with_reducible refine (kPa.out _).mono ?_
            rintro e w4 ⟨rfl, rfl⟩
            go_wp2_with fail
            with_reducible refine (kPb.out _).mono ?_
            rintro e w4 ⟨rfl, rfl⟩
            go_wp2_with fail
            go_ret
            exact ⟨rfl, GF.out⟩
      · have cN := Lib.hid (Next_is (c := c) (HM.out.gr HR.out) (x := v) (r := r) (d := 4294967295) (e := 0) (.inr (.inr ⟨hvk, t, HG.out, .inr ⟨hf, rfl⟩⟩)))
        rw [hlen] at hl
        have HL := Lib.hid hl
        clear hl
        clear hf hd hris hkey hvk HAt
        go_wp2_with fail
        with_reducible refine cN.out.mono ?_
        rintro e w3 ⟨rfl, hb3⟩
        have GF := Lib.hid ((HG2.out.trans HR.out).trans hb3)
        have hl := HL.out
        obtain ⟨b2, o2, x2, rfl, hbl, hx2, hix, cx⟩ := (HK.out.gr (HR.out.trans hb3)).at_ (show j < k from by omega)
        rw [hz] at hx2
        cases hx2
        have e2 : IntKind.i64.wrap ((k : Int) - 1) = (j : Int) := by rw [wrap_id (by omega) (by omega)]; omega
        have e3 : (0 : Int) < (k : Int) := by omega
        have e4 : (0 : Int) ≤ (j : Int) := by omega
        have e5 : (j : Int) < (k : Int) := by omega
        clear hz hbl hl
        clear hb3 f0 f1 cN
        by_cases hkk : ka = kb
        · subst hkk
          obtain rfl : pa = pb := hab.2 rfl
          go_wp2_with fail
          with_reducible refine (kPa.out _).mono ?_
          rintro e w4 ⟨rfl, rfl⟩
          go_wp2_with fail
          with_reducible refine (kPa.out _).mono ?_
          rintro e w4 ⟨rfl, rfl⟩
          go_wp2_with fail
          go_ret
          exact ⟨rfl, GF.out⟩
        · have n1 : (ka == kb) = false := beq_eq_false_iff_ne.2 hkk
          have n2 : (pa == pb) = false := beq_eq_false_iff_ne.2 (fun e => hkk (hab.1 e))
          go_wp2_with fail
          with_reducible refine (kPa.out _).mono ?_
          rintro e w4 ⟨rfl, rfl⟩
          go_wp2_with fail
          with_reducible refine (kPb.out _).mono ?_
          rintro e w4 ⟨rfl, rfl⟩
          go_wp2_with fail
          go_ret
          exact ⟨rfl, GF.out⟩
end
set_option maxRecDepth 100000 in
theorem TreapNext_lifted (os : Os) (started : os.Started) (H : Type) (enc : TypeId × Value → H) :
    ReturnsInHanded {} Try.checked os 6 .any (Rows.treapNextSpec.pre6 enc Try.prog Try.f6 Rows.treapNextRow.domain false) (Rows.treapNextSpec.post enc Try.prog Try.f6 false true false false) := by
  refine returnsInHanded_of_change (C := Try.checked) own started (by kernel_rfl) Try.func6
    (ChangeSpec.witness6 (enc := enc) (C := Try.checked) false ⟨#[], #[.slice none 0 0, .int .i64 0, .int .i64 0], []⟩ 8 (by kernel_rfl) (by kernel_rfl) (by kernel_rfl) (by kernel_rfl)) ?_
  intro W base args ds gs before hval0 hW hcnd _
  have hval : ∀ (j : Nat) t v, Try.f6.params[j]? = some t → args[j]? = some v → Value.okWide Try.prog W .any base t v := hval0
  have hW' := hW
  obtain ⟨p, q, hA0, hV, rfl, hfz, hnd⟩ := hW
  have hA : DataW.TrodAll enc Try.prog W 0 (fun _ => true) true Try.f6.params.toList args.toList ds p := hA0
  rw [Try.params6] at hA hval
  have hK := hA
  obtain ⟨v0, vs0, d0, ds0, p0, q0, hargs, rfl, hp, h0, r0⟩ := trodAll_cons hA
  obtain ⟨v1, vs1, d1, ds1, p1, q1, rfl, rfl, rfl, h1, r1⟩ := trodAll_cons r0
  obtain ⟨v2, vs2, d2, ds2, p2, q2, rfl, rfl, rfl, h2, r2⟩ := trodAll_cons r1
  obtain ⟨rfl, rfl, rfl⟩ := trodAll_nil r2
  obtain rfl : args = #[v0, v1, v2] := by cases args; simp_all
  obtain ⟨rfl, rfl⟩ := trodVars_none hV
  obtain ⟨A0, n0, c0, l0, rfl, hc0, hn0, hm0⟩ := open_ints (hval 0 29 v0 rfl rfl) h0
  obtain ⟨a1, rfl, rfl, rfl, w1⟩ := open_int Try.underlying3 (hval 1 3 v1 rfl rfl) h1
  obtain ⟨a2, rfl, rfl, rfl, w2⟩ := open_int Try.underlying3 (hval 2 3 v2 rfl rfl) h2
  clear hA0 hval0
  refine (TreapNext_walk W A0 n0 c0 l0 hc0 hn0 hm0 a1 (wfb w1) a2 (wfb w2)).mono fun e W' ⟨he, hg⟩ => ?_
  subst he
  exact ⟨_, rfl, post_below (pa := p) (pv := []) hW' (fun _ _ _ => (trodAll_cons_mk (shut_bool Try.underlying4 _) trodAll_mk0))
    (fun sp hs => trodAll_stays laidOut hg sp (by kernel_rfl) hK (fun x hx => hW'.lt x (List.mem_append_left _ hx)) (fun x hx => hs x (List.mem_append_left _ hx))) (fun _ _ => rfl) rfl
    hg (ok_one (by kernel_rfl) rfl (okWide_bool_mk Try.underlying4 _))⟩

theorem TreapNext_over : Rows.treapNextRow.holds Try.pinned (OpenSpec.ofChange Rows.treapNextSpec) :=
  OpenClaim.holds_of_wide 6 Try.f6 rfl rfl rfl rfl rfl rfl rfl ⟨rfl, rfl, rfl, rfl, rfl⟩ rfl rfl rfl rfl rfl (by kernel_rfl) Try.func6 (by kernel_rfl)
    (of_decide_eq_true (by kernel_rfl)) (by unfold Func.isWrapper; first | (rw [if_pos (by decide +kernel)]; kernel_rfl) | (rw [if_neg (by decide +kernel)]; exact ⟨rfl, rfl⟩))
    (fun os started H enc _ => TreapNext_lifted os started H enc)

/-- The statement. -/
theorem TreapNext_holds : Rows.TreapNextSaid :=
  TreapNext_over
#print axioms TreapNext_holds
end Go.Proofs.Ytpblonfcdnephaa
