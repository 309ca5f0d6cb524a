/-
  deadboltlaw12.ProgTidy: the walk of the law.
-/
import Derived.Test.YtocojdiapaeajaaDoorProgAlive
namespace Go.Proofs.YtocojdiapaeajaaDoor
open Go.ChangeShapes Go.WideShapes Go.ChangeAt Go.RowKit
set_option linter.unusedVariables false
set_option linter.unusedSimpArgs false
set_option maxRecDepth 100000
namespace P12

theorem cut_run (A : Option Addr) (n c p : Nat) (hp : p ≤ n) (W : World) : (Instr.slice 32 (.slice A n c) (some (.int .i64 (p : Int))) none none).run Tryd.prog W = .ok (.slice (if c = p then A else A.map (·.add (p * 2))) (n - p) (c - p)) W := by
  have h0 : (0 : Int) ≤ (p : Int) := by omega
  have h1 : (p : Int) ≤ (n : Int) := by omega
  obtain ⟨i, h1', e1, e2, e3⟩ := info_parts infoAct
  dsimp only at e1 e2 e3
  have ht : Tryd.prog.underlying 32 = some (.slice (Tryd.prog.elem 32)) := by kernel_rfl
  have he : Tryd.prog.elem 32 = 38 := by kernel_rfl
  simp [Instr.slice, run_underlying ht, Instr.sliceBounds, run_sliceBound, h0, h1, he, sizeOf, typeInfo, h1', e2]
theorem lenTake (a : List Ac) (p : Nat) : (a.take p).length ≤ p := by simp; omega
theorem turns (a : Int) (n : Nat) (hn : n ≤ 70) : ∃ (m t u v : Int) (p : Nat), IntKind.i64.wrap ((n : Int) + 1) = m ∧ m ≠ 0 ∧ a.tmod m = t ∧ IntKind.i64.wrap (t + n) = u ∧ IntKind.i64.wrap (u + 1) = v ∧ v.tmod m = (p : Int) ∧ p ≤ n := by
  refine ⟨(n : Int) + 1, _, _, _, ((IntKind.i64.wrap (IntKind.i64.wrap (a.tmod ((n : Int) + 1) + n) + 1)).tmod ((n : Int) + 1)).toNat, wrap_small (by omega) (by omega), by omega, rfl, rfl, rfl, ?_⟩
  have h1 : a.tmod ((n : Int) + 1) < (n : Int) + 1 := Int.tmod_lt_of_pos a (by omega)
  have h2 : -((n : Int) + 1) < a.tmod ((n : Int) + 1) := Int.lt_tmod_of_pos a (by omega)
  generalize a.tmod ((n : Int) + 1) = t at *
  have e1 : IntKind.i64.wrap (t + n) = t + n := by rw [IntKind.wrap_i64]; omega
  rw [e1]
  have e2 : IntKind.i64.wrap (t + n + 1) = t + n + 1 := by rw [IntKind.wrap_i64]; omega
  rw [e2]
  have h3 := Int.tmod_nonneg ((n : Int) + 1) (show 0 ≤ t + n + 1 by omega)
  have h4 : (t + n + 1).tmod ((n : Int) + 1) < (n : Int) + 1 := Int.tmod_lt_of_pos _ (by omega)
  generalize (t + n + 1).tmod ((n : Int) + 1) = q at *
  omega
theorem taken {w : World} {A : Option Addr} {n c : Nat} {l : List Ac} (hm : Mem w A n l) (hc : n ≤ c) :
    ∃ (N : Nat) (L : List Ac), (if (70 : Int) < (n : Int) then (70 : Int) else (n : Int)) = (N : Int) ∧ min (n : Int) 70 = (N : Int) ∧ N ≤ 70 ∧ (N : Int) ≤ (c : Int) ∧ Mem w A N L := by
  by_cases h : 70 < n
  · exact ⟨70, l.take 70, by rw [if_pos (by omega)]; rfl, by omega, by omega, by omega, hm.take_ 70 (by omega)⟩
  · exact ⟨n, l, by rw [if_neg (by omega)], by omega, by omega, by omega, hm⟩

section
variable {w : World} {x y : PV} {at_ n : Int}
set_option maxHeartbeats 4000000 in
theorem ProgTidy_walk (hg : Glob w) (hx : x.ok w) (hy : y.ok w) (hn : Inb n) :
    Calls Tryd.prog 6 #[.slice x.A x.n x.c, .slice y.A y.n y.c, .int .i64 at_, .int .i64 n] w fun e w' => e = .returned (.bool true) ∧ Gr w w' := by
  obtain ⟨N, a, f1, f2, hN, hNc, hma⟩ := taken hx.1 hx.2.1
  obtain ⟨M, b, f3, f4, hM, hMc, hmb⟩ := taken hy.1 hy.2.1
  obtain ⟨xA, xn, xc, xl⟩ := x
  obtain ⟨yA, yn, yc, yl⟩ := y
  dsimp only at f1 f2 f3 f4 hNc hMc hma hmb ⊢
  have xnl : xn ≤ 9223372036854775807 := hx.lt
  have ynl : yn ≤ 9223372036854775807 := hy.lt
  clear hx hy
  obtain ⟨X, hX⟩ : ∃ X, tidyB a = X := ⟨_, rfl⟩
  obtain ⟨Y, hY⟩ : ∃ Y, tidyB b = Y := ⟨_, rfl⟩
  have cx := fun W (g : Gr w W) => Lib.hid (Tidy_is (c := xc) hX (by omega) W (hma.gr g))
  have cy := fun W (g : Gr w W) => Lib.hid (Tidy_is (c := yc) hY (by omega) W (hmb.gr g))
  have HMA := Lib.hid hma
  have HMB := Lib.hid hmb
  have HX := Lib.hid hX
  have HY := Lib.hid hY
  clear hX hY
  have la : a.length = N := hma.1
  have lb : b.length = M := hmb.1
  have HIA := Lib.hid hma.2.1
  have HIB := Lib.hid hmb.2.1
  have p0 : (0 : Int) ≤ (N : Int) := by omega
  have p1 : (0 : Int) ≤ (M : Int) := by omega
  clear hma hmb
  go_enter Tryd.func6, Tryd.ntmps6
  go_wp2_with fail
  go_quiet (fail)
  generalize hW1 : w.drewN _ = W1
  have G1 : Gr w W1 := by rw [← hW1]; exact (Gr.refl w).drN _
  clear hW1
  have o1 := aown_empty (base := W1.heap.size) (Blk.new W1 #[] 38) (Nat.le_refl _)
  have g1 := G1.al (.cells #[] 38)
  have s1 : W1.heap.size ≤ (W1.alloc (.cells #[] 38)).heap.size := by simp
  go_wp2_with (at_builtin; refine Mark.stop ?_)
  refine Mark.go ?_
  refine wpList_append_acts (l := []) rfl (.tmp 25) (.tmp 26) rfl rfl rfl o1 (HMA.out.gr g1) (by simp; omega) s1 ?_
  intro v1 W2 o2 gb2
  have g2 := g1.gb gb2 (fun k hk => Nat.le_trans G1.size (o1.late hk))
  have s2 : W1.heap.size ≤ W2.heap.size := Nat.le_trans s1 gb2.size
  clear gb2 o1
  go_wp2_with (at_builtin; refine Mark.stop ?_)
  refine Mark.go ?_
  refine wpList_append_acts rfl (.tmp 27) (.tmp 28) rfl rfl rfl o2 (HMB.out.gr g2) (by simp; omega) s2 ?_
  intro v2 W3 o3 gb3
  have g3 := g2.gb gb3 (fun k hk => Nat.le_trans G1.size (o2.late hk))
  rw [List.nil_append] at o3
  obtain ⟨D, dc, rfl, HD, hdc, hdc2, -⟩ := own_mem o3 (fun z hz => by
    rcases List.mem_append.1 hz with h | h
    · exact HIA.out z h
    · exact HIB.out z h)
  have hab : (a ++ b).length = N + M := by rw [List.length_append, la, lb]
  rw [hab] at HD
  have hdl : N + M ≤ 9223372036854775807 := by omega
  have HD := Lib.hid HD
  have G3 := Lib.hid g3
  clear gb3 o3 o2 g2 g1 s1 s2 hdc hdc2 hab
  go_wp2_with fail
  with_reducible refine (cx _ G3.out).out.mono ?_
  rintro e W4 ⟨rfl, hb4⟩
  replace G3 := Lib.hid (G3.out.trans hb4)
  replace HD := Lib.hid (HD.out.gr hb4)
  clear hb4
  go_wp2_with fail
  with_reducible refine (cy _ G3.out).out.mono ?_
  rintro e W5 ⟨rfl, hb5⟩
  replace G3 := Lib.hid (G3.out.trans hb5)
  replace HD := Lib.hid (HD.out.gr hb5)
  clear hb5
  have cal := fun W (g : Gr w W) => Lib.hid (alive_is (hg.gr g))
  obtain ⟨m, t, u, v, p, e1, e2, e3, e4, e5, e6, hp⟩ := turns at_ N hN
  have hyy : (!(Y == Y)) = false := by simp
  have q0 : (0 : Int) ≤ (p : Int) := by omega
  have q1 : (p : Int) ≤ (N : Int) := by omega
  have q2 : (p : Int) ≤ (xc : Int) := by omega
  have q3 : (N : Int) ≤ (xc : Int) := hNc
  cases X
  case' true =>
    have cd := Lib.hid (Tidy_is (c := dc) (l := a ++ b) (B := Y) (by rw [← HY.out]; exact tidy_both HX.out) hdl W5 HD.out)
    go_wp2_with fail
    with_reducible refine cd.out.mono ?_
    rintro e W6 ⟨rfl, hb6⟩
    replace G3 := Lib.hid (G3.out.trans hb6)
    clear hb6 cd HD
    go_wp2_with fail
    with_reducible refine (cal _ G3.out).out.mono ?_
    rintro e W7 ⟨rfl, hb7⟩
    replace G3 := Lib.hid (G3.out.trans hb7)
    clear hb7
  case' false =>
    clear HD
    go_wp2_with fail
    with_reducible refine (cal _ G3.out).out.mono ?_
    rintro e W7 ⟨rfl, hb7⟩
    replace G3 := Lib.hid (G3.out.trans hb7)
    clear hb7
  all_goals (
    go_wp2_with fail
    have oE := ((aown_empty (base := W7.heap.size) (Blk.new W7 #[] 38) (Nat.le_refl _)).gr ((Gr.refl _).al (.cells #[.int .i64 3, .int .i64 n] 38))).gr (Gr.refl _).dr
    have kE : Blk ((W7.alloc (.cells #[] 38)).alloc (.cells #[.int .i64 3, .int .i64 n] 38)).drew (W7.heap.size + 1) #[.int .i64 3, .int .i64 n] 38 := by
      have := (Blk.new (W7.alloc (.cells #[] 38)) #[.int .i64 3, .int .i64 n] 38).gr (Gr.refl _).dr
      simpa using this
    have gE := ((G3.out.al (.cells #[] 38)).al (.cells #[.int .i64 3, .int .i64 n] 38)).dr
    have HGE := Lib.hid gE
    have bE : W7.heap.size ≤ ((W7.alloc (.cells #[] 38)).alloc (.cells #[.int .i64 3, .int .i64 n] 38)).drew.heap.size := by simp; omega
    have i3 : Inb 3 ∧ Inb n := ⟨⟨by omega, by omega⟩, hn⟩
    have hne : (Value.slice (some ⟨W7.heap.size, 0, none⟩) 0 0).ownBlock ≠ some (W7.heap.size + 1) := by
      show some W7.heap.size ≠ _
      intro h
      have := Option.some.inj h
      omega
    have KE := Lib.hid kE
    clear kE
    have kE3 := ((Blk.new W7 #[.int .i64 3, .int .i64 n] 38).gr ((Gr.refl _).al (.cells #[] 38))).gr (Gr.refl _).dr
    have oE3 : AOwn ((W7.alloc (.cells #[.int .i64 3, .int .i64 n] 38)).alloc (.cells #[] 38)).drew W7.heap.size (.slice (some ⟨W7.heap.size + 1, 0, none⟩) 0 0) [] := by
      have := Blk.new (W7.alloc (.cells #[.int .i64 3, .int .i64 n] 38)) #[] 38
      rw [World.size_alloc] at this
      exact (aown_empty (base := W7.heap.size) this (by omega)).gr (Gr.refl _).dr
    have HGE3 := Lib.hid (((G3.out.al (.cells #[.int .i64 3, .int .i64 n] 38)).al (.cells #[] 38)).dr)
    have bE3 : W7.heap.size ≤ ((W7.alloc (.cells #[.int .i64 3, .int .i64 n] 38)).alloc (.cells #[] 38)).drew.heap.size := by simp; omega
    have hne3 : (Value.slice (some ⟨W7.heap.size + 1, 0, none⟩) 0 0).ownBlock ≠ some W7.heap.size := by
      show some (W7.heap.size + 1) ≠ _
      intro h
      have := Option.some.inj h
      omega
    have KE3 := Lib.hid kE3
    clear kE3
    have oE1 := (aown_empty (base := W7.heap.size) (Blk.new W7 #[] 38) (Nat.le_refl _)).gr (Gr.refl _).dr
    have HGE1 := Lib.hid ((G3.out.al (.cells #[] 38)).dr)
    have bE1 : W7.heap.size ≤ (W7.alloc (.cells #[] 38)).drew.heap.size := by simp
    have p70 : p ≤ 70 := by omega
    obtain ⟨A2, hr2, hM2⟩ : ∃ A2, (if xc = p then xA else xA.map (·.add (p * 2))) = A2 ∧ (N - p ≤ 70 ∧ ∀ W, Gr w W → Mem W A2 (N - p) (a.drop p)) :=
      ⟨_, rfl, by omega, fun W g => mem_cut (HMA.out.gr g) p xc hp (by omega)⟩
    obtain ⟨q, hq⟩ : ∃ q, N - p = q := ⟨_, rfl⟩
    rw [hq] at hM2
    have q70 := hM2.1
    have HM2 := Lib.hid hM2.2
    have hl7 : ([] : List Ac).length + p ≤ 1000000 := by simp; omega
    have hm71 := (HMA.out.gr HGE1.out).take_ p hp
    have hm73 := (HMA.out.gr HGE3.out).take_ p hp
    have hm7 := (HMA.out.gr HGE.out).take_ p hp
    clear hM2
    go_region_held3 (fun _ => True) (exact trivial)
      (first
        | ((have hm9 := HM2.out _ gX2; have hl9 : (a.take p ++ [(3, n)]).length + q ≤ 1000000 := (by have := lenTake a p; simp only [List.length_append, List.length_cons, List.length_nil]; omega); refine step_append_acts (l := a.take p ++ [(3, n)]) (news := a.drop p) (base := W7.heap.size) rfl (.tmp 66) (.tmp 69) rfl rfl rfl o2' hm9 hl9 bX2 ?_; intro v3' X3 o3' gb3'; have gX3 := gX2.gb gb3' (fun k hk => Nat.le_trans G3.out.size (o2'.late hk)); have bX3 := Nat.le_trans bX2 gb3'.size))
        | ((have hm8 := mem_one (a := (3, n)) (Blk.new X1 #[.int .i64 3, .int .i64 n] 38) i3; have hl8 : (a.take p).length + 1 ≤ 1000000 := (by have := lenTake a p; omega); have o1' := o1.gr ((Gr.refl X1).al (.cells #[.int .i64 3, .int .i64 n] 38)); have gX1' := gX1.al (.cells #[.int .i64 3, .int .i64 n] 38); have bX1' := Nat.le_trans bX1 ((Gr.refl X1).al (.cells #[.int .i64 3, .int .i64 n] 38)).size; refine step_append_acts (v := v1') (l := a.take p) (news := [(3, n)]) (base := W7.heap.size) rfl (.tmp 62) (.tmp 65) rfl rfl rfl o1' hm8 hl8 bX1' ?_; intro v2' X2 o2' gb2'; have gX2 := gX1'.gb gb2' (fun k hk => Nat.le_trans G3.out.size (o1.late hk)); have bX2 := Nat.le_trans bX1' gb2'.size))
        | ((have hm8 := mem_one (a := (3, n)) (KE.out.gb gb1 hne) i3; have hl8 : (a.take p).length + 1 ≤ 1000000 := (by have := lenTake a p; omega); refine step_append_acts (v := v1') (l := a.take p) (news := [(3, n)]) (base := W7.heap.size) rfl (.tmp 62) (.tmp 65) rfl rfl rfl o1 hm8 hl8 bX1 ?_; intro v2' X2 o2' gb2'; have gX2 := gX1.gb gb2' (fun k hk => Nat.le_trans G3.out.size (o1.late hk)); have bX2 := Nat.le_trans bX1 gb2'.size))
        | ((have hm8 := mem_one (a := (3, n)) (KE3.out.gb gb1 hne3) i3; have hl8 : (a.take p).length + 1 ≤ 1000000 := (by have := lenTake a p; omega); refine step_append_acts (v := v1') (l := a.take p) (news := [(3, n)]) (base := W7.heap.size) rfl (.tmp 62) (.tmp 65) rfl rfl rfl o1 hm8 hl8 bX1 ?_; intro v2' X2 o2' gb2'; have gX2 := gX1.gb gb2' (fun k hk => Nat.le_trans G3.out.size (o1.late hk)); have bX2 := Nat.le_trans bX1 gb2'.size))
        | ((refine step_append_acts (v := .slice (some ⟨W7.heap.size, 0, none⟩) 0 0) (A := xA) (m := p) (c := xc) (l := []) (news := a.take p) (base := W7.heap.size) rfl (.tmp 58) (.tmp 61) rfl rfl rfl oE hm7 hl7 bE ?_; intro v1' X1 o1 gb1; have gX1 := HGE.out.gb gb1 (fun k hk => Nat.le_trans G3.out.size (oE.late hk)); have bX1 := Nat.le_trans bE gb1.size; simp only [List.nil_append] at o1))
        | ((refine step_append_acts (v := .slice (some ⟨W7.heap.size + 1, 0, none⟩) 0 0) (A := xA) (m := p) (c := xc) (l := []) (news := a.take p) (base := W7.heap.size) rfl (.tmp 58) (.tmp 61) rfl rfl rfl oE3 hm73 hl7 bE3 ?_; intro v1' X1 o1 gb1; have gX1 := HGE3.out.gb gb1 (fun k hk => Nat.le_trans G3.out.size (oE3.late hk)); have bX1 := Nat.le_trans bE3 gb1.size; simp only [List.nil_append] at o1))
        | ((refine step_append_acts (v := .slice (some ⟨W7.heap.size, 0, none⟩) 0 0) (A := xA) (m := p) (c := xc) (l := []) (news := a.take p) (base := W7.heap.size) rfl (.tmp 58) (.tmp 61) rfl rfl rfl oE1 hm71 hl7 bE1 ?_; intro v1' X1 o1 gb1; have gX1 := HGE1.out.gb gb1 (fun k hk => Nat.le_trans G3.out.size (oE1.late hk)); have bX1 := Nat.le_trans bE1 gb1.size; simp only [List.nil_append] at o1)))
    )
  all_goals (
    obtain ⟨D3, dc3, rfl, hD3, hdc3, hdc32, -⟩ := own_mem o3' (fun z hz => by
      rcases List.mem_append.1 hz with h | h
      · rcases List.mem_append.1 h with h | h
        · exact HIA.out z (List.mem_of_mem_take h)
        · rw [List.mem_singleton.1 h]; exact i3
      · exact HIA.out z (List.mem_of_mem_drop h))
    have hl3 : (List.take p a ++ [(3, n)] ++ List.drop p a).length = N + 1 := by
      simp only [List.length_append, List.length_cons, List.length_nil, List.length_take, List.length_drop, la]; omega
    obtain ⟨K3, hK3⟩ : ∃ K3, (List.take p a ++ [(3, n)] ++ List.drop p a).length = K3 := ⟨_, rfl⟩
    rw [hK3] at hD3 ⊢
    have hk3 : K3 ≤ 9223372036854775807 := by omega
    clear hK3 hl3
    have ht3 : tidyB (List.take p a ++ [(3, n)] ++ List.drop p a) = tidyB a := by
      rw [List.append_assoc, List.singleton_append, tidy_more, List.take_append_drop]
    have ct := fun W (g : Gr X3 W) => Lib.hid (Tidy_is (c := dc3) ht3 hk3 W (hD3.gr g))
    rw [HX.out] at ct
    have GX := Lib.hid gX3
    clear hD3 ht3 hdc3 hdc32
    have o8 := aown_empty (base := X3.heap.size) (Blk.new X3 #[] 38) (Nat.le_refl _)
    have h8 : Gr X3 (X3.alloc (.cells #[] 38)) := (Gr.refl X3).al (.cells #[] 38)
    go_wp2_with (at_builtin; refine Mark.stop ?_)
    refine Mark.go ?_
    refine wpList_append_acts (l := []) rfl (.tmp 71) (.tmp 72) rfl rfl rfl o8 (HMA.out.gr (GX.out.trans h8)) (by simp; omega) h8.size ?_
    intro v4 X4 o9 gb9
    have h9 := h8.gb gb9 (fun k hk => o8.late hk)
    rw [List.nil_append] at o9
    clear gb9 o8 h8
    have oA := o9.gr ((Gr.refl X4).al (.cells #[.int .i64 0, .int .i64 n] 38))
    have hA := h9.al (.cells #[.int .i64 0, .int .i64 n] 38)
    have i0 : Inb 0 ∧ Inb n := ⟨⟨by omega, by omega⟩, hn⟩
    have mA := mem_one (a := (0, n)) (Blk.new X4 #[.int .i64 0, .int .i64 n] 38) i0
    go_wp2_with (at_builtin; refine Mark.stop ?_)
    refine Mark.go ?_
    refine wpList_append_acts (l := a) (news := [(0, n)]) rfl (.tmp 73) (.tmp 76) rfl rfl rfl oA mA (by omega) hA.size ?_
    intro v5 X5 o10 gb10
    have h10 := hA.gb gb10 (fun k hk => oA.late hk)
    clear gb10 oA hA mA o9 h9
    obtain ⟨D5, dc5, rfl, hD5, hdc5, hdc52, -⟩ := own_mem o10 (fun z hz => by
      rcases List.mem_append.1 hz with h | h
      · exact HIA.out z h
      · rw [List.mem_singleton.1 h]; exact i0)
    have hl5 : (a ++ [(0, n)]).length = N + 1 := by rw [List.length_append, la]; rfl
    rw [hl5] at hD5
    have co := fun W (g : Gr X5 W) => Lib.hid (Tidy_is (c := dc5) (tidy_open a n) (by omega) W (hD5.gr g))
    have HD5 := Lib.hid hD5
    have H10 := Lib.hid h10
    clear hD5 hdc5 hdc52 h10 o10
    have oB := aown_empty (base := X5.heap.size) (Blk.new X5 #[] 38) (Nat.le_refl _)
    have hB : Gr X5 (X5.alloc (.cells #[] 38)) := (Gr.refl X5).al (.cells #[] 38)
    go_wp2_with (at_builtin; refine Mark.stop ?_)
    refine Mark.go ?_
    refine wpList_append_acts (l := []) rfl (.tmp 78) (.tmp 79) rfl rfl rfl oB (HD5.out.gr hB) (by simp; omega) hB.size ?_
    intro v6 X6 o11 gb11
    have h11 := hB.gb gb11 (fun k hk => oB.late hk)
    rw [List.nil_append] at o11
    clear gb11 oB hB
    have oC := o11.gr ((Gr.refl X6).al (.cells #[.int .i64 2, .int .i64 n] 38))
    have hC := h11.al (.cells #[.int .i64 2, .int .i64 n] 38)
    have i2 : Inb 2 ∧ Inb n := ⟨⟨by omega, by omega⟩, hn⟩
    have mC := mem_one (a := (2, n)) (Blk.new X6 #[.int .i64 2, .int .i64 n] 38) i2
    go_wp2_with (at_builtin; refine Mark.stop ?_)
    refine Mark.go ?_
    refine wpList_append_acts (l := a ++ [(0, n)]) (news := [(2, n)]) rfl (.tmp 80) (.tmp 83) rfl rfl rfl oC mC (by omega) hC.size ?_
    intro v7 X7 o12 gb12
    have h12 := hC.gb gb12 (fun k hk => oC.late hk)
    clear gb12 oC hC mC o11 h11
    obtain ⟨D7, dc7, rfl, hD7, hdc7, hdc72, -⟩ := own_mem o12 (fun z hz => by
      rcases List.mem_append.1 hz with h | h
      · rcases List.mem_append.1 h with h | h
        · exact HIA.out z h
        · rw [List.mem_singleton.1 h]; exact i0
      · rw [List.mem_singleton.1 h]; exact i2)
    have hl7 : (a ++ [(0, n)] ++ [(2, n)]).length = N + 2 := by rw [List.length_append, List.length_append, la]; rfl
    rw [hl7] at hD7
    have HD7 := Lib.hid hD7
    have G7 := Lib.hid h12
    have S7 := Lib.hid (Gr.refl X7)
    clear hD7 hdc7 hdc72 h12 o12
    go_wp2_with fail
    with_reducible refine (ct _ (H10.out.trans G7.out)).out.mono ?_
    rintro e W8 ⟨rfl, hb8⟩
    replace G7 := Lib.hid (G7.out.trans hb8)
    replace S7 := Lib.hid (S7.out.trans hb8)
    clear hb8
    go_wp2_with fail
    with_reducible refine (co _ G7.out).out.mono ?_
    rintro e W9 ⟨rfl, hb9⟩
    replace G7 := Lib.hid (G7.out.trans hb9)
    replace S7 := Lib.hid (S7.out.trans hb9)
    clear hb9
    go_wp2_with fail
    first
      | (go_ret
         exact ⟨rfl, GX.out.trans (H10.out.trans G7.out)⟩)
      | (have ts : tidyB (a ++ [(0, n)] ++ [(2, n)]) = true := by rw [List.append_assoc]; exact tidy_shut HX.out n
         have cs := Lib.hid (Tidy_is (c := dc7) ts (by omega) _ (HD7.out.gr S7.out))
         with_reducible refine cs.out.mono ?_
         rintro e WA ⟨rfl, hbA⟩
         replace G7 := Lib.hid (G7.out.trans hbA)
         clear hbA cs
         go_wp2_with fail
         go_ret
         exact ⟨rfl, GX.out.trans (H10.out.trans G7.out)⟩))
end
end P12
end Go.Proofs.YtocojdiapaeajaaDoor
