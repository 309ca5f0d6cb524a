/-
  Package treap: grow's closure; grow.
-/
import Derived.Test.YtmkkeknimpjfoaaTreapIns
import Derived.Test.YtmkkeknimpjfoaaTreapKeys
import Derived.Test.YtmkkeknimpjfoaaCopyN
namespace Go.Proofs.Ytmkkeknimpjfoaa
open Go.ChangeShapes Go.WideShapes Go.ChangeAt Go.RowKit Go.Shelf
set_option linter.unusedVariables false
set_option linter.unusedSimpArgs false

section
variable {W1 W : World} {r : Int} {A : Option Addr} {n c tb kb b off : Nat} {x : Int} {l : List Nd}
/-- The world, but for draws. -/
def Drawn (W1 : World) (_ : Int) (W : World) : Prop := ∃ q, W = W1.drewN q
theorem Drawn.self (W1 : World) (s : Int) : Drawn W1 s W1 := ⟨0, rfl⟩
set_option maxHeartbeats 2000000 in
theorem grow_further (hm : ∀ (i : Nat) (nd : Nd), l[i]? = some nd → W1.cell? ⟨b, off + i * 3, none⟩ = some (.int .i64 nd.key)) (hK : ∀ (i : Nat) (nd : Nd), l[i]? = some nd → IsKey nd.key) (hx : IsKey x) (hk : W1.cell? ⟨kb, 0, none⟩ = some (.int .i64 x)) :
    Further 68 #[.pointer (some ⟨kb, 0, none⟩)] (Drawn W1) (gdir x) (fun _ s => s) b off l := by
  rintro s W i nd ⟨q, rfl⟩ hi
  have c0 : (W1.drewN q).cell? ⟨b, off + i * 3, none⟩ = some (.int .i64 nd.key) := hm i nd hi
  have c1 : (W1.drewN q).cell? ⟨kb, 0, none⟩ = some (.int .i64 x) := hk
  have hC := fun W => Pri_is nd.key W
  have hC2 := fun W => Pri_is x W
  rw [prf_key (hK i nd hi)] at hC
  rw [prf_key hx] at hC2
  have HD : Hid (∀ m, Drawn W1 s ((W1.drewN q).drewN m)) := Lib.hid fun m => ⟨q + m, by simp [World.drewN, Nat.add_assoc]⟩
  clear hm hK hk hx hi
  generalize W1.drewN q = V at *
  obtain ⟨y, p, u⟩ := nd
  dsimp only at *
  unfold gdir
  obtain ⟨py, hpy⟩ : ∃ py, pri y = py := ⟨_, rfl⟩
  obtain ⟨px, hpx⟩ : ∃ px, pri x = px := ⟨_, rfl⟩
  rw [hpy] at hC ⊢
  rw [hpx] at hC2 ⊢
  have K1 := Lib.hid hC
  have K2 := Lib.hid hC2
  clear hC hC2 hpy hpx
  show Calls Try.prog 68 #[.pointer (some ⟨b, off + i * 3, none⟩), .pointer (some ⟨kb, 0, none⟩)] V _
  by_cases hlt : py < px
  · rw [if_pos hlt]
    go_enter Try.func68, Try.ntmps68
    go_wp2_with fail
    go_quiet ((go_at_call 56; first | (with_reducible exact Calls.quiet_of_same (K1.out _)) | (with_reducible exact Calls.quiet_of_same (K2.out _))))
    go_wp2_with fail
    go_ret
    exact ⟨rfl, HD.out _⟩
  · rw [if_neg hlt]
    go_enter Try.func68, Try.ntmps68
    go_wp2_with fail
    go_quiet ((go_at_call 56; first | (with_reducible exact Calls.quiet_of_same (K1.out _)) | (with_reducible exact Calls.quiet_of_same (K2.out _))))
    go_wp2_with fail
    go_ret
    exact ⟨rfl, HD.out _⟩
theorem New_is (w : World) : Calls Try.prog 60 #[] w fun e w' => e = .returned (.agg #[.int .i64 (-1), .slice none 0 0]) ∧ Gr w w' := by
  have B0 := Blk.new w #[.int .i64 0, .slice none 0 0] 84
  go_enter Try.func60, Try.ntmps60
  go_wp2_with fail
  exact bodyPost_ret (v := .agg #[.int .i64 (-1), .slice none 0 0]) (by simp [results, Try.results60, go_sem]) rfl ⟨rfl, (Gr.refl w).al _⟩

/-- A round of grow: k keys are in. -/
structure GS (w1 : World) (R : List Int) (n tb nb : Nat) (k : Nat) (root : Int) (l : List Nd) (t : T) (V : Array Value) (wr : World) : Prop where
  gr : Gr w1 wr
  b0 : Blk wr tb #[.int .i64 root, .slice (some ⟨nb, 0, none⟩) n n] 84
  b1 : Blk wr nb V 94
  nv : NV V l
  ge : w1.heap.size ≤ tb ∧ w1.heap.size ≤ nb ∧ tb ≠ nb
  len : l.length = n
  bnd : ∀ nd ∈ l, IsKey nd.key ∧ B64 nd.left ∧ B64 nd.right
  lay : Lay l t root
  nod : t.ids.Nodup
  ids : ∀ i ∈ t.ids, i < k
  ord : t.inord = R.take k
  hp : Hp t 4294967296
theorem GS.gr' {w1 wr wr' : World} {R : List Int} {n tb nb k : Nat} {root : Int} {l : List Nd} {t : T} {V : Array Value} (S : GS w1 R n tb nb k root l t V wr) (g : Gr wr wr') : GS w1 R n tb nb k root l t V wr' :=
  ⟨S.gr.trans g, S.b0.gr g, S.b1.gr g, S.nv, S.ge, S.len, S.bnd, S.lay, S.nod, S.ids, S.ord, S.hp⟩
section
variable {w1 W : World} {n tb nb k : Nat} {R : List Int} {root x : Int} {l : List Nd} {t : T} {V : Array Value}
def V3 (V : Array Value) (k : Nat) (x v : Int) : Array Value := ((V.setIfInBounds (k * 3) (.int .i64 x)).setIfInBounds (k * 3 + 1) (.int .i64 v)).setIfInBounds (k * 3 + 2) (.int .i64 (-1))
def W4 (W : World) (nb k : Nat) (x v : Int) : World := (((W.setCell ⟨nb, k * 3, none⟩ (.int .i64 x)).setCell ⟨nb, k * 3 + 1, none⟩ (.int .i64 v)).setCell ⟨nb, k * 3 + 2, none⟩ (.int .i64 (-1))).drew
theorem GS.w4 (S : GS w1 R n tb nb k root l t V W) (v : Int) : Gr w1 (W4 W nb k x v) ∧ Blk (W4 W nb k x v) tb #[.int .i64 root, .slice (some ⟨nb, 0, none⟩) n n] 84 ∧ Blk (W4 W nb k x v) nb (V3 V k x v) 94 := by
  obtain ⟨e1, e2, e3⟩ := S.ge
  refine ⟨(((S.gr.st e2 _).st e2 _).st e2 _).dr, ?_, ?_⟩
  · exact (((S.b0.st (p := ⟨nb, _, none⟩) (fun e => e3 e.symm) _).st (p := ⟨nb, _, none⟩) (fun e => e3 e.symm) _).st (p := ⟨nb, _, none⟩) (fun e => e3 e.symm) _)
  · exact ((S.b1.set _ _).set _ _).set _ _
theorem GS.rest (S : GS w1 R n tb nb k root l t V W) (hR : Rising R) (hK : ∀ x ∈ R, IsKey x) (hx : R[k]? = some x) :
    k ∉ t.ids ∧ (ins k x t).ids.Nodup ∧ (∀ i ∈ (ins k x t).ids, i < k + 1) ∧ (ins k x t).inord = R.take (k + 1) ∧ Hp (ins k x t) 4294967296 := by
  have hk : k ∉ t.ids := fun h => by have := S.ids k h; omega
  have hxk := hK x (List.mem_of_getElem? hx)
  refine ⟨hk, ins_nodup S.nod hk, fun i hi => ?_, ?_, ins_hp S.hp (pri_range x).2 fun y hy e => ?_⟩
  · rcases ins_ids hi with rfl | h
    · omega
    · have := S.ids i h; omega
  · rw [ins_inord, S.ord, List.take_add_one, hx]; rfl
  · rw [S.ord] at hy
    have hy' := List.mem_of_mem_take hy
    have := pri_inj (hK y hy') hxk e
    subst this
    obtain ⟨i, hi, hiy⟩ := List.mem_take_iff_getElem.1 hy
    obtain ⟨h1, h2⟩ := List.getElem?_eq_some_iff.1 hx
    have := List.pairwise_iff_getElem.1 hR i k (by omega) h1 (by omega)
    omega
theorem GS.root64 (S : GS w1 R n tb nb k root l t V W) (hn : n ≤ 64) : B64 root := by
  have := S.len
  unfold B64
  by_cases h : root = -1
  · omega
  · have := S.lay.bad h; omega
theorem GS.nohold (S : GS w1 R n tb nb k root l t V W) (hn : n ≤ 64) (hk : k < n) (hR : Rising R) (hK : ∀ x ∈ R, IsKey x) (hx : R[k]? = some x) (hh : hold x t = none) :
    GS w1 R n tb nb (k + 1) k (l.set k ⟨x, root, -1⟩) (ins k x t) (V3 V k x root) ((W4 W nb k x root).setCell ⟨tb, 0, none⟩ (.int .i64 k)) := by
  obtain ⟨g, c0, c1⟩ := S.w4 (x := x) root
  obtain ⟨r1, r2, r3, r4, r5⟩ := S.rest hR hK hx
  have hl := S.len
  refine ⟨g.st S.ge.1 _, by simpa using c0.set 0 (.int .i64 k), c1.st S.ge.2.2 _, S.nv.set (by omega) _ _ _, S.ge, by simpa using hl, fun nd h => ?_, (lay_ins S.lay S.nod r1 (by omega)).1 hh, r2, r3, r4, r5⟩
  rcases List.mem_or_eq_of_mem_set h with h | rfl
  · exact S.bnd nd h
  · exact ⟨hK x (List.mem_of_getElem? hx), S.root64 hn, (show B64 (-1) from ⟨by decide, by decide⟩)⟩
theorem GS.held {j : Nat} {nd : Nd} (S : GS w1 R n tb nb k root l t V W) (hn : n ≤ 64) (hk : k < n) (hR : Rising R) (hK : ∀ x ∈ R, IsKey x) (hx : R[k]? = some x) (hh : hold x t = some j) (hj : l[j]? = some nd) :
    GS w1 R n tb nb (k + 1) root ((l.set k ⟨x, nd.right, -1⟩).set j ⟨nd.key, nd.left, k⟩) (ins k x t) ((V3 V k x nd.right).setIfInBounds (j * 3 + 2) (.int .i64 k)) ((W4 W nb k x nd.right).setCell ⟨nb, j * 3 + 2, none⟩ (.int .i64 k)) := by
  obtain ⟨g, c0, c1⟩ := S.w4 (x := x) nd.right
  obtain ⟨r1, r2, r3, r4, r5⟩ := S.rest hR hK hx
  have hl := S.len
  have hjk : k ≠ j := fun e => by have := S.ids j (hold_mem hh); omega
  have hj' : (l.set k ⟨x, nd.right, -1⟩)[j]? = some nd := by rw [List.getElem?_set_ne hjk]; exact hj
  obtain ⟨nd', e1, hlay⟩ := (lay_ins S.lay S.nod r1 (by omega)).2 j hh
  rw [hj] at e1
  cases e1
  have hb := S.bnd nd (List.mem_of_getElem? hj)
  refine ⟨g.st S.ge.2.1 _, c0.st (fun e => S.ge.2.2 e.symm) _, c1.set _ _, (S.nv.set (by omega) _ _ _).right hj' k, S.ge, by simpa using hl, fun m h => ?_, hlay, r2, r3, r4, r5⟩
  rcases List.mem_or_eq_of_mem_set h with h | rfl
  · rcases List.mem_or_eq_of_mem_set h with h | rfl
    · exact S.bnd m h
    · exact ⟨hK x (List.mem_of_getElem? hx), hb.2.2, (show B64 (-1) from ⟨by decide, by decide⟩)⟩
  · refine ⟨hb.1, hb.2.1, ?_⟩
    show B64 (k : Int)
    unfold B64; omega
end
theorem infoNode : (Try.prog.info? 94).map (fun i => (i.zero, i.size, i.bytes)) = some (some (.agg #[.int .i64 0, .int .i64 0, .int .i64 0]), 3, 24) := by kernel_rfl
section
variable {w0 w w1 wr : World} {C : Option Addr} {base n c tb nb k : Nat} {L R : List Int} {root : Int} {l : List Nd} {t : T} {V : Array Value}

theorem grow_way {x : Int} (S : GS w1 R n tb nb k root l t V wr) (hx : IsKey x) :
    Calls Try.prog 58 #[.pointer (some ⟨tb, 0, none⟩), .func (.func 68) #[] #[.pointer (some ⟨wr.heap.size, 0, none⟩)]] (wr.alloc (.cells #[.int .i64 x] 3)) fun e w' =>
      e = .returned (.pointer (some ⟨(match hold x t with | none => (tb, 0) | some j => (nb, 0 + j * 3 + 2)).1, (match hold x t with | none => (tb, 0) | some j => (nb, 0 + j * 3 + 2)).2, none⟩)) ∧ Drawn (wr.alloc (.cells #[.int .i64 x] 3)) 0 w' := by
  have hm : NMem (wr.alloc (.cells #[.int .i64 x] 3)) (some ⟨nb, 0, none⟩) n l := S.nv.mem S.len (fun nd h => by
    obtain ⟨h1, h2, h3⟩ := S.bnd nd h
    exact ⟨by unfold IsKey at h1; unfold B64; omega, h2, h3⟩) (S.b1.al _)
  have hKp : Keeps (Drawn (wr.alloc (.cells #[.int .i64 x] 3))) tb root (some ⟨nb, 0, none⟩) n n l := by
    refine ⟨?_, ?_, ?_, ?_⟩
    · rintro s W ⟨q, rfl⟩; exact ((S.b0.al _).at_ (k := 0) rfl).1
    · rintro s W ⟨q, rfl⟩; exact ((S.b0.al _).at_ (k := 1) rfl).1
    · rintro s W ⟨q, rfl⟩; exact hm.gr ((Gr.refl _).drN q)
    · rintro s W ⟨q, rfl⟩; exact ⟨q + 1, rfl⟩
  have hF := follow_is (enters_of Try.func68 (by kernel_rfl) rfl) hKp
    (grow_further (fun i nd h => (hm.cells h).1) (fun i nd h => (S.bnd nd (List.mem_of_getElem? h)).1) hx ((Blk.new wr #[.int .i64 x] 3).at_ (k := 0) rfl).1) (.inr rfl) S.lay (Drawn.self _ 0)
  rw [run_grow] at hF
  exact hF.mono fun e w' h => ⟨h.1, h.2⟩

set_option maxHeartbeats 4000000 in
theorem grow_is (ho : IOwn base w C n c L) (hn : n ≤ 64) (hL : L.Nodup) (hK : ∀ x ∈ L, IsKey x) (hbase : w0.heap.size ≤ base) (hg : Gr w0 w) :
    Calls Try.prog 64 #[.slice C n c] w fun e w' => ∃ r g l t, e = .returned (.agg #[.int .i64 r, .slice (some ⟨g, 0, none⟩) n n]) ∧ NMem w' (some ⟨g, 0, none⟩) n l ∧ Good l r t ∧ t.inord = srt L ∧ Gr w0 w' ∧ w0.heap.size ≤ g := by
  have hlen := ho.1.1
  have g0 := (Gr.refl w).al (.cells #[.int .i64 0, .slice none 0 0] 84)
  have B0 := Blk.new w #[.int .i64 0, .slice none 0 0] 84
  have hS := Lib.hid (Sort_is (ho.gr g0) (by omega))
  have hRr := srt_rising hL
  have hRl := srt_len L
  have hRk : ∀ x ∈ srt L, IsKey x := fun x hx => hK x ((srt_perm L).mem_iff.1 hx)
  rw [hlen] at hRl
  have hN := fun W => New_is W
  have KN := Lib.hid hN
  obtain ⟨i0, hj, hz0, hz1, hz2⟩ := info_parts infoNode
  have hmk := fun W => run_makeN (P := Try.prog) 82 94 i0 _ Try.underlying82 hj hz0 n (by rw [hz2]; omega) (by omega) W
  rw [hz1] at hmk
  obtain ⟨M, hM⟩ : ∃ M, madeCells (Value.agg #[.int .i64 0, .int .i64 0, .int .i64 0]).cells (n * 3) = M := ⟨_, rfl⟩
  have hNV := NV.made n
  rw [hM] at hmk hNV
  obtain ⟨R, hR⟩ : ∃ R, srt L = R := ⟨_, rfl⟩
  rw [hR] at hS hRr hRl hRk ⊢
  have HNV := Lib.hid hNV
  have HRr := Lib.hid hRr
  have HRk := Lib.hid hRk
  have HO := Lib.hid ho
  have HG := Lib.hid hg
  clear hM hNV hRr hRk hR hz0 hz1 hz2 hj hN hg ho hL hK
  go_enter Try.func64, Try.ntmps64
  go_wp2_with fail
  with_reducible refine hS.out.mono ?_
  rintro e w1 ⟨rfl, own1, gb1⟩
  have G1 := Lib.hid ((HG.out.trans g0).gb gb1 (fun k hk => by have := (HO.out.lt k hk).1; omega))
  have B1 : Blk w1 w.heap.size #[.int .i64 0, .slice none 0 0] 84 := B0.gb gb1 (fun e => by have := (HO.out.lt _ e).2; omega)
  have M1 := Lib.hid own1.mem
  clear own1 gb1 B0 hS g0
  go_wp2_with fail
  with_reducible refine (KN.out _).mono ?_
  rintro e w2 ⟨rfl, hb2⟩
  go_wp2_with fail
  have M2 := Lib.hid (M1.out.gr hb2)
  have B2 := Lib.hid (B1.gr hb2)
  have G2 := Lib.hid (G1.out.trans hb2)
  clear M1 B1 G1 hb2 hmk KN
  have S0 : GS w2 R n w2.heap.size (w2.heap.size + 1) 0 (-1) (List.replicate n ⟨0, 0, 0⟩) .nil M ((w2.alloc (.cells #[.int .i64 (-1), .slice (some ⟨w2.heap.size + 1, 0, none⟩) n n] 84)).alloc (.cells M 94)) := by
    refine ⟨((Gr.refl w2).al _).al _, (Blk.new w2 _ _).al _, ?_, HNV.out, ⟨Nat.le_refl _, by omega, by omega⟩, by simp, fun nd h => ?_, rfl, by simp [T.ids], fun i h => by simp [T.ids] at h, by simp [T.inord], trivial⟩
    · simpa using Blk.new (w2.alloc (.cells #[.int .i64 (-1), .slice (some ⟨w2.heap.size + 1, 0, none⟩) n n] 84)) M 94
    · obtain ⟨_, rfl⟩ := List.mem_replicate.1 h
      exact ⟨⟨by decide, by decide⟩, ⟨by decide, by decide⟩, ⟨by decide, by decide⟩⟩
  have HS0 := Lib.hid S0
  clear S0 HNV
  generalize w2.heap.size = tb at *
  go_loopw [16] (fun i wr => ∃ (k : Nat) (root : Int) (l : List Nd) (t : T) (V : Array Value), k ≤ n ∧ i = .int .i64 (k : Int) ∧ Hid (GS w2 R n tb (tb + 1) k root l t V wr)) (fun i _ => n - (intOf i).toNat)
  case atStart => exact ⟨0, _, _, _, _, Nat.zero_le _, rfl, HS0⟩
  case round =>
    clear HS0
    obtain ⟨k, root, l, t, V, hk, rfl, HS⟩ := hrel
    by_cases hlt : k < n
    · obtain ⟨b, off, x, rfl, hbl, hx, hix, cx⟩ := (M2.out.gr HS.out.gr).at_ hlt
      have HX := Lib.hid hx
      have hKx := HRk.out x (List.mem_of_getElem? hx)
      have hW := Lib.hid (grow_way HS.out hKx)
      have HIX := Lib.hid hix
      have HKX := Lib.hid hKx
      clear hx hix hKx
      cases hh : hold x t with
      | none =>
        rw [hh] at hW
        have HH := Lib.hid hh
        clear hh
        go_wp2_with fail
        with_reducible refine hW.out.mono ?_
        rintro e w3 ⟨rfl, q, rfl⟩
        have S3 := HS.out.gr' (((Gr.refl wr).al (.cells #[.int .i64 x] 3)).drN q)
        have K3 : Blk ((wr.alloc (.cells #[.int .i64 x] 3)).drewN q) wr.heap.size #[.int .i64 x] 3 := Blk.new _ _ _
        have f0 := (K3.at_ (k := 0) rfl).1
        have f1 := (S3.b0.at_ (k := 0) rfl).1
        have f2 := (S3.b0.at_ (k := 1) rfl).1
        obtain ⟨nd0, hl⟩ : ∃ nd, l[k]? = some nd := ⟨_, List.getElem?_eq_getElem (by rw [HS.out.len]; exact hlt)⟩
        obtain ⟨v0, v1, v2⟩ := S3.nv.2 k _ hl
        obtain ⟨c0, z0⟩ := S3.b1.at_ v0
        obtain ⟨c1, z1⟩ := S3.b1.at_ v1
        obtain ⟨c2, z2⟩ := S3.b1.at_ v2
        obtain ⟨f3, z3⟩ := S3.b0.at_ (k := 0) rfl
        have H3 := Lib.hid S3
        clear v0 v1 v2 hl K3 S3 hW cx
        generalize (wr.alloc (.cells #[.int .i64 x] 3)).drewN q = W3 at *
        generalize wr.heap.size = gk at *
        go_wp2_with fail
        go_region
        obtain ⟨_, k0, k1⟩ := H3.out.w4 (x := x) root
        have HN := Lib.hid (H3.out.nohold hn hlt HRr.out HRk.out HX.out HH.out)
        obtain ⟨f1, z1⟩ := k0.at_ (k := 0) rfl
        unfold W4 at f1 z1
        clear f0 f2 c0 c1 c2 f3 z3 k0 k1
        go_wp2_with fail
        go_roundw
        case rel => exact ⟨k + 1, _, _, _, _, by omega, by go_num, HN⟩
        case measure => simp [intOf]; omega
      | some j =>
        rw [hh] at hW
        have HH := Lib.hid hh
        clear hh
        go_wp2_with fail
        with_reducible refine hW.out.mono ?_
        rintro e w3 ⟨rfl, q, rfl⟩
        obtain ⟨ndj, hj⟩ : ∃ nd, l[j]? = some nd := by
          have := (HS.out.lay.key_of j (hold_mem HH.out))
          exact ⟨_, this.choose_spec.1⟩
        have HJ := Lib.hid hj
        have S3 := HS.out.gr' (((Gr.refl wr).al (.cells #[.int .i64 x] 3)).drN q)
        have K3 : Blk ((wr.alloc (.cells #[.int .i64 x] 3)).drewN q) wr.heap.size #[.int .i64 x] 3 := Blk.new _ _ _
        have f0 := (K3.at_ (k := 0) rfl).1
        have f1 := (S3.b0.at_ (k := 0) rfl).1
        have f2 := (S3.b0.at_ (k := 1) rfl).1
        obtain ⟨nd0, hl⟩ : ∃ nd, l[k]? = some nd := ⟨_, List.getElem?_eq_getElem (by rw [HS.out.len]; exact hlt)⟩
        obtain ⟨v0, v1, v2⟩ := S3.nv.2 k _ hl
        obtain ⟨c0, z0⟩ := S3.b1.at_ v0
        obtain ⟨c1, z1⟩ := S3.b1.at_ v1
        obtain ⟨c2, z2⟩ := S3.b1.at_ v2
        obtain ⟨f3, z3⟩ := S3.b1.at_ (S3.nv.2 j _ hj).2.2
        have H3 := Lib.hid S3
        clear v0 v1 v2 hl hj K3 S3 hW cx
        generalize (wr.alloc (.cells #[.int .i64 x] 3)).drewN q = W3 at *
        generalize wr.heap.size = gk at *
        go_wp2_with fail
        go_region
        obtain ⟨_, k0, k1⟩ := H3.out.w4 (x := x) ndj.right
        have HN := Lib.hid (H3.out.held hn hlt HRr.out HRk.out HX.out HH.out HJ.out)
        have hjk : j < k := HS.out.ids j (hold_mem HH.out)
        have hv : (V3 V k x ndj.right)[j * 3 + 2]? = some (.int .i64 ndj.right) := by
          have := ((H3.out.nv.set (i := k) (by rw [H3.out.len]; exact hlt) x ndj.right (-1)).2 j ndj (by rw [List.getElem?_set_ne (by omega)]; exact HJ.out)).2.2
          exact this
        obtain ⟨f1, z1⟩ := k1.at_ hv
        unfold W4 at f1 z1
        clear f0 f2 c0 c1 c2 f3 z3 k0 k1 hv hjk
        go_wp2_with fail
        go_roundw
        case rel => exact ⟨k + 1, _, _, _, _, by omega, by go_num, HN⟩
        case measure => simp [intOf]; omega
    · obtain rfl : k = n := by omega
      have hS := HS.out
      have f0 := (hS.b0.at_ (k := 0) rfl).1
      have f1 := (hS.b0.at_ (k := 1) rfl).1
      have hB := B2.out.gr hS.gr
      obtain ⟨p0, z0⟩ := hB.at_ (k := 0) rfl
      obtain ⟨p1, z1⟩ := hB.at_ (k := 1) rfl
      have hor : t.inord = R := by rw [hS.ord, ← hRl, List.take_length]
      have hgood : Good l root t := by
        refine ⟨hS.lay, by rw [← T.inord_len, hor, hS.len, hRl], by rw [hS.len]; exact hn, bst_of (hor ▸ HRr.out) fun x hx => ?_, hS.hp⟩
        have := HRk.out x (hor ▸ hx)
        unfold IsKey at this; omega
      have hlt2 := B2.out.lt
      have hge := hS.ge.1
      have BF := (hB.set 0 (.int .i64 root)).set 1 (.slice (some ⟨tb + 1, 0, none⟩) k k)
      have BN := (hS.b1.st (p := ⟨w.heap.size, 0, none⟩) (by show w.heap.size ≠ tb + 1; omega) (.int .i64 root)).st (p := ⟨w.heap.size, 1, none⟩) (by show w.heap.size ≠ tb + 1; omega) (.slice (some ⟨tb + 1, 0, none⟩) k k)
      have GN := ((G2.out.trans hS.gr).st (p := ⟨w.heap.size, 0, none⟩) HG.out.size (.int .i64 root)).st (p := ⟨w.heap.size, 1, none⟩) HG.out.size (.slice (some ⟨tb + 1, 0, none⟩) k k)
      have HN := Lib.hid (fun (W : World) (h : Blk W (tb + 1) V 94) => hS.nv.mem hS.len (fun nd h => by
        obtain ⟨h1, h2, h3⟩ := hS.bnd nd h
        exact ⟨by unfold IsKey at h1; unfold B64; omega, h2, h3⟩) h)
      have HB := Lib.hid (And.intro hgood (And.intro hor (show w0.heap.size ≤ tb + 1 from by have := G2.out.size; omega)))
      have HBB := Lib.hid (And.intro BF (And.intro BN GN))
      clear hS hB hor hgood BF BN GN hlt2 hge
      go_wp2_with fail
      obtain ⟨BF, BN, GN⟩ := HBB.out
      clear f0 f1 p0 p1 z0 z1 HBB
      generalize (wr.setCell _ _).setCell _ _ = WF at BF BN GN ⊢
      have q0 : WF.cell? ⟨w.heap.size, 0, none⟩ = some (.int .i64 root) := (BF.at_ (k := 0) rfl).1
      have q1 : WF.cell? ⟨w.heap.size, 1, none⟩ = some (.slice (some ⟨tb + 1, 0, none⟩) k k) := (BF.at_ (k := 1) rfl).1
      exact bodyPost_ret (v := .agg #[.int .i64 root, .slice (some ⟨tb + 1, 0, none⟩) k k]) (by simp [results, Try.results64, go_sem, q0, q1]) rfl ⟨root, tb + 1, l, t, rfl, HN.out _ BN, HB.out.1, HB.out.2.1, GN, HB.out.2.2⟩
end
end
end Go.Proofs.Ytmkkeknimpjfoaa
