/-
  Package root: inOrder, and the closure that it hands back: for every loop body.
-/
import Derived.Test.YtmkkeknimpjfoaaRootFind
import Derived.RangeFuncNested
import Derived.RangeFuncBound
import Derived.RangeFuncCalls
import Derived.RangeFuncLeaves
import Derived.Shelf.Abstract
import Derived.OwnWalkIn
import Derived.TacticsInMore
import Derived.LoopNIn
import Derived.LoopIn
namespace Go.Proofs.Ytmkkeknimpjfoaa
open Go.ChangeShapes Go.WideShapes Go.ChangeAt Go.RowKit Go.Shelf
set_option linter.unusedVariables false
set_option linter.unusedSimpArgs false

/-- What a round that goes on keeps: all that was old, and each block of three cells. -/
structure Kp3 (B : Nat) (X Y : World) : Prop where
  below : Below B X Y
  three : ∀ (k : Nat) (cs : Array Value) (t : TypeId), Blk X k cs t → cs.size = 3 → Blk Y k cs t
theorem Kp3.refl (B : Nat) (X : World) : Kp3 B X X := ⟨Below.refl _ _, fun _ _ _ h _ => h⟩
theorem Kp3.t {B : Nat} {X Y Z : World} (h : Kp3 B X Y) (k : Kp3 B Y Z) : Kp3 B X Z := ⟨h.below.trans k.below, fun i cs t hi hs => k.three i cs t (h.three i cs t hi hs) hs⟩
theorem Kp3.b {B : Nat} {w : World} (hn : B ≤ w.heap.size) (W : World) (l : Nat) (o o' : Obj) (hl : w.heap.size ≤ l) (h : W.heap[l]? = some o) (hc : o.isCells = false) (hw : o.isWalk = false) : Kp3 B W (W.putObj l o') :=
  ⟨belowK_b hn W l o o' hl h hc hw, fun k cs t hk _ => by
    have hne : k ≠ l := fun e => by
      subst e
      have h1 : W.heap[k]? = some (.cells cs t (0, 0)) := hk
      rw [h] at h1
      cases h1
      cases hc
    show (W.putObj l o').heap[k]? = _
    rw [World.putObj_heap_other (by omega)]
    exact hk⟩
/-- What is handed to a loop's body: a spot whose line reads, and is not long. -/
abbrev SVk (w0 : World) := { x : SV // x.ok w0 ∧ x.line.length ≤ 64 }
theorem abides_gr {β : Type} {B : Nat} {J : β → World → Prop} (h : AbidesFrom B J) {s : β} {X Y : World} (hs : J s X) (g : Gr X Y) : J s Y :=
  h s X Y none hs ⟨g.os, g.tape, g.output, g.size, fun k hk _ => g.block k hk⟩ (fun r e => by cases e)
/-- The rows that are gone through: ahead, the spot, behind. -/
structure Three (w0 : World) (LB LS : Nat) (A : Option Addr) (p q n c : Nat) (A2 : Option Addr) (s : SV) (W : World) : Prop where
  gr : Gr w0 W
  b : Blk W LB #[.slice A p c, .slice (some ⟨LS, 0, none⟩) 1 1, .slice A2 (n - q) (c - q)] 22
  s : Blk W LS #[.int .i64 s.addr, .int .i64 s.cnt, .slice s.A s.n s.c] 46
section
variable {w0 W W' : World} {LB LS p q n c : Nat} {A A2 : Option Addr} {s : SV}
theorem Three.gr' (h : Three w0 LB LS A p q n c A2 s W) (g : Gr W W') : Three w0 LB LS A p q n c A2 s W' := ⟨h.gr.trans g, h.b.gr g, h.s.gr g⟩
theorem Three.kp (h : Three w0 LB LS A p q n c A2 s W) (g : Kp3 w0.heap.size W W') : Three w0 LB LS A p q n c A2 s W' := ⟨Below.trans h.gr g.below, g.three _ _ _ h.b rfl, g.three _ _ _ h.s rfl⟩
end
theorem sv_one {W w0 : World} {s : SV} {LS : Nat} (hg : Gr w0 W) (hb : Blk W LS #[.int .i64 s.addr, .int .i64 s.cnt, .slice s.A s.n s.c] 46) (hs : s.ok w0) : SMem W (some ⟨LS, 0, none⟩) 1 [s] :=
  ⟨rfl, fun x hx => by rw [List.mem_singleton] at hx; subst hx; exact hs.gr hg, fun _ => ⟨LS, 0, rfl, hb.lt, fun j x hj => by
    match j, hj with
    | 0, hj =>
      simp at hj
      subst hj
      exact ⟨(hb.at_ (k := 0) rfl).1, (hb.at_ (k := 1) rfl).1, (hb.at_ (k := 2) rfl).1⟩⟩⟩
/-- The three rows: where each begins in what comes, and what it reads as. -/
theorem three_parts {w0 : World} {A A2 : Option Addr} {n c p q LB LS : Nat} {L : List SV} {s : SV} (hm : SMem w0 A n L) (hnc : n ≤ c) (hs : s.ok w0) (hp : p ≤ n) (hq : q ≤ n) (hA2 : (if c = q then A else A.map (·.add (q * 3))) = A2)
    {xs : List (SVk w0)} (hxs : xs.map Subtype.val = L.take p ++ [s] ++ L.drop q) :
    ∃ st : Nat → Nat, st 0 = 0 ∧ st 3 = xs.length ∧ ∀ k, k < 3 → ∃ (Ak : Option Addr) (nk ck : Nat) (lk : List SV), (∀ W, Three w0 LB LS A p q n c A2 s W → W.cell? ⟨LB, k, none⟩ = some (.slice Ak nk ck) ∧ LB < W.heap.size ∧ SMem W Ak nk lk) ∧ nk ≤ n + 1 ∧ st (k + 1) = st k + nk ∧
      ∀ j y, lk[j]? = some y → ∃ x : SVk w0, xs[st k + j]? = some x ∧ x.1 = y := by
  have hlen := hm.1
  have hxl : xs.length = p + 1 + (n - q) := by
    have := congrArg List.length hxs
    simp [hlen] at this
    omega
  have get : ∀ (i : Nat) (y : SV), (L.take p ++ [s] ++ L.drop q)[i]? = some y → ∃ x : SVk w0, xs[i]? = some x ∧ x.1 = y := by
    intro i y hy
    rw [← hxs, List.getElem?_map, Option.map_eq_some_iff] at hy
    exact hy
  refine ⟨fun k => match k with | 0 => 0 | 1 => p | 2 => p + 1 | _ => xs.length, rfl, rfl, fun k hk => ?_⟩
  match k, hk with
  | 0, _ =>
    refine ⟨A, p, c, L.take p, fun W h => ⟨(h.b.at_ (k := 0) rfl).1, h.b.lt, (hm.gr h.gr).take_ p hp⟩, by omega, (Nat.zero_add p).symm, fun j y hj => get _ y ?_⟩
    have := (List.getElem?_eq_some_iff.1 hj).1
    show (L.take p ++ [s] ++ L.drop q)[0 + j]? = some y
    rw [Nat.zero_add, List.append_assoc, List.getElem?_append_left this]
    exact hj
  | 1, _ =>
    refine ⟨some ⟨LS, 0, none⟩, 1, 1, [s], fun W h => ⟨(h.b.at_ (k := 1) rfl).1, h.b.lt, sv_one h.gr h.s hs⟩, by omega, rfl, fun j y hj => get _ y ?_⟩
    match j, hj with
    | 0, hj =>
      simp at hj
      subst hj
      show (L.take p ++ [s] ++ L.drop q)[p + 0]? = some s
      rw [List.append_assoc, List.getElem?_append_right (by rw [List.length_take]; omega), List.length_take, hlen, Nat.min_eq_left hp, Nat.add_zero, Nat.sub_self]
      rfl
  | 2, _ =>
    refine ⟨A2, n - q, c - q, L.drop q, fun W h => ⟨(h.b.at_ (k := 2) rfl).1, h.b.lt, hA2 ▸ (hm.gr h.gr).cut q c hq hnc⟩, by omega, hxl, fun j y hj => get _ y ?_⟩
    show (L.take p ++ [s] ++ L.drop q)[p + 1 + j]? = some y
    rw [List.getElem?_append_right (by rw [List.length_append, List.length_take]; simp; omega), List.length_append, List.length_take, hlen, Nat.min_eq_left hp]
    rw [show p + 1 + j - (p + [s].length) = j from by simp]
    exact hj
set_option maxRecDepth 100000 in
set_option maxHeartbeats 4000000 in
theorem inOrder1_in (w0 : World) {A : Option Addr} {n c : Nat} {L : List SV} {s : SV} (hm : SMem w0 A n L) (hnc : n ≤ c) (hcm : c ≤ 9223372036854775807) (ht : Tab L) (hs : SOk s) (hsok : s.ok w0)
    {v : Bool} (hv : v = true ↔ Has L s.addr) (q : Nat) (hq : q = if v = true then plc L s.addr + 1 else plc L s.addr)
    (xs : List (SVk w0)) (hxs : xs.map Subtype.val = L.take (plc L s.addr) ++ [s] ++ L.drop q)
    (m : Nat) (hm1 : 1 ≤ m) (l tb sb : Nat) (J Jx : List (SVk w0) → World → Prop) (W : World) (hW : Gr w0 W)
    (hJ : AbidesFrom W.heap.size J)
    (hY : ∀ pre x W1, J pre W1 → pre.length < xs.length → YieldAt Fence.wide (m - 1) Try.prog l #[.agg #[.int .i64 x.1.addr, .int .i64 x.1.cnt, .slice x.1.A x.1.n x.1.c]] W1 fun e W' =>
      (e = .returned (.bool true) ∧ J (pre ++ [x]) W' ∧ Kp3 w0.heap.size W1 W') ∨ (e = .returned (.bool false) ∧ Jx (pre ++ [x]) W'))
    (hT : Blk W tb #[.slice A n c] 22) (hS : Blk W sb #[.int .i64 s.addr, .int .i64 s.cnt, .slice s.A s.n s.c] 46) (h0 : J [] W) :
    CallsIn Fence.wide m Try.prog 55 #[.func (.yield l) #[] #[], .pointer (some ⟨tb, 0, none⟩), .pointer (some ⟨sb, 0, none⟩)] W fun e W' => (∃ v, e = .returned v) ∧
      ((∃ ys, ys = xs ∧ J ys W') ∨ (∃ pre, pre <+: xs ∧ Jx pre W')) := by
  have CF := Lib.hid (rfind_is (c := c) (hm.gr hW) ht hs.1 hv)
  have hlen := hm.1
  have hn64 : n ≤ 64 := by have := ht.1; omega
  have hpl := plc_le L s.addr
  obtain ⟨p, hp⟩ : ∃ p, plc L s.addr = p := ⟨_, rfl⟩
  rw [hp] at hxs CF hpl hq
  have HJ := Lib.hid hJ
  have HY := Lib.hid hY
  have HT := Lib.hid hT
  have HSB := Lib.hid hS
  have t0 := (hT.at_ (k := 0) rfl).1
  have s0 := (hS.at_ (k := 0) rfl).1
  have s1 := (hS.at_ (k := 1) rfl).1
  have s2 := (hS.at_ (k := 2) rfl).1
  have tl := hT.lt
  have sl := hS.lt
  clear hY hJ hT hS
  refine callsIn_of_wp Try.func55 rfl trivial ?_ rfl
  simp only [Try.ntmps55, List.size_toArray, List.length_cons, List.length_nil, Nat.reduceAdd, Nat.reduceSub, Array.replicate_succ, Array.replicate_zero, List.push_toArray, List.append_toArray, List.nil_append, List.cons_append]
  gi_wp2_with fail
  refine ⟨trivial, ?_⟩
  with_reducible refine (callsIn_wide.2 CF.out).mono ?_
  rintro e w1 ⟨rfl, hb1⟩
  have G1 := Lib.hid (hW.trans hb1)
  have HJ0 := Lib.hid (abides_gr HJ.out h0 hb1)
  have HT1 := HT.out.gr hb1
  have HS1 := HSB.out.gr hb1
  have t0' := (HT1.at_ (k := 0) rfl).1
  have s0' := (HS1.at_ (k := 0) rfl).1
  have s1' := (HS1.at_ (k := 1) rfl).1
  have s2' := (HS1.at_ (k := 2) rfl).1
  have tl' := HT1.lt
  have sl' := HS1.lt
  have p0 : (0 : Int) ≤ (p : Int) := by omega
  have pc : (p : Int) ≤ (c : Int) := by omega
  have HV := Lib.hid hv
  have HTB := Lib.hid ht
  have HSK := Lib.hid hs
  have HM := Lib.hid hm
  have HSO := Lib.hid hsok
  clear t0 s0 s1 s2 tl sl HT HSB h0 CF HT1 HS1 hv ht hs hm hsok
  cases v with
  | true =>
    simp only [if_true] at hq
    subst hq
    have hpn : p < n := by
      obtain ⟨y, hy, _⟩ := (has_iff HTB.out.2 s.addr).1 (HV.out.1 rfl)
      rw [hp] at hy
      have := (List.getElem?_eq_some_iff.1 hy).1
      omega
    have pw : IntKind.i64.wrap ((p : Int) + 1) = ((p + 1 : Nat) : Int) := by rw [wrap_id (by omega) (by omega)]; omega
    have q0 : (0 : Int) ≤ ((p + 1 : Nat) : Int) := by omega
    have qn : ((p + 1 : Nat) : Int) ≤ (n : Int) := by omega
    obtain ⟨q, hq⟩ : ∃ q, p + 1 = q := ⟨_, rfl⟩
    rw [hq] at hxs pw q0 qn
    have HQ := Lib.hid hq
    clear hq
    gi_wp2_with fail
    refine wpIn_wide.2 ?_
    go_region
    obtain ⟨A2, hA2⟩ : ∃ A2, (if c = q then A else A.map (·.add (q * 3))) = A2 := ⟨_, rfl⟩
    rw [hA2]
    have HTH := Lib.hid (show Three w0 (w1.heap.size + 1) w1.heap.size A p q n c A2 s ((w1.alloc (.cells #[.int .i64 s.addr, .int .i64 s.cnt, .slice s.A s.n s.c] 46)).alloc (.cells #[.slice A p c, .slice (some ⟨w1.heap.size, 0, none⟩) 1 1, .slice A2 (n - q) (c - q)] 22)).drew from
      ⟨((G1.out.al _).al _).dr, by simpa using (Blk.new (w1.alloc (.cells #[.int .i64 s.addr, .int .i64 s.cnt, .slice s.A s.n s.c] 46)) #[.slice A p c, .slice (some ⟨w1.heap.size, 0, none⟩) 1 1, .slice A2 (n - q) (c - q)] 22).gr (Gr.refl _).dr, ((Blk.new w1 #[.int .i64 s.addr, .int .i64 s.cnt, .slice s.A s.n s.c] 46).al _).gr (Gr.refl _).dr⟩)
    have HJ1 := Lib.hid (abides_gr HJ.out HJ0.out (((Gr.refl w1).al (.cells #[.int .i64 s.addr, .int .i64 s.cnt, .slice s.A s.n s.c] 46)).al (.cells #[.slice A p c, .slice (some ⟨w1.heap.size, 0, none⟩) 1 1, .slice A2 (n - q) (c - q)] 22)).dr)
    obtain ⟨st, hst0, hst3, hparts⟩ := three_parts (LB := w1.heap.size + 1) (LS := w1.heap.size) HM.out hnc HSO.out (by omega) (by have := HQ.out; omega) hA2 hxs
    have HP := Lib.hid hparts
    have HST0 := Lib.hid hst0
    have HST3 := Lib.hid hst3
    clear hparts hst0 hst3 hA2 hxs t0' s0' s1' s2' tl' sl' hb1 HV HTB HSK
    generalize ((w1.alloc _).alloc _).drew = w2 at HTH HJ1 ⊢
    gi_wp2_with fail
    gi_loopw [32] (fun i wr => ∃ k : Nat, k ≤ 3 ∧ i = .int .i64 (k : Int) ∧ Hid (Three w0 (w1.heap.size + 1) w1.heap.size A p q n c A2 s wr) ∧ Hid (J (xs.take (st k)) wr)) (fun i _ => 3 - (intOf i).toNat)
    case atStart => exact ⟨0, by omega, rfl, HTH, Lib.hid (by rw [HST0.out]; exact HJ1.out)⟩
    case round =>
      clear HTH HJ1
      obtain ⟨k, hk, rfl, HTH, HJK⟩ := hrel
      by_cases hlt : k < 3
      · obtain ⟨Ak, nk, ck, lk, hcell, hnk, hst, hget⟩ := HP.out k hlt
        have k0 : (0 : Int) ≤ (k : Int) := by omega
        have k1 : (k : Int) < 3 := by omega
        have cLB := (hcell _ HTH.out).1
        have HC := Lib.hid hcell
        have HGET := Lib.hid hget
        have HST := Lib.hid hst
        clear hcell hget hst
        gi_wp2_with fail
        rename World => wo
        gi_loopw [38] (fun i wr => ∃ j : Nat, j ≤ nk ∧ i = .int .i64 (j : Int) ∧ Hid (Three w0 (w1.heap.size + 1) w1.heap.size A p q n c A2 s wr) ∧ Hid (J (xs.take (st k + j)) wr)) (fun i _ => nk - (intOf i).toNat)
        case atStart => exact ⟨0, Nat.zero_le _, rfl, HTH, HJK⟩
        case round =>
          clear HTH HJK cLB
          obtain ⟨j, hj, rfl, HTH, HJK⟩ := hrel
          by_cases hjn : j < nk
          · obtain ⟨b, off, y, rfl, hbl, hy, hok, d0, d1, d2⟩ := (HC.out _ HTH.out).2.2.at_ hjn
            obtain ⟨x, hx, rfl⟩ := HGET.out j y hy
            have j0 : (0 : Int) ≤ (j : Int) := by omega
            have j1 : (j : Int) < (nk : Int) := by omega
            have HX := Lib.hid hx
            have g1 := (Gr.refl wr).al (.cells #[.int .i64 x.1.addr, .int .i64 x.1.cnt, .slice x.1.A x.1.n x.1.c] 46)
            have HT1 := Lib.hid (HTH.out.gr' g1)
            obtain ⟨fn, tmps, assign, body, hyy, hR⟩ := HY.out (xs.take (st k + j)) x _ (abides_gr HJ.out HJK.out g1) (by have := (List.getElem?_eq_some_iff.1 hx).1; rw [List.length_take]; omega)
            have HRR := Lib.hid hR
            clear hy hok hx g1 hR
            gi_wp2_with fail
            refine HRR.out.mono ?_
            rintro e W3 (⟨rfl, hJ3, hk3⟩ | ⟨rfl, hJx3⟩)
            · have HT3 := Lib.hid (HT1.out.kp hk3)
              have HJ3 := Lib.hid (show J (xs.take (st k + (j + 1))) W3 from by rw [← Nat.add_assoc, take_snoc HX.out]; exact hJ3)
              clear hJ3 hk3 hyy HRR
              gi_wp2_with fail
              go_roundw
              case rel => exact ⟨j + 1, by omega, by go_num, HT3, HJ3⟩
              case measure => simp [intOf]; omega
            · have HJX := Lib.hid hJx3
              clear hJx3 hyy HRR
              gi_wp2_with fail
              refine bodyPost_ret (results_none rfl _ _ _) rfl ?_
              exact ⟨⟨_, rfl⟩, .inr ⟨_, by rw [← take_snoc HX.out]; exact List.take_prefix _ _, HJX.out⟩⟩
          · obtain rfl : j = nk := by omega
            have HJ3 := Lib.hid (show J (xs.take (st (k + 1))) wr from by rw [HST.out]; exact HJK.out)
            gi_wp2_with fail
            go_roundw
            case rel => exact ⟨k + 1, by omega, by go_num, HTH, HJ3⟩
            case measure => simp [intOf]; omega
      · obtain rfl : k = 3 := by omega
        gi_wp2_with fail
        go_end0
        exact ⟨⟨_, rfl⟩, .inl ⟨_, by rw [HST3.out, List.take_length], HJK.out⟩⟩
  | false =>
    simp only [Bool.false_eq_true, if_false] at hq
    have q0 : (0 : Int) ≤ (q : Int) := by omega
    have qn : (q : Int) ≤ (n : Int) := by omega
    obtain rfl : p = q := hq.symm
    gi_wp2_with fail
    refine wpIn_wide.2 ?_
    go_region
    obtain ⟨A2, hA2⟩ : ∃ A2, (if c = p then A else A.map (·.add (p * 3))) = A2 := ⟨_, rfl⟩
    rw [hA2]
    have HTH := Lib.hid (show Three w0 (w1.heap.size + 1) w1.heap.size A p p n c A2 s ((w1.alloc (.cells #[.int .i64 s.addr, .int .i64 s.cnt, .slice s.A s.n s.c] 46)).alloc (.cells #[.slice A p c, .slice (some ⟨w1.heap.size, 0, none⟩) 1 1, .slice A2 (n - p) (c - p)] 22)).drew from
      ⟨((G1.out.al _).al _).dr, by simpa using (Blk.new (w1.alloc (.cells #[.int .i64 s.addr, .int .i64 s.cnt, .slice s.A s.n s.c] 46)) #[.slice A p c, .slice (some ⟨w1.heap.size, 0, none⟩) 1 1, .slice A2 (n - p) (c - p)] 22).gr (Gr.refl _).dr, ((Blk.new w1 #[.int .i64 s.addr, .int .i64 s.cnt, .slice s.A s.n s.c] 46).al _).gr (Gr.refl _).dr⟩)
    have HJ1 := Lib.hid (abides_gr HJ.out HJ0.out (((Gr.refl w1).al (.cells #[.int .i64 s.addr, .int .i64 s.cnt, .slice s.A s.n s.c] 46)).al (.cells #[.slice A p c, .slice (some ⟨w1.heap.size, 0, none⟩) 1 1, .slice A2 (n - p) (c - p)] 22)).dr)
    obtain ⟨st, hst0, hst3, hparts⟩ := three_parts (LB := w1.heap.size + 1) (LS := w1.heap.size) HM.out hnc HSO.out (by omega) (by omega) hA2 hxs
    have HP := Lib.hid hparts
    have HST0 := Lib.hid hst0
    have HST3 := Lib.hid hst3
    clear hparts hst0 hst3 hA2 hxs t0' s0' s1' s2' tl' sl' hb1 HV HTB HSK
    generalize ((w1.alloc _).alloc _).drew = w2 at HTH HJ1 ⊢
    gi_wp2_with fail
    gi_loopw [32] (fun i wr => ∃ k : Nat, k ≤ 3 ∧ i = .int .i64 (k : Int) ∧ Hid (Three w0 (w1.heap.size + 1) w1.heap.size A p p n c A2 s wr) ∧ Hid (J (xs.take (st k)) wr)) (fun i _ => 3 - (intOf i).toNat)
    case atStart => exact ⟨0, by omega, rfl, HTH, Lib.hid (by rw [HST0.out]; exact HJ1.out)⟩
    case round =>
      clear HTH HJ1
      obtain ⟨k, hk, rfl, HTH, HJK⟩ := hrel
      by_cases hlt : k < 3
      · obtain ⟨Ak, nk, ck, lk, hcell, hnk, hst, hget⟩ := HP.out k hlt
        have k0 : (0 : Int) ≤ (k : Int) := by omega
        have k1 : (k : Int) < 3 := by omega
        have cLB := (hcell _ HTH.out).1
        have HC := Lib.hid hcell
        have HGET := Lib.hid hget
        have HST := Lib.hid hst
        clear hcell hget hst
        gi_wp2_with fail
        rename World => wo
        gi_loopw [38] (fun i wr => ∃ j : Nat, j ≤ nk ∧ i = .int .i64 (j : Int) ∧ Hid (Three w0 (w1.heap.size + 1) w1.heap.size A p p n c A2 s wr) ∧ Hid (J (xs.take (st k + j)) wr)) (fun i _ => nk - (intOf i).toNat)
        case atStart => exact ⟨0, Nat.zero_le _, rfl, HTH, HJK⟩
        case round =>
          clear HTH HJK cLB
          obtain ⟨j, hj, rfl, HTH, HJK⟩ := hrel
          by_cases hjn : j < nk
          · obtain ⟨b, off, y, rfl, hbl, hy, hok, d0, d1, d2⟩ := (HC.out _ HTH.out).2.2.at_ hjn
            obtain ⟨x, hx, rfl⟩ := HGET.out j y hy
            have j0 : (0 : Int) ≤ (j : Int) := by omega
            have j1 : (j : Int) < (nk : Int) := by omega
            have HX := Lib.hid hx
            have g1 := (Gr.refl wr).al (.cells #[.int .i64 x.1.addr, .int .i64 x.1.cnt, .slice x.1.A x.1.n x.1.c] 46)
            have HT1 := Lib.hid (HTH.out.gr' g1)
            obtain ⟨fn, tmps, assign, body, hyy, hR⟩ := HY.out (xs.take (st k + j)) x _ (abides_gr HJ.out HJK.out g1) (by have := (List.getElem?_eq_some_iff.1 hx).1; rw [List.length_take]; omega)
            have HRR := Lib.hid hR
            clear hy hok hx g1 hR
            gi_wp2_with fail
            refine HRR.out.mono ?_
            rintro e W3 (⟨rfl, hJ3, hk3⟩ | ⟨rfl, hJx3⟩)
            · have HT3 := Lib.hid (HT1.out.kp hk3)
              have HJ3 := Lib.hid (show J (xs.take (st k + (j + 1))) W3 from by rw [← Nat.add_assoc, take_snoc HX.out]; exact hJ3)
              clear hJ3 hk3 hyy HRR
              gi_wp2_with fail
              go_roundw
              case rel => exact ⟨j + 1, by omega, by go_num, HT3, HJ3⟩
              case measure => simp [intOf]; omega
            · have HJX := Lib.hid hJx3
              clear hJx3 hyy HRR
              gi_wp2_with fail
              refine bodyPost_ret (results_none rfl _ _ _) rfl ?_
              exact ⟨⟨_, rfl⟩, .inr ⟨_, by rw [← take_snoc HX.out]; exact List.take_prefix _ _, HJX.out⟩⟩
          · obtain rfl : j = nk := by omega
            have HJ3 := Lib.hid (show J (xs.take (st (k + 1))) wr from by rw [HST.out]; exact HJK.out)
            gi_wp2_with fail
            go_roundw
            case rel => exact ⟨k + 1, by omega, by go_num, HTH, HJ3⟩
            case measure => simp [intOf]; omega
      · obtain rfl : k = 3 := by omega
        gi_wp2_with fail
        go_end0
        exact ⟨⟨_, rfl⟩, .inl ⟨_, by rw [HST3.out, List.take_length], HJK.out⟩⟩
end Go.Proofs.Ytmkkeknimpjfoaa
