/-
  A part of the proof.
-/
import Derived.Test.YtainfijdhcehlaaGreatDoorQS24
import Derived.Maps.AppendAt
import Derived.Laws.Cover3
set_option linter.all false
set_option maxRecDepth 100000
set_option maxHeartbeats 8000000
namespace Go.Proofs.YtainfijdhcehlaaGreatDoor
open Lib (hid)
section
open Go.ChangeShapes Go.WideShapes Go.ChangeAt Go.RowKit Go.Shelf
namespace P16
open P14 (pan)
open P12 (PV PMem)
section
variable {x:Cx} {W:World} {T:Sl} {cl:List Cl} {mx:List T3} {tb:List Sp} {c:Cl} {a:T3} {pr:List Ac}
theorem Can.gr {W':World} (C:Can x W cl mx tb c a pr) (g:Gr W W'):Can x W' cl mx tb c a pr:={ C with gl:=C.gl.gr g }
abbrev touchR (x:Cx) (cl:List Cl) (tb:List Sp) (c:Cl) (a:T3) (pr:List Ac):Res:=touch x.now (runs cl) pr.length x.who x.k c (CM x tb a)
theorem meth_1 (h:TS x W T ⟨none,0,0⟩ cl mx tb []) (C:Can x W cl mx tb c a pr) (e1:x.k=0) (e2:c.pc=0):Meth 99 x W cl mx tb (touchR x cl tb c a pr):=by
 unfold touchR touch
 rw [e1]
 rw [if_pos rfl]
 unfold lock
 rw [if_pos e2]
 exact m_lock h C
theorem meth_2 (h:TS x W T ⟨none,0,0⟩ cl mx tb []) (C:Can x W cl mx tb c a pr) (e1:x.k=0) (e2:c.pc=1):Meth 100 x W cl mx tb (touchR x cl tb c a pr):=by
 unfold touchR touch
 rw [e1]
 rw [if_pos rfl]
 unfold lock
 rw [if_neg (by omega)]
 rw [if_pos e2]
 exact m_load h C
theorem meth_3 (h:TS x W T ⟨none,0,0⟩ cl mx tb []) (C:Can x W cl mx tb c a pr) (e1:x.k=0) (e2:c.pc=2):Meth 101 x W cl mx tb (touchR x cl tb c a pr):=by
 unfold touchR touch
 rw [e1]
 rw [if_pos rfl]
 unfold lock
 rw [if_neg (by omega)]
 rw [if_neg (by omega)]
 rw [if_pos e2]
 exact m_want h C
theorem meth_4 (h:TS x W T ⟨none,0,0⟩ cl mx tb []) (C:Can x W cl mx tb c a pr) (e1:x.k=0) (e2:c.pc=3):Meth 102 x W cl mx tb (touchR x cl tb c a pr):=by
 unfold touchR touch
 rw [e1]
 rw [if_pos rfl]
 unfold lock
 rw [if_neg (by omega)]
 rw [if_neg (by omega)]
 rw [if_neg (by omega)]
 rw [if_pos e2]
 have q:=m_draw h C (by omega)
 rw [e2] at q
 exact q
theorem meth_5 (h:TS x W T ⟨none,0,0⟩ cl mx tb []) (C:Can x W cl mx tb c a pr) (e1:x.k=0) (e2:c.pc=4):Meth 103 x W cl mx tb (touchR x cl tb c a pr):=by
 unfold touchR touch
 rw [e1]
 rw [if_pos rfl]
 unfold lock
 rw [if_neg (by omega)]
 rw [if_neg (by omega)]
 rw [if_neg (by omega)]
 rw [if_neg (by omega)]
 rw [if_pos e2]
 have q:=m_await h C (by omega)
 rw [e2] at q
 exact q
theorem meth_6 (h:TS x W T ⟨none,0,0⟩ cl mx tb []) (C:Can x W cl mx tb c a pr) (e1:x.k=0) (e2:c.pc=5):Meth 104 x W cl mx tb (touchR x cl tb c a pr):=by
 unfold touchR touch
 rw [e1]
 rw [if_pos rfl]
 unfold lock
 rw [if_neg (by omega)]
 rw [if_neg (by omega)]
 rw [if_neg (by omega)]
 rw [if_neg (by omega)]
 rw [if_neg (by omega)]
 rw [if_pos e2]
 exact m_ask h C
theorem meth_7 (h:TS x W T ⟨none,0,0⟩ cl mx tb []) (C:Can x W cl mx tb c a pr) (e1:x.k=0) (e2:c.pc=6):Meth 105 x W cl mx tb (touchR x cl tb c a pr):=by
 unfold touchR touch
 rw [e1]
 rw [if_pos rfl]
 unfold lock
 rw [if_neg (by omega)]
 rw [if_neg (by omega)]
 rw [if_neg (by omega)]
 rw [if_neg (by omega)]
 rw [if_neg (by omega)]
 rw [if_neg (by omega)]
 rw [if_pos e2]
 exact m_sleep h C
theorem meth_8 (h:TS x W T ⟨none,0,0⟩ cl mx tb []) (C:Can x W cl mx tb c a pr) (e1:x.k=0) (e2:c.pc=7):Meth 106 x W cl mx tb (touchR x cl tb c a pr):=by
 unfold touchR touch
 rw [e1]
 rw [if_pos rfl]
 unfold lock
 rw [if_neg (by omega)]
 rw [if_neg (by omega)]
 rw [if_neg (by omega)]
 rw [if_neg (by omega)]
 rw [if_neg (by omega)]
 rw [if_neg (by omega)]
 rw [if_neg (by omega)]
 rw [if_pos e2]
 exact m_wake h C
theorem meth_9 (h:TS x W T ⟨none,0,0⟩ cl mx tb []) (C:Can x W cl mx tb c a pr) (e1:x.k=0) (e2:c.pc=8):Meth 107 x W cl mx tb (touchR x cl tb c a pr):=by
 unfold touchR touch
 rw [e1]
 rw [if_pos rfl]
 unfold lock
 rw [if_neg (by omega)]
 rw [if_neg (by omega)]
 rw [if_neg (by omega)]
 rw [if_neg (by omega)]
 rw [if_neg (by omega)]
 rw [if_neg (by omega)]
 rw [if_neg (by omega)]
 rw [if_neg (by omega)]
 exact m_take h C
theorem meth_10 (h:TS x W T ⟨none,0,0⟩ cl mx tb []) (C:Can x W cl mx tb c a pr) (e1:x.k=1) (e2:c.pc=0):Meth 108 x W cl mx tb (touchR x cl tb c a pr):=by
 unfold touchR touch
 rw [e1]
 rw [if_neg (by decide),if_pos rfl]
 unfold try_
 rw [if_neg (by omega)]
 exact m_look h C
theorem meth_11 (h:TS x W T ⟨none,0,0⟩ cl mx tb []) (C:Can x W cl mx tb c a pr) (e1:x.k=1) (e2:c.pc=9):Meth 109 x W cl mx tb (touchR x cl tb c a pr):=by
 unfold touchR touch
 rw [e1]
 rw [if_neg (by decide),if_pos rfl]
 unfold try_
 rw [if_pos e2]
 exact m_grasp h C
theorem meth_12 (h:TS x W T ⟨none,0,0⟩ cl mx tb []) (C:Can x W cl mx tb c a pr) (e1:x.k=2) (e2:c.pc=0):Meth 110 x W cl mx tb (touchR x cl tb c a pr):=by
 unfold touchR touch
 rw [e1]
 rw [if_neg (by decide),if_neg (by decide)]
 unfold give
 rw [if_pos e2]
 exact m_unlock h C
theorem meth_13 (h:TS x W T ⟨none,0,0⟩ cl mx tb []) (C:Can x W cl mx tb c a pr) (e1:x.k=2) (e2:c.pc=10):Meth 111 x W cl mx tb (touchR x cl tb c a pr):=by
 unfold touchR touch
 rw [e1]
 rw [if_neg (by decide),if_neg (by decide)]
 unfold give
 rw [if_neg (by omega)]
 rw [if_pos e2]
 exact m_give h C
theorem meth_14 (h:TS x W T ⟨none,0,0⟩ cl mx tb []) (C:Can x W cl mx tb c a pr) (e1:x.k=2) (e2:c.pc=11):Meth 112 x W cl mx tb (touchR x cl tb c a pr):=by
 unfold touchR touch
 rw [e1]
 rw [if_neg (by decide),if_neg (by decide)]
 unfold give
 rw [if_neg (by omega)]
 rw [if_neg (by omega)]
 rw [if_pos e2]
 exact m_see h C
theorem meth_15 (h:TS x W T ⟨none,0,0⟩ cl mx tb []) (C:Can x W cl mx tb c a pr) (e1:x.k=2) (e2:c.pc=12):Meth 102 x W cl mx tb (touchR x cl tb c a pr):=by
 unfold touchR touch
 rw [e1]
 rw [if_neg (by decide),if_neg (by decide)]
 unfold give
 rw [if_neg (by omega)]
 rw [if_neg (by omega)]
 rw [if_neg (by omega)]
 rw [if_pos e2]
 have q:=m_draw h C (by omega)
 rw [e2] at q
 exact q
theorem meth_16 (h:TS x W T ⟨none,0,0⟩ cl mx tb []) (C:Can x W cl mx tb c a pr) (e1:x.k=2) (e2:c.pc=13):Meth 103 x W cl mx tb (touchR x cl tb c a pr):=by
 unfold touchR touch
 rw [e1]
 rw [if_neg (by decide),if_neg (by decide)]
 unfold give
 rw [if_neg (by omega)]
 rw [if_neg (by omega)]
 rw [if_neg (by omega)]
 rw [if_neg (by omega)]
 rw [if_pos e2]
 have q:=m_await h C (by omega)
 rw [e2] at q
 exact q
theorem meth_17 (h:TS x W T ⟨none,0,0⟩ cl mx tb []) (C:Can x W cl mx tb c a pr) (e1:x.k=2) (e2:c.pc=14):Meth 113 x W cl mx tb (touchR x cl tb c a pr):=by
 unfold touchR touch
 rw [e1]
 rw [if_neg (by decide),if_neg (by decide)]
 unfold give
 rw [if_neg (by omega)]
 rw [if_neg (by omega)]
 rw [if_neg (by omega)]
 rw [if_neg (by omega)]
 rw [if_neg (by omega)]
 rw [if_pos e2]
 exact m_grant h C
theorem meth_18 (h:TS x W T ⟨none,0,0⟩ cl mx tb []) (C:Can x W cl mx tb c a pr) (e1:x.k=2) (e2:c.pc=15):Meth 114 x W cl mx tb (touchR x cl tb c a pr):=by
 unfold touchR touch
 rw [e1]
 rw [if_neg (by decide),if_neg (by decide)]
 unfold give
 rw [if_neg (by omega)]
 rw [if_neg (by omega)]
 rw [if_neg (by omega)]
 rw [if_neg (by omega)]
 rw [if_neg (by omega)]
 rw [if_neg (by omega)]
 exact m_leave h C
theorem meth_is (h:TS x W T ⟨none,0,0⟩ cl mx tb []) (C:Can x W cl mx tb c a pr) (hk:0<=x.k/\x.k<=2) (hpc:OkPc x.k c.pc) :
 ∃ j F,j<19/\plc j=(x.k,c.pc,F)/\(∀ args w,(callFunc F args).run Tryz.prog w=.ok (.enter F args) w)/\∀ W',Gr W W'->Meth F x W' cl mx tb (touchR x cl tb c a pr):=by
 have e:(x.k=0/\(c.pc=0\/c.pc=1\/c.pc=2\/c.pc=3\/c.pc=4\/c.pc=5\/c.pc=6\/c.pc=7\/c.pc=8))\/(x.k=1/\(c.pc=0\/c.pc=9))\/(x.k=2/\(c.pc=0\/c.pc=10\/c.pc=11\/c.pc=12\/c.pc=13\/c.pc=14\/c.pc=15)):=by
  unfold OkPc at hpc
  omega
 rcases e with ⟨e1,e2 | e2 | e2 | e2 | e2 | e2 | e2 | e2 | e2⟩ | ⟨e1,e2 | e2⟩ | ⟨e1,e2 | e2 | e2 | e2 | e2 | e2 | e2⟩
 . refine⟨1,99,by decide,by rw [e1,e2];rfl,enters_of Tryz.func99 (by kernel_rfl) rfl,λ W' g=>?_⟩
   exact meth_1 (h.gr g) (C.gr g) e1 e2
 . refine⟨2,100,by decide,by rw [e1,e2];rfl,enters_of Tryz.func100 (by kernel_rfl) rfl,λ W' g=>?_⟩
   exact meth_2 (h.gr g) (C.gr g) e1 e2
 . refine⟨3,101,by decide,by rw [e1,e2];rfl,enters_of Tryz.func101 (by kernel_rfl) rfl,λ W' g=>?_⟩
   exact meth_3 (h.gr g) (C.gr g) e1 e2
 . refine⟨4,102,by decide,by rw [e1,e2];rfl,enters_of Tryz.func102 (by kernel_rfl) rfl,λ W' g=>?_⟩
   exact meth_4 (h.gr g) (C.gr g) e1 e2
 . refine⟨5,103,by decide,by rw [e1,e2];rfl,enters_of Tryz.func103 (by kernel_rfl) rfl,λ W' g=>?_⟩
   exact meth_5 (h.gr g) (C.gr g) e1 e2
 . refine⟨6,104,by decide,by rw [e1,e2];rfl,enters_of Tryz.func104 (by kernel_rfl) rfl,λ W' g=>?_⟩
   exact meth_6 (h.gr g) (C.gr g) e1 e2
 . refine⟨7,105,by decide,by rw [e1,e2];rfl,enters_of Tryz.func105 (by kernel_rfl) rfl,λ W' g=>?_⟩
   exact meth_7 (h.gr g) (C.gr g) e1 e2
 . refine⟨8,106,by decide,by rw [e1,e2];rfl,enters_of Tryz.func106 (by kernel_rfl) rfl,λ W' g=>?_⟩
   exact meth_8 (h.gr g) (C.gr g) e1 e2
 . refine⟨9,107,by decide,by rw [e1,e2];rfl,enters_of Tryz.func107 (by kernel_rfl) rfl,λ W' g=>?_⟩
   exact meth_9 (h.gr g) (C.gr g) e1 e2
 . refine⟨10,108,by decide,by rw [e1,e2];rfl,enters_of Tryz.func108 (by kernel_rfl) rfl,λ W' g=>?_⟩
   exact meth_10 (h.gr g) (C.gr g) e1 e2
 . refine⟨11,109,by decide,by rw [e1,e2];rfl,enters_of Tryz.func109 (by kernel_rfl) rfl,λ W' g=>?_⟩
   exact meth_11 (h.gr g) (C.gr g) e1 e2
 . refine⟨12,110,by decide,by rw [e1,e2];rfl,enters_of Tryz.func110 (by kernel_rfl) rfl,λ W' g=>?_⟩
   exact meth_12 (h.gr g) (C.gr g) e1 e2
 . refine⟨13,111,by decide,by rw [e1,e2];rfl,enters_of Tryz.func111 (by kernel_rfl) rfl,λ W' g=>?_⟩
   exact meth_13 (h.gr g) (C.gr g) e1 e2
 . refine⟨14,112,by decide,by rw [e1,e2];rfl,enters_of Tryz.func112 (by kernel_rfl) rfl,λ W' g=>?_⟩
   exact meth_14 (h.gr g) (C.gr g) e1 e2
 . refine⟨15,102,by decide,by rw [e1,e2];rfl,enters_of Tryz.func102 (by kernel_rfl) rfl,λ W' g=>?_⟩
   exact meth_15 (h.gr g) (C.gr g) e1 e2
 . refine⟨16,103,by decide,by rw [e1,e2];rfl,enters_of Tryz.func103 (by kernel_rfl) rfl,λ W' g=>?_⟩
   exact meth_16 (h.gr g) (C.gr g) e1 e2
 . refine⟨17,113,by decide,by rw [e1,e2];rfl,enters_of Tryz.func113 (by kernel_rfl) rfl,λ W' g=>?_⟩
   exact meth_17 (h.gr g) (C.gr g) e1 e2
 . refine⟨18,114,by decide,by rw [e1,e2];rfl,enters_of Tryz.func114 (by kernel_rfl) rfl,λ W' g=>?_⟩
   exact meth_18 (h.gr g) (C.gr g) e1 e2
def TryQ (x:Cx) (cl:List Cl) (mx:List T3) (tb:List Sp) (R:Res) (e:Ending) (W':World):Prop :=
 match R with
 | .bad=>e=.returned (.int .i64 12)
 | .fault=>e=.returned (.int .i64 11)
 | .ok o=>match o.rdy with
  | none=>e=.returned (.int .i64 0)/\∃ T' E' tb',TS x W' T' E' (cl.set x.who.toNat o.c) (mx.set x.n.toNat (o.m.word,o.m.nx,o.m.sv)) tb' (o.ev.map λ v=>(x.who,v,x.n)).toList/\GotT tb tb' x.n.toNat (o.m.c,o.m.l)
  | some y=>match ((cl.set x.who.toNat o.c)[y.toNat]?).bind told with
   | none=>e=.returned (.int .i64 12)
   | some d=>e=.returned (.int .i64 0)/\∃ T' E' tb',TS x W' T' E' ((cl.set x.who.toNat o.c).set y.toNat d) (mx.set x.n.toNat (o.m.word,o.m.nx,o.m.sv)) tb' (o.ev.map λ v=>(x.who,v,x.n)).toList/\GotT tb tb' x.n.toNat (o.m.c,o.m.l)
theorem ts_cells {T' E':Sl} {cl':List Cl} {mx':List T3} {tb':List Sp} {ev':List T3} {w:World} (h:TS x w T' E' cl' mx' tb' ev'):w.cell? ⟨x.b,8,none⟩=some (.int .i64 x.k)/\w.cell? ⟨x.b,7,none⟩=some (.pointer (some ⟨x.bc,x.oc+x.who.toNat*13,none⟩)):=by
 obtain⟨-,-,-,-,-,-,-,c7,c8,-,-,-⟩:=h.cells
 exact⟨c8,c7⟩
theorem try_is (h:TS x W T ⟨none,0,0⟩ cl mx tb []) (C:Can x W cl mx tb c a pr) (hk:0<=x.k/\x.k<=2) (hpc:OkPc x.k c.pc) :
 Calls Tryz.prog 42 #[.pointer (some ⟨x.b,0,none⟩)] W λ e W'=>Kx x W W'/\TryQ x cl mx tb (touchR x cl tb c a pr) e W':=by
 obtain⟨j,F,hj,he,eg,hm⟩:=meth_is h C hk hpc
 have hc:=C.R.hc
 generalize touchR x cl tb c a pr=R at hm ⊢
 cases R with
 | bad=>exact (try_no (y:=12) eg h hc hj he λ W' g=>(hm W' g).mono λ e w' q=>⟨q.2,q.1⟩).mono λ e w' q=>⟨q.2,q.1⟩
 | fault=>exact (try_no (y:=11) eg h hc hj he λ W' g=>(hm W' g).mono λ e w' q=>⟨q.2,q.1⟩).mono λ e w' q=>⟨q.2,q.1⟩
 | ok o =>
  obtain⟨oc,om,rdy,oev⟩:=o
  cases rdy with
  | none =>
   refine (try_ok (Q:=λ w=>∃ T' E' tb',TS x w T' E' (cl.set x.who.toNat oc) (mx.set x.n.toNat (om.word,om.nx,om.sv)) tb' (oev.map λ v=>(x.who,v,x.n)).toList/\GotT tb tb' x.n.toNat (om.c,om.l)) eg h hc hj he ?_ λ W' g=>(hm W' g).mono λ e w' q=>⟨q.2.1,q.1,q.2.2⟩).mono λ e w' q=>⟨q.2.1,q.1,q.2.2⟩
   rintro w ⟨T',E',tb',q,-⟩
   exact ts_cells q
  | some y =>
   cases ht:((cl.set x.who.toNat oc)[y.toNat]?).bind told with
   | none =>
    refine (try_no (y:=12) eg h hc hj he λ W' g=>(hm W' g).mono λ e w' q=>⟨?_,q.1⟩).mono λ e w' q=>⟨q.2,?_⟩
    . have q2:=q.2
      dsimp only at q2
      rw [ht] at q2
      exact q2
    . unfold TryQ
      dsimp only
      rw [ht]
      exact q.1
   | some d =>
    refine (try_ok (Q:=λ w=>∃ T' E' tb',TS x w T' E' ((cl.set x.who.toNat oc).set y.toNat d) (mx.set x.n.toNat (om.word,om.nx,om.sv)) tb' (oev.map λ v=>(x.who,v,x.n)).toList/\GotT tb tb' x.n.toNat (om.c,om.l)) eg h hc hj he ?_ λ W' g=>(hm W' g).mono λ e w' q=>?_).mono λ e w' q=>⟨q.2.1,?_⟩
    . rintro w ⟨T',E',tb',q,-⟩
      exact ts_cells q
    . have q2:=q.2
      dsimp only at q2
      rw [ht] at q2
      exact⟨q2.1,q.1,q2.2⟩
    . unfold TryQ
      dsimp only
      rw [ht]
      exact⟨q.1,q.2.2⟩
theorem try_work (h:TS x W T ⟨none,0,0⟩ cl mx tb []) (hR:Rn x cl c pr) (hk:x.k=3) (hpc:c.pc=0) (hw:c.worked=0\/(0<c.worked/\c.worked<x.n)) (hn0:0<=x.n) (hn:x.n<=1000) :
 Calls Tryz.prog 42 #[.pointer (some ⟨x.b,0,none⟩)] W λ e W'=>Kx x W W'/\e=.returned (.int .i64 0)/\TS x W' T ⟨none,0,0⟩ (cl.set x.who.toNat (work x.n pr.length c)) mx tb []:=by
 refine (try_ok (F:=98) (k:=0) (Q:=λ w=>TS x w T ⟨none,0,0⟩ (cl.set x.who.toNat (work x.n pr.length c)) mx tb []) (enters_of Tryz.func98 (by kernel_rfl) rfl) h hR.hc (by decide) (by rw [hk,hpc];rfl) (λ w q=>ts_cells q) λ W' g=>(work_is (h.gr g) hR hw hn0 hn).mono λ e w' q=>⟨q.1,q.2.2,q.2.1⟩).mono λ e w' q=>⟨q.2.1,q.1,q.2.2⟩
end
end P16
end
section
open Go.ChangeShapes Go.WideShapes Go.ChangeAt Go.RowKit Go.Shelf
namespace P16
theorem run_eql_slice_nil {P:Program} (t e:TypeId) (a:Option Addr) (l c:Nat) (h:P.underlying t=some (.slice e)) (w:World):(binOp .eql t (.slice a l c) (.slice none 0 0)).run P w=.ok (.bool a.isNone) w:=by
 simp [binOp,run_equal_slice_nil w t e a l c h]
theorem own_form {w:World} {base q n:Nat} {e:TypeId} {v:Value} {xs:List Value} (h:w.ownsRow base e q v n xs):∃ A c,v=.slice A n c:=by
 rcases h.2 with ⟨rfl,rfl⟩ | ⟨g,cap,cur,rfl,_⟩
 . exact⟨none,0,rfl⟩
 . exact⟨_,cap,rfl⟩
theorem own_nil {W:World} {e:TypeId} {q:Nat}:(W.alloc (.cells #[] e)).ownsRow W.heap.size e q (.slice (some ⟨W.heap.size,0,none⟩) 0 0) 0 [] :=
 ⟨by simp,.inr ⟨W.heap.size,0,#[],rfl,Nat.le_refl _,heap_alloc_new W _,Nat.le_refl _,Nat.zero_le _,by simp,by simp⟩⟩
theorem src_al {W:World} {ad:Addr} {news:List Value} (h:∀ j u,news[j]?=some u->W.cell? (ad.add j)=some u) (o:Obj):∀ j u,news[j]?=some u->(W.alloc o).cell? (ad.add j)=some u:=by
 intro j u hu
 have h1:=h j u hu
 exact (((Gr.refl W).al o).cell (World.block_lt_of_cell? W _ (by rw [h1]))).trans h1
theorem infoProgs:(Tryz.prog.info? 64).map (λ i=>(i.zero,i.size,i.bytes))=some (some (.slice none 0 0),1,24):=by kernel_rfl
theorem cloneProgs {W:World} {A:Option Addr} {n c:Nat} {news:List Value} (h0:A=none->n=0) (hl:news.length=n*1) (hs:∀ ad,A=some ad->∀ j u,news[j]?=some u->W.cell? (ad.add j)=some u) (h1:∀ u∈news,u.oneCell'=true) (hn:n<=1000000) :
 Calls Tryz.prog 57 #[.slice A n c] W λ e w'=>∃ A' c',e=.returned (.slice A' n c')/\w'.ownsRow W.heap.size 64 1 (.slice A' n c') n news/\Gr W w':=by
 rcases A with _ | ad
 . obtain rfl:=h0 rfl
   have hnews:news=[]:=List.eq_nil_of_length_eq_zero (by omega)
   subst hnews
   clear hl hs h1
   have hq:=run_eql_slice_nil 22 64 none 0 c Tryz.underlying22
   go_enter Tryz.func57,Tryz.ntmps57
   go_wp2_with fail
   go_ret
   exact⟨none,0,rfl,⟨by simp,.inl ⟨rfl,rfl⟩⟩,Gr.refl _⟩
 . obtain⟨i,hi,hz,hsz,hb⟩:=P12.info_parts infoProgs
   have HI:=hid hi
   have HZ:=hid hz
   have HS:=hid hsz
   have HB:=hid hb
   have src:=hid (src_al (hs ad rfl) (.cells #[] 64))
   have HL:=hid hl
   have H1:=hid h1
   clear hi hz hsz hb hs h0 hl h1
   have hq:=run_eql_slice_nil 22 64 (some ad) n c Tryz.underlying22
   go_enter Tryz.func57,Tryz.ntmps57
   go_wp2_with (at_builtin;refine Mark.stop ?_)
   refine Mark.go ?_
   refine wpList_append_own_at _ rfl (.tmp 5) (.tmp 6) 22 rfl W.heap.size 64 i (.slice none 0 0) 1 24 Tryz.underlying22 HI.out HZ.out HS.out HB.out rfl (by decide) (.slice (some ⟨W.heap.size,0,none⟩) 0 0) 0 [] rfl own_nil ad n c news rfl HL.out src.out H1.out (by unfold maxLen;omega) (by omega) (by rw [World.size_alloc];omega) ?_
   intro v' w' hv hg _ _
   have G1:=hid (((Gr.refl W).al (.cells #[] 64)).gb hg (λ k hk=>by have hk:some W.heap.size=some k:=hk;injection hk with hk;omega))
   rw [Nat.zero_add,List.nil_append] at hv
   obtain⟨A',c',rfl⟩:=own_form hv
   have HV:=hid hv
   clear hv hg
   go_wp2_with fail
   go_ret
   exact⟨A',c',rfl,HV.out,G1.out⟩
theorem infoActs:(Tryz.prog.info? 67).map (λ i=>(i.zero,i.size,i.bytes))=some (some (.agg #[.int .i64 0,.int .i64 0]),2,16):=by kernel_rfl
theorem cloneActs {W:World} {A:Option Addr} {n c:Nat} {news:List Value} (h0:A=none->n=0) (hl:news.length=n*2) (hs:∀ ad,A=some ad->∀ j u,news[j]?=some u->W.cell? (ad.add j)=some u) (h1:∀ u∈news,u.oneCell'=true) (hn:n<=1000000) :
 Calls Tryz.prog 58 #[.slice A n c] W λ e w'=>∃ A' c',e=.returned (.slice A' n c')/\w'.ownsRow W.heap.size 67 2 (.slice A' n c') n news/\Gr W w':=by
 rcases A with _ | ad
 . obtain rfl:=h0 rfl
   have hnews:news=[]:=List.eq_nil_of_length_eq_zero (by omega)
   subst hnews
   clear hl hs h1
   have hq:=run_eql_slice_nil 64 67 none 0 c Tryz.underlying64
   go_enter Tryz.func58,Tryz.ntmps58
   go_wp2_with fail
   go_ret
   exact⟨none,0,rfl,⟨by simp,.inl ⟨rfl,rfl⟩⟩,Gr.refl _⟩
 . obtain⟨i,hi,hz,hsz,hb⟩:=P12.info_parts infoActs
   have HI:=hid hi
   have HZ:=hid hz
   have HS:=hid hsz
   have HB:=hid hb
   have src:=hid (src_al (hs ad rfl) (.cells #[] 67))
   have HL:=hid hl
   have H1:=hid h1
   clear hi hz hsz hb hs h0 hl h1
   have hq:=run_eql_slice_nil 64 67 (some ad) n c Tryz.underlying64
   go_enter Tryz.func58,Tryz.ntmps58
   go_wp2_with (at_builtin;refine Mark.stop ?_)
   refine Mark.go ?_
   refine wpList_append_own_at _ rfl (.tmp 5) (.tmp 6) 64 rfl W.heap.size 67 i (.agg #[.int .i64 0,.int .i64 0]) 2 16 Tryz.underlying64 HI.out HZ.out HS.out HB.out rfl (by decide) (.slice (some ⟨W.heap.size,0,none⟩) 0 0) 0 [] rfl own_nil ad n c news rfl HL.out src.out H1.out (by unfold maxLen;omega) (by omega) (by rw [World.size_alloc];omega) ?_
   intro v' w' hv hg _ _
   have G1:=hid (((Gr.refl W).al (.cells #[] 67)).gb hg (λ k hk=>by have hk:some W.heap.size=some k:=hk;injection hk with hk;omega))
   rw [Nat.zero_add,List.nil_append] at hv
   obtain⟨A',c',rfl⟩:=own_form hv
   have HV:=hid hv
   clear hv hg
   go_wp2_with fail
   go_ret
   exact⟨A',c',rfl,HV.out,G1.out⟩
theorem infoClients:(Tryz.prog.info? 55).map (λ i=>(i.zero,i.size,i.bytes))=some (some (.agg #[.int .i64 0,.bool false,.int .i64 0,.int .i64 0,.int .i64 0,.int .i64 0,.bool false,.bool false,.int .i64 0,.bool false,.bool false,.int .i64 0,.int .i64 0]),13,88):=by kernel_rfl
theorem cloneClients {W:World} {A:Option Addr} {n c:Nat} {news:List Value} (h0:A=none->n=0) (hl:news.length=n*13) (hs:∀ ad,A=some ad->∀ j u,news[j]?=some u->W.cell? (ad.add j)=some u) (h1:∀ u∈news,u.oneCell'=true) (hn:n<=1000000) :
 Calls Tryz.prog 59 #[.slice A n c] W λ e w'=>∃ A' c',e=.returned (.slice A' n c')/\w'.ownsRow W.heap.size 55 13 (.slice A' n c') n news/\Gr W w':=by
 rcases A with _ | ad
 . obtain rfl:=h0 rfl
   have hnews:news=[]:=List.eq_nil_of_length_eq_zero (by omega)
   subst hnews
   clear hl hs h1
   have hq:=run_eql_slice_nil 24 55 none 0 c Tryz.underlying24
   go_enter Tryz.func59,Tryz.ntmps59
   go_wp2_with fail
   go_ret
   exact⟨none,0,rfl,⟨by simp,.inl ⟨rfl,rfl⟩⟩,Gr.refl _⟩
 . obtain⟨i,hi,hz,hsz,hb⟩:=P12.info_parts infoClients
   have HI:=hid hi
   have HZ:=hid hz
   have HS:=hid hsz
   have HB:=hid hb
   have src:=hid (src_al (hs ad rfl) (.cells #[] 55))
   have HL:=hid hl
   have H1:=hid h1
   clear hi hz hsz hb hs h0 hl h1
   have hq:=run_eql_slice_nil 24 55 (some ad) n c Tryz.underlying24
   go_enter Tryz.func59,Tryz.ntmps59
   go_wp2_with (at_builtin;refine Mark.stop ?_)
   refine Mark.go ?_
   refine wpList_append_own_at _ rfl (.tmp 5) (.tmp 6) 24 rfl W.heap.size 55 i (.agg #[.int .i64 0,.bool false,.int .i64 0,.int .i64 0,.int .i64 0,.int .i64 0,.bool false,.bool false,.int .i64 0,.bool false,.bool false,.int .i64 0,.int .i64 0]) 13 88 Tryz.underlying24 HI.out HZ.out HS.out HB.out rfl (by decide) (.slice (some ⟨W.heap.size,0,none⟩) 0 0) 0 [] rfl own_nil ad n c news rfl HL.out src.out H1.out (by unfold maxLen;omega) (by omega) (by rw [World.size_alloc];omega) ?_
   intro v' w' hv hg _ _
   have G1:=hid (((Gr.refl W).al (.cells #[] 55)).gb hg (λ k hk=>by have hk:some W.heap.size=some k:=hk;injection hk with hk;omega))
   rw [Nat.zero_add,List.nil_append] at hv
   obtain⟨A',c',rfl⟩:=own_form hv
   have HV:=hid hv
   clear hv hg
   go_wp2_with fail
   go_ret
   exact⟨A',c',rfl,HV.out,G1.out⟩
theorem infoMutexes:(Tryz.prog.info? 48).map (λ i=>(i.zero,i.size,i.bytes))=some (some (.agg #[.int .i64 0,.int .i64 0,.int .i64 0]),3,24):=by kernel_rfl
theorem cloneMutexes {W:World} {A:Option Addr} {n c:Nat} {news:List Value} (h0:A=none->n=0) (hl:news.length=n*3) (hs:∀ ad,A=some ad->∀ j u,news[j]?=some u->W.cell? (ad.add j)=some u) (h1:∀ u∈news,u.oneCell'=true) (hn:n<=1000000) :
 Calls Tryz.prog 60 #[.slice A n c] W λ e w'=>∃ A' c',e=.returned (.slice A' n c')/\w'.ownsRow W.heap.size 48 3 (.slice A' n c') n news/\Gr W w':=by
 rcases A with _ | ad
 . obtain rfl:=h0 rfl
   have hnews:news=[]:=List.eq_nil_of_length_eq_zero (by omega)
   subst hnews
   clear hl hs h1
   have hq:=run_eql_slice_nil 25 48 none 0 c Tryz.underlying25
   go_enter Tryz.func60,Tryz.ntmps60
   go_wp2_with fail
   go_ret
   exact⟨none,0,rfl,⟨by simp,.inl ⟨rfl,rfl⟩⟩,Gr.refl _⟩
 . obtain⟨i,hi,hz,hsz,hb⟩:=P12.info_parts infoMutexes
   have HI:=hid hi
   have HZ:=hid hz
   have HS:=hid hsz
   have HB:=hid hb
   have src:=hid (src_al (hs ad rfl) (.cells #[] 48))
   have HL:=hid hl
   have H1:=hid h1
   clear hi hz hsz hb hs h0 hl h1
   have hq:=run_eql_slice_nil 25 48 (some ad) n c Tryz.underlying25
   go_enter Tryz.func60,Tryz.ntmps60
   go_wp2_with (at_builtin;refine Mark.stop ?_)
   refine Mark.go ?_
   refine wpList_append_own_at _ rfl (.tmp 5) (.tmp 6) 25 rfl W.heap.size 48 i (.agg #[.int .i64 0,.int .i64 0,.int .i64 0]) 3 24 Tryz.underlying25 HI.out HZ.out HS.out HB.out rfl (by decide) (.slice (some ⟨W.heap.size,0,none⟩) 0 0) 0 [] rfl own_nil ad n c news rfl HL.out src.out H1.out (by unfold maxLen;omega) (by omega) (by rw [World.size_alloc];omega) ?_
   intro v' w' hv hg _ _
   have G1:=hid (((Gr.refl W).al (.cells #[] 48)).gb hg (λ k hk=>by have hk:some W.heap.size=some k:=hk;injection hk with hk;omega))
   rw [Nat.zero_add,List.nil_append] at hv
   obtain⟨A',c',rfl⟩:=own_form hv
   have HV:=hid hv
   clear hv hg
   go_wp2_with fail
   go_ret
   exact⟨A',c',rfl,HV.out,G1.out⟩
theorem infoSpots:(Tryz.prog.info? 91).map (λ i=>(i.zero,i.size,i.bytes))=some (some (.agg #[.int .i64 0,.int .i64 0,.slice none 0 0]),3,40):=by kernel_rfl
theorem cloneSpots {W:World} {A:Option Addr} {n c:Nat} {news:List Value} (h0:A=none->n=0) (hl:news.length=n*3) (hs:∀ ad,A=some ad->∀ j u,news[j]?=some u->W.cell? (ad.add j)=some u) (h1:∀ u∈news,u.oneCell'=true) (hn:n<=1000000) :
 Calls Tryz.prog 61 #[.slice A n c] W λ e w'=>∃ A' c',e=.returned (.slice A' n c')/\w'.ownsRow W.heap.size 91 3 (.slice A' n c') n news/\Gr W w':=by
 rcases A with _ | ad
 . obtain rfl:=h0 rfl
   have hnews:news=[]:=List.eq_nil_of_length_eq_zero (by omega)
   subst hnews
   clear hl hs h1
   have hq:=run_eql_slice_nil 26 91 none 0 c Tryz.underlying26
   go_enter Tryz.func61,Tryz.ntmps61
   go_wp2_with fail
   go_ret
   exact⟨none,0,rfl,⟨by simp,.inl ⟨rfl,rfl⟩⟩,Gr.refl _⟩
 . obtain⟨i,hi,hz,hsz,hb⟩:=P12.info_parts infoSpots
   have HI:=hid hi
   have HZ:=hid hz
   have HS:=hid hsz
   have HB:=hid hb
   have src:=hid (src_al (hs ad rfl) (.cells #[] 91))
   have HL:=hid hl
   have H1:=hid h1
   clear hi hz hsz hb hs h0 hl h1
   have hq:=run_eql_slice_nil 26 91 (some ad) n c Tryz.underlying26
   go_enter Tryz.func61,Tryz.ntmps61
   go_wp2_with (at_builtin;refine Mark.stop ?_)
   refine Mark.go ?_
   refine wpList_append_own_at _ rfl (.tmp 5) (.tmp 6) 26 rfl W.heap.size 91 i (.agg #[.int .i64 0,.int .i64 0,.slice none 0 0]) 3 40 Tryz.underlying26 HI.out HZ.out HS.out HB.out rfl (by decide) (.slice (some ⟨W.heap.size,0,none⟩) 0 0) 0 [] rfl own_nil ad n c news rfl HL.out src.out H1.out (by unfold maxLen;omega) (by omega) (by rw [World.size_alloc];omega) ?_
   intro v' w' hv hg _ _
   have G1:=hid (((Gr.refl W).al (.cells #[] 91)).gb hg (λ k hk=>by have hk:some W.heap.size=some k:=hk;injection hk with hk;omega))
   rw [Nat.zero_add,List.nil_append] at hv
   obtain⟨A',c',rfl⟩:=own_form hv
   have HV:=hid hv
   clear hv hg
   go_wp2_with fail
   go_ret
   exact⟨A',c',rfl,HV.out,G1.out⟩
theorem infoInts:(Tryz.prog.info? 3).map (λ i=>(i.zero,i.size,i.bytes))=some (some (.int .i64 0),1,8):=by kernel_rfl
theorem cloneInts {W:World} {A:Option Addr} {n c:Nat} {news:List Value} (h0:A=none->n=0) (hl:news.length=n*1) (hs:∀ ad,A=some ad->∀ j u,news[j]?=some u->W.cell? (ad.add j)=some u) (h1:∀ u∈news,u.oneCell'=true) (hn:n<=1000000) :
 Calls Tryz.prog 62 #[.slice A n c] W λ e w'=>∃ A' c',e=.returned (.slice A' n c')/\w'.ownsRow W.heap.size 3 1 (.slice A' n c') n news/\Gr W w':=by
 rcases A with _ | ad
 . obtain rfl:=h0 rfl
   have hnews:news=[]:=List.eq_nil_of_length_eq_zero (by omega)
   subst hnews
   clear hl hs h1
   have hq:=run_eql_slice_nil 23 3 none 0 c Tryz.underlying23
   go_enter Tryz.func62,Tryz.ntmps62
   go_wp2_with fail
   go_ret
   exact⟨none,0,rfl,⟨by simp,.inl ⟨rfl,rfl⟩⟩,Gr.refl _⟩
 . obtain⟨i,hi,hz,hsz,hb⟩:=P12.info_parts infoInts
   have HI:=hid hi
   have HZ:=hid hz
   have HS:=hid hsz
   have HB:=hid hb
   have src:=hid (src_al (hs ad rfl) (.cells #[] 3))
   have HL:=hid hl
   have H1:=hid h1
   clear hi hz hsz hb hs h0 hl h1
   have hq:=run_eql_slice_nil 23 3 (some ad) n c Tryz.underlying23
   go_enter Tryz.func62,Tryz.ntmps62
   go_wp2_with (at_builtin;refine Mark.stop ?_)
   refine Mark.go ?_
   refine wpList_append_own_at _ rfl (.tmp 5) (.tmp 6) 23 rfl W.heap.size 3 i (.int .i64 0) 1 8 Tryz.underlying23 HI.out HZ.out HS.out HB.out rfl (by decide) (.slice (some ⟨W.heap.size,0,none⟩) 0 0) 0 [] rfl own_nil ad n c news rfl HL.out src.out H1.out (by unfold maxLen;omega) (by omega) (by rw [World.size_alloc];omega) ?_
   intro v' w' hv hg _ _
   have G1:=hid (((Gr.refl W).al (.cells #[] 3)).gb hg (λ k hk=>by have hk:some W.heap.size=some k:=hk;injection hk with hk;omega))
   rw [Nat.zero_add,List.nil_append] at hv
   obtain⟨A',c',rfl⟩:=own_form hv
   have HV:=hid hv
   clear hv hg
   go_wp2_with fail
   go_ret
   exact⟨A',c',rfl,HV.out,G1.out⟩
end P16
end
section
open Go.ChangeShapes Go.WideShapes Go.ChangeAt Go.RowKit Go.Shelf
namespace P16
open P12 (PV PMem Late)
def FT (lo hi:Nat) (W W':World):Prop:=W.heap.size<=W'.heap.size/\∀ k,lo<=k->k<hi->k<W.heap.size->W'.heap[k]?=W.heap[k]?
section
variable {lo hi lo' hi' B:Nat} {W W' W'':World}
theorem FT.refl:FT lo hi W W:=⟨Nat.le_refl _,λ _ _ _ _=>rfl⟩
theorem FT.trans (h:FT lo hi W W') (k:FT lo hi W' W''):FT lo hi W W'' :=
 ⟨Nat.le_trans h.1 k.1,λ j h1 h2 h3=>(k.2 j h1 h2 (Nat.lt_of_lt_of_le h3 h.1)).trans (h.2 j h1 h2 h3)⟩
theorem FT.sub (h:FT lo hi W W') (h1:lo<=lo') (h2:hi'<=hi):FT lo' hi' W W':=⟨h.1,λ k q1 q2=>h.2 k (by omega) (by omega)⟩
theorem FT.gr (g:Gr W W'):FT lo hi W W':=⟨g.size,λ k _ _ h=>g.block k h⟩
theorem FT.st {p:Addr} (hp:p.block<lo\/hi<=p.block) (u:Value):FT lo hi W (W.setCell p u) :=
 ⟨by simp [World.setCell],λ k h1 h2 _=>Below.heap_setCell W p u k (by omega)⟩
theorem FromB.ft (h:FromB B W W') (hb:B<=lo):FT lo hi W W':=⟨h.1,λ k h1 _ h3=>h.2 k (by omega) h3⟩
end
section
variable {α:Type} {en:α->List Value} {q i j:Nat} {l:List α} {x:α} {u:Value}
theorem flat_len' (hq:∀ x,(en x).length=q):∀ l:List α,(l.flatMap en).length=l.length*q
 | []=>by simp
 | x::r=>by rw [List.flatMap_cons,List.length_append,hq,flat_len' hq r,List.length_cons];rw [Nat.add_mul];omega
theorem flat_at (hq:∀ x,(en x).length=q):∀ (l:List α) (i j:Nat) (x:α) (u:Value),l[i]?=some x->(en x)[j]?=some u->(l.flatMap en)[i*q+j]?=some u
 | [],i,j,x,u,h,_=>by simp at h
 | y::r,0,j,x,u,h,hu=>by
  simp at h
  subst h
  rw [List.flatMap_cons,Nat.zero_mul,Nat.zero_add,List.getElem?_append_left (List.getElem?_eq_some_iff.1 hu).1]
  exact hu
 | y::r,i+1,j,x,u,h,hu=>by
  rw [List.flatMap_cons,List.getElem?_append_right (by rw [hq,Nat.add_mul];omega),hq,show (i+1)*q+j-q=i*q+j from by rw [Nat.add_mul];omega]
  exact flat_at hq r i j x u (by simpa using h) hu
theorem flat_back (hq:∀ x,(en x).length=q):∀ (l:List α) (j:Nat) (u:Value),(l.flatMap en)[j]?=some u->∃ i x k,l[i]?=some x/\(en x)[k]?=some u/\j=i*q+k
 | [],j,u,h=>by simp at h
 | y::r,j,u,h=>by
  rw [List.flatMap_cons] at h
  by_cases hj:j<q
  . rw [List.getElem?_append_left (by rw [hq];exact hj)] at h
    exact⟨0,y,j,rfl,h,by omega⟩
  . rw [List.getElem?_append_right (by rw [hq];omega),hq] at h
    obtain⟨i,x,k,h1,h2,h3⟩:=flat_back hq r _ u h
    exact⟨i+1,x,k,by simpa using h1,h2,by rw [Nat.add_mul];omega⟩
theorem rmem_src {ok:α->Prop} {w:World} {A:Option Addr} {n:Nat} (hq:∀ x,(en x).length=q) (h:RMem en q ok w A n l):∀ ad,A=some ad->∀ j u,(l.flatMap en)[j]?=some u->w.cell? (ad.add j)=some u:=by
 intro ad hA j u hu
 obtain⟨i,x,k,h1,h2,rfl⟩:=flat_back hq l j u hu
 have hi:=(List.getElem?_eq_some_iff.1 h1).1
 obtain⟨b,off,e,_,hc⟩:=h.2.2 (by have:=h.1;omega)
 rw [hA] at e
 cases e
 rw [add_plain,<- Nat.add_assoc]
 exact hc i x h1 k u h2
theorem rmem_nil {ok:α->Prop} {w:World} {A:Option Addr} {n:Nat} (h:RMem en q ok w A n l) (hA:A=none):n=0:=by
 rcases Nat.eq_zero_or_pos n with h0 | h0
 . exact h0
 . obtain⟨_,_,e,_⟩:=h.2.2 h0
   rw [hA] at e
   cases e
end
section
variable {w w':World} {base q n c:Nat} {e:TypeId} {A:Option Addr} {xs:List Value}
theorem own_parts (h:w.ownsRow base e q (.slice A n c) n xs):n<=c/\c<=9223372036854775807/\Late base A/\(0<n->∃ g cur,A=some ⟨g,0,none⟩/\base<=g/\Blk w g cur e/\cur.toList.take (n*q)=xs):=by
 rcases h.2 with ⟨hv,h0⟩ | ⟨g,cap,cur,hv,hb,hg,hnc,hcm,hs,ht⟩
 . cases hv
   exact⟨by omega,by omega,Late.none,λ h=>by omega⟩
 . cases hv
   refine⟨hnc,by unfold maxLen at hcm;omega,λ k hk=>by simp at hk;omega,λ _=>⟨g,cur,rfl,hb,hg,ht⟩⟩
theorem own_blk {g:Nat} {cur:Array Value} (hb:Blk w g cur e) {k:Nat} {u:Value} (ht:cur.toList.take (n*q)=xs) (hx:xs[k]?=some u):cur[k]?=some u:=by
 rw [<- ht,List.getElem?_take] at hx
 split at hx
 . simpa using hx
 . cases hx
variable {α:Type} {en:α->List Value} {l:List α} {ok:α->Prop}
theorem own_orow (hq:∀ x,(en x).length=q) (h:w.ownsRow base e q (.slice A n c) n (l.flatMap en)) (hn:0<n):∃ g,A=some ⟨g,0,none⟩/\base<=g/\ORow en q w g 0 l:=by
 obtain⟨_,_,_,k⟩:=own_parts h
 obtain⟨g,cur,e1,e2,e3,e4⟩:=k hn
 refine⟨g,e1,e2,cur,e,e3,λ i x hi j v hj=>?_⟩
 rw [Nat.zero_add]
 exact own_blk e3 e4 (flat_at hq l i j x v hi hj)
theorem orow_rmem {b o:Nat} (h:ORow en q w b o l) (hl:l.length=n) (hb:∀ x∈l,ok x):RMem en q ok w (some ⟨b,o,none⟩) n l :=
 ⟨hl,hb,λ _=>⟨b,o,rfl,h.lt,λ i x hx j v hv=>(h.at_ hx hv).1⟩⟩
end
section
variable {w w':World} {A:Option Addr} {n:Nat}
theorem mem_keep {l:List Ac} (h:Mem w A n l) (hs:w.heap.size<=w'.heap.size) (hb:0<n->∀ k,A.map (·.block)=some k->w'.heap[k]?=w.heap[k]?):Mem w' A n l :=
 ⟨h.1,h.2.1,λ hn=>by
   obtain⟨b,off,rfl,hlt,hc⟩:=h.2.2 hn
   exact⟨b,off,rfl,by omega,λ j x hj=>(World.cell?_of_block (a:=⟨b,off+j,none⟩) (hb hn b rfl)).trans (hc j x hj)⟩⟩
theorem mem_src {l:List Ac} (h:Mem w A n l):∀ ad,A=some ad->∀ j u,(flat l)[j]?=some u->w.cell? (ad.add j)=some u:=by
 intro ad hA j u hu
 have hn:0<n:=by
  have h1:=(List.getElem?_eq_some_iff.1 hu).1
  rw [flat_len,h.1] at h1
  omega
 obtain⟨b,off,e,_,hc⟩:=h.2.2 hn
 rw [hA] at e
 cases e
 rw [add_plain]
 exact hc j u hu
theorem mem_nil {l:List Ac} (h:Mem w A n l) (hA:A=none):n=0:=by
 rcases Nat.eq_zero_or_pos n with h0 | h0
 . exact h0
 . obtain⟨_,_,e,_⟩:=h.2.2 h0
   rw [hA] at e
   cases e
theorem emem_keep {α:Type} {enc:α->Value} {ok:α->Prop} {l:List α} (h:EMem enc ok w A n l) (hs:w.heap.size<=w'.heap.size) (hb:0<n->∀ k,A.map (·.block)=some k->w'.heap[k]?=w.heap[k]?):EMem enc ok w' A n l :=
 ⟨h.1,h.2.1,λ hn=>by
   obtain⟨b,off,rfl,hlt,hc⟩:=h.2.2 hn
   exact⟨b,off,rfl,by omega,λ j x hj=>(World.cell?_of_block (a:=⟨b,off+j,none⟩) (hb hn b rfl)).trans (hc j x hj)⟩⟩
theorem emem_src {α:Type} {enc:α->Value} {ok:α->Prop} {l:List α} (h:EMem enc ok w A n l):∀ ad,A=some ad->∀ j u,(l.map enc)[j]?=some u->w.cell? (ad.add j)=some u:=by
 intro ad hA j u hu
 rw [List.getElem?_map,Option.map_eq_some_iff] at hu
 obtain⟨x,hx,rfl⟩:=hu
 have hi:=(List.getElem?_eq_some_iff.1 hx).1
 obtain⟨b,off,e,_,hc⟩:=h.2.2 (by have:=h.1;omega)
 rw [hA] at e
 cases e
 rw [add_plain]
 exact hc j x hx
theorem emem_nil {α:Type} {enc:α->Value} {ok:α->Prop} {l:List α} (h:EMem enc ok w A n l) (hA:A=none):n=0:=by
 rcases Nat.eq_zero_or_pos n with h0 | h0
 . exact h0
 . obtain⟨_,_,e,_⟩:=h.2.2 h0
   rw [hA] at e
   cases e
abbrev spV (x:SV):List Value:=[.int .i64 x.addr,.int .i64 x.cnt,.slice x.A x.n x.c]
theorem spV_len (x:SV):(spV x).length=3:=rfl
theorem smem_rmem {l:List SV} (h:SMem w A n l):RMem spV 3 (λ x=>x.ok w) w A n l :=
 ⟨h.1,h.2.1,λ hn=>by
   obtain⟨b,off,e,hb,hc⟩:=h.2.2 hn
   refine⟨b,off,e,hb,λ i x hx j v hv=>?_⟩
   obtain⟨c0,c1,c2⟩:=hc i x hx
   match j,hv with
   | 0,hv=>cases hv;exact c0
   | 1,hv=>cases hv;exact c1
   | 2,hv=>cases hv;exact c2⟩
theorem flat_one_of {α:Type} {en:α->List Value} (h:∀ x,∀ u∈en x,u.oneCell'=true) (l:List α):∀ u∈l.flatMap en,u.oneCell'=true:=by
 intro u hu
 obtain⟨x,_,h1⟩:=List.mem_flatMap.1 hu
 exact h x u h1
end
end P16
end
section
open Go.ChangeShapes Go.WideShapes Go.ChangeAt Go.RowKit Go.Shelf
namespace P16
open P12 (PV PMem Late)
def PRow (base lo g:Nat) (wr:World) (R:List PV) (k:Nat):Prop :=
 ∃ R':List PV,R'.length=R.length/\(∀ (i:Nat) y,R[i]?=some y->∃ x,R'[i]?=some x/\x.l=y.l/\(k<=i->x=y)/\(i<k->x.ok wr/\Late lo x.A)) /\
  (0<R.length->base<=g/\g<lo/\∃ cur,Blk wr g cur 64/\∀ (i:Nat) x,R'[i]?=some x->cur[i]?=some x.enc)
theorem late_keep {w w':World} {x:PV} {lo:Nat} (hx:x.ok w) (hl:Late lo x.A) (hs:w.heap.size<=w'.heap.size) (hb:∀ k,lo<=k->k<w.heap.size->w'.heap[k]?=w.heap[k]?):x.ok w' :=
 ⟨mem_keep hx.1 hs λ hn k hk=>hb k (hl k hk) (by
   obtain⟨b,off,e,hlt,_⟩:=hx.1.2.2 hn
   rw [e] at hk
   cases hk
   exact hlt),hx.2⟩
section
variable {base lo g k:Nat} {wr wr':World} {R:List PV} {y:PV}
theorem PRow.keep (h:PRow base lo g wr R k) (hbl:base<=lo) (hs:wr.heap.size<=wr'.heap.size) (hb:∀ j,base<=j->j<wr.heap.size->wr'.heap[j]?=wr.heap[j]?):PRow base lo g wr' R k:=by
 obtain⟨R',h1,h2,h3⟩:=h
 refine⟨R',h1,λ i y hy=>?_,λ hn=>?_⟩
 . obtain⟨x,e1,e2,e3,e4⟩:=h2 i y hy
   exact⟨x,e1,e2,e3,λ hi=>⟨late_keep (e4 hi).1 (e4 hi).2 hs λ j q1 q2=>hb j (by omega) q2,(e4 hi).2⟩⟩
 . obtain⟨b1,b2,cur,hB,hc⟩:=h3 hn
   refine⟨b1,b2,cur,?_,hc⟩
   unfold Blk
   rw [hb g b1 hB.lt]
   exact hB
theorem PRow.gr (h:PRow base lo g wr R k) (hbl:base<=lo) (q:Gr wr wr'):PRow base lo g wr' R k:=h.keep hbl q.size λ j _ hj=>q.block j hj
theorem PRow.st (h:PRow base lo g wr R k) (hbl:base<=lo) {p:Addr} (hp:p.block<base) (v:Value):PRow base lo g (wr.setCell p v) R k :=
 h.keep hbl (by simp [World.setCell]) λ j q1 _=>Below.heap_setCell wr p v j (by omega)
theorem PRow.at_ (h:PRow base lo g wr R k) (hy:R[k]?=some y):base<=g/\g<wr.heap.size/\wr.cell? ⟨g,k,none⟩=some y.enc/\wr.frozen? ⟨g,k,none⟩=false:=by
 obtain⟨R',h1,h2,h3⟩:=h
 have hk:=(List.getElem?_eq_some_iff.1 hy).1
 obtain⟨x,e1,e2,e3,_⟩:=h2 k y hy
 obtain⟨b1,b2,cur,hB,hc⟩:=h3 (by omega)
 obtain rfl:=e3 (Nat.le_refl _)
 exact⟨b1,hB.lt,hB.at_ (hc k _ e1)⟩
theorem PRow.start {A:Option Addr} {n c:Nat} (h:wr.ownsRow base 64 1 (.slice A n c) n (R.map PV.enc)) (hl:R.length=n) (hA:0<n->A=some ⟨g,0,none⟩) (hlo:wr.heap.size<=lo):PRow base lo g wr R 0:=by
 refine⟨R,rfl,λ i y hy=>⟨y,hy,rfl,λ _=>rfl,λ hi=>by omega⟩,λ hn=>?_⟩
 obtain⟨_,_,_,k⟩:=own_parts h
 obtain⟨g',cur,e1,e2,e3,e4⟩:=k (by omega)
 rw [hA (by omega)] at e1
 cases e1
 have:=e3.lt
 exact⟨e2,by omega,cur,e3,λ i x hx=>own_blk e3 e4 (by rw [List.getElem?_map,hx];rfl)⟩
theorem PRow.put (h:PRow base lo g wr R k) (hbl:base<=lo) (hy:R[k]?=some y) {w2:World} {A2:Option Addr} {b2 c2:Nat} (g2:Gr wr w2) (hyb:∀ x∈y.l,Inb x.1/\Inb x.2) (hyl:y.l.length=y.n)
 (o2:w2.ownsRow b2 67 2 (.slice A2 y.n c2) y.n (flat y.l)) (hb2:lo<=b2):PRow base lo g (w2.setCell ⟨g,k,none⟩ (.slice A2 y.n c2)) R (k+1):=by
 have hk:=(List.getElem?_eq_some_iff.1 hy).1
 rw [<- hyl] at o2
 obtain⟨A3,c3,e3,m3,n3,x3,l3⟩:=P12.own_mem o2 hyb
 injection e3 with e3 _ e4
 subst e3 e4
 obtain⟨R',h1,h2,h3⟩:=h.gr hbl g2
 obtain⟨q1,q2,cur,hB,hc⟩:=h3 (by omega)
 have okn:PV.ok (w2.setCell ⟨g,k,none⟩ (.slice A2 y.n c2)) ⟨A2,y.n,c2,y.l⟩:=by
  rw [hyl] at m3 n3
  have m0:PV.ok w2 ⟨A2,y.n,c2,y.l⟩:=⟨m3,n3,x3⟩
  exact late_keep m0 l3 (by simp [World.setCell]) λ j j1 _=>Below.heap_setCell w2 _ _ j (by show j≠g;omega)
 refine⟨R'.set k ⟨A2,y.n,c2,y.l⟩,by rw [List.length_set];exact h1,λ i z hz=>?_,λ _=>⟨q1,q2,cur.setIfInBounds k (.slice A2 y.n c2),hB.set k _,λ i x hx=>?_⟩⟩
 . by_cases e:i=k
   . subst e
     rw [hy] at hz
     cases hz
     exact⟨_,List.getElem?_set_self (by omega),rfl,λ q=>by omega,λ _=>⟨okn,l3.low hb2⟩⟩
   . obtain⟨x,e1,e2,e5,e6⟩:=h2 i z hz
     refine⟨x,by rw [List.getElem?_set_ne (Ne.symm e)];exact e1,e2,λ q=>e5 (by omega),λ q=>?_⟩
     obtain⟨f1,f2⟩:=e6 (by omega)
     exact⟨late_keep f1 f2 (by simp [World.setCell]) λ j j1 _=>Below.heap_setCell w2 _ _ j (by show j≠g;omega),f2⟩
 . rw [Array.getElem?_setIfInBounds]
   by_cases e:k=i
   . subst e
     rw [List.getElem?_set_self (by omega)] at hx
     cases hx
     rw [if_pos rfl]
     have hlt:k<cur.size:=by
      have:=hc k _ (List.getElem?_eq_getElem (by omega))
      exact (Array.getElem?_eq_some_iff.1 this).1
     rw [if_pos hlt]
     rfl
   . rw [List.getElem?_set_ne e] at hx
     rw [if_neg e]
     exact hc i x hx
theorem PRow.done (h:PRow base lo g wr R k) (hbl:base<=lo) (hk:k=R.length) {A:Option Addr} (hA:0<k->A=some ⟨g,0,none⟩):∀ hi W',wr.heap.size<=hi->FT base hi wr W'->∃ R',PMem W' A k R'/\P12.pl R'=P12.pl R:=by
 intro hi W' hhi f
 obtain⟨R',h1,h2,h3⟩:=h.keep (wr':=W') hbl f.1 λ j q1 q2=>f.2 j q1 (by omega) q2
 refine⟨R',⟨⟨by omega,λ _ _=>trivial,λ hn=>?_⟩,λ x hx=>?_⟩,?_⟩
 . obtain⟨_,_,cur,hB,hc⟩:=h3 (by omega)
   refine⟨g,0,hA hn,hB.lt,λ i x hx=>?_⟩
   rw [Nat.zero_add]
   exact (hB.at_ (hc i x hx)).1
 . obtain⟨i,hi⟩:=List.getElem?_of_mem hx
   have hlt:=(List.getElem?_eq_some_iff.1 hi).1
   obtain⟨x',e1,_,_,e4⟩:=h2 i _ (List.getElem?_eq_getElem (by omega))
   rw [hi] at e1
   cases e1
   exact (e4 (by omega)).1
 . unfold P12.pl
   apply List.ext_getElem?
   intro i
   rw [List.getElem?_map,List.getElem?_map]
   cases hy:R[i]? with
   | none=>rw [List.getElem?_eq_none (by have:=List.getElem?_eq_none_iff.1 hy;omega)]
   | some y =>
    obtain⟨x,e1,e2,_⟩:=h2 i y hy
    rw [e1]
    simp [e2]
end
def TRow (base lo g:Nat) (wr:World) (T:List SV) (k:Nat):Prop :=
 ∃ T':List SV,T'.length=T.length/\(∀ (i:Nat) y,T[i]?=some y->∃ x,T'[i]?=some x/\x.pl=y.pl/\(k<=i->x=y)/\(i<k->x.ok wr/\Late lo x.A)) /\
  (0<T.length->base<=g/\g<lo/\∃ cur,Blk wr g cur 91/\∀ (i:Nat) x,T'[i]?=some x->∀ j v,(spV x)[j]?=some v->cur[i*3+j]?=some v)
theorem late_keepS {w w':World} {x:SV} {lo:Nat} (hx:x.ok w) (hl:Late lo x.A) (hs:w.heap.size<=w'.heap.size) (hb:∀ k,lo<=k->k<w.heap.size->w'.heap[k]?=w.heap[k]?):x.ok w' :=
 ⟨hx.1,hx.2.1,emem_keep hx.2.2.1 hs λ hn k hk=>hb k (hl k hk) (by
   obtain⟨b,off,e,hlt,_⟩:=hx.2.2.1.2.2 hn
   rw [e] at hk
   cases hk
   exact hlt),hx.2.2.2⟩
section
variable {base lo g k:Nat} {wr wr':World} {T:List SV} {y:SV}
theorem TRow.keep (h:TRow base lo g wr T k) (hbl:base<=lo) (hs:wr.heap.size<=wr'.heap.size) (hb:∀ j,base<=j->j<wr.heap.size->wr'.heap[j]?=wr.heap[j]?):TRow base lo g wr' T k:=by
 obtain⟨T',h1,h2,h3⟩:=h
 refine⟨T',h1,λ i y hy=>?_,λ hn=>?_⟩
 . obtain⟨x,e1,e2,e3,e4⟩:=h2 i y hy
   exact⟨x,e1,e2,e3,λ hi=>⟨late_keepS (e4 hi).1 (e4 hi).2 hs λ j q1 q2=>hb j (by omega) q2,(e4 hi).2⟩⟩
 . obtain⟨b1,b2,cur,hB,hc⟩:=h3 hn
   refine⟨b1,b2,cur,?_,hc⟩
   unfold Blk
   rw [hb g b1 hB.lt]
   exact hB
theorem TRow.gr (h:TRow base lo g wr T k) (hbl:base<=lo) (q:Gr wr wr'):TRow base lo g wr' T k:=h.keep hbl q.size λ j _ hj=>q.block j hj
theorem TRow.st (h:TRow base lo g wr T k) (hbl:base<=lo) {p:Addr} (hp:p.block<base) (v:Value):TRow base lo g (wr.setCell p v) T k :=
 h.keep hbl (by simp [World.setCell]) λ j q1 _=>Below.heap_setCell wr p v j (by omega)
theorem TRow.at_ (h:TRow base lo g wr T k) (hy:T[k]?=some y):base<=g/\g<wr.heap.size/\wr.cell? ⟨g,k*3,none⟩=some (.int .i64 y.addr)/\wr.cell? ⟨g,k*3+1,none⟩=some (.int .i64 y.cnt)/\wr.cell? ⟨g,k*3+2,none⟩=some (.slice y.A y.n y.c)/\wr.frozen? ⟨g,k*3+2,none⟩=false:=by
 obtain⟨T',h1,h2,h3⟩:=h
 have hk:=(List.getElem?_eq_some_iff.1 hy).1
 obtain⟨x,e1,e2,e3,_⟩:=h2 k y hy
 obtain⟨b1,b2,cur,hB,hc⟩:=h3 (by omega)
 obtain rfl:=e3 (Nat.le_refl _)
 have c2:=hB.at_ (hc k _ e1 2 _ rfl)
 exact⟨b1,hB.lt,(hB.at_ (hc k _ e1 0 _ rfl)).1,(hB.at_ (hc k _ e1 1 _ rfl)).1,c2.1,c2.2⟩
theorem TRow.start {A:Option Addr} {n c:Nat} (h:wr.ownsRow base 91 3 (.slice A n c) n (T.flatMap spV)) (hl:T.length=n) (hA:0<n->A=some ⟨g,0,none⟩) (hlo:wr.heap.size<=lo):TRow base lo g wr T 0:=by
 refine⟨T,rfl,λ i y hy=>⟨y,hy,rfl,λ _=>rfl,λ hi=>by omega⟩,λ hn=>?_⟩
 obtain⟨_,_,_,k⟩:=own_parts h
 obtain⟨g',cur,e1,e2,e3,e4⟩:=k (by omega)
 rw [hA (by omega)] at e1
 cases e1
 have:=e3.lt
 exact⟨e2,by omega,cur,e3,λ i x hx j v hv=>own_blk e3 e4 (flat_at spV_len T i j x v hx hv)⟩
theorem TRow.put (h:TRow base lo g wr T k) (hbl:base<=lo) (hy:T[k]?=some y) {w2:World} {A2:Option Addr} {b2 c2:Nat} (g2:Gr wr w2) {V:World} (hyk:y.ok V)
 (o2:w2.ownsRow b2 3 1 (.slice A2 y.n c2) y.n (y.line.map (Value.int .i64))) (hb2:lo<=b2):TRow base lo g (w2.setCell ⟨g,k*3+2,none⟩ (.slice A2 y.n c2)) T (k+1):=by
 have hk:=(List.getElem?_eq_some_iff.1 hy).1
 obtain⟨n3,x3,l3,k3⟩:=own_parts o2
 have m3:IMem w2 A2 y.n y.line:=⟨hyk.len,hyk.2.2.1.2.1,λ hn=>by
  obtain⟨g',cur,e1,e2,e3,e4⟩:=k3 hn
  refine⟨g',0,e1,e3.lt,λ j x hx=>?_⟩
  rw [Nat.zero_add]
  exact (e3.at_ (own_blk e3 e4 (by rw [List.getElem?_map,hx];rfl))).1⟩
 obtain⟨T',h1,h2,h3⟩:=h.gr hbl g2
 obtain⟨q1,q2,cur,hB,hc⟩:=h3 (by omega)
 have okn:SV.ok (w2.setCell ⟨g,k*3+2,none⟩ (.slice A2 y.n c2)) ⟨y.addr,y.cnt,A2,y.n,c2,y.line⟩:=by
  have m0:SV.ok w2 ⟨y.addr,y.cnt,A2,y.n,c2,y.line⟩:=⟨hyk.1,hyk.2.1,m3,n3,x3⟩
  exact late_keepS m0 l3 (by simp [World.setCell]) λ j j1 _=>Below.heap_setCell w2 _ _ j (by show j≠g;omega)
 refine⟨T'.set k ⟨y.addr,y.cnt,A2,y.n,c2,y.line⟩,by rw [List.length_set];exact h1,λ i z hz=>?_,λ _=>⟨q1,q2,cur.setIfInBounds (k*3+2) (.slice A2 y.n c2),hB.set _ _,λ i x hx j v hv=>?_⟩⟩
 . by_cases e:i=k
   . subst e
     rw [hy] at hz
     cases hz
     exact⟨_,List.getElem?_set_self (by omega),rfl,λ q=>by omega,λ _=>⟨okn,l3.low hb2⟩⟩
   . obtain⟨x,e1,e2,e5,e6⟩:=h2 i z hz
     refine⟨x,by rw [List.getElem?_set_ne (Ne.symm e)];exact e1,e2,λ q=>e5 (by omega),λ q=>?_⟩
     obtain⟨f1,f2⟩:=e6 (by omega)
     exact⟨late_keepS f1 f2 (by simp [World.setCell]) λ j j1 _=>Below.heap_setCell w2 _ _ j (by show j≠g;omega),f2⟩
 . have hj:j<3:=(List.getElem?_eq_some_iff.1 hv).1
   rw [Array.getElem?_setIfInBounds]
   by_cases e:k=i
   . subst e
     rw [List.getElem?_set_self (by omega)] at hx
     cases hx
     obtain⟨x,e1,e2,e5,e6⟩:=h2 k y hy
     obtain rfl:=e5 (Nat.le_refl _)
     have hc1:=λ j v=>hc k _ e1 j v
     match j,hv,hj with
     | 0,hv,_=>rw [if_neg (by omega)];exact hc1 0 v hv
     | 1,hv,_=>rw [if_neg (by omega)];exact hc1 1 v hv
     | 2,hv,_ =>
      cases hv
      have:=(Array.getElem?_eq_some_iff.1 (hc1 2 _ rfl)).1
      rw [if_pos rfl,if_pos this]
   . rw [List.getElem?_set_ne e] at hx
     rw [if_neg (by omega)]
     exact hc i x hx j v hv
theorem TRow.done (h:TRow base lo g wr T k) (hbl:base<=lo) (hk:k=T.length) {A:Option Addr} (hA:0<k->A=some ⟨g,0,none⟩):∀ hi W',wr.heap.size<=hi->FT base hi wr W'->∃ T',SMem W' A k T'/\T'.map SV.pl=T.map SV.pl:=by
 intro hi W' hhi f
 obtain⟨T',h1,h2,h3⟩:=h.keep (wr':=W') hbl f.1 λ j q1 q2=>f.2 j q1 (by omega) q2
 refine⟨T',⟨by omega,λ x hx=>?_,λ hn=>?_⟩,?_⟩
 . obtain⟨i,hi⟩:=List.getElem?_of_mem hx
   have hlt:=(List.getElem?_eq_some_iff.1 hi).1
   obtain⟨x',e1,_,_,e4⟩:=h2 i _ (List.getElem?_eq_getElem (by omega))
   rw [hi] at e1
   cases e1
   exact (e4 (by omega)).1
 . obtain⟨_,_,cur,hB,hc⟩:=h3 (by omega)
   refine⟨g,0,hA hn,hB.lt,λ i x hx=>?_⟩
   rw [Nat.zero_add]
   exact⟨(hB.at_ (hc i x hx 0 _ rfl)).1,(hB.at_ (hc i x hx 1 _ rfl)).1,(hB.at_ (hc i x hx 2 _ rfl)).1⟩
 . apply List.ext_getElem?
   intro i
   rw [List.getElem?_map,List.getElem?_map]
   cases hy:T[i]? with
   | none=>rw [List.getElem?_eq_none (by have:=List.getElem?_eq_none_iff.1 hy;omega)]
   | some y =>
    obtain⟨x,e1,e2,_⟩:=h2 i y hy
    rw [e1]
    simp [e2]
end
theorem orow_ft {α:Type} {en:α->List Value} {q n lo hi:Nat} {w w':World} {A:Option Addr} {l:List α} (h:0<n->∃ g,A=some ⟨g,0,none⟩/\lo<=g/\g<hi/\ORow en q w g 0 l) (f:FT lo hi w w'):0<n->∃ g,A=some ⟨g,0,none⟩/\lo<=g/\g<hi/\ORow en q w' g 0 l:=λ hn=>by
 obtain⟨g,e,h1,h2,o⟩:=h hn
 exact⟨g,e,h1,h2,o.kept (f.2 g h1 h2 o.lt)⟩
theorem orow_own {α:Type} {en:α->List Value} {q n base c:Nat} {w:World} {e:TypeId} {A:Option Addr} {l:List α} (hq:∀ x,(en x).length=q) (h:w.ownsRow base e q (.slice A n c) n (l.flatMap en)):0<n->∃ g,A=some ⟨g,0,none⟩/\base<=g/\g<w.heap.size/\ORow en q w g 0 l:=λ hn=>by
 obtain⟨g,e,h1,o⟩:=own_orow hq h hn
 exact⟨g,e,h1,o.lt,o⟩
theorem far_cell {w:World} {p q:Addr} {v u:Value} (h:w.cell? q=some u) (hne:q.block≠p.block):(w.setCell p v).cell? q=some u :=
 (World.cell?_of_block (Below.heap_setCell w p v q.block hne)).trans h
structure WRd (W:World) (r:WR) (ω:Wv):Prop where
 now:r.now=ω.now
 stop:r.stop=ω.stop
 bn:B64 ω.now
 bs:B64 ω.stop
 p:∃ R,PMem W r.p.A r.p.n R/\P12.pl R=ω.progs
 c:CMem W r.c.A r.c.n ω.cl
 m:T3Mem W r.m.A r.m.n ω.mx
 t:∃ T,SMem W r.t.A r.t.n T/\T.map SV.pl=ω.tb
theorem WIs.rd {W:World} {r:WR} {ω:Wv} (h:WIs W r ω):WRd W r ω:=⟨h.now,h.stop,h.bn,h.bs,h.p,h.c,h.m,h.t⟩
theorem WRd.lens {W:World} {r:WR} {ω:Wv} (h:WRd W r ω):ω.progs.length=r.p.n/\ω.cl.length=r.c.n/\ω.mx.length=r.m.n/\ω.tb.length=r.t.n:=by
 obtain⟨R,hR,e⟩:=h.p
 obtain⟨T,hT,e'⟩:=h.t
 refine⟨?_,h.c.len,h.m.len,?_⟩
 . rw [<- e];unfold P12.pl;rw [List.length_map];exact hR.len
 . rw [<- e',List.length_map];exact hT.1
structure Copied (B:Nat) (w:World) (s:WR) (ω:Wv) (b1 b2 b3:Nat):Prop where
 l1:B<=b1
 l2:b1<=b2
 l3:b2<=b3
 l4:b3<=w.heap.size
 now:s.now=ω.now
 stop:s.stop=ω.stop
 bn:B64 ω.now
 bs:B64 ω.stop
 nc:ω.cl.length=s.c.n
 nm:ω.mx.length=s.m.n
 p:∀ W',FT B b1 w W'->∃ R,PMem W' s.p.A s.p.n R/\P12.pl R=ω.progs
 c:0<s.c.n->∃ g,s.c.A=some ⟨g,0,none⟩/\b1<=g/\g<b2/\ORow clV 13 w g 0 ω.cl
 m:0<s.m.n->∃ g,s.m.A=some ⟨g,0,none⟩/\b2<=g/\g<b3/\ORow t3V 3 w g 0 ω.mx
 t:∀ W',FT b3 w.heap.size w W'->∃ T,SMem W' s.t.A s.t.n T/\T.map SV.pl=ω.tb
 cb:∀ x∈ω.cl,CB x
 mb:∀ x∈ω.mx,TB3 x
 op:s.p.ok
 oc:s.c.ok
 om:s.m.ok
 ot:s.t.ok
theorem rmem_of_orow {α:Type} {en:α->List Value} {q n:Nat} {ok:α->Prop} {w w':World} {A:Option Addr} {l:List α} {b1 b2:Nat} (hl:l.length=n) (hb:∀ x∈l,ok x)
 (h:0<n->∃ g,A=some ⟨g,0,none⟩/\b1<=g/\g<b2/\ORow en q w g 0 l) (f:FT b1 b2 w w'):RMem en q ok w' A n l:=by
 rcases Nat.eq_zero_or_pos n with h0 | h0
 . subst h0
   obtain rfl:=List.eq_nil_of_length_eq_zero hl
   exact⟨rfl,by simp,λ h=>by omega⟩
 . obtain⟨g,rfl,e1,e2,o⟩:=h h0
   exact orow_rmem (o.kept (f.2 g e1 e2 o.lt)) hl hb
theorem Copied.new {B b1 b2 b3:Nat} {w:World} {s:WR} {ω:Wv} (h:Copied B w s ω b1 b2 b3):WNew B w s ω:=by
 intro W' f
 have l1:=h.l1
 have l2:=h.l2
 have l3:=h.l3
 exact⟨h.now,h.stop,h.bn,h.bs,h.p W' (f.ft (Nat.le_refl _)),rmem_of_orow h.nc h.cb h.c (f.ft l1),rmem_of_orow h.nm h.mb h.m (f.ft (by omega)),h.t W' (f.ft (by omega)),h.op,h.oc,h.om,h.ot⟩
end P16
end
end Go.Proofs.YtainfijdhcehlaaGreatDoor
