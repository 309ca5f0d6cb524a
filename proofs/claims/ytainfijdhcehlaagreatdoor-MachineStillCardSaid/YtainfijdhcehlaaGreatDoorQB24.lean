/-
  A part of the proof.
-/
import Derived.Test.YtainfijdhcehlaaGreatDoorQB10
import Derived.Test.YtainfijdhcehlaaGreatDoorQB22
import Derived.Test.YtainfijdhcehlaaGreatDoorQB23
import Derived.Maps.AppendAt
import Derived.Laws.Cover3
set_option linter.unusedVariables false
set_option linter.unusedSimpArgs false
set_option maxRecDepth 100000
set_option maxHeartbeats 8000000
namespace Go.Proofs.YtainfijdhcehlaaGreatDoor
open Lib (hid)
section
open Go.ChangeShapes Go.WideShapes Go.ChangeAt Go.RowKit Go.Shelf
namespace P16
open P12 (PV PMem)
abbrev clA (c:Cl):Array Value:=#[.int .i64 c.gst,.bool c.permit,.int .i64 c.act,.int .i64 c.pc,.int .i64 c.worked,.int .i64 c.ticket,.bool c.first,.bool c.told,.int .i64 c.since,.bool c.st,.bool c.aw,.int .i64 c.rounds,.int .i64 c.old]
section
variable {W:World} {c:Cl} {A:Option Addr} {n d m:Nat} {l:List Ac}
theorem place_over (ha:(c.act==(n:Int))=true) :
 Calls Tryz.prog 97 #[.agg (clA c),.slice A n d,.map (some m)] W λ e w'=>e=.returned (.bool ((c.gst==2)&&(c.pc==0)&&(c.worked==0)))/\Gr W w':=by
 cases h1:(c.gst==2)<;>cases h2:(c.pc==0)<;>cases h3:(c.worked==0)
 all_goals (
  go_enter Tryz.func97,Tryz.ntmps97
  go_wp2_with fail
  go_ret
  exact⟨rfl,(Gr.refl W).al _⟩)
theorem place_no (ha:(c.act==(n:Int))=false) (hb:decide (c.act<0)=true\/(decide (c.act<0)=false/\decide ((n:Int)<c.act)=true)\/(decide (c.act<0)=false/\decide ((n:Int)<c.act)=false/\(c.gst==2)=true)) :
 Calls Tryz.prog 97 #[.agg (clA c),.slice A n d,.map (some m)] W λ e w'=>e=.returned (.bool false)/\Gr W w':=by
 rcases hb with h1 | ⟨h1,h2⟩ | ⟨h1,h2,h3⟩
 all_goals (
  go_enter Tryz.func97,Tryz.ntmps97
  go_wp2_with fail
  go_ret
  exact⟨rfl,(Gr.refl W).al _⟩)
end
theorem okPc_plc {k pc:Int} (hk:0<=k/\k<=3) (h:OkPc k pc):∃ j,j<19/\(plc j).1=k/\(plc j).2.1=pc:=by
 unfold OkPc at h
 have e:(k=3/\pc=0)\/(k=0/\(pc=0\/pc=1\/pc=2\/pc=3\/pc=4\/pc=5\/pc=6\/pc=7\/pc=8))\/(k=1/\(pc=0\/pc=9))\/(k=2/\(pc=0\/pc=10\/pc=11\/pc=12\/pc=13\/pc=14\/pc=15)):=by omega
 rcases e with ⟨rfl,rfl⟩ | ⟨rfl,rfl | rfl | rfl | rfl | rfl | rfl | rfl | rfl | rfl⟩ | ⟨rfl,rfl | rfl⟩ | ⟨rfl,rfl | rfl | rfl | rfl | rfl | rfl | rfl⟩
 . exact⟨0,by decide,rfl,rfl⟩
 . exact⟨1,by decide,rfl,rfl⟩
 . exact⟨2,by decide,rfl,rfl⟩
 . exact⟨3,by decide,rfl,rfl⟩
 . exact⟨4,by decide,rfl,rfl⟩
 . exact⟨5,by decide,rfl,rfl⟩
 . exact⟨6,by decide,rfl,rfl⟩
 . exact⟨7,by decide,rfl,rfl⟩
 . exact⟨8,by decide,rfl,rfl⟩
 . exact⟨9,by decide,rfl,rfl⟩
 . exact⟨10,by decide,rfl,rfl⟩
 . exact⟨11,by decide,rfl,rfl⟩
 . exact⟨12,by decide,rfl,rfl⟩
 . exact⟨13,by decide,rfl,rfl⟩
 . exact⟨14,by decide,rfl,rfl⟩
 . exact⟨15,by decide,rfl,rfl⟩
 . exact⟨16,by decide,rfl,rfl⟩
 . exact⟨17,by decide,rfl,rfl⟩
 . exact⟨18,by decide,rfl,rfl⟩
theorem plc_okPc:∀ j,j<19->OkPc (plc j).1 (plc j).2.1:=by
 intro j hj
 unfold OkPc
 revert j
 decide
section
variable {W:World} {c:Cl} {A:Option Addr} {n d m:Nat} {l:List Ac} {k N:Int}
theorem place_at {b off:Nat} {F:Value} {is:Bool} (hK:KMap W m) (ha:(c.act==(n:Int))=false) (h1:decide (c.act<0)=false) (h2:decide ((n:Int)<c.act)=false) (h3:(c.gst==2)=false)
 (hb:b<W.heap.size) (c0:W.cell? ⟨b,off+c.act.toNat*2,none⟩=some (.int .i64 k)) (c1:W.cell? ⟨b,off+c.act.toNat*2+1,none⟩=some (.int .i64 N))
 (hl:∀ w,KMap w m->(Instr.lookup 132 (.map (some m)) (pv k c.pc) true).run Tryz.prog w=.ok (.tuple #[F,.bool is]) w) :
 Calls Tryz.prog 97 #[.agg (clA c),.slice (some ⟨b,off,none⟩) n d,.map (some m)] W λ e w'=>e=.returned (.bool (is&&((c.worked==0)||((k==3)&&decide (0<c.worked)&&decide (c.worked<N)))))/\Gr W w':=by
 have a0:0<=c.act:=by simpa using h1
 have a1:c.act<(n:Int):=by
  have e1:¬ c.act=(n:Int):=by simpa using ha
  have e2:¬ (n:Int)<c.act:=by simpa using h2
  omega
 have hk4:(k==3)=false\/((k==3)=true/\decide (0<c.worked)=false)\/((k==3)=true/\decide (0<c.worked)=true):=by
  cases (k==3)<;>cases decide (0<c.worked)<;>simp
 have L1:=hl ((W.alloc (.cells (clA c) 55)).alloc (.cells #[.int .i64 k,.int .i64 N] 67)) (hK.gr (((Gr.refl W).al _).al _))
 clear hl hK
 rcases hk4 with h4 | ⟨h4,h5⟩ | ⟨h4,h5⟩<;>cases h6:(c.worked==0)<;>cases h7:is<;>subst h7
 all_goals (
  go_enter Tryz.func97,Tryz.ntmps97
  go_wp2_with fail
  go_ret
  refine⟨?_,((Gr.refl W).al _).al _⟩
  simp [h4,h6])
 all_goals simp_all
 all_goals (intro q;omega)
end
def PlaceOk (p:List Ac) (c:Cl):Prop :=
 (c.act=p.length/\c.gst=2/\c.pc=0/\c.worked=0)\/(0<=c.act/\c.act<p.length/\c.gst≠2/\∀ k n,p[c.act.toNat]?=some (k,n)->OkPc k c.pc/\(c.worked=0\/(k=3/\0<c.worked/\c.worked<n)))
theorem rightPlace_is {W:World} {c:Cl} {A:Option Addr} {n d m:Nat} {l:List Ac} {v:Bool} (hm:Mem W A n l) (hok:∀ a∈l,P12.okA a=true) (hK:KMap W m) (hv:v=true↔PlaceOk l c) :
 Calls Tryz.prog 97 #[.agg (clA c),.slice A n d,.map (some m)] W λ e w'=>e=.returned (.bool v)/\Gr W w':=by
 have hl:l.length=n:=hm.1
 by_cases ha:c.act=(n:Int)
 . have e:v=((c.gst==2)&&(c.pc==0)&&(c.worked==0)):=by
    rw [Bool.eq_iff_iff,hv]
    unfold PlaceOk
    simp only [Bool.and_eq_true,beq_iff_eq]
    constructor
    . rintro (⟨_,q1,q2,q3⟩ | ⟨_,q,_⟩)
      . exact⟨⟨q1,q2⟩,q3⟩
      . omega
    . rintro⟨⟨q1,q2⟩,q3⟩
      exact .inl ⟨by omega,q1,q2,q3⟩
   rw [e]
   exact place_over (by simpa using ha)
 . by_cases hb:0<=c.act/\c.act<(n:Int)/\c.gst≠2
   . obtain⟨b0,b1,b2⟩:=hb
     obtain⟨b,off,rfl,hlt,hc⟩:=hm.2.2 (by omega)
     obtain⟨⟨k,N⟩,hp⟩:∃ a,l[c.act.toNat]?=some a:=⟨_,List.getElem?_eq_getElem (by omega)⟩
     have hko:=P12.okA_iff.1 (hok _ (List.mem_of_getElem? hp))
     dsimp only at hko
     have f0:=hc (c.act.toNat*2) _ (flat_get0 _ _ _ hp)
     have f1:=hc (c.act.toNat*2+1) _ (flat_get1 _ _ _ hp)
     have fin:∀ (is:Bool),(is=true↔OkPc k c.pc)->v=(is&&((c.worked==0)||((k==3)&&decide (0<c.worked)&&decide (c.worked<N)))):=by
      intro is his
      rw [Bool.eq_iff_iff,hv]
      unfold PlaceOk
      simp only [Bool.and_eq_true,Bool.or_eq_true,beq_iff_eq,decide_eq_true_eq,his]
      constructor
      . rintro (⟨q,_⟩ | ⟨_,_,_,q⟩)
        . omega
        . obtain⟨q1,q2⟩:=q k N hp
          refine⟨q1,?_⟩
          rcases q2 with q2 | ⟨q2,q3,q4⟩
          . exact .inl q2
          . exact .inr ⟨⟨q2,q3⟩,q4⟩
      . rintro⟨q1,q2⟩
        refine .inr ⟨b0,by omega,b2,λ k' N' h'=>?_⟩
        rw [hp] at h'
        cases h'
        refine⟨q1,?_⟩
        rcases q2 with q2 | ⟨⟨q2,q3⟩,q4⟩
        . exact .inl q2
        . exact .inr ⟨q2,q3,q4⟩
     have g0:(c.act==(n:Int))=false:=by simpa using ha
     have g1:decide (c.act<0)=false:=by simpa using b0
     have g2:decide ((n:Int)<c.act)=false:=by simp;omega
     have g3:(c.gst==2)=false:=by simpa using b2
     by_cases his:OkPc k c.pc
     . obtain⟨j,hj,e1,e2⟩:=okPc_plc (by omega) his
       rw [fin true (by simp [his])]
       exact place_at (F:=fv (plc j).2.2) hK g0 g1 g2 g3 hlt f0 f1 (λ w hw=>by rw [<- e1,<- e2];exact run_steps_ok hw hj)
     . rw [fin false (by simp [his])]
       exact place_at (F:=.nilFunc) hK g0 g1 g2 g3 hlt f0 f1 (λ w hw=>run_steps_no hw λ j hj q=>his (by rw [q.1,q.2];exact plc_okPc j hj))
   . have e:v=false:=by
      cases q:v
      . rfl
      . exfalso
        rcases hv.1 q with ⟨q,_⟩ | ⟨q1,q2,q3,_⟩
        . omega
        . exact hb ⟨q1,by omega,q3⟩
     rw [e]
     refine place_no (by simpa using ha) ?_
     by_cases q1:c.act<0
     . exact .inl (by simpa using q1)
     . by_cases q2:(n:Int)<c.act
       . exact .inr (.inl ⟨by simpa using q1,by simpa using q2⟩)
       . refine .inr (.inr ⟨by simpa using q1,by simpa using q2,?_⟩)
         by_cases q3:c.gst=2
         . simpa using q3
         . exact absurd ⟨by omega,by omega,q3⟩ hb
end P16
end
section
open Go.ChangeShapes Go.WideShapes Go.ChangeAt Go.RowKit Go.Shelf
namespace P16
open P14 (pan)
open P12 (PV PMem)
section
variable {x:Cx} {W:World} {T:Sl} {cl:List Cl} {mx:List T3} {tb:List Sp} {c:Cl} {a:T3} {pr:List Ac}
theorem Can.gr {W':World} (C:Can x W cl mx tb c a pr) (g:Gr W W'):Can x W' cl mx tb c a pr:={ C with gl:=C.gl.gr g }
abbrev touchR (x:Cx) (cl:List Cl) (tb:List Sp) (c:Cl) (a:T3) (pr:List Ac):Res:=touch x.now (runs cl) pr.length x.who x.k c (CM x tb a)
theorem meth_1 (h:TS x W T ⟨none,0,0⟩ cl mx tb []) (C:Can x W cl mx tb c a pr) (e1:x.k=0) (e2:c.pc=0):Meth 99 x W cl mx tb (touchR x cl tb c a pr):=by
 unfold touchR touch
 rw [e1]
 rw [if_pos rfl]
 unfold lock
 rw [if_pos e2]
 exact m_lock h C
theorem meth_2 (h:TS x W T ⟨none,0,0⟩ cl mx tb []) (C:Can x W cl mx tb c a pr) (e1:x.k=0) (e2:c.pc=1):Meth 100 x W cl mx tb (touchR x cl tb c a pr):=by
 unfold touchR touch
 rw [e1]
 rw [if_pos rfl]
 unfold lock
 rw [if_neg (by omega)]
 rw [if_pos e2]
 exact m_load h C
theorem meth_3 (h:TS x W T ⟨none,0,0⟩ cl mx tb []) (C:Can x W cl mx tb c a pr) (e1:x.k=0) (e2:c.pc=2):Meth 101 x W cl mx tb (touchR x cl tb c a pr):=by
 unfold touchR touch
 rw [e1]
 rw [if_pos rfl]
 unfold lock
 rw [if_neg (by omega)]
 rw [if_neg (by omega)]
 rw [if_pos e2]
 exact m_want h C
theorem meth_4 (h:TS x W T ⟨none,0,0⟩ cl mx tb []) (C:Can x W cl mx tb c a pr) (e1:x.k=0) (e2:c.pc=3):Meth 102 x W cl mx tb (touchR x cl tb c a pr):=by
 unfold touchR touch
 rw [e1]
 rw [if_pos rfl]
 unfold lock
 rw [if_neg (by omega)]
 rw [if_neg (by omega)]
 rw [if_neg (by omega)]
 rw [if_pos e2]
 have q:=m_draw h C (by omega)
 rw [e2] at q
 exact q
theorem meth_5 (h:TS x W T ⟨none,0,0⟩ cl mx tb []) (C:Can x W cl mx tb c a pr) (e1:x.k=0) (e2:c.pc=4):Meth 103 x W cl mx tb (touchR x cl tb c a pr):=by
 unfold touchR touch
 rw [e1]
 rw [if_pos rfl]
 unfold lock
 rw [if_neg (by omega)]
 rw [if_neg (by omega)]
 rw [if_neg (by omega)]
 rw [if_neg (by omega)]
 rw [if_pos e2]
 have q:=m_await h C (by omega)
 rw [e2] at q
 exact q
theorem meth_6 (h:TS x W T ⟨none,0,0⟩ cl mx tb []) (C:Can x W cl mx tb c a pr) (e1:x.k=0) (e2:c.pc=5):Meth 104 x W cl mx tb (touchR x cl tb c a pr):=by
 unfold touchR touch
 rw [e1]
 rw [if_pos rfl]
 unfold lock
 rw [if_neg (by omega)]
 rw [if_neg (by omega)]
 rw [if_neg (by omega)]
 rw [if_neg (by omega)]
 rw [if_neg (by omega)]
 rw [if_pos e2]
 exact m_ask h C
theorem meth_7 (h:TS x W T ⟨none,0,0⟩ cl mx tb []) (C:Can x W cl mx tb c a pr) (e1:x.k=0) (e2:c.pc=6):Meth 105 x W cl mx tb (touchR x cl tb c a pr):=by
 unfold touchR touch
 rw [e1]
 rw [if_pos rfl]
 unfold lock
 rw [if_neg (by omega)]
 rw [if_neg (by omega)]
 rw [if_neg (by omega)]
 rw [if_neg (by omega)]
 rw [if_neg (by omega)]
 rw [if_neg (by omega)]
 rw [if_pos e2]
 exact m_sleep h C
theorem meth_8 (h:TS x W T ⟨none,0,0⟩ cl mx tb []) (C:Can x W cl mx tb c a pr) (e1:x.k=0) (e2:c.pc=7):Meth 106 x W cl mx tb (touchR x cl tb c a pr):=by
 unfold touchR touch
 rw [e1]
 rw [if_pos rfl]
 unfold lock
 rw [if_neg (by omega)]
 rw [if_neg (by omega)]
 rw [if_neg (by omega)]
 rw [if_neg (by omega)]
 rw [if_neg (by omega)]
 rw [if_neg (by omega)]
 rw [if_neg (by omega)]
 rw [if_pos e2]
 exact m_wake h C
theorem meth_9 (h:TS x W T ⟨none,0,0⟩ cl mx tb []) (C:Can x W cl mx tb c a pr) (e1:x.k=0) (e2:c.pc=8):Meth 107 x W cl mx tb (touchR x cl tb c a pr):=by
 unfold touchR touch
 rw [e1]
 rw [if_pos rfl]
 unfold lock
 rw [if_neg (by omega)]
 rw [if_neg (by omega)]
 rw [if_neg (by omega)]
 rw [if_neg (by omega)]
 rw [if_neg (by omega)]
 rw [if_neg (by omega)]
 rw [if_neg (by omega)]
 rw [if_neg (by omega)]
 exact m_take h C
theorem meth_10 (h:TS x W T ⟨none,0,0⟩ cl mx tb []) (C:Can x W cl mx tb c a pr) (e1:x.k=1) (e2:c.pc=0):Meth 108 x W cl mx tb (touchR x cl tb c a pr):=by
 unfold touchR touch
 rw [e1]
 rw [if_neg (by decide),if_pos rfl]
 unfold try_
 rw [if_neg (by omega)]
 exact m_look h C
theorem meth_11 (h:TS x W T ⟨none,0,0⟩ cl mx tb []) (C:Can x W cl mx tb c a pr) (e1:x.k=1) (e2:c.pc=9):Meth 109 x W cl mx tb (touchR x cl tb c a pr):=by
 unfold touchR touch
 rw [e1]
 rw [if_neg (by decide),if_pos rfl]
 unfold try_
 rw [if_pos e2]
 exact m_grasp h C
theorem meth_12 (h:TS x W T ⟨none,0,0⟩ cl mx tb []) (C:Can x W cl mx tb c a pr) (e1:x.k=2) (e2:c.pc=0):Meth 110 x W cl mx tb (touchR x cl tb c a pr):=by
 unfold touchR touch
 rw [e1]
 rw [if_neg (by decide),if_neg (by decide)]
 unfold give
 rw [if_pos e2]
 exact m_unlock h C
theorem meth_13 (h:TS x W T ⟨none,0,0⟩ cl mx tb []) (C:Can x W cl mx tb c a pr) (e1:x.k=2) (e2:c.pc=10):Meth 111 x W cl mx tb (touchR x cl tb c a pr):=by
 unfold touchR touch
 rw [e1]
 rw [if_neg (by decide),if_neg (by decide)]
 unfold give
 rw [if_neg (by omega)]
 rw [if_pos e2]
 exact m_give h C
theorem meth_14 (h:TS x W T ⟨none,0,0⟩ cl mx tb []) (C:Can x W cl mx tb c a pr) (e1:x.k=2) (e2:c.pc=11):Meth 112 x W cl mx tb (touchR x cl tb c a pr):=by
 unfold touchR touch
 rw [e1]
 rw [if_neg (by decide),if_neg (by decide)]
 unfold give
 rw [if_neg (by omega)]
 rw [if_neg (by omega)]
 rw [if_pos e2]
 exact m_see h C
theorem meth_15 (h:TS x W T ⟨none,0,0⟩ cl mx tb []) (C:Can x W cl mx tb c a pr) (e1:x.k=2) (e2:c.pc=12):Meth 102 x W cl mx tb (touchR x cl tb c a pr):=by
 unfold touchR touch
 rw [e1]
 rw [if_neg (by decide),if_neg (by decide)]
 unfold give
 rw [if_neg (by omega)]
 rw [if_neg (by omega)]
 rw [if_neg (by omega)]
 rw [if_pos e2]
 have q:=m_draw h C (by omega)
 rw [e2] at q
 exact q
theorem meth_16 (h:TS x W T ⟨none,0,0⟩ cl mx tb []) (C:Can x W cl mx tb c a pr) (e1:x.k=2) (e2:c.pc=13):Meth 103 x W cl mx tb (touchR x cl tb c a pr):=by
 unfold touchR touch
 rw [e1]
 rw [if_neg (by decide),if_neg (by decide)]
 unfold give
 rw [if_neg (by omega)]
 rw [if_neg (by omega)]
 rw [if_neg (by omega)]
 rw [if_neg (by omega)]
 rw [if_pos e2]
 have q:=m_await h C (by omega)
 rw [e2] at q
 exact q
theorem meth_17 (h:TS x W T ⟨none,0,0⟩ cl mx tb []) (C:Can x W cl mx tb c a pr) (e1:x.k=2) (e2:c.pc=14):Meth 113 x W cl mx tb (touchR x cl tb c a pr):=by
 unfold touchR touch
 rw [e1]
 rw [if_neg (by decide),if_neg (by decide)]
 unfold give
 rw [if_neg (by omega)]
 rw [if_neg (by omega)]
 rw [if_neg (by omega)]
 rw [if_neg (by omega)]
 rw [if_neg (by omega)]
 rw [if_pos e2]
 exact m_grant h C
theorem meth_18 (h:TS x W T ⟨none,0,0⟩ cl mx tb []) (C:Can x W cl mx tb c a pr) (e1:x.k=2) (e2:c.pc=15):Meth 114 x W cl mx tb (touchR x cl tb c a pr):=by
 unfold touchR touch
 rw [e1]
 rw [if_neg (by decide),if_neg (by decide)]
 unfold give
 rw [if_neg (by omega)]
 rw [if_neg (by omega)]
 rw [if_neg (by omega)]
 rw [if_neg (by omega)]
 rw [if_neg (by omega)]
 rw [if_neg (by omega)]
 exact m_leave h C
theorem meth_is (h:TS x W T ⟨none,0,0⟩ cl mx tb []) (C:Can x W cl mx tb c a pr) (hk:0<=x.k/\x.k<=2) (hpc:OkPc x.k c.pc) :
 ∃ j F,j<19/\plc j=(x.k,c.pc,F)/\(∀ args w,(callFunc F args).run Tryz.prog w=.ok (.enter F args) w)/\∀ W',Gr W W'->Meth F x W' cl mx tb (touchR x cl tb c a pr):=by
 have e:(x.k=0/\(c.pc=0\/c.pc=1\/c.pc=2\/c.pc=3\/c.pc=4\/c.pc=5\/c.pc=6\/c.pc=7\/c.pc=8))\/(x.k=1/\(c.pc=0\/c.pc=9))\/(x.k=2/\(c.pc=0\/c.pc=10\/c.pc=11\/c.pc=12\/c.pc=13\/c.pc=14\/c.pc=15)):=by
  unfold OkPc at hpc
  omega
 rcases e with ⟨e1,e2 | e2 | e2 | e2 | e2 | e2 | e2 | e2 | e2⟩ | ⟨e1,e2 | e2⟩ | ⟨e1,e2 | e2 | e2 | e2 | e2 | e2 | e2⟩
 . refine⟨1,99,by decide,by rw [e1,e2];rfl,enters_of Tryz.func99 (by kernel_rfl) rfl,λ W' g=>?_⟩
   exact meth_1 (h.gr g) (C.gr g) e1 e2
 . refine⟨2,100,by decide,by rw [e1,e2];rfl,enters_of Tryz.func100 (by kernel_rfl) rfl,λ W' g=>?_⟩
   exact meth_2 (h.gr g) (C.gr g) e1 e2
 . refine⟨3,101,by decide,by rw [e1,e2];rfl,enters_of Tryz.func101 (by kernel_rfl) rfl,λ W' g=>?_⟩
   exact meth_3 (h.gr g) (C.gr g) e1 e2
 . refine⟨4,102,by decide,by rw [e1,e2];rfl,enters_of Tryz.func102 (by kernel_rfl) rfl,λ W' g=>?_⟩
   exact meth_4 (h.gr g) (C.gr g) e1 e2
 . refine⟨5,103,by decide,by rw [e1,e2];rfl,enters_of Tryz.func103 (by kernel_rfl) rfl,λ W' g=>?_⟩
   exact meth_5 (h.gr g) (C.gr g) e1 e2
 . refine⟨6,104,by decide,by rw [e1,e2];rfl,enters_of Tryz.func104 (by kernel_rfl) rfl,λ W' g=>?_⟩
   exact meth_6 (h.gr g) (C.gr g) e1 e2
 . refine⟨7,105,by decide,by rw [e1,e2];rfl,enters_of Tryz.func105 (by kernel_rfl) rfl,λ W' g=>?_⟩
   exact meth_7 (h.gr g) (C.gr g) e1 e2
 . refine⟨8,106,by decide,by rw [e1,e2];rfl,enters_of Tryz.func106 (by kernel_rfl) rfl,λ W' g=>?_⟩
   exact meth_8 (h.gr g) (C.gr g) e1 e2
 . refine⟨9,107,by decide,by rw [e1,e2];rfl,enters_of Tryz.func107 (by kernel_rfl) rfl,λ W' g=>?_⟩
   exact meth_9 (h.gr g) (C.gr g) e1 e2
 . refine⟨10,108,by decide,by rw [e1,e2];rfl,enters_of Tryz.func108 (by kernel_rfl) rfl,λ W' g=>?_⟩
   exact meth_10 (h.gr g) (C.gr g) e1 e2
 . refine⟨11,109,by decide,by rw [e1,e2];rfl,enters_of Tryz.func109 (by kernel_rfl) rfl,λ W' g=>?_⟩
   exact meth_11 (h.gr g) (C.gr g) e1 e2
 . refine⟨12,110,by decide,by rw [e1,e2];rfl,enters_of Tryz.func110 (by kernel_rfl) rfl,λ W' g=>?_⟩
   exact meth_12 (h.gr g) (C.gr g) e1 e2
 . refine⟨13,111,by decide,by rw [e1,e2];rfl,enters_of Tryz.func111 (by kernel_rfl) rfl,λ W' g=>?_⟩
   exact meth_13 (h.gr g) (C.gr g) e1 e2
 . refine⟨14,112,by decide,by rw [e1,e2];rfl,enters_of Tryz.func112 (by kernel_rfl) rfl,λ W' g=>?_⟩
   exact meth_14 (h.gr g) (C.gr g) e1 e2
 . refine⟨15,102,by decide,by rw [e1,e2];rfl,enters_of Tryz.func102 (by kernel_rfl) rfl,λ W' g=>?_⟩
   exact meth_15 (h.gr g) (C.gr g) e1 e2
 . refine⟨16,103,by decide,by rw [e1,e2];rfl,enters_of Tryz.func103 (by kernel_rfl) rfl,λ W' g=>?_⟩
   exact meth_16 (h.gr g) (C.gr g) e1 e2
 . refine⟨17,113,by decide,by rw [e1,e2];rfl,enters_of Tryz.func113 (by kernel_rfl) rfl,λ W' g=>?_⟩
   exact meth_17 (h.gr g) (C.gr g) e1 e2
 . refine⟨18,114,by decide,by rw [e1,e2];rfl,enters_of Tryz.func114 (by kernel_rfl) rfl,λ W' g=>?_⟩
   exact meth_18 (h.gr g) (C.gr g) e1 e2
def TryQ (x:Cx) (cl:List Cl) (mx:List T3) (tb:List Sp) (R:Res) (e:Ending) (W':World):Prop :=
 match R with
 | .bad=>e=.returned (.int .i64 12)
 | .fault=>e=.returned (.int .i64 11)
 | .ok o=>match o.rdy with
  | none=>e=.returned (.int .i64 0)/\∃ T' E' tb',TS x W' T' E' (cl.set x.who.toNat o.c) (mx.set x.n.toNat (o.m.word,o.m.nx,o.m.sv)) tb' (o.ev.map λ v=>(x.who,v,x.n)).toList/\GotT tb tb' x.n.toNat (o.m.c,o.m.l)
  | some y=>match ((cl.set x.who.toNat o.c)[y.toNat]?).bind told with
   | none=>e=.returned (.int .i64 12)
   | some d=>e=.returned (.int .i64 0)/\∃ T' E' tb',TS x W' T' E' ((cl.set x.who.toNat o.c).set y.toNat d) (mx.set x.n.toNat (o.m.word,o.m.nx,o.m.sv)) tb' (o.ev.map λ v=>(x.who,v,x.n)).toList/\GotT tb tb' x.n.toNat (o.m.c,o.m.l)
theorem ts_cells {T' E':Sl} {cl':List Cl} {mx':List T3} {tb':List Sp} {ev':List T3} {w:World} (h:TS x w T' E' cl' mx' tb' ev'):w.cell? ⟨x.b,8,none⟩=some (.int .i64 x.k)/\w.cell? ⟨x.b,7,none⟩=some (.pointer (some ⟨x.bc,x.oc+x.who.toNat*13,none⟩)):=by
 obtain⟨-,-,-,-,-,-,-,c7,c8,-,-,-⟩:=h.cells
 exact⟨c8,c7⟩
theorem try_is (h:TS x W T ⟨none,0,0⟩ cl mx tb []) (C:Can x W cl mx tb c a pr) (hk:0<=x.k/\x.k<=2) (hpc:OkPc x.k c.pc) :
 Calls Tryz.prog 42 #[.pointer (some ⟨x.b,0,none⟩)] W λ e W'=>Kx x W W'/\TryQ x cl mx tb (touchR x cl tb c a pr) e W':=by
 obtain⟨j,F,hj,he,eg,hm⟩:=meth_is h C hk hpc
 have hc:=C.R.hc
 generalize touchR x cl tb c a pr=R at hm ⊢
 cases R with
 | bad=>exact (try_no (y:=12) eg h hc hj he λ W' g=>(hm W' g).mono λ e w' q=>⟨q.2,q.1⟩).mono λ e w' q=>⟨q.2,q.1⟩
 | fault=>exact (try_no (y:=11) eg h hc hj he λ W' g=>(hm W' g).mono λ e w' q=>⟨q.2,q.1⟩).mono λ e w' q=>⟨q.2,q.1⟩
 | ok o =>
  obtain⟨oc,om,rdy,oev⟩:=o
  cases rdy with
  | none =>
   refine (try_ok (Q:=λ w=>∃ T' E' tb',TS x w T' E' (cl.set x.who.toNat oc) (mx.set x.n.toNat (om.word,om.nx,om.sv)) tb' (oev.map λ v=>(x.who,v,x.n)).toList/\GotT tb tb' x.n.toNat (om.c,om.l)) eg h hc hj he ?_ λ W' g=>(hm W' g).mono λ e w' q=>⟨q.2.1,q.1,q.2.2⟩).mono λ e w' q=>⟨q.2.1,q.1,q.2.2⟩
   rintro w ⟨T',E',tb',q,-⟩
   exact ts_cells q
  | some y =>
   cases ht:((cl.set x.who.toNat oc)[y.toNat]?).bind told with
   | none =>
    refine (try_no (y:=12) eg h hc hj he λ W' g=>(hm W' g).mono λ e w' q=>⟨?_,q.1⟩).mono λ e w' q=>⟨q.2,?_⟩
    . have q2:=q.2
      dsimp only at q2
      rw [ht] at q2
      exact q2
    . unfold TryQ
      dsimp only
      rw [ht]
      exact q.1
   | some d =>
    refine (try_ok (Q:=λ w=>∃ T' E' tb',TS x w T' E' ((cl.set x.who.toNat oc).set y.toNat d) (mx.set x.n.toNat (om.word,om.nx,om.sv)) tb' (oev.map λ v=>(x.who,v,x.n)).toList/\GotT tb tb' x.n.toNat (om.c,om.l)) eg h hc hj he ?_ λ W' g=>(hm W' g).mono λ e w' q=>?_).mono λ e w' q=>⟨q.2.1,?_⟩
    . rintro w ⟨T',E',tb',q,-⟩
      exact ts_cells q
    . have q2:=q.2
      dsimp only at q2
      rw [ht] at q2
      exact⟨q2.1,q.1,q2.2⟩
    . unfold TryQ
      dsimp only
      rw [ht]
      exact⟨q.1,q.2.2⟩
theorem try_work (h:TS x W T ⟨none,0,0⟩ cl mx tb []) (hR:Rn x cl c pr) (hk:x.k=3) (hpc:c.pc=0) (hw:c.worked=0\/(0<c.worked/\c.worked<x.n)) (hn0:0<=x.n) (hn:x.n<=1000) :
 Calls Tryz.prog 42 #[.pointer (some ⟨x.b,0,none⟩)] W λ e W'=>Kx x W W'/\e=.returned (.int .i64 0)/\TS x W' T ⟨none,0,0⟩ (cl.set x.who.toNat (work x.n pr.length c)) mx tb []:=by
 refine (try_ok (F:=98) (k:=0) (Q:=λ w=>TS x w T ⟨none,0,0⟩ (cl.set x.who.toNat (work x.n pr.length c)) mx tb []) (enters_of Tryz.func98 (by kernel_rfl) rfl) h hR.hc (by decide) (by rw [hk,hpc];rfl) (λ w q=>ts_cells q) λ W' g=>(work_is (h.gr g) hR hw hn0 hn).mono λ e w' q=>⟨q.1,q.2.2,q.2.1⟩).mono λ e w' q=>⟨q.2.1,q.1,q.2.2⟩
end
end P16
end
section
open Go.ChangeShapes Go.WideShapes Go.ChangeAt Go.RowKit Go.Shelf
namespace P16
theorem run_eql_slice_nil {P:Program} (t e:TypeId) (a:Option Addr) (l c:Nat) (h:P.underlying t=some (.slice e)) (w:World):(binOp .eql t (.slice a l c) (.slice none 0 0)).run P w=.ok (.bool a.isNone) w:=by
 simp [binOp,run_equal_slice_nil w t e a l c h]
theorem own_form {w:World} {base q n:Nat} {e:TypeId} {v:Value} {xs:List Value} (h:w.ownsRow base e q v n xs):∃ A c,v=.slice A n c:=by
 rcases h.2 with ⟨rfl,rfl⟩ | ⟨g,cap,cur,rfl,_⟩
 . exact⟨none,0,rfl⟩
 . exact⟨_,cap,rfl⟩
theorem own_nil {W:World} {e:TypeId} {q:Nat}:(W.alloc (.cells #[] e)).ownsRow W.heap.size e q (.slice (some ⟨W.heap.size,0,none⟩) 0 0) 0 [] :=
 ⟨by simp,.inr ⟨W.heap.size,0,#[],rfl,Nat.le_refl _,heap_alloc_new W _,Nat.le_refl _,Nat.zero_le _,by simp,by simp⟩⟩
theorem src_al {W:World} {ad:Addr} {news:List Value} (h:∀ j u,news[j]?=some u->W.cell? (ad.add j)=some u) (o:Obj):∀ j u,news[j]?=some u->(W.alloc o).cell? (ad.add j)=some u:=by
 intro j u hu
 have h1:=h j u hu
 exact (((Gr.refl W).al o).cell (World.block_lt_of_cell? W _ (by rw [h1]))).trans h1
theorem infoProgs:(Tryz.prog.info? 64).map (λ i=>(i.zero,i.size,i.bytes))=some (some (.slice none 0 0),1,24):=by kernel_rfl
theorem cloneProgs {W:World} {A:Option Addr} {n c:Nat} {news:List Value} (h0:A=none->n=0) (hl:news.length=n*1) (hs:∀ ad,A=some ad->∀ j u,news[j]?=some u->W.cell? (ad.add j)=some u) (h1:∀ u∈news,u.oneCell'=true) (hn:n<=1000000) :
 Calls Tryz.prog 57 #[.slice A n c] W λ e w'=>∃ A' c',e=.returned (.slice A' n c')/\w'.ownsRow W.heap.size 64 1 (.slice A' n c') n news/\Gr W w':=by
 rcases A with _ | ad
 . obtain rfl:=h0 rfl
   have hnews:news=[]:=List.eq_nil_of_length_eq_zero (by omega)
   subst hnews
   clear hl hs h1
   have hq:=run_eql_slice_nil 22 64 none 0 c Tryz.underlying22
   go_enter Tryz.func57,Tryz.ntmps57
   go_wp2_with fail
   go_ret
   exact⟨none,0,rfl,⟨by simp,.inl ⟨rfl,rfl⟩⟩,Gr.refl _⟩
 . obtain⟨i,hi,hz,hsz,hb⟩:=P12.info_parts infoProgs
   have HI:=hid hi
   have HZ:=hid hz
   have HS:=hid hsz
   have HB:=hid hb
   have src:=hid (src_al (hs ad rfl) (.cells #[] 64))
   have HL:=hid hl
   have H1:=hid h1
   clear hi hz hsz hb hs h0 hl h1
   have hq:=run_eql_slice_nil 22 64 (some ad) n c Tryz.underlying22
   go_enter Tryz.func57,Tryz.ntmps57
   go_wp2_with (at_builtin;refine Mark.stop ?_)
   refine Mark.go ?_
   refine wpList_append_own_at _ rfl (.tmp 5) (.tmp 6) 22 rfl W.heap.size 64 i (.slice none 0 0) 1 24 Tryz.underlying22 HI.out HZ.out HS.out HB.out rfl (by decide) (.slice (some ⟨W.heap.size,0,none⟩) 0 0) 0 [] rfl own_nil ad n c news rfl HL.out src.out H1.out (by unfold maxLen;omega) (by omega) (by rw [World.size_alloc];omega) ?_
   intro v' w' hv hg _ _
   have G1:=hid (((Gr.refl W).al (.cells #[] 64)).gb hg (λ k hk=>by have hk:some W.heap.size=some k:=hk;injection hk with hk;omega))
   rw [Nat.zero_add,List.nil_append] at hv
   obtain⟨A',c',rfl⟩:=own_form hv
   have HV:=hid hv
   clear hv hg
   go_wp2_with fail
   go_ret
   exact⟨A',c',rfl,HV.out,G1.out⟩
theorem infoActs:(Tryz.prog.info? 67).map (λ i=>(i.zero,i.size,i.bytes))=some (some (.agg #[.int .i64 0,.int .i64 0]),2,16):=by kernel_rfl
theorem cloneActs {W:World} {A:Option Addr} {n c:Nat} {news:List Value} (h0:A=none->n=0) (hl:news.length=n*2) (hs:∀ ad,A=some ad->∀ j u,news[j]?=some u->W.cell? (ad.add j)=some u) (h1:∀ u∈news,u.oneCell'=true) (hn:n<=1000000) :
 Calls Tryz.prog 58 #[.slice A n c] W λ e w'=>∃ A' c',e=.returned (.slice A' n c')/\w'.ownsRow W.heap.size 67 2 (.slice A' n c') n news/\Gr W w':=by
 rcases A with _ | ad
 . obtain rfl:=h0 rfl
   have hnews:news=[]:=List.eq_nil_of_length_eq_zero (by omega)
   subst hnews
   clear hl hs h1
   have hq:=run_eql_slice_nil 64 67 none 0 c Tryz.underlying64
   go_enter Tryz.func58,Tryz.ntmps58
   go_wp2_with fail
   go_ret
   exact⟨none,0,rfl,⟨by simp,.inl ⟨rfl,rfl⟩⟩,Gr.refl _⟩
 . obtain⟨i,hi,hz,hsz,hb⟩:=P12.info_parts infoActs
   have HI:=hid hi
   have HZ:=hid hz
   have HS:=hid hsz
   have HB:=hid hb
   have src:=hid (src_al (hs ad rfl) (.cells #[] 67))
   have HL:=hid hl
   have H1:=hid h1
   clear hi hz hsz hb hs h0 hl h1
   have hq:=run_eql_slice_nil 64 67 (some ad) n c Tryz.underlying64
   go_enter Tryz.func58,Tryz.ntmps58
   go_wp2_with (at_builtin;refine Mark.stop ?_)
   refine Mark.go ?_
   refine wpList_append_own_at _ rfl (.tmp 5) (.tmp 6) 64 rfl W.heap.size 67 i (.agg #[.int .i64 0,.int .i64 0]) 2 16 Tryz.underlying64 HI.out HZ.out HS.out HB.out rfl (by decide) (.slice (some ⟨W.heap.size,0,none⟩) 0 0) 0 [] rfl own_nil ad n c news rfl HL.out src.out H1.out (by unfold maxLen;omega) (by omega) (by rw [World.size_alloc];omega) ?_
   intro v' w' hv hg _ _
   have G1:=hid (((Gr.refl W).al (.cells #[] 67)).gb hg (λ k hk=>by have hk:some W.heap.size=some k:=hk;injection hk with hk;omega))
   rw [Nat.zero_add,List.nil_append] at hv
   obtain⟨A',c',rfl⟩:=own_form hv
   have HV:=hid hv
   clear hv hg
   go_wp2_with fail
   go_ret
   exact⟨A',c',rfl,HV.out,G1.out⟩
theorem infoClients:(Tryz.prog.info? 55).map (λ i=>(i.zero,i.size,i.bytes))=some (some (.agg #[.int .i64 0,.bool false,.int .i64 0,.int .i64 0,.int .i64 0,.int .i64 0,.bool false,.bool false,.int .i64 0,.bool false,.bool false,.int .i64 0,.int .i64 0]),13,88):=by kernel_rfl
theorem cloneClients {W:World} {A:Option Addr} {n c:Nat} {news:List Value} (h0:A=none->n=0) (hl:news.length=n*13) (hs:∀ ad,A=some ad->∀ j u,news[j]?=some u->W.cell? (ad.add j)=some u) (h1:∀ u∈news,u.oneCell'=true) (hn:n<=1000000) :
 Calls Tryz.prog 59 #[.slice A n c] W λ e w'=>∃ A' c',e=.returned (.slice A' n c')/\w'.ownsRow W.heap.size 55 13 (.slice A' n c') n news/\Gr W w':=by
 rcases A with _ | ad
 . obtain rfl:=h0 rfl
   have hnews:news=[]:=List.eq_nil_of_length_eq_zero (by omega)
   subst hnews
   clear hl hs h1
   have hq:=run_eql_slice_nil 24 55 none 0 c Tryz.underlying24
   go_enter Tryz.func59,Tryz.ntmps59
   go_wp2_with fail
   go_ret
   exact⟨none,0,rfl,⟨by simp,.inl ⟨rfl,rfl⟩⟩,Gr.refl _⟩
 . obtain⟨i,hi,hz,hsz,hb⟩:=P12.info_parts infoClients
   have HI:=hid hi
   have HZ:=hid hz
   have HS:=hid hsz
   have HB:=hid hb
   have src:=hid (src_al (hs ad rfl) (.cells #[] 55))
   have HL:=hid hl
   have H1:=hid h1
   clear hi hz hsz hb hs h0 hl h1
   have hq:=run_eql_slice_nil 24 55 (some ad) n c Tryz.underlying24
   go_enter Tryz.func59,Tryz.ntmps59
   go_wp2_with (at_builtin;refine Mark.stop ?_)
   refine Mark.go ?_
   refine wpList_append_own_at _ rfl (.tmp 5) (.tmp 6) 24 rfl W.heap.size 55 i (.agg #[.int .i64 0,.bool false,.int .i64 0,.int .i64 0,.int .i64 0,.int .i64 0,.bool false,.bool false,.int .i64 0,.bool false,.bool false,.int .i64 0,.int .i64 0]) 13 88 Tryz.underlying24 HI.out HZ.out HS.out HB.out rfl (by decide) (.slice (some ⟨W.heap.size,0,none⟩) 0 0) 0 [] rfl own_nil ad n c news rfl HL.out src.out H1.out (by unfold maxLen;omega) (by omega) (by rw [World.size_alloc];omega) ?_
   intro v' w' hv hg _ _
   have G1:=hid (((Gr.refl W).al (.cells #[] 55)).gb hg (λ k hk=>by have hk:some W.heap.size=some k:=hk;injection hk with hk;omega))
   rw [Nat.zero_add,List.nil_append] at hv
   obtain⟨A',c',rfl⟩:=own_form hv
   have HV:=hid hv
   clear hv hg
   go_wp2_with fail
   go_ret
   exact⟨A',c',rfl,HV.out,G1.out⟩
theorem infoMutexes:(Tryz.prog.info? 48).map (λ i=>(i.zero,i.size,i.bytes))=some (some (.agg #[.int .i64 0,.int .i64 0,.int .i64 0]),3,24):=by kernel_rfl
theorem cloneMutexes {W:World} {A:Option Addr} {n c:Nat} {news:List Value} (h0:A=none->n=0) (hl:news.length=n*3) (hs:∀ ad,A=some ad->∀ j u,news[j]?=some u->W.cell? (ad.add j)=some u) (h1:∀ u∈news,u.oneCell'=true) (hn:n<=1000000) :
 Calls Tryz.prog 60 #[.slice A n c] W λ e w'=>∃ A' c',e=.returned (.slice A' n c')/\w'.ownsRow W.heap.size 48 3 (.slice A' n c') n news/\Gr W w':=by
 rcases A with _ | ad
 . obtain rfl:=h0 rfl
   have hnews:news=[]:=List.eq_nil_of_length_eq_zero (by omega)
   subst hnews
   clear hl hs h1
   have hq:=run_eql_slice_nil 25 48 none 0 c Tryz.underlying25
   go_enter Tryz.func60,Tryz.ntmps60
   go_wp2_with fail
   go_ret
   exact⟨none,0,rfl,⟨by simp,.inl ⟨rfl,rfl⟩⟩,Gr.refl _⟩
 . obtain⟨i,hi,hz,hsz,hb⟩:=P12.info_parts infoMutexes
   have HI:=hid hi
   have HZ:=hid hz
   have HS:=hid hsz
   have HB:=hid hb
   have src:=hid (src_al (hs ad rfl) (.cells #[] 48))
   have HL:=hid hl
   have H1:=hid h1
   clear hi hz hsz hb hs h0 hl h1
   have hq:=run_eql_slice_nil 25 48 (some ad) n c Tryz.underlying25
   go_enter Tryz.func60,Tryz.ntmps60
   go_wp2_with (at_builtin;refine Mark.stop ?_)
   refine Mark.go ?_
   refine wpList_append_own_at _ rfl (.tmp 5) (.tmp 6) 25 rfl W.heap.size 48 i (.agg #[.int .i64 0,.int .i64 0,.int .i64 0]) 3 24 Tryz.underlying25 HI.out HZ.out HS.out HB.out rfl (by decide) (.slice (some ⟨W.heap.size,0,none⟩) 0 0) 0 [] rfl own_nil ad n c news rfl HL.out src.out H1.out (by unfold maxLen;omega) (by omega) (by rw [World.size_alloc];omega) ?_
   intro v' w' hv hg _ _
   have G1:=hid (((Gr.refl W).al (.cells #[] 48)).gb hg (λ k hk=>by have hk:some W.heap.size=some k:=hk;injection hk with hk;omega))
   rw [Nat.zero_add,List.nil_append] at hv
   obtain⟨A',c',rfl⟩:=own_form hv
   have HV:=hid hv
   clear hv hg
   go_wp2_with fail
   go_ret
   exact⟨A',c',rfl,HV.out,G1.out⟩
theorem infoSpots:(Tryz.prog.info? 91).map (λ i=>(i.zero,i.size,i.bytes))=some (some (.agg #[.int .i64 0,.int .i64 0,.slice none 0 0]),3,40):=by kernel_rfl
theorem cloneSpots {W:World} {A:Option Addr} {n c:Nat} {news:List Value} (h0:A=none->n=0) (hl:news.length=n*3) (hs:∀ ad,A=some ad->∀ j u,news[j]?=some u->W.cell? (ad.add j)=some u) (h1:∀ u∈news,u.oneCell'=true) (hn:n<=1000000) :
 Calls Tryz.prog 61 #[.slice A n c] W λ e w'=>∃ A' c',e=.returned (.slice A' n c')/\w'.ownsRow W.heap.size 91 3 (.slice A' n c') n news/\Gr W w':=by
 rcases A with _ | ad
 . obtain rfl:=h0 rfl
   have hnews:news=[]:=List.eq_nil_of_length_eq_zero (by omega)
   subst hnews
   clear hl hs h1
   have hq:=run_eql_slice_nil 26 91 none 0 c Tryz.underlying26
   go_enter Tryz.func61,Tryz.ntmps61
   go_wp2_with fail
   go_ret
   exact⟨none,0,rfl,⟨by simp,.inl ⟨rfl,rfl⟩⟩,Gr.refl _⟩
 . obtain⟨i,hi,hz,hsz,hb⟩:=P12.info_parts infoSpots
   have HI:=hid hi
   have HZ:=hid hz
   have HS:=hid hsz
   have HB:=hid hb
   have src:=hid (src_al (hs ad rfl) (.cells #[] 91))
   have HL:=hid hl
   have H1:=hid h1
   clear hi hz hsz hb hs h0 hl h1
   have hq:=run_eql_slice_nil 26 91 (some ad) n c Tryz.underlying26
   go_enter Tryz.func61,Tryz.ntmps61
   go_wp2_with (at_builtin;refine Mark.stop ?_)
   refine Mark.go ?_
   refine wpList_append_own_at _ rfl (.tmp 5) (.tmp 6) 26 rfl W.heap.size 91 i (.agg #[.int .i64 0,.int .i64 0,.slice none 0 0]) 3 40 Tryz.underlying26 HI.out HZ.out HS.out HB.out rfl (by decide) (.slice (some ⟨W.heap.size,0,none⟩) 0 0) 0 [] rfl own_nil ad n c news rfl HL.out src.out H1.out (by unfold maxLen;omega) (by omega) (by rw [World.size_alloc];omega) ?_
   intro v' w' hv hg _ _
   have G1:=hid (((Gr.refl W).al (.cells #[] 91)).gb hg (λ k hk=>by have hk:some W.heap.size=some k:=hk;injection hk with hk;omega))
   rw [Nat.zero_add,List.nil_append] at hv
   obtain⟨A',c',rfl⟩:=own_form hv
   have HV:=hid hv
   clear hv hg
   go_wp2_with fail
   go_ret
   exact⟨A',c',rfl,HV.out,G1.out⟩
theorem infoInts:(Tryz.prog.info? 3).map (λ i=>(i.zero,i.size,i.bytes))=some (some (.int .i64 0),1,8):=by kernel_rfl
theorem cloneInts {W:World} {A:Option Addr} {n c:Nat} {news:List Value} (h0:A=none->n=0) (hl:news.length=n*1) (hs:∀ ad,A=some ad->∀ j u,news[j]?=some u->W.cell? (ad.add j)=some u) (h1:∀ u∈news,u.oneCell'=true) (hn:n<=1000000) :
 Calls Tryz.prog 62 #[.slice A n c] W λ e w'=>∃ A' c',e=.returned (.slice A' n c')/\w'.ownsRow W.heap.size 3 1 (.slice A' n c') n news/\Gr W w':=by
 rcases A with _ | ad
 . obtain rfl:=h0 rfl
   have hnews:news=[]:=List.eq_nil_of_length_eq_zero (by omega)
   subst hnews
   clear hl hs h1
   have hq:=run_eql_slice_nil 23 3 none 0 c Tryz.underlying23
   go_enter Tryz.func62,Tryz.ntmps62
   go_wp2_with fail
   go_ret
   exact⟨none,0,rfl,⟨by simp,.inl ⟨rfl,rfl⟩⟩,Gr.refl _⟩
 . obtain⟨i,hi,hz,hsz,hb⟩:=P12.info_parts infoInts
   have HI:=hid hi
   have HZ:=hid hz
   have HS:=hid hsz
   have HB:=hid hb
   have src:=hid (src_al (hs ad rfl) (.cells #[] 3))
   have HL:=hid hl
   have H1:=hid h1
   clear hi hz hsz hb hs h0 hl h1
   have hq:=run_eql_slice_nil 23 3 (some ad) n c Tryz.underlying23
   go_enter Tryz.func62,Tryz.ntmps62
   go_wp2_with (at_builtin;refine Mark.stop ?_)
   refine Mark.go ?_
   refine wpList_append_own_at _ rfl (.tmp 5) (.tmp 6) 23 rfl W.heap.size 3 i (.int .i64 0) 1 8 Tryz.underlying23 HI.out HZ.out HS.out HB.out rfl (by decide) (.slice (some ⟨W.heap.size,0,none⟩) 0 0) 0 [] rfl own_nil ad n c news rfl HL.out src.out H1.out (by unfold maxLen;omega) (by omega) (by rw [World.size_alloc];omega) ?_
   intro v' w' hv hg _ _
   have G1:=hid (((Gr.refl W).al (.cells #[] 3)).gb hg (λ k hk=>by have hk:some W.heap.size=some k:=hk;injection hk with hk;omega))
   rw [Nat.zero_add,List.nil_append] at hv
   obtain⟨A',c',rfl⟩:=own_form hv
   have HV:=hid hv
   clear hv hg
   go_wp2_with fail
   go_ret
   exact⟨A',c',rfl,HV.out,G1.out⟩
end P16
end
section
open Go.ChangeShapes Go.WideShapes Go.ChangeAt Go.RowKit Go.Shelf
namespace P16
open P12 (PV PMem Late)
def FT (lo hi:Nat) (W W':World):Prop:=W.heap.size<=W'.heap.size/\∀ k,lo<=k->k<hi->k<W.heap.size->W'.heap[k]?=W.heap[k]?
section
variable {lo hi lo' hi' B:Nat} {W W' W'':World}
theorem FT.refl:FT lo hi W W:=⟨Nat.le_refl _,λ _ _ _ _=>rfl⟩
theorem FT.trans (h:FT lo hi W W') (k:FT lo hi W' W''):FT lo hi W W'' :=
 ⟨Nat.le_trans h.1 k.1,λ j h1 h2 h3=>(k.2 j h1 h2 (Nat.lt_of_lt_of_le h3 h.1)).trans (h.2 j h1 h2 h3)⟩
theorem FT.sub (h:FT lo hi W W') (h1:lo<=lo') (h2:hi'<=hi):FT lo' hi' W W':=⟨h.1,λ k q1 q2=>h.2 k (by omega) (by omega)⟩
theorem FT.gr (g:Gr W W'):FT lo hi W W':=⟨g.size,λ k _ _ h=>g.block k h⟩
theorem FT.st {p:Addr} (hp:p.block<lo\/hi<=p.block) (u:Value):FT lo hi W (W.setCell p u) :=
 ⟨by simp [World.setCell],λ k h1 h2 _=>Below.heap_setCell W p u k (by omega)⟩
theorem FromB.ft (h:FromB B W W') (hb:B<=lo):FT lo hi W W':=⟨h.1,λ k h1 _ h3=>h.2 k (by omega) h3⟩
end
section
variable {α:Type} {en:α->List Value} {q i j:Nat} {l:List α} {x:α} {u:Value}
theorem flat_len' (hq:∀ x,(en x).length=q):∀ l:List α,(l.flatMap en).length=l.length*q
 | []=>by simp
 | x::r=>by rw [List.flatMap_cons,List.length_append,hq,flat_len' hq r,List.length_cons];rw [Nat.add_mul];omega
theorem flat_at (hq:∀ x,(en x).length=q):∀ (l:List α) (i j:Nat) (x:α) (u:Value),l[i]?=some x->(en x)[j]?=some u->(l.flatMap en)[i*q+j]?=some u
 | [],i,j,x,u,h,_=>by simp at h
 | y::r,0,j,x,u,h,hu=>by
  simp at h
  subst h
  rw [List.flatMap_cons,Nat.zero_mul,Nat.zero_add,List.getElem?_append_left (List.getElem?_eq_some_iff.1 hu).1]
  exact hu
 | y::r,i+1,j,x,u,h,hu=>by
  rw [List.flatMap_cons,List.getElem?_append_right (by rw [hq,Nat.add_mul];omega),hq,show (i+1)*q+j-q=i*q+j from by rw [Nat.add_mul];omega]
  exact flat_at hq r i j x u (by simpa using h) hu
theorem flat_back (hq:∀ x,(en x).length=q):∀ (l:List α) (j:Nat) (u:Value),(l.flatMap en)[j]?=some u->∃ i x k,l[i]?=some x/\(en x)[k]?=some u/\j=i*q+k
 | [],j,u,h=>by simp at h
 | y::r,j,u,h=>by
  rw [List.flatMap_cons] at h
  by_cases hj:j<q
  . rw [List.getElem?_append_left (by rw [hq];exact hj)] at h
    exact⟨0,y,j,rfl,h,by omega⟩
  . rw [List.getElem?_append_right (by rw [hq];omega),hq] at h
    obtain⟨i,x,k,h1,h2,h3⟩:=flat_back hq r _ u h
    exact⟨i+1,x,k,by simpa using h1,h2,by rw [Nat.add_mul];omega⟩
theorem rmem_src {ok:α->Prop} {w:World} {A:Option Addr} {n:Nat} (hq:∀ x,(en x).length=q) (h:RMem en q ok w A n l):∀ ad,A=some ad->∀ j u,(l.flatMap en)[j]?=some u->w.cell? (ad.add j)=some u:=by
 intro ad hA j u hu
 obtain⟨i,x,k,h1,h2,rfl⟩:=flat_back hq l j u hu
 have hi:=(List.getElem?_eq_some_iff.1 h1).1
 obtain⟨b,off,e,_,hc⟩:=h.2.2 (by have:=h.1;omega)
 rw [hA] at e
 cases e
 rw [add_plain,<- Nat.add_assoc]
 exact hc i x h1 k u h2
theorem rmem_nil {ok:α->Prop} {w:World} {A:Option Addr} {n:Nat} (h:RMem en q ok w A n l) (hA:A=none):n=0:=by
 rcases Nat.eq_zero_or_pos n with h0 | h0
 . exact h0
 . obtain⟨_,_,e,_⟩:=h.2.2 h0
   rw [hA] at e
   cases e
end
section
variable {w w':World} {base q n c:Nat} {e:TypeId} {A:Option Addr} {xs:List Value}
theorem own_parts (h:w.ownsRow base e q (.slice A n c) n xs):n<=c/\c<=9223372036854775807/\Late base A/\(0<n->∃ g cur,A=some ⟨g,0,none⟩/\base<=g/\Blk w g cur e/\cur.toList.take (n*q)=xs):=by
 rcases h.2 with ⟨hv,h0⟩ | ⟨g,cap,cur,hv,hb,hg,hnc,hcm,hs,ht⟩
 . cases hv
   exact⟨by omega,by omega,Late.none,λ h=>by omega⟩
 . cases hv
   refine⟨hnc,by unfold maxLen at hcm;omega,λ k hk=>by simp at hk;omega,λ _=>⟨g,cur,rfl,hb,hg,ht⟩⟩
theorem own_blk {g:Nat} {cur:Array Value} (hb:Blk w g cur e) {k:Nat} {u:Value} (ht:cur.toList.take (n*q)=xs) (hx:xs[k]?=some u):cur[k]?=some u:=by
 rw [<- ht,List.getElem?_take] at hx
 split at hx
 . simpa using hx
 . cases hx
variable {α:Type} {en:α->List Value} {l:List α} {ok:α->Prop}
theorem own_orow (hq:∀ x,(en x).length=q) (h:w.ownsRow base e q (.slice A n c) n (l.flatMap en)) (hn:0<n):∃ g,A=some ⟨g,0,none⟩/\base<=g/\ORow en q w g 0 l:=by
 obtain⟨_,_,_,k⟩:=own_parts h
 obtain⟨g,cur,e1,e2,e3,e4⟩:=k hn
 refine⟨g,e1,e2,cur,e,e3,λ i x hi j v hj=>?_⟩
 rw [Nat.zero_add]
 exact own_blk e3 e4 (flat_at hq l i j x v hi hj)
theorem orow_rmem {b o:Nat} (h:ORow en q w b o l) (hl:l.length=n) (hb:∀ x∈l,ok x):RMem en q ok w (some ⟨b,o,none⟩) n l :=
 ⟨hl,hb,λ _=>⟨b,o,rfl,h.lt,λ i x hx j v hv=>(h.at_ hx hv).1⟩⟩
end
section
variable {w w':World} {A:Option Addr} {n:Nat}
theorem mem_keep {l:List Ac} (h:Mem w A n l) (hs:w.heap.size<=w'.heap.size) (hb:0<n->∀ k,A.map (·.block)=some k->w'.heap[k]?=w.heap[k]?):Mem w' A n l :=
 ⟨h.1,h.2.1,λ hn=>by
   obtain⟨b,off,rfl,hlt,hc⟩:=h.2.2 hn
   exact⟨b,off,rfl,by omega,λ j x hj=>(World.cell?_of_block (a:=⟨b,off+j,none⟩) (hb hn b rfl)).trans (hc j x hj)⟩⟩
theorem mem_src {l:List Ac} (h:Mem w A n l):∀ ad,A=some ad->∀ j u,(flat l)[j]?=some u->w.cell? (ad.add j)=some u:=by
 intro ad hA j u hu
 have hn:0<n:=by
  have h1:=(List.getElem?_eq_some_iff.1 hu).1
  rw [flat_len,h.1] at h1
  omega
 obtain⟨b,off,e,_,hc⟩:=h.2.2 hn
 rw [hA] at e
 cases e
 rw [add_plain]
 exact hc j u hu
theorem mem_nil {l:List Ac} (h:Mem w A n l) (hA:A=none):n=0:=by
 rcases Nat.eq_zero_or_pos n with h0 | h0
 . exact h0
 . obtain⟨_,_,e,_⟩:=h.2.2 h0
   rw [hA] at e
   cases e
theorem emem_keep {α:Type} {enc:α->Value} {ok:α->Prop} {l:List α} (h:EMem enc ok w A n l) (hs:w.heap.size<=w'.heap.size) (hb:0<n->∀ k,A.map (·.block)=some k->w'.heap[k]?=w.heap[k]?):EMem enc ok w' A n l :=
 ⟨h.1,h.2.1,λ hn=>by
   obtain⟨b,off,rfl,hlt,hc⟩:=h.2.2 hn
   exact⟨b,off,rfl,by omega,λ j x hj=>(World.cell?_of_block (a:=⟨b,off+j,none⟩) (hb hn b rfl)).trans (hc j x hj)⟩⟩
theorem emem_src {α:Type} {enc:α->Value} {ok:α->Prop} {l:List α} (h:EMem enc ok w A n l):∀ ad,A=some ad->∀ j u,(l.map enc)[j]?=some u->w.cell? (ad.add j)=some u:=by
 intro ad hA j u hu
 rw [List.getElem?_map,Option.map_eq_some_iff] at hu
 obtain⟨x,hx,rfl⟩:=hu
 have hi:=(List.getElem?_eq_some_iff.1 hx).1
 obtain⟨b,off,e,_,hc⟩:=h.2.2 (by have:=h.1;omega)
 rw [hA] at e
 cases e
 rw [add_plain]
 exact hc j x hx
theorem emem_nil {α:Type} {enc:α->Value} {ok:α->Prop} {l:List α} (h:EMem enc ok w A n l) (hA:A=none):n=0:=by
 rcases Nat.eq_zero_or_pos n with h0 | h0
 . exact h0
 . obtain⟨_,_,e,_⟩:=h.2.2 h0
   rw [hA] at e
   cases e
abbrev spV (x:SV):List Value:=[.int .i64 x.addr,.int .i64 x.cnt,.slice x.A x.n x.c]
theorem spV_len (x:SV):(spV x).length=3:=rfl
theorem smem_rmem {l:List SV} (h:SMem w A n l):RMem spV 3 (λ x=>x.ok w) w A n l :=
 ⟨h.1,h.2.1,λ hn=>by
   obtain⟨b,off,e,hb,hc⟩:=h.2.2 hn
   refine⟨b,off,e,hb,λ i x hx j v hv=>?_⟩
   obtain⟨c0,c1,c2⟩:=hc i x hx
   match j,hv with
   | 0,hv=>cases hv;exact c0
   | 1,hv=>cases hv;exact c1
   | 2,hv=>cases hv;exact c2⟩
theorem flat_one_of {α:Type} {en:α->List Value} (h:∀ x,∀ u∈en x,u.oneCell'=true) (l:List α):∀ u∈l.flatMap en,u.oneCell'=true:=by
 intro u hu
 obtain⟨x,_,h1⟩:=List.mem_flatMap.1 hu
 exact h x u h1
end
end P16
end
end Go.Proofs.YtainfijdhcehlaaGreatDoor
