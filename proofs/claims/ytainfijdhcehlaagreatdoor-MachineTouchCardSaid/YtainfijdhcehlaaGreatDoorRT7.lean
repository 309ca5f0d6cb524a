/-
  MachineTouch: for every world and any two ints, a step leaves the programs, the time, the count of clients and of mutexes as they are, changes one mutex at most, and of it the word or the tickets alone, and of one client more at most whether it goes on; a tick changes the time alone; at a world that may not be both are refused: the law answers true, as long as the array give.states holds what the program's text lays there (the card's listed variable, tied).
-/
import Derived.Test.YtainfijdhcehlaaGreatDoorRT6
import Derived.Deep.DeepCutAuto
import Derived.Test.YtainfijdhcehlaaGreatDoorCards
import Derived.Test.YtainfijdhcehlaaGreatDoorTie
set_option linter.unusedVariables false
set_option linter.unusedSimpArgs false
set_option maxRecDepth 100000
set_option maxHeartbeats 8000000
namespace Go.Proofs.YtainfijdhcehlaaGreatDoor
open Lib (hid)
section
open Go.ChangeShapes Go.WideShapes Go.ChangeAt Go.RowKit
namespace P16
open P12 (PV PMem)
section
variable {w:World} {r:WR} {ω:Wv} {who d:Int}
theorem touch_bad (hM:Mach) (hg:P15.Glob w) (h:WIs w r ω) (hw:B64 who) (hd:B64 d) (hbad:¬ RightW (cutW ω)) :
 Calls Tryz.prog 6 #[r.v,.int .i64 who,.int .i64 d] w λ e w'=>e=.returned (.bool true)/\Gr w w':=by
 have hK0:w.heap.size<(w.alloc (.cells r.a 29)).heap.size:=by rw [World.size_alloc];omega
 have cC:=hid (cut_is (w:=w.alloc (.cells r.a 29)) h ((Gr.refl w).al _))
 have B0:=Blk.new w r.a 29
 have HB0:=hid B0
 clear B0
 go_enter Tryz.func6,Tryz.ntmps6
 go_wp2_with fail
 with_reducible refine cC.out.mono ?_
 rintro e w1 ⟨⟨s,rfl,hW⟩,g1⟩
 obtain⟨now,⟨A1,n1,c1⟩,⟨A2,n2,c2⟩,⟨A3,n3,c3⟩,⟨A4,n4,c4⟩,stop⟩:=s
 have B1:=HB0.out.gr g1
 have G1:=((Gr.refl w).al (.cells r.a 29)).trans g1
 have lt1:=B1.lt
 obtain⟨a0,az0⟩:=B1.at_ (k:=0) (v:=.int .i64 r.now) rfl
 obtain⟨a1,az1⟩:=B1.at_ (k:=1) (v:=.slice r.p.A r.p.n r.p.c) rfl
 obtain⟨a2,az2⟩:=B1.at_ (k:=2) (v:=.slice r.c.A r.c.n r.c.c) rfl
 obtain⟨a3,az3⟩:=B1.at_ (k:=3) (v:=.slice r.m.A r.m.n r.m.c) rfl
 obtain⟨a4,az4⟩:=B1.at_ (k:=4) (v:=.slice r.t.A r.t.n r.t.c) rfl
 obtain⟨a5,az5⟩:=B1.at_ (k:=5) (v:=.int .i64 r.stop) rfl
 have B2:=put6_blk B1 rfl (.int .i64 now) (.slice A1 n1 c1) (.slice A2 n2 c2) (.slice A3 n3 c3) (.slice A4 n4 c4) (.int .i64 stop)
 have G2:=hid (put6_gr (x0:=.int .i64 now) (x1:=.slice A1 n1 c1) (x2:=.slice A2 n2 c2) (x3:=.slice A3 n3 c3) (x4:=.slice A4 n4 c4) (x5:=.int .i64 stop) (b:=w.heap.size) G1 (Nat.le_refl _))
 have W2:=hid (hW.to (FromB.put6 (b:=w.heap.size) hK0 (.int .i64 now) (.slice A1 n1 c1) (.slice A2 n2 c2) (.slice A3 n3 c3) (.slice A4 n4 c4) (.int .i64 stop)))
 clear hW g1 cC B1 G1 HB0
 go_upto_region 2 with fail
 clear a0 az0 a1 az1 a2 az2 a3 az3 a4 az4 a5 az5
 generalize (((((w1.setCell ⟨w.heap.size,0,none⟩ (.int .i64 now)).setCell ⟨w.heap.size,1,none⟩ (.slice A1 n1 c1)).setCell ⟨w.heap.size,2,none⟩ (.slice A2 n2 c2)).setCell ⟨w.heap.size,3,none⟩ (.slice A3 n3 c3)).setCell ⟨w.heap.size,4,none⟩ (.slice A4 n4 c4)).setCell ⟨w.heap.size,5,none⟩ (.int .i64 stop)=V1 at B2 G2 W2 ⊢
 have lt2:=B2.lt
 clear lt1
 obtain⟨b0,bz0⟩:=B2.at_ (k:=0) (v:=.int .i64 now) rfl
 obtain⟨b1,bz1⟩:=B2.at_ (k:=1) (v:=.slice A1 n1 c1) rfl
 obtain⟨b2,bz2⟩:=B2.at_ (k:=2) (v:=.slice A2 n2 c2) rfl
 obtain⟨b3,bz3⟩:=B2.at_ (k:=3) (v:=.slice A3 n3 c3) rfl
 obtain⟨b4,bz4⟩:=B2.at_ (k:=4) (v:=.slice A4 n4 c4) rfl
 obtain⟨b5,bz5⟩:=B2.at_ (k:=5) (v:=.int .i64 stop) rfl
 have WI:=hid (W2.out.is G2.out)
 have cS:=hid (hM.step V1 _ _ who (hg.gr G2.out) WI.out hw)
 go_wp2_with fail
 with_reducible refine cS.out.mono ?_
 rintro e w2 ⟨⟨s,ψ,A,n,c,ev,x,rfl,hS,hW,hE,hnc,hcm⟩,g3⟩
 obtain⟨nowN,⟨A1N,n1N,c1N⟩,⟨A2N,n2N,c2N⟩,⟨A3N,n3N,c3N⟩,⟨A4N,n4N,c4N⟩,stopN⟩:=s
 have BN:=Blk.new w2 #[.int .i64 nowN,.slice A1N n1N c1N,.slice A2N n2N c2N,.slice A3N n3N c3N,.slice A4N n4N c4N,.int .i64 stopN] 29
 have B3:=(B2.gr g3).al (.cells #[.int .i64 nowN,.slice A1N n1N c1N,.slice A2N n2N c2N,.slice A3N n3N c3N,.slice A4N n4N c4N,.int .i64 stopN] 29)
 have G3:=hid ((G2.out.trans g3).al (.cells #[.int .i64 nowN,.slice A1N n1N c1N,.slice A2N n2N c2N,.slice A3N n3N c3N,.slice A4N n4N c4N,.int .i64 stopN] 29))
 have W3:=hid ((W2.out.gr g3).gr ((Gr.refl w2).al (.cells #[.int .i64 nowN,.slice A1N n1N c1N,.slice A2N n2N c2N,.slice A3N n3N c3N,.slice A4N n4N c4N,.int .i64 stopN] 29)))
 have N3:=hid (hW.gr ((Gr.refl w2).al (.cells #[.int .i64 nowN,.slice A1N n1N c1N,.slice A2N n2N c2N,.slice A3N n3N c3N,.slice A4N n4N c4N,.int .i64 stopN] 29)))
 have E3:=hid (hE.gr ((Gr.refl w2).al (.cells #[.int .i64 nowN,.slice A1N n1N c1N,.slice A2N n2N c2N,.slice A3N n3N c3N,.slice A4N n4N c4N,.int .i64 stopN] 29)))
 have KN:=g3.size
 clear hW hE g3 cS B2 G2 W2 WI
 go_upto_region 3 with fail
 clear b0 bz0 b1 bz1 b2 bz2 b3 bz3 b4 bz4 b5 bz5
 generalize w2.alloc (.cells #[.int .i64 nowN,.slice A1N n1N c1N,.slice A2N n2N c2N,.slice A3N n3N c3N,.slice A4N n4N c4N,.int .i64 stopN] 29)=V2 at BN B3 G3 W3 N3 E3 ⊢
 generalize w2.heap.size=gn at BN KN ⊢
 clear lt2
 have lt3:=B3.lt
 have ltn:=BN.lt
 obtain⟨m0,mz0⟩:=B3.at_ (k:=0) (v:=.int .i64 now) rfl
 obtain⟨m1,mz1⟩:=B3.at_ (k:=1) (v:=.slice A1 n1 c1) rfl
 obtain⟨m2,mz2⟩:=B3.at_ (k:=2) (v:=.slice A2 n2 c2) rfl
 obtain⟨m3,mz3⟩:=B3.at_ (k:=3) (v:=.slice A3 n3 c3) rfl
 obtain⟨m4,mz4⟩:=B3.at_ (k:=4) (v:=.slice A4 n4 c4) rfl
 obtain⟨m5,mz5⟩:=B3.at_ (k:=5) (v:=.int .i64 stop) rfl
 have WI:=hid (W3.out.is G3.out)
 have cT:=hid (hM.tick V2 _ _ d (hg.gr G3.out) WI.out hd)
 go_wp2_with fail
 with_reducible refine cT.out.mono ?_
 rintro e w3 ⟨⟨s,τ,y,rfl,hTk,hWt⟩,g4⟩
 obtain⟨nowT,⟨A1T,n1T,c1T⟩,⟨A2T,n2T,c2T⟩,⟨A3T,n3T,c3T⟩,⟨A4T,n4T,c4T⟩,stopT⟩:=s
 have BT:=Blk.new w3 #[.int .i64 nowT,.slice A1T n1T c1T,.slice A2T n2T c2T,.slice A3T n3T c3T,.slice A4T n4T c4T,.int .i64 stopT] 29
 have HA4:=hid (g4.al (.cells #[.int .i64 nowT,.slice A1T n1T c1T,.slice A2T n2T c2T,.slice A3T n3T c3T,.slice A4T n4T c4T,.int .i64 stopT] 29))
 have HT4:=hid ((Gr.refl w3).al (.cells #[.int .i64 nowT,.slice A1T n1T c1T,.slice A2T n2T c2T,.slice A3T n3T c3T,.slice A4T n4T c4T,.int .i64 stopT] 29))
 have TW:=hid hWt
 have KT:=g4.size
 clear hWt g4 cT WI
 go_upto_region 4 with fail
 clear m0 mz0 m1 mz1 m2 mz2 m3 mz3 m4 mz4 m5 mz5
 generalize w3.alloc (.cells #[.int .i64 nowT,.slice A1T n1T c1T,.slice A2T n2T c2T,.slice A3T n3T c3T,.slice A4T n4T c4T,.int .i64 stopT] 29)=V3 at BT HA4 HT4 ⊢
 obtain⟨gt,hgt⟩:∃ g,w3.heap.size=g:=⟨_,rfl⟩
 rw [hgt] at BT KT ⊢
 have HGT:=hid hgt
 clear hgt
 have B4:=B3.gr HA4.out
 have N4:=BN.gr HA4.out
 obtain⟨rfl,rfl,rfl⟩:ψ=zeroW/\ev=[]/\x=1:=by
  rcases hS with ⟨_,q⟩ | ⟨q,_⟩ | ⟨q,_⟩
  . exact q
  . exact absurd q hbad
  . exact absurd q hbad
 obtain rfl:y=1:=by
  rcases hTk with ⟨_,_,q⟩ | ⟨q,_⟩ | ⟨q,_⟩ | ⟨q,_⟩
  . exact q
  . exact absurd q hbad
  . exact absurd q hbad
  . exact absurd q hbad
 obtain rfl:n=0:=(E3.out.is).len.symm
 have cA:=hid (alive_is (w:=V3) hM (hg.gr (G3.out.trans HA4.out)))
 go_wp2_with fail
 with_reducible refine cA.out.mono ?_
 rintro e w9 ⟨rfl,g9⟩
 go_wp2_with fail
 go_ret
 exact⟨rfl,(G3.out.trans HA4.out).trans g9⟩
theorem run_ticket_same (x y:Int) (w:World):(binOp .neq 46 (.agg #[.int .i64 x,.int .i64 y]) (.agg #[.int .i64 x,.int .i64 y])).run Tryz.prog w=.ok (.bool false) w:=by
 go_simp
theorem WIs.at_now {W:World} {s:WR} {τ:Wv} (h:WIs W s τ) {t:Int} (ht:B64 t):WIs W { s with now:=t } { τ with now:=t }:=⟨rfl,h.stop,ht,h.bs,h.p,h.c,h.m,h.t,h.op,h.oc,h.om,h.ot⟩
structure TouchF (ω ψ:Wv) (who:Int) (ev:List T3):Prop where
 pr:ψ.progs=ω.progs
 now:ψ.now=ω.now
 cl:ψ.cl.length=ω.cl.length
 m4:ψ.mx.length=4
 ev:ev.length<=1
 mx:∃ j:Nat,∀ i x y,ω.mx[i]?=some x->ψ.mx[i]?=some y->(i≠j->y=x)/\(y.1=x.1\/y.2=x.2)
 cs:∃ j:Nat,∀ (i:Nat) c d,ω.cl[i]?=some c->ψ.cl[i]?=some d->(i:Int)≠who->(i≠j->d=c)/\d={ c with gst:=d.gst,permit:=d.permit }
theorem touch_facts {ψ:Wv} {ev:List T3} {x:Int} (hr:RightW ω) (hS:StepM ω who ψ ev x):x=0/\TouchF ω ψ who ev:=by
 rcases hS with ⟨q,_⟩ | ⟨_,_,rfl,rfl,rfl⟩ | ⟨_,hs,h4,ht,hm,he,rfl⟩
 . exact absurd hr q
 . refine⟨rfl,rfl,rfl,rfl,hr.m4,Nat.zero_le _,⟨0,λ i x y h1 h2=>?_⟩,⟨0,λ i c d h1 h2 _=>?_⟩⟩
   . rw [h1] at h2;cases h2;exact⟨λ _=>rfl,.inl rfl⟩
   . rw [h1] at h2;cases h2;exact⟨λ _=>rfl,rfl⟩
 . have hw:0<=who:=Classical.byContradiction λ q=>hs (.inr (.inl (by omega)))
   have hT:=stp_touched (mw ω) who.toNat
   rw [<- hm] at hT
   obtain⟨n,hn1,hn2⟩:=hT.cm
   obtain⟨y,hy1,hy2⟩:=hT.cl
   refine⟨rfl,hT.progs,hT.now,hT.len,h4,by rw [he];cases (stp (mw ω) who.toNat).2<;>simp,⟨n,λ i a b h1 h2=>?_⟩,⟨y,λ i c d h1 h2 hi=>?_⟩⟩
   . have e1:=mxAt_get h1
     have e2:=mxAt_get h2
     by_cases hin:i=n
     . subst hin
       refine⟨λ q=>absurd rfl q,?_⟩
       rcases hn2 with q | ⟨q1,q2⟩
       . have q:(mxAt ψ.mx i).1=(mxAt ω.mx i).1:=q
         rw [e1,e2] at q
         exact .inl q
       . have q1:(mxAt ψ.mx i).2.1=(mxAt ω.mx i).2.1:=q1
         have q2:(mxAt ψ.mx i).2.2=(mxAt ω.mx i).2.2:=q2
         rw [e1,e2] at q1 q2
         exact .inr (Prod.ext q1 q2)
     . have q:=hn1 i hin
       have q1:(mxAt ψ.mx i).1=(mxAt ω.mx i).1:=congrArg Cm.word q
       have q2:(mxAt ψ.mx i).2.1=(mxAt ω.mx i).2.1:=congrArg Cm.nx q
       have q3:(mxAt ψ.mx i).2.2=(mxAt ω.mx i).2.2:=congrArg Cm.sv q
       rw [e1,e2] at q1 q2 q3
       have e:b=a:=Prod.ext q1 (Prod.ext q2 q3)
       exact⟨λ _=>e,.inl q1⟩
   . have hi':i≠who.toNat:=by omega
     have h1':(mw ω).cl[i]?=some c:=h1
     have h2':(mw ψ).cl[i]?=some d:=h2
     by_cases hiy:i=y
     . subst hiy
       exact⟨λ q=>absurd rfl q,hy2 hi' c d h1' h2'⟩
     . have e:=hy1 i hi' hiy
       rw [h1',h2'] at e
       cases e
       exact⟨λ _=>rfl,rfl⟩
theorem tick_facts {τ:Wv} {y:Int} (hr:RightW ω) (hT:TickM ω d τ y):y=0->{ τ with now:=ω.now }=ω:=by
 intro hy
 rcases hT with ⟨_,_,q⟩ | ⟨_,_,_,rfl,_⟩ | ⟨_,_,_,_,rfl,_⟩ | ⟨_,_,_,_,_,q⟩
 . omega
 . rfl
 . rfl
 . omega
theorem touch_go (hM:Mach) (hg:P15.Glob w) (h:WIs w r ω) (hw:B64 who) (hd:B64 d) (hright:RightW (cutW ω)) :
 Calls Tryz.prog 6 #[r.v,.int .i64 who,.int .i64 d] w λ e w'=>e=.returned (.bool true)/\Gr w w':=by
 have hK0:w.heap.size<(w.alloc (.cells r.a 29)).heap.size:=by rw [World.size_alloc];omega
 have cC:=hid (cut_is (w:=w.alloc (.cells r.a 29)) h ((Gr.refl w).al _))
 have B0:=Blk.new w r.a 29
 have HB0:=hid B0
 clear B0
 go_enter Tryz.func6,Tryz.ntmps6
 go_wp2_with fail
 with_reducible refine cC.out.mono ?_
 rintro e w1 ⟨⟨s,rfl,hW⟩,g1⟩
 obtain⟨now,⟨A1,n1,c1⟩,⟨A2,n2,c2⟩,⟨A3,n3,c3⟩,⟨A4,n4,c4⟩,stop⟩:=s
 have B1:=HB0.out.gr g1
 have G1:=((Gr.refl w).al (.cells r.a 29)).trans g1
 have lt1:=B1.lt
 obtain⟨a0,az0⟩:=B1.at_ (k:=0) (v:=.int .i64 r.now) rfl
 obtain⟨a1,az1⟩:=B1.at_ (k:=1) (v:=.slice r.p.A r.p.n r.p.c) rfl
 obtain⟨a2,az2⟩:=B1.at_ (k:=2) (v:=.slice r.c.A r.c.n r.c.c) rfl
 obtain⟨a3,az3⟩:=B1.at_ (k:=3) (v:=.slice r.m.A r.m.n r.m.c) rfl
 obtain⟨a4,az4⟩:=B1.at_ (k:=4) (v:=.slice r.t.A r.t.n r.t.c) rfl
 obtain⟨a5,az5⟩:=B1.at_ (k:=5) (v:=.int .i64 r.stop) rfl
 have B2:=put6_blk B1 rfl (.int .i64 now) (.slice A1 n1 c1) (.slice A2 n2 c2) (.slice A3 n3 c3) (.slice A4 n4 c4) (.int .i64 stop)
 have G2:=hid (put6_gr (x0:=.int .i64 now) (x1:=.slice A1 n1 c1) (x2:=.slice A2 n2 c2) (x3:=.slice A3 n3 c3) (x4:=.slice A4 n4 c4) (x5:=.int .i64 stop) (b:=w.heap.size) G1 (Nat.le_refl _))
 have W2:=hid (hW.to (FromB.put6 (b:=w.heap.size) hK0 (.int .i64 now) (.slice A1 n1 c1) (.slice A2 n2 c2) (.slice A3 n3 c3) (.slice A4 n4 c4) (.int .i64 stop)))
 clear hW g1 cC B1 G1 HB0
 go_upto_region 2 with fail
 clear a0 az0 a1 az1 a2 az2 a3 az3 a4 az4 a5 az5
 generalize (((((w1.setCell ⟨w.heap.size,0,none⟩ (.int .i64 now)).setCell ⟨w.heap.size,1,none⟩ (.slice A1 n1 c1)).setCell ⟨w.heap.size,2,none⟩ (.slice A2 n2 c2)).setCell ⟨w.heap.size,3,none⟩ (.slice A3 n3 c3)).setCell ⟨w.heap.size,4,none⟩ (.slice A4 n4 c4)).setCell ⟨w.heap.size,5,none⟩ (.int .i64 stop)=V1 at B2 G2 W2 ⊢
 have lt2:=B2.lt
 clear lt1
 obtain⟨b0,bz0⟩:=B2.at_ (k:=0) (v:=.int .i64 now) rfl
 obtain⟨b1,bz1⟩:=B2.at_ (k:=1) (v:=.slice A1 n1 c1) rfl
 obtain⟨b2,bz2⟩:=B2.at_ (k:=2) (v:=.slice A2 n2 c2) rfl
 obtain⟨b3,bz3⟩:=B2.at_ (k:=3) (v:=.slice A3 n3 c3) rfl
 obtain⟨b4,bz4⟩:=B2.at_ (k:=4) (v:=.slice A4 n4 c4) rfl
 obtain⟨b5,bz5⟩:=B2.at_ (k:=5) (v:=.int .i64 stop) rfl
 have WI:=hid (W2.out.is G2.out)
 have cS:=hid (hM.step V1 _ _ who (hg.gr G2.out) WI.out hw)
 go_wp2_with fail
 with_reducible refine cS.out.mono ?_
 rintro e w2 ⟨⟨s,ψ,A,n,c,ev,x,rfl,hS,hW,hE,hnc,hcm⟩,g3⟩
 obtain⟨nowN,⟨A1N,n1N,c1N⟩,⟨A2N,n2N,c2N⟩,⟨A3N,n3N,c3N⟩,⟨A4N,n4N,c4N⟩,stopN⟩:=s
 have BN:=Blk.new w2 #[.int .i64 nowN,.slice A1N n1N c1N,.slice A2N n2N c2N,.slice A3N n3N c3N,.slice A4N n4N c4N,.int .i64 stopN] 29
 have B3:=(B2.gr g3).al (.cells #[.int .i64 nowN,.slice A1N n1N c1N,.slice A2N n2N c2N,.slice A3N n3N c3N,.slice A4N n4N c4N,.int .i64 stopN] 29)
 have G3:=hid ((G2.out.trans g3).al (.cells #[.int .i64 nowN,.slice A1N n1N c1N,.slice A2N n2N c2N,.slice A3N n3N c3N,.slice A4N n4N c4N,.int .i64 stopN] 29))
 have W3:=hid ((W2.out.gr g3).gr ((Gr.refl w2).al (.cells #[.int .i64 nowN,.slice A1N n1N c1N,.slice A2N n2N c2N,.slice A3N n3N c3N,.slice A4N n4N c4N,.int .i64 stopN] 29)))
 have N3:=hid (hW.gr ((Gr.refl w2).al (.cells #[.int .i64 nowN,.slice A1N n1N c1N,.slice A2N n2N c2N,.slice A3N n3N c3N,.slice A4N n4N c4N,.int .i64 stopN] 29)))
 have E3:=hid (hE.gr ((Gr.refl w2).al (.cells #[.int .i64 nowN,.slice A1N n1N c1N,.slice A2N n2N c2N,.slice A3N n3N c3N,.slice A4N n4N c4N,.int .i64 stopN] 29)))
 have KN:=g3.size
 clear hW hE g3 cS B2 G2 W2 WI
 go_upto_region 3 with fail
 clear b0 bz0 b1 bz1 b2 bz2 b3 bz3 b4 bz4 b5 bz5
 generalize w2.alloc (.cells #[.int .i64 nowN,.slice A1N n1N c1N,.slice A2N n2N c2N,.slice A3N n3N c3N,.slice A4N n4N c4N,.int .i64 stopN] 29)=V2 at BN B3 G3 W3 N3 E3 ⊢
 generalize w2.heap.size=gn at BN KN ⊢
 clear lt2
 have lt3:=B3.lt
 have ltn:=BN.lt
 obtain⟨m0,mz0⟩:=B3.at_ (k:=0) (v:=.int .i64 now) rfl
 obtain⟨m1,mz1⟩:=B3.at_ (k:=1) (v:=.slice A1 n1 c1) rfl
 obtain⟨m2,mz2⟩:=B3.at_ (k:=2) (v:=.slice A2 n2 c2) rfl
 obtain⟨m3,mz3⟩:=B3.at_ (k:=3) (v:=.slice A3 n3 c3) rfl
 obtain⟨m4,mz4⟩:=B3.at_ (k:=4) (v:=.slice A4 n4 c4) rfl
 obtain⟨m5,mz5⟩:=B3.at_ (k:=5) (v:=.int .i64 stop) rfl
 have WI:=hid (W3.out.is G3.out)
 have cT:=hid (hM.tick V2 _ _ d (hg.gr G3.out) WI.out hd)
 go_wp2_with fail
 with_reducible refine cT.out.mono ?_
 rintro e w3 ⟨⟨s,τ,y,rfl,hTk,hWt⟩,g4⟩
 obtain⟨nowT,⟨A1T,n1T,c1T⟩,⟨A2T,n2T,c2T⟩,⟨A3T,n3T,c3T⟩,⟨A4T,n4T,c4T⟩,stopT⟩:=s
 have BT:=Blk.new w3 #[.int .i64 nowT,.slice A1T n1T c1T,.slice A2T n2T c2T,.slice A3T n3T c3T,.slice A4T n4T c4T,.int .i64 stopT] 29
 have HA4:=hid (g4.al (.cells #[.int .i64 nowT,.slice A1T n1T c1T,.slice A2T n2T c2T,.slice A3T n3T c3T,.slice A4T n4T c4T,.int .i64 stopT] 29))
 have HT4:=hid ((Gr.refl w3).al (.cells #[.int .i64 nowT,.slice A1T n1T c1T,.slice A2T n2T c2T,.slice A3T n3T c3T,.slice A4T n4T c4T,.int .i64 stopT] 29))
 have TW:=hid hWt
 have KT:=g4.size
 clear hWt g4 cT WI
 go_upto_region 4 with fail
 clear m0 mz0 m1 mz1 m2 mz2 m3 mz3 m4 mz4 m5 mz5
 generalize w3.alloc (.cells #[.int .i64 nowT,.slice A1T n1T c1T,.slice A2T n2T c2T,.slice A3T n3T c3T,.slice A4T n4T c4T,.int .i64 stopT] 29)=V3 at BT HA4 HT4 ⊢
 obtain⟨gt,hgt⟩:∃ g,w3.heap.size=g:=⟨_,rfl⟩
 rw [hgt] at BT KT ⊢
 have HGT:=hid hgt
 clear hgt
 have B4:=B3.gr HA4.out
 have N4:=BN.gr HA4.out
 obtain⟨rfl,hF⟩:=touch_facts hright hS
 have hty:=hid (tick_facts hright hTk)
 clear hS hTk
 have RW:=hid (W3.out.is G3.out)
 have RN:=hid N3.out.is
 obtain rfl:now=nowN:=by
  symm
  have e1:nowN=ψ.now:=RN.out.now
  have e2:now=(cutW ω).now:=RW.out.now
  rw [e1,e2]
  exact hF.now
 obtain rfl:n2=n2N:=by have h1:ψ.cl.length=n2N:=RN.out.c.len;have h2:(cutW ω).cl.length=n2:=RW.out.c.len;have h3:=hF.cl;omega
 obtain rfl:n3=n3N:=by have h1:ψ.mx.length=n3N:=RN.out.m.len;have h2:(cutW ω).mx.length=n3:=RW.out.m.len;have h3:=hF.m4;have h4:=hright.m4;omega
 have HF:=hid hF
 have hn1:¬ (1:Int)<(n:Int):=by have h1:=E3.out.is.len;have h2:=hF.ev;omega
 clear hF E3
 have hgtn:gn<gt:=by omega
 go_upto_if 49 with fail
 go_cut [] (λ wx=>Gr V2 wx)
 case first =>
  by_cases hy:y=0
  . subst hy
    obtain⟨p0,pz0⟩:=B4.at_ (k:=0) (v:=.int .i64 now) rfl
    obtain⟨q0,qz0⟩:=BT.at_ (k:=0) (v:=.int .i64 nowT) rfl
    have hkt:w.heap.size≠gt:=by omega
    have ltt:=BT.lt
    have B5:=B4.st (p:=⟨gt,0,none⟩) (by show gt≠w.heap.size;omega) (.int .i64 now)
    have T5:Blk (V3.setCell ⟨gt,0,none⟩ (.int .i64 now)) gt #[.int .i64 now,.slice A1T n1T c1T,.slice A2T n2T c2T,.slice A3T n3T c3T,.slice A4T n4T c4T,.int .i64 stopT] 29:=BT.set 0 _
    have G5:=hid (HA4.out.st (p:=⟨gt,0,none⟩) (by show V2.heap.size<=gt;omega) (.int .i64 now))
    have TW5:=hid (TW.out.gr (HT4.out.st (p:=⟨gt,0,none⟩) (by show w3.heap.size<=gt;rw [HGT.out];exact Nat.le_refl _) (.int .i64 now)))
    go_upto_region 8 with fail
    clear p0 pz0 q0 qz0 ltt
    generalize V3.setCell ⟨gt,0,none⟩ (.int .i64 now)=V5 at B5 T5 G5 TW5 ⊢
    obtain⟨p0,pz0⟩:=B5.at_ (k:=0) (v:=.int .i64 now) rfl
    obtain⟨p1,pz1⟩:=B5.at_ (k:=1) (v:=.slice A1 n1 c1) rfl
    obtain⟨p2,pz2⟩:=B5.at_ (k:=2) (v:=.slice A2 n2 c2) rfl
    obtain⟨p3,pz3⟩:=B5.at_ (k:=3) (v:=.slice A3 n3 c3) rfl
    obtain⟨p4,pz4⟩:=B5.at_ (k:=4) (v:=.slice A4 n4 c4) rfl
    obtain⟨p5,pz5⟩:=B5.at_ (k:=5) (v:=.int .i64 stop) rfl
    obtain⟨t0,tz0⟩:=T5.at_ (k:=0) (v:=.int .i64 now) rfl
    obtain⟨t1,tz1⟩:=T5.at_ (k:=1) (v:=.slice A1T n1T c1T) rfl
    obtain⟨t2,tz2⟩:=T5.at_ (k:=2) (v:=.slice A2T n2T c2T) rfl
    obtain⟨t3,tz3⟩:=T5.at_ (k:=3) (v:=.slice A3T n3T c3T) rfl
    obtain⟨t4,tz4⟩:=T5.at_ (k:=4) (v:=.slice A4T n4T c4T) rfl
    obtain⟨t5,tz5⟩:=T5.at_ (k:=5) (v:=.int .i64 stopT) rfl
    have ltw:=B5.lt
    have ltt:=T5.lt
    have hbn:B64 now:=by have e2:now=(cutW ω).now:=RW.out.now;rw [e2];exact RW.out.bn
    have e1:{ τ with now:=now }=cutW ω:=by have e2:now=(cutW ω).now:=RW.out.now;have:=hty.out rfl;rw [<- e2] at this;exact this
    have cE:=hid (rWSame_is (TW5.out.is.at_now hbn) (RW.out.gr G5.out) (v:=true) (by simp [e1]))
    clear e1
    go_wp2_with fail
    with_reducible refine cE.out.mono ?_
    rintro e w8 ⟨rfl,g8⟩
    have GF:=hid (G5.out.trans g8)
    clear g8 cE
    go_wp2_with fail
    go_meet
    exact GF.out
  . have hyb:(y==0)=false:=by simpa using hy
    go_wp2_with fail
    go_meet
    exact HA4.out
 case rest =>
  obtain⟨j0,hj0⟩:=HF.out.mx
  obtain⟨j1,hj1⟩:=HF.out.cs
  have J0:=hid hj0
  have J1:=hid hj1
  have hm4:n3=4:=by have h1:ψ.mx.length=n3:=RN.out.m.len;have h2:=HF.out.m4;omega
  subst hm4
  have BK:=hid (B3.gr hcut)
  have BG:=hid (BN.gr hcut)
  have GC:=hid (G3.out.trans hcut)
  have RWc:=hid (RW.out.gr hcut)
  have RNc:=hid (RN.out.gr hcut)
  obtain⟨Rw,hRw,eRw⟩:=RWc.out.p
  obtain⟨Rn,hRn,eRn⟩:=RNc.out.p
  have cP:=hid (P12.rSame_is (c:=c1N) (d:=c1) (v:=true) (by have:=HF.out.pr;rw [eRn,eRw,this];simp) RNc.out.op.lt RWc.out.op.lt wc hRn hRw)
  have gcut:=hid hcut
  clear hj0 hj1 eRw eRn hRw hRn hcut B3 BN B4 N4 BT HA4 HT4 TW W3 N3 RW RN G3 KN KT lt3 ltn
  obtain⟨p0,-⟩:=BK.out.at_ (k:=0) (v:=.int .i64 now) rfl
  obtain⟨p1,-⟩:=BK.out.at_ (k:=1) (v:=.slice A1 n1 c1) rfl
  obtain⟨p2,-⟩:=BK.out.at_ (k:=2) (v:=.slice A2 n2 c2) rfl
  obtain⟨p3,-⟩:=BK.out.at_ (k:=3) (v:=.slice A3 4 c3) rfl
  obtain⟨p4,-⟩:=BK.out.at_ (k:=4) (v:=.slice A4 n4 c4) rfl
  obtain⟨p5,-⟩:=BK.out.at_ (k:=5) (v:=.int .i64 stop) rfl
  obtain⟨q0,-⟩:=BG.out.at_ (k:=0) (v:=.int .i64 now) rfl
  obtain⟨q1,-⟩:=BG.out.at_ (k:=1) (v:=.slice A1N n1N c1N) rfl
  obtain⟨q2,-⟩:=BG.out.at_ (k:=2) (v:=.slice A2N n2 c2N) rfl
  obtain⟨q3,-⟩:=BG.out.at_ (k:=3) (v:=.slice A3N 4 c3N) rfl
  obtain⟨q4,-⟩:=BG.out.at_ (k:=4) (v:=.slice A4N n4N c4N) rfl
  obtain⟨q5,-⟩:=BG.out.at_ (k:=5) (v:=.int .i64 stopN) rfl
  have ltk:=BK.out.lt
  have ltg:=BG.out.lt
  go_wp2_with fail
  with_reducible refine cP.out.mono ?_
  rintro e wd ⟨rfl,q,rfl⟩
  have cA:=hid (alive_is (w:=wc.drewN q) hM (hg.gr (GC.out.drN q)))
  clear p0 q0 p1 q1 p2 q2 p3 q3 p4 q4 p5 q5
  go_wp2_with fail
  with_reducible refine cA.out.mono ?_
  rintro e w9 ⟨rfl,g9⟩
  have g9':Gr wc w9:=((Gr.refl wc).drN q).trans g9
  have BK9:=hid (BK.out.gr g9')
  have BG9:=hid (BG.out.gr g9')
  have GC9:=hid (GC.out.trans g9')
  have RW9:=hid (RWc.out.gr g9')
  have RN9:=hid (RNc.out.gr g9')
  clear g9 g9' cA cP BK BG GC RWc RNc ltk ltg
  obtain⟨p3,-⟩:=BK9.out.at_ (k:=3) (v:=.slice A3 4 c3) rfl
  have ltk:=BK9.out.lt
  go_upto_region 14 with fail
  clear p3 ltk
  go_loopw [12,100] (λ c i wr=>∃ k m:Nat,k<=4/\m<=1/\(m=1->j0<k)/\c=.int .i64 (m:Int)/\i=.int .i64 (k:Int)/\Hid (Gr w9 wr)) (λ _ i _=>4-(intOf i).toNat)
  case atStart=>exact⟨0,0,by decide,by decide,by omega,rfl,rfl,hid (Gr.refl _)⟩
  case round =>
   obtain⟨k,m,hk,hm,hmk,rfl,rfl,HV⟩:=hrel
   have kb:=BK9.out.gr HV.out
   have nb:=BG9.out.gr HV.out
   have ltk:=kb.lt
   have ltn:=nb.lt
   by_cases hk4:k<4
   . have k0:(0:Int)<=(k:Int):=by omega
     have k1:(k:Int)<4:=by omega
     obtain⟨bm,om,xm,hA3,hbm,hxm,-,x0,x1,x2⟩:=T3Mem.cells (k:=k) ((RW9.out.gr HV.out)).m hk4
     obtain⟨bn,on,ym,hB3,hbn,hym,-,y0,y1,y2⟩:=T3Mem.cells (k:=k) ((RN9.out.gr HV.out)).m hk4
     dsimp only at hA3 hB3
     subst hA3 hB3
     have k3:=(kb.at_ (k:=3) (v:=.slice (some ⟨bm,om,none⟩) 4 c3) rfl).1
     have q3:=(nb.at_ (k:=3) (v:=.slice (some ⟨bn,on,none⟩) 4 c3N) rfl).1
     obtain⟨hj1,hj2⟩:=J0.out k xm ym hxm hym
     obtain⟨b,hb⟩:=yn (ym=xm)
     have hne:=λ W=>run_mutex_neq ym xm hb W
     clear kb nb hxm hym
     cases b with
     | true =>
      clear hj1 hj2 hb
      go_wp2_with fail
      go_quiet (fail)
      go_wp2_with fail
      go_roundw
      case rel=>exact⟨k+1,m,by omega,hm,by omega,rfl,by go_num,hid (HV.out.drN _)⟩
      case measure=>simp [intOf];omega
     | false =>
      have hkj:k=j0:=Classical.byContradiction λ h=>by have:=hb.2 (hj1 h);cases this
      have hm0:m=0:=by omega
      subst hm0
      have HKJ:=hid hkj
      clear hj1 hb hkj hmk
      rcases hj2 with h1 | h2
      . have hwd:(ym.1 != xm.1)=false:=by simp [h1]
        clear h1
        go_wp2_with fail
        go_quiet (fail)
        go_wp2_with fail
        go_quiet (fail)
        go_wp2_with fail
        go_roundw
        case rel=>exact⟨k+1,1,by omega,by decide,by have:=HKJ.out;omega,by go_num,by go_num,hid (HV.out.drN _)⟩
        case measure=>simp [intOf];omega
      . have hts:=λ W=>run_ticket_same xm.2.1 xm.2.2 W
        have e1:ym.2.1=xm.2.1:=by rw [h2]
        have e2:ym.2.2=xm.2.2:=by rw [h2]
        rw [e1] at y1
        rw [e2] at y2
        rw [e1,e2] at hne
        clear h2
        obtain⟨bw,hbw⟩:∃ b,(ym.1 != xm.1)=b:=⟨_,rfl⟩
        cases bw <;>
        . go_wp2_with fail
          go_quiet (fail)
          go_wp2_with fail
          go_quiet (fail)
          go_wp2_with fail
          go_roundw
          case rel=>exact⟨k+1,1,by omega,by decide,by have:=HKJ.out;omega,by go_num,by go_num,hid (HV.out.drN _)⟩
          case measure=>simp [intOf];omega
   . obtain rfl:k=4:=by omega
     have HM1:=hid hm
     have k2:=(kb.at_ (k:=2) (v:=.slice A2 n2 c2) rfl).1
     have HV9:=HV
     clear kb nb ltn
     go_upto_region 22 with fail
     clear k2 ltk
     rename World=>wo
     go_loopw [13,148] (λ c i wr=>∃ k m2:Nat,k<=n2/\m2<=1/\(m2=1->j1<k)/\c=.int .i64 (m2:Int)/\i=.int .i64 (k:Int)/\Hid (Gr w9 wr)) (λ _ i _=>n2-(intOf i).toNat)
     case atStart=>exact⟨0,0,Nat.zero_le _,by decide,by omega,rfl,rfl,HV9⟩
     case round =>
      obtain⟨k,m2,hk,hm2,hmk2,rfl,rfl,HV⟩:=hrel
      by_cases hkn:k<n2
      . have k0:(0:Int)<=(k:Int):=by omega
        have k1:(k:Int)<(n2:Int):=by omega
        have hn2:n2<=9223372036854775807:=RW9.out.oc.lt
        obtain⟨bm,om,xc,hA2,hbm,hxc,-,x0,x1,x2,x3,x4,x5,x6,x7,x8,x9,x10,x11,x12⟩:=CMem.cells (k:=k) ((RW9.out.gr HV.out)).c hkn
        dsimp only at hA2
        subst hA2
        have HX:=hid hxc
        clear hxc
        go_upto_region 24 with fail
        have BX:=Blk.new wr #[.int .i64 xc.gst,.bool xc.permit,.int .i64 xc.act,.int .i64 xc.pc,.int .i64 xc.worked,.int .i64 xc.ticket,.bool xc.first,.bool xc.told,.int .i64 xc.since,.bool xc.st,.bool xc.aw,.int .i64 xc.rounds,.int .i64 xc.old] 55
        have GX:=hid (HV.out.al (.cells #[.int .i64 xc.gst,.bool xc.permit,.int .i64 xc.act,.int .i64 xc.pc,.int .i64 xc.worked,.int .i64 xc.ticket,.bool xc.first,.bool xc.told,.int .i64 xc.since,.bool xc.st,.bool xc.aw,.int .i64 xc.rounds,.int .i64 xc.old] 55))
        generalize wr.alloc (.cells #[.int .i64 xc.gst,.bool xc.permit,.int .i64 xc.act,.int .i64 xc.pc,.int .i64 xc.worked,.int .i64 xc.ticket,.bool xc.first,.bool xc.told,.int .i64 xc.since,.bool xc.st,.bool xc.aw,.int .i64 xc.rounds,.int .i64 xc.old] 55)=V at BX GX ⊢
        have hgx:w9.heap.size<=wr.heap.size:=HV.out.size
        generalize wr.heap.size=gx at BX hbm hgx ⊢
        clear x0 x1 x2 x3 x4 x5 x6 x7 x8 x9 x10 x11 x12 hbm
        obtain⟨bi,hbi⟩:∃ b,((k:Int)==who)=b:=⟨_,rfl⟩
        cases bi with
        | true =>
         clear BX
         go_wp2_with fail
         go_roundw
         case rel=>exact⟨k+1,m2,by omega,hm2,by omega,rfl,by go_num,GX⟩
         case measure=>simp [intOf];omega
        | false =>
         obtain⟨by_,oy,yc,hB2,hby,hyc,-,z0,z1,z2,z3,z4,z5,z6,z7,z8,z9,z10,z11,z12⟩:=CMem.cells (k:=k) ((RN9.out.gr GX.out)).c hkn
         dsimp only at hB2
         subst hB2
         obtain⟨hj1,hy2⟩:=J1.out k xc yc HX.out hyc (by intro q;rw [beq_eq_false_iff_ne] at hbi;exact hbi q)
         obtain⟨b,hb⟩:=yn (yc=xc)
         have hne:=λ W=>run_client_neq yc xc hb W
         have nb:=BG9.out.gr GX.out
         have q2:=(nb.at_ (k:=2) (v:=.slice (some ⟨by_,oy,none⟩) n2 c2N) rfl).1
         have ltn:=nb.lt
         have ltx:=BX.lt
         have HYC:=hid hyc
         clear nb hyc
         have b0:=(BX.at_ (k:=0) (v:=.int .i64 xc.gst) rfl).1
         have b1:=(BX.at_ (k:=1) (v:=.bool xc.permit) rfl).1
         have b2:=(BX.at_ (k:=2) (v:=.int .i64 xc.act) rfl).1
         have b3:=(BX.at_ (k:=3) (v:=.int .i64 xc.pc) rfl).1
         have b4:=(BX.at_ (k:=4) (v:=.int .i64 xc.worked) rfl).1
         have b5:=(BX.at_ (k:=5) (v:=.int .i64 xc.ticket) rfl).1
         have b6:=(BX.at_ (k:=6) (v:=.bool xc.first) rfl).1
         have b7:=(BX.at_ (k:=7) (v:=.bool xc.told) rfl).1
         have b8:=(BX.at_ (k:=8) (v:=.int .i64 xc.since) rfl).1
         have b9:=(BX.at_ (k:=9) (v:=.bool xc.st) rfl).1
         have b10:=(BX.at_ (k:=10) (v:=.bool xc.aw) rfl).1
         have b11:=(BX.at_ (k:=11) (v:=.int .i64 xc.rounds) rfl).1
         have b12:=(BX.at_ (k:=12) (v:=.int .i64 xc.old) rfl).1
         have bz0:=(BX.at_ (k:=0) (v:=.int .i64 xc.gst) rfl).2
         have bz1:=(BX.at_ (k:=1) (v:=.bool xc.permit) rfl).2
         cases b with
         | true =>
          clear hj1 hy2 hb bz0 bz1 BX
          go_wp2_with fail
          go_quiet (fail)
          go_wp2_with fail
          go_roundw
          case rel=>exact⟨k+1,m2,by omega,hm2,by omega,rfl,by go_num,hid (GX.out.drN _)⟩
          case measure=>simp [intOf];omega
         | false =>
          have hkj:k=j1:=Classical.byContradiction λ h=>by have:=hb.2 (hj1 h);cases this
          have hm0:m2=0:=by omega
          subst hm0
          have HKJ:=hid hkj
          have HY2:=hid hy2
          clear hj1 hb hkj hmk2 hy2
          go_wp2_with fail
          go_quiet (fail)
          generalize hV5:World.drewN V _=V5
          have g5:Gr V V5:=by rw [<- hV5];exact (Gr.refl V).drN _
          clear hV5
          replace BX:=BX.gr g5
          have GX5:=hid (GX.out.trans g5)
          clear b0 b1 b2 b3 b4 b5 b6 b7 b8 b9 b10 b11 b12 bz0 bz1 q2 ltn ltx z0 z1 z2 z3 z4 z5 z6 z7 z8 z9 z10 z11 z12 hne GX g5
          obtain⟨bY,oY,yc',hB2',hby',hyc',-,z0,z1,-⟩:=CMem.cells (k:=k) ((RN9.out.gr GX5.out)).c hkn
          cases hB2'
          obtain rfl:yc=yc':=Option.some.inj (HYC.out.symm.trans hyc')
          have nb5:=BG9.out.gr GX5.out
          have q2:=(nb5.at_ (k:=2) (v:=.slice (some ⟨by_,oy,none⟩) n2 c2N) rfl).1
          have ltn:=nb5.lt
          have ltx:=BX.lt
          obtain⟨b0,bz0⟩:=BX.at_ (k:=0) (v:=.int .i64 xc.gst) rfl
          obtain⟨b1,bz1⟩:=BX.at_ (k:=1) (v:=.bool xc.permit) rfl
          go_upto_region 28 with fail
          have BM:Blk ((V5.setCell ⟨gx,0,none⟩ (.int .i64 yc.gst)).setCell ⟨gx,1,none⟩ (.bool yc.permit)) gx #[.int .i64 yc.gst,.bool yc.permit,.int .i64 xc.act,.int .i64 xc.pc,.int .i64 xc.worked,.int .i64 xc.ticket,.bool xc.first,.bool xc.told,.int .i64 xc.since,.bool xc.st,.bool xc.aw,.int .i64 xc.rounds,.int .i64 xc.old] 55:=by
           have:=(BX.set 0 (.int .i64 yc.gst)).set 1 (.bool yc.permit)
           simpa using this
          have G6:=hid ((GX5.out.st (p:=⟨gx,0,none⟩) hgx (.int .i64 yc.gst)).st (p:=⟨gx,1,none⟩) hgx (.bool yc.permit))
          clear b0 bz0 b1 bz1 ltx ltn q2 z0 z1 nb5 BX hyc' hby'
          generalize (V5.setCell ⟨gx,0,none⟩ (.int .i64 yc.gst)).setCell ⟨gx,1,none⟩ (.bool yc.permit)=V6 at BM G6 ⊢
          obtain⟨bU,oU,yu,hB3,hbu,hyu,-,z0,z1,z2,z3,z4,z5,z6,z7,z8,z9,z10,z11,z12⟩:=CMem.cells (k:=k) ((RN9.out.gr G6.out)).c hkn
          cases hB3
          obtain rfl:yc=yu:=Option.some.inj (HYC.out.symm.trans hyu)
          have nb6:=BG9.out.gr G6.out
          have q2:=(nb6.at_ (k:=2) (v:=.slice (some ⟨by_,oy,none⟩) n2 c2N) rfl).1
          have ltn:=nb6.lt
          have ltx:=BM.lt
          have e2:yc.act=xc.act:=(congrArg Cl.act HY2.out :)
          rw [e2] at z2
          have e3:yc.pc=xc.pc:=(congrArg Cl.pc HY2.out :)
          rw [e3] at z3
          have e4:yc.worked=xc.worked:=(congrArg Cl.worked HY2.out :)
          rw [e4] at z4
          have e5:yc.ticket=xc.ticket:=(congrArg Cl.ticket HY2.out :)
          rw [e5] at z5
          have e6:yc.first=xc.first:=(congrArg Cl.first HY2.out :)
          rw [e6] at z6
          have e7:yc.told=xc.told:=(congrArg Cl.told HY2.out :)
          rw [e7] at z7
          have e8:yc.since=xc.since:=(congrArg Cl.since HY2.out :)
          rw [e8] at z8
          have e9:yc.st=xc.st:=(congrArg Cl.st HY2.out :)
          rw [e9] at z9
          have e10:yc.aw=xc.aw:=(congrArg Cl.aw HY2.out :)
          rw [e10] at z10
          have e11:yc.rounds=xc.rounds:=(congrArg Cl.rounds HY2.out :)
          rw [e11] at z11
          have e12:yc.old=xc.old:=(congrArg Cl.old HY2.out :)
          rw [e12] at z12
          have b0:=(BM.at_ (k:=0) (v:=.int .i64 yc.gst) rfl).1
          have b1:=(BM.at_ (k:=1) (v:=.bool yc.permit) rfl).1
          have b2:=(BM.at_ (k:=2) (v:=.int .i64 xc.act) rfl).1
          have b3:=(BM.at_ (k:=3) (v:=.int .i64 xc.pc) rfl).1
          have b4:=(BM.at_ (k:=4) (v:=.int .i64 xc.worked) rfl).1
          have b5:=(BM.at_ (k:=5) (v:=.int .i64 xc.ticket) rfl).1
          have b6:=(BM.at_ (k:=6) (v:=.bool xc.first) rfl).1
          have b7:=(BM.at_ (k:=7) (v:=.bool xc.told) rfl).1
          have b8:=(BM.at_ (k:=8) (v:=.int .i64 xc.since) rfl).1
          have b9:=(BM.at_ (k:=9) (v:=.bool xc.st) rfl).1
          have b10:=(BM.at_ (k:=10) (v:=.bool xc.aw) rfl).1
          have b11:=(BM.at_ (k:=11) (v:=.int .i64 xc.rounds) rfl).1
          have b12:=(BM.at_ (k:=12) (v:=.int .i64 xc.old) rfl).1
          have hne:=λ W=>run_client_neq { xc with gst:=yc.gst,permit:=yc.permit } { xc with gst:=yc.gst,permit:=yc.permit } (b:=true) (by simp) W
          dsimp only [Bool.not_true] at hne
          clear nb6 hyu BM e2 e3 e4 e5 e6 e7 e8 e9 e10 e11 e12
          go_wp2_with fail
          go_quiet (fail)
          go_wp2_with fail
          go_roundw
          case rel=>exact⟨k+1,1,by omega,by decide,by have:=HKJ.out;omega,by go_num,by go_num,hid (G6.out.drN _)⟩
          case measure=>simp [intOf];omega
      . obtain rfl:k=n2:=by omega
        have d1:(m:Int)<=1:=by have:=HM1.out;omega
        have d2:(m2:Int)<=1:=by omega
        go_wp2_with fail
        go_ret
        exact⟨rfl,GC9.out.trans HV.out⟩
theorem MachineTouch_walk (hM:Mach) (hg:P15.Glob w) (h:WIs w r ω) (hw:B64 who) (hd:B64 d) :
 Calls Tryz.prog 6 #[r.v,.int .i64 who,.int .i64 d] w λ e w'=>e=.returned (.bool true)/\Gr w w':=by
 by_cases hr:RightW (cutW ω)
 . exact touch_go hM hg h hw hd hr
 . exact touch_bad hM hg h hw hd hr
end
end P16
end
section
open Go.ChangeShapes Go.WideShapes Go.ChangeAt Go.RowKit Go.Joins
namespace P15
def laidL : List (String × DataW Unit) := [("deadbolt/give.states", Rows.laid_deadbolt_give_states)]
theorem laidL_shaped (os:Os) (args:Array Value):((World.laidAll Tryz.prog os laidL).forCall (λ _ _=>0) ⟨#[],args,[]⟩).Shaped Tryz.prog :=
 World.shaped_of_ZipB (by kernel_rfl) (by kernel_rfl)
theorem laidL_met (os:Os) (args:Array Value):laidMetH Tryz.prog laidL ((World.laidAll Tryz.prog os laidL).forCall (λ _ _=>0) ⟨#[],args,[]⟩).memory:=by
 rw [MakeChecks.laidMetH_plain _ _ _ (by kernel_rfl)]
 exact laidMet_laidAll _ (by kernel_rfl) (by kernel_rfl)
section
variable {W:World}
theorem metL (h:laidMetH Tryz.prog laidL W):laidMet Tryz.prog laidL W:=by
 rwa [MakeChecks.laidMetH_plain _ _ _ (by kernel_rfl)] at h
theorem states_of {rest : List (String × DataW Unit)} (h : laidMet Tryz.prog (("deadbolt/give.states", Rows.laid_deadbolt_give_states) :: rest) W) : Glob W := by
 obtain⟨ps,⟨g,t,cs,fuel,p,q,hg,ht,hv,hd,_,_⟩,_⟩:=h
 obtain rfl := Option.some.inj ((show Tryz.prog.globalNamed "deadbolt/give.states" = some 0 by kernel_rfl).symm.trans hg)
 obtain rfl:=Option.some.inj ((show (Tryz.prog.globals[0]?).map (·.type)=some 263 by kernel_rfl).symm.trans ht)
 obtain⟨xs,m,_,ex,hcl,hl,hel⟩:=DataW.trod_array Tryz.underlying263 hd
 have c1:Tryz.prog.cellsOf 3=1:=by kernel_rfl
 have c8:Tryz.prog.cellsOf 263=8:=by kernel_rfl
 rw [c8] at hcl
 rw [c1] at hel
 have e3:xs.map (·.1)=[.lit (.int .i64 0),.lit (.int .i64 3),.lit (.int .i64 1),.lit (.int .i64 3),.lit (.int .i64 2),.lit (.int .i64 3),.lit (.int .i64 2),.lit (.int .i64 3)]:=(DataW.agg.inj (Prod.mk.inj ex).1).symm
 have each:∀ i (z:Int),i<8->(xs.map (·.1))[i]?=some (.lit (.int .i64 z))->cs.toList[i]?=some (.int .i64 z):=by
  intro i z hi hb
  have hE:=hel i hi
  rw [List.getElem?_eq_getElem (by omega)] at hE
  obtain⟨s,e1,e2,_⟩:=DataW.trod_int Tryz.underlying3 hE
  rw [List.getElem?_map,List.getElem?_eq_getElem (by omega:i<xs.length),e2] at hb
  simp only [Option.map_some,Option.some.injEq,DataW.lit.injEq,Lit.int.injEq,true_and] at hb
  rw [<- hb]
  have h0:((cs.toList.drop (i*1)).take 1)[0]?=some (.int .i64 s):=by rw [e1];rfl
  simpa using h0
 unfold Glob
 rw [hv]
 refine congrArg some (Array.ext' (List.ext_getElem? λ i=>?_))
 match i with
 | 0=>exact each 0 _ (by omega) (by rw [e3];rfl)
 | 1=>exact each 1 _ (by omega) (by rw [e3];rfl)
 | 2=>exact each 2 _ (by omega) (by rw [e3];rfl)
 | 3=>exact each 3 _ (by omega) (by rw [e3];rfl)
 | 4=>exact each 4 _ (by omega) (by rw [e3];rfl)
 | 5=>exact each 5 _ (by omega) (by rw [e3];rfl)
 | 6=>exact each 6 _ (by omega) (by rw [e3];rfl)
 | 7=>exact each 7 _ (by omega) (by rw [e3];rfl)
 | n+8 =>
  rw [List.getElem?_eq_none (by omega),List.getElem?_eq_none (by simp)]
theorem globL (h:laidMetH Tryz.prog laidL W) (hs:W.ShapedOpen Tryz.prog):Glob W:=states_of (metL h)
end
end P15
end
section
open Go.ChangeShapes Go.WideShapes Go.ChangeAt Go.RowKit Go.Joins
namespace P16
abbrev laidL:=P15.laidL
theorem laidL_shaped (os:Os) (args:Array Value):((World.laidAll Tryz.prog os laidL).forCall (λ _ _=>0) ⟨#[],args,[]⟩).Shaped Tryz.prog:=P15.laidL_shaped os args
theorem laidL_met (os:Os) (args:Array Value):laidMetH Tryz.prog laidL ((World.laidAll Tryz.prog os laidL).forCall (λ _ _=>0) ⟨#[],args,[]⟩).memory:=P15.laidL_met os args
theorem globL {W:World} (h:laidMetH Tryz.prog laidL W) (hs:W.ShapedOpen Tryz.prog):P15.Glob W:=P15.globL h hs
end P16
end
section
open Go.ChangeShapes Go.WideShapes Go.ChangeAt Go.RowKit Go.Joins
theorem MachineTouch_lifted (os:Os) (started:os.Started) (H:Type) (enc:TypeId×Value->H) :
 ReturnsInHanded {} Tryz.checked os 6 .any (λ w args=>(Rows.machineTouchSpec.pre enc Tryz.prog Tryz.f6 Rows.machineTouchRow.domain false w args/\laidMetH Tryz.prog P16.laidL w)/\sizedMet enc Tryz.prog Tryz.f6 (OpenSpec.ofChange Rows.machineTouchSpec) false w args)
  (Rows.machineTouchSpec.post enc Tryz.prog Tryz.f6 false true false false):=by
 refine LW.returns_laid_shaped (C:=Tryz.checked) (X:=λ w _=>laidMetH Tryz.prog P16.laidL w) (λ _ _ _ hh h=>laidMetH.of_heap hh h) own started (by kernel_rfl) Tryz.func6
  (ChangeSpec.witness_shaped (enc:=enc) (C:=Tryz.checked) (os:=os) (X:=λ w _=>laidMetH Tryz.prog P16.laidL w) false (World.laidAll Tryz.prog os P16.laidL) #[.agg #[.int .i64 0,.slice none 0 0,.slice none 0 0,.slice none 0 0,.slice none 0 0,.int .i64 0],.int .i64 0,.int .i64 0] 8 (World.laidAll_os _ _ _) (P16.laidL_shaped os _) (by kernel_rfl) (by kernel_rfl) (by kernel_rfl) (P16.laidL_met os _)) ?_
 intro W base args ds gs before hval0 hW hL hS
 have hval:∀ (j:Nat) t v,Tryz.f6.params[j]?=some t->args[j]?=some v->Value.okWide Tryz.prog W .any base t v:=hval0
 have hW':=hW
 obtain⟨p,q,hA0,hV,rfl,hfz,hnd⟩:=hW
 have hA:DataW.TrodAll enc Tryz.prog W 0 (λ _=>true) true Tryz.f6.params.toList args.toList ds p:=hA0
 rw [Tryz.params6] at hA hval
 have hK:=hA
 obtain⟨v0,vs0,d0,ds0,p0,q0,hargs,rfl,hp,h0,r0⟩:=trodAll_cons hA
 obtain⟨v1,vs1,d1,ds1,p1,q1,rfl,rfl,rfl,h1,r1⟩:=trodAll_cons r0
 obtain⟨v2,vs2,d2,ds2,p2,q2,rfl,rfl,rfl,h2,r2⟩:=trodAll_cons r1
 obtain⟨rfl,rfl,rfl⟩:=trodAll_nil r2
 obtain rfl:args=#[v0,v1,v2]:=by cases args;simp_all
 obtain⟨rfl,rfl⟩:=trodVars_none hV
 obtain⟨r0,ω0,rfl,hw0⟩:=P16.open_world (hval 0 29 v0 rfl rfl) h0
 obtain⟨a1,rfl,rfl,rfl,w1⟩:=open_int Tryz.underlying3 (hval 1 3 v1 rfl rfl) h1
 obtain⟨a2,rfl,rfl,rfl,w2⟩:=open_int Tryz.underlying3 (hval 2 3 v2 rfl rfl) h2
 clear hA0 hval0
 refine (P16.MachineTouch_walk P16.mach (P16.globL hL hS) hw0 (wfb w1) (wfb w2)).mono λ e W' ⟨he,hg⟩=>?_
 subst he
 exact⟨_,rfl,post_below (pa:=p) (pv:=[]) hW' (λ _ _ _=>(trodAll_cons_mk (shut_bool Tryz.underlying4 _) trodAll_mk0))
  (λ sp hs=>trodAll_stays laidOut hg sp (by kernel_rfl) hK (λ x hx=>hW'.lt x (List.mem_append_left _ hx)) (λ x hx=>hs x (List.mem_append_left _ hx))) (λ _ _=>rfl) rfl
  hg (ok_one (by kernel_rfl) rfl (okWide_bool_mk Tryz.underlying4 _))⟩
theorem MachineTouch_closed:joinedFacts Tryz.pinned.checked.prog 6 Tryz.f6 Rows.machineTouchSpec Rows.machineTouchRow=true:=by kernel_rfl
theorem MachineTouch_over:Rows.machineTouchRow.holds Tryz.pinned (OpenSpec.ofChange Rows.machineTouchSpec) :=
 OpenClaim.holds_of_wide 6 Tryz.f6 rfl rfl rfl rfl rfl rfl rfl ⟨rfl,rfl,rfl,rfl,rfl⟩ rfl rfl rfl rfl rfl (by kernel_rfl) Tryz.func6 MachineTouch_closed
  (of_decide_eq_true (by kernel_rfl)) (by unfold Func.isWrapper;first | (rw [if_pos (by decide +kernel)];kernel_rfl) | (rw [if_neg (by decide +kernel)];exact⟨rfl,rfl⟩))
  (λ os started H enc _=>MachineTouch_lifted os started H enc)
theorem MachineTouch_card:Rows.MachineTouchCardSaid :=
 Claim7.holds_tied_plain_at .later [] [.data] true _ true
  MachineTouch_over (λ _ h=>by cases h) (by kernel_rfl) (λ _ h=>by cases h) machineTouch_row_tie rfl ⟨rfl,rfl⟩ (by kernel_rfl) rfl
  (λ f fn hf hfn=>by
    obtain rfl : f = 6 := Option.some.inj ((show Tryz.prog.funcNamed "deadbolt/deadboltlaw16.MachineTouch" = some 6 by kernel_rfl).symm.trans hf) |>.symm
    obtain rfl:fn=Tryz.f6:=(Option.some.inj (Tryz.func6.symm.trans hfn)).symm
    exact⟨by kernel_rfl,λ j t ht=>by
     rw [Tryz.params6] at ht
     have hm:t∈[29,3,3]:=by
      have:=Array.mem_of_getElem? ht
      simpa using this
     have hall:([29,3,3]:List TypeId).all (λ t=>Tryz.prog.wantsStandIn t==false)=true:=by kernel_rfl
     have hw:=List.all_eq_true.1 hall t hm
     exact beq_iff_eq.1 hw⟩)
  (by kernel_rfl)
#print axioms MachineTouch_card
end
end Go.Proofs.YtainfijdhcehlaaGreatDoor
