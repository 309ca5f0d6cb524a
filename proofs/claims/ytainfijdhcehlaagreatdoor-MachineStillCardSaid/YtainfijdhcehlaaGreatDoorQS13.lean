/-
  A part of the proof.
-/
import Derived.Test.YtainfijdhcehlaaGreatDoorQS12
set_option linter.all false
set_option maxRecDepth 100000
set_option maxHeartbeats 8000000
namespace Go.Proofs.YtainfijdhcehlaaGreatDoor
open Lib (hid)
section
open Go.ChangeShapes Go.WideShapes Go.ChangeAt Go.RowKit
namespace P16
open P12 (PV PMem)
theorem RightW.stopped {ω:Wv} (h:RightW ω):RightW { ω with stop:=11 }:=⟨h.now,h.progs,h.len,h.m4,h.tab,h.ids,h.gors,h.cls,h.mxs,.inr (.inl rfl)⟩
theorem WIs.stopped {W:World} {r:WR} {ω:Wv} (h:WIs W r ω):WIs W ⟨r.now,r.p,r.c,r.m,r.t,11⟩ { ω with stop:=11 }:=⟨h.now,rfl,h.bn,(by decide:(-9223372036854775808:Int)<=11/\(11:Int)<=9223372036854775807),h.p,h.c,h.m,h.t,h.op,h.oc,h.om,h.ot⟩
section
variable {w:World} {r:WR} {ω:Wv} {who d:Int}
theorem still_bad (hM:Mach) (hg:P15.Glob w) (h:WIs w r ω) (hw:B64 who) (hd:B64 d) (hbad:¬ RightW (cutW ω)) :
 Calls Tryz.prog 8 #[r.v,.int .i64 who,.int .i64 d] w λ e w'=>e=.returned (.bool true)/\Gr w w':=by
 have hK0:w.heap.size<(w.alloc (.cells r.a 29)).heap.size:=by rw [World.size_alloc];omega
 have cC:=hid (cut_is (w:=w.alloc (.cells r.a 29)) h ((Gr.refl w).al _))
 have B0:=Blk.new w r.a 29
 have HB0:=hid B0
 clear B0
 go_enter Tryz.func8,Tryz.ntmps8
 go_wp2_with fail
 with_reducible refine cC.out.mono ?_
 rintro e w1 ⟨⟨s,rfl,hW⟩,g1⟩
 obtain⟨now,⟨A1,n1,c1⟩,⟨A2,n2,c2⟩,⟨A3,n3,c3⟩,⟨A4,n4,c4⟩,stop⟩:=s
 have B1:=HB0.out.gr g1
 have G1:=((Gr.refl w).al (.cells r.a 29)).trans g1
 have lt1:=B1.lt
 obtain⟨a0,az0⟩:=B1.at_ (k:=0) (v:=.int .i64 r.now) rfl
 obtain⟨a1,az1⟩:=B1.at_ (k:=1) (v:=.slice r.p.A r.p.n r.p.c) rfl
 obtain⟨a2,az2⟩:=B1.at_ (k:=2) (v:=.slice r.c.A r.c.n r.c.c) rfl
 obtain⟨a3,az3⟩:=B1.at_ (k:=3) (v:=.slice r.m.A r.m.n r.m.c) rfl
 obtain⟨a4,az4⟩:=B1.at_ (k:=4) (v:=.slice r.t.A r.t.n r.t.c) rfl
 obtain⟨a5,az5⟩:=B1.at_ (k:=5) (v:=.int .i64 r.stop) rfl
 have B2:=put6_blk B1 rfl (.int .i64 now) (.slice A1 n1 c1) (.slice A2 n2 c2) (.slice A3 n3 c3) (.slice A4 n4 c4) (.int .i64 stop)
 have G2:=hid (put6_gr (x0:=.int .i64 now) (x1:=.slice A1 n1 c1) (x2:=.slice A2 n2 c2) (x3:=.slice A3 n3 c3) (x4:=.slice A4 n4 c4) (x5:=.int .i64 stop) (b:=w.heap.size) G1 (Nat.le_refl _))
 have W2:=hid (hW.to (FromB.put6 (b:=w.heap.size) hK0 (.int .i64 now) (.slice A1 n1 c1) (.slice A2 n2 c2) (.slice A3 n3 c3) (.slice A4 n4 c4) (.int .i64 stop)))
 clear hW g1 cC B1 G1 HB0
 go_upto_region 2 with fail
 clear a0 az0 a1 az1 a2 az2 a3 az3 a4 az4 a5 az5
 generalize (((((w1.setCell ⟨w.heap.size,0,none⟩ (.int .i64 now)).setCell ⟨w.heap.size,1,none⟩ (.slice A1 n1 c1)).setCell ⟨w.heap.size,2,none⟩ (.slice A2 n2 c2)).setCell ⟨w.heap.size,3,none⟩ (.slice A3 n3 c3)).setCell ⟨w.heap.size,4,none⟩ (.slice A4 n4 c4)).setCell ⟨w.heap.size,5,none⟩ (.int .i64 stop)=V1 at B2 G2 W2 ⊢
 have lt2:=B2.lt
 clear lt1
 obtain⟨b0,bz0⟩:=B2.at_ (k:=0) (v:=.int .i64 now) rfl
 obtain⟨b1,bz1⟩:=B2.at_ (k:=1) (v:=.slice A1 n1 c1) rfl
 obtain⟨b2,bz2⟩:=B2.at_ (k:=2) (v:=.slice A2 n2 c2) rfl
 obtain⟨b3,bz3⟩:=B2.at_ (k:=3) (v:=.slice A3 n3 c3) rfl
 obtain⟨b4,bz4⟩:=B2.at_ (k:=4) (v:=.slice A4 n4 c4) rfl
 obtain⟨b5,bz5⟩:=B2.at_ (k:=5) (v:=.int .i64 stop) rfl
 have WI:=hid (W2.out.is G2.out)
 have cS:=hid (hM.step V1 _ _ who (hg.gr G2.out) WI.out hw)
 go_wp2_with fail
 with_reducible refine cS.out.mono ?_
 rintro e w2 ⟨⟨s,ψ,A,n,c,ev,x,rfl,hS,hW,hE,hnc,hcm⟩,g3⟩
 obtain⟨nowN,⟨A1N,n1N,c1N⟩,⟨A2N,n2N,c2N⟩,⟨A3N,n3N,c3N⟩,⟨A4N,n4N,c4N⟩,stopN⟩:=s
 have BN:=Blk.new w2 #[.int .i64 nowN,.slice A1N n1N c1N,.slice A2N n2N c2N,.slice A3N n3N c3N,.slice A4N n4N c4N,.int .i64 stopN] 29
 have B3:=(B2.gr g3).al (.cells #[.int .i64 nowN,.slice A1N n1N c1N,.slice A2N n2N c2N,.slice A3N n3N c3N,.slice A4N n4N c4N,.int .i64 stopN] 29)
 have G3:=hid ((G2.out.trans g3).al (.cells #[.int .i64 nowN,.slice A1N n1N c1N,.slice A2N n2N c2N,.slice A3N n3N c3N,.slice A4N n4N c4N,.int .i64 stopN] 29))
 have W3:=hid ((W2.out.gr g3).gr ((Gr.refl w2).al (.cells #[.int .i64 nowN,.slice A1N n1N c1N,.slice A2N n2N c2N,.slice A3N n3N c3N,.slice A4N n4N c4N,.int .i64 stopN] 29)))
 have N3:=hid (hW.gr ((Gr.refl w2).al (.cells #[.int .i64 nowN,.slice A1N n1N c1N,.slice A2N n2N c2N,.slice A3N n3N c3N,.slice A4N n4N c4N,.int .i64 stopN] 29)))
 have E3:=hid (hE.gr ((Gr.refl w2).al (.cells #[.int .i64 nowN,.slice A1N n1N c1N,.slice A2N n2N c2N,.slice A3N n3N c3N,.slice A4N n4N c4N,.int .i64 stopN] 29)))
 have KN:=g3.size
 clear hW hE g3 cS B2 G2 W2 WI
 go_upto_region 3 with fail
 clear b0 bz0 b1 bz1 b2 bz2 b3 bz3 b4 bz4 b5 bz5
 generalize w2.alloc (.cells #[.int .i64 nowN,.slice A1N n1N c1N,.slice A2N n2N c2N,.slice A3N n3N c3N,.slice A4N n4N c4N,.int .i64 stopN] 29)=V2 at BN B3 G3 W3 N3 E3 ⊢
 generalize w2.heap.size=gn at BN KN ⊢
 clear lt2
 have lt3:=B3.lt
 have ltn:=BN.lt
 obtain⟨rfl,rfl,rfl⟩:ψ=zeroW/\ev=[]/\x=1:=by
  rcases hS with ⟨_,q⟩ | ⟨q,_⟩ | ⟨q,_⟩
  . exact q
  . exact absurd q hbad
  . exact absurd q hbad
 obtain rfl:n=0:=(E3.out.is).len.symm
 have cA:=hid (alive_is (w:=V2) hM (hg.gr G3.out))
 go_wp2_with fail
 with_reducible refine cA.out.mono ?_
 rintro e w9 ⟨rfl,g9⟩
 go_wp2_with fail
 go_ret
 exact⟨rfl,G3.out.trans g9⟩
theorem still_go (hM:Mach) (hg:P15.Glob w) (h:WIs w r ω) (hw:B64 who) (hd:B64 d) (hright:RightW (cutW ω)) (h0:0<=who) (hgo:∃ c,(cutW ω).cl[who.toNat]?=some c/\c.gst=0) :
 Calls Tryz.prog 8 #[r.v,.int .i64 who,.int .i64 d] w λ e w'=>e=.returned (.bool true)/\Gr w w':=by
 obtain⟨D,hD⟩:∃ D,IntKind.u64.wrap d=D:=⟨_,rfl⟩
 obtain⟨dd,hddd⟩:∃ dd,D % 1152921504606846976=dd:=⟨_,rfl⟩
 have D0:0<=D:=by rw [<- hD,IntKind.wrap_u64];omega
 have D1:D<18446744073709551616:=by rw [<- hD,IntKind.wrap_u64];omega
 have e3:D.tmod 1152921504606846976=dd:=by rw [Int.tmod_eq_emod_of_nonneg D0,hddd]
 have dd0:0<=dd:=by omega
 have dd1:dd<1152921504606846976:=by omega
 have hdd:B64 dd:=⟨by omega,by omega⟩
 have htim:Tim dd:=⟨by omega,by omega⟩
 clear hddd
 have hK0:w.heap.size<(w.alloc (.cells r.a 29)).heap.size:=by rw [World.size_alloc];omega
 have cC:=hid (cut_is (w:=w.alloc (.cells r.a 29)) h ((Gr.refl w).al _))
 have B0:=Blk.new w r.a 29
 have HB0:=hid B0
 clear B0
 go_enter Tryz.func8,Tryz.ntmps8
 go_wp2_with fail
 with_reducible refine cC.out.mono ?_
 rintro e w1 ⟨⟨s,rfl,hW⟩,g1⟩
 obtain⟨now,⟨A1,n1,c1⟩,⟨A2,n2,c2⟩,⟨A3,n3,c3⟩,⟨A4,n4,c4⟩,stop⟩:=s
 have B1:=HB0.out.gr g1
 have G1:=((Gr.refl w).al (.cells r.a 29)).trans g1
 have lt1:=B1.lt
 obtain⟨a0,az0⟩:=B1.at_ (k:=0) (v:=.int .i64 r.now) rfl
 obtain⟨a1,az1⟩:=B1.at_ (k:=1) (v:=.slice r.p.A r.p.n r.p.c) rfl
 obtain⟨a2,az2⟩:=B1.at_ (k:=2) (v:=.slice r.c.A r.c.n r.c.c) rfl
 obtain⟨a3,az3⟩:=B1.at_ (k:=3) (v:=.slice r.m.A r.m.n r.m.c) rfl
 obtain⟨a4,az4⟩:=B1.at_ (k:=4) (v:=.slice r.t.A r.t.n r.t.c) rfl
 obtain⟨a5,az5⟩:=B1.at_ (k:=5) (v:=.int .i64 r.stop) rfl
 have B2:=put6_blk B1 rfl (.int .i64 now) (.slice A1 n1 c1) (.slice A2 n2 c2) (.slice A3 n3 c3) (.slice A4 n4 c4) (.int .i64 stop)
 have G2:=hid (put6_gr (x0:=.int .i64 now) (x1:=.slice A1 n1 c1) (x2:=.slice A2 n2 c2) (x3:=.slice A3 n3 c3) (x4:=.slice A4 n4 c4) (x5:=.int .i64 stop) (b:=w.heap.size) G1 (Nat.le_refl _))
 have W2:=hid (hW.to (FromB.put6 (b:=w.heap.size) hK0 (.int .i64 now) (.slice A1 n1 c1) (.slice A2 n2 c2) (.slice A3 n3 c3) (.slice A4 n4 c4) (.int .i64 stop)))
 clear hW g1 cC B1 G1 HB0
 go_upto_region 2 with fail
 clear a0 az0 a1 az1 a2 az2 a3 az3 a4 az4 a5 az5
 generalize (((((w1.setCell ⟨w.heap.size,0,none⟩ (.int .i64 now)).setCell ⟨w.heap.size,1,none⟩ (.slice A1 n1 c1)).setCell ⟨w.heap.size,2,none⟩ (.slice A2 n2 c2)).setCell ⟨w.heap.size,3,none⟩ (.slice A3 n3 c3)).setCell ⟨w.heap.size,4,none⟩ (.slice A4 n4 c4)).setCell ⟨w.heap.size,5,none⟩ (.int .i64 stop)=V1 at B2 G2 W2 ⊢
 have lt2:=B2.lt
 clear lt1
 obtain⟨b0,bz0⟩:=B2.at_ (k:=0) (v:=.int .i64 now) rfl
 obtain⟨b1,bz1⟩:=B2.at_ (k:=1) (v:=.slice A1 n1 c1) rfl
 obtain⟨b2,bz2⟩:=B2.at_ (k:=2) (v:=.slice A2 n2 c2) rfl
 obtain⟨b3,bz3⟩:=B2.at_ (k:=3) (v:=.slice A3 n3 c3) rfl
 obtain⟨b4,bz4⟩:=B2.at_ (k:=4) (v:=.slice A4 n4 c4) rfl
 obtain⟨b5,bz5⟩:=B2.at_ (k:=5) (v:=.int .i64 stop) rfl
 have WI:=hid (W2.out.is G2.out)
 have cS:=hid (hM.step V1 _ _ who (hg.gr G2.out) WI.out hw)
 go_wp2_with fail
 with_reducible refine cS.out.mono ?_
 rintro e w2 ⟨⟨s,ψ,A,n,c,ev,x,rfl,hS,hW,hE,hnc,hcm⟩,g3⟩
 obtain⟨nowN,⟨A1N,n1N,c1N⟩,⟨A2N,n2N,c2N⟩,⟨A3N,n3N,c3N⟩,⟨A4N,n4N,c4N⟩,stopN⟩:=s
 have BN:=Blk.new w2 #[.int .i64 nowN,.slice A1N n1N c1N,.slice A2N n2N c2N,.slice A3N n3N c3N,.slice A4N n4N c4N,.int .i64 stopN] 29
 have B3:=(B2.gr g3).al (.cells #[.int .i64 nowN,.slice A1N n1N c1N,.slice A2N n2N c2N,.slice A3N n3N c3N,.slice A4N n4N c4N,.int .i64 stopN] 29)
 have G3:=hid ((G2.out.trans g3).al (.cells #[.int .i64 nowN,.slice A1N n1N c1N,.slice A2N n2N c2N,.slice A3N n3N c3N,.slice A4N n4N c4N,.int .i64 stopN] 29))
 have W3:=hid ((W2.out.gr g3).gr ((Gr.refl w2).al (.cells #[.int .i64 nowN,.slice A1N n1N c1N,.slice A2N n2N c2N,.slice A3N n3N c3N,.slice A4N n4N c4N,.int .i64 stopN] 29)))
 have N3:=hid (hW.gr ((Gr.refl w2).al (.cells #[.int .i64 nowN,.slice A1N n1N c1N,.slice A2N n2N c2N,.slice A3N n3N c3N,.slice A4N n4N c4N,.int .i64 stopN] 29)))
 have E3:=hid (hE.gr ((Gr.refl w2).al (.cells #[.int .i64 nowN,.slice A1N n1N c1N,.slice A2N n2N c2N,.slice A3N n3N c3N,.slice A4N n4N c4N,.int .i64 stopN] 29)))
 have KN:=g3.size
 clear hW hE g3 cS B2 G2 W2 WI
 go_upto_region 3 with fail
 clear b0 bz0 b1 bz1 b2 bz2 b3 bz3 b4 bz4 b5 bz5
 generalize w2.alloc (.cells #[.int .i64 nowN,.slice A1N n1N c1N,.slice A2N n2N c2N,.slice A3N n3N c3N,.slice A4N n4N c4N,.int .i64 stopN] 29)=V2 at BN B3 G3 W3 N3 E3 ⊢
 generalize w2.heap.size=gn at BN KN ⊢
 clear lt2
 have lt3:=B3.lt
 have ltn:=BN.lt
 obtain⟨rfl,hev⟩:x=0/\(Still (cutW ω) who->ψ=cutW ω/\ev=[]):=by
  rcases hS with ⟨q,_⟩ | ⟨_,_,q1,q2,q3⟩ | ⟨_,q,_,_,_,_,q3⟩
  . exact absurd hright q
  . exact⟨q3,λ _=>⟨q1,q2⟩⟩
  . exact⟨q3,λ q'=>absurd q' q⟩
 clear hS
 clear hev
 obtain⟨cl,hcl,hgst⟩:=hgo
 obtain⟨k,rfl⟩:∃ k:Nat,who=(k:Int):=⟨who.toNat,by omega⟩
 rw [Int.toNat_natCast] at hcl
 have hc0:CMem V2 A2 n2 (cutW ω).cl:=(W3.out.is G3.out).c
 have hk:k<n2:=by have h1:=hc0.len;have h2:=(List.getElem?_eq_some_iff.1 hcl).1;omega
 have hk1:(k:Int)<(n2:Int):=by omega
 obtain⟨b,off,z,rfl,hb,hz,-,f0,-⟩:=CMem.cells hc0 hk
 rw [hcl] at hz
 cases hz
 rw [hgst] at f0
 clear hc0 hcl hgst hk
 obtain⟨m0,mz0⟩:=B3.at_ (k:=0) (v:=.int .i64 now) rfl
 obtain⟨m1,mz1⟩:=B3.at_ (k:=1) (v:=.slice A1 n1 c1) rfl
 obtain⟨m2,mz2⟩:=B3.at_ (k:=2) (v:=.slice (some ⟨b,off,none⟩) n2 c2) rfl
 obtain⟨m3,mz3⟩:=B3.at_ (k:=3) (v:=.slice A3 n3 c3) rfl
 obtain⟨m4,mz4⟩:=B3.at_ (k:=4) (v:=.slice A4 n4 c4) rfl
 obtain⟨m5,mz5⟩:=B3.at_ (k:=5) (v:=.int .i64 stop) rfl
 go_upto_region 8 with fail
 clear m0 mz0 m1 mz1 m2 mz2 m3 mz3 m4 mz4 m5 mz5
 have B4:=(B3.set 5 (.int .i64 11))
 have G4:=hid (G3.out.st (p:=⟨w.heap.size,5,none⟩) (Nat.le_refl _) (.int .i64 11))
 have W4:=hid (W3.out.to (FromB.st (p:=⟨w.heap.size,5,none⟩) hK0 (.int .i64 11)))
 obtain⟨p0,pz0⟩:=B3.at_ (k:=0) (v:=.int .i64 now) rfl
 obtain⟨p1,pz1⟩:=B3.at_ (k:=1) (v:=.slice A1 n1 c1) rfl
 obtain⟨p2,pz2⟩:=B3.at_ (k:=2) (v:=.slice (some ⟨b,off,none⟩) n2 c2) rfl
 obtain⟨p3,pz3⟩:=B3.at_ (k:=3) (v:=.slice A3 n3 c3) rfl
 obtain⟨p4,pz4⟩:=B3.at_ (k:=4) (v:=.slice A4 n4 c4) rfl
 obtain⟨p5,pz5⟩:=B3.at_ (k:=5) (v:=.int .i64 stop) rfl
 clear B3 G3 W3
 go_upto_region 9 with fail
 clear p0 pz0 p1 pz1 p2 pz2 p3 pz3 p4 pz4 p5 pz5
 generalize V2.setCell ⟨w.heap.size,5,none⟩ (.int .i64 11)=V4 at B4 G4 W4 ⊢
 have lt4:=B4.lt
 obtain⟨q0,qz0⟩:=B4.at_ (k:=0) (v:=.int .i64 now) rfl
 obtain⟨q1,qz1⟩:=B4.at_ (k:=1) (v:=.slice A1 n1 c1) rfl
 obtain⟨q2,qz2⟩:=B4.at_ (k:=2) (v:=.slice (some ⟨b,off,none⟩) n2 c2) rfl
 obtain⟨q3,qz3⟩:=B4.at_ (k:=3) (v:=.slice A3 n3 c3) rfl
 obtain⟨q4,qz4⟩:=B4.at_ (k:=4) (v:=.slice A4 n4 c4) rfl
 obtain⟨q5,qz5⟩:=B4.at_ (k:=5) (v:=.int .i64 11) rfl
 have WI:=hid ((W4.out.is G4.out).stopped)
 have RT:=hid hright.stopped
 have cS:=hid (hM.step V4 _ _ _ (hg.gr G4.out) WI.out hw)
 go_wp2_with fail
 with_reducible refine cS.out.mono ?_
 rintro e w5 ⟨⟨s,ψ5,A5,n5,c5,ev5,x5,rfl,hS5,hW5,hE5,-,-⟩,g5⟩
 obtain⟨nowA,⟨A1A,n1A,c1A⟩,⟨A2A,n2A,c2A⟩,⟨A3A,n3A,c3A⟩,⟨A4A,n4A,c4A⟩,stopA⟩:=s
 obtain⟨rfl,rfl,rfl⟩:ψ5={ cutW ω with stop:=11 }/\ev5=[]/\x5=0:=by
  rcases hS5 with ⟨q,_⟩ | ⟨_,_,q⟩ | ⟨_,q,_⟩
  . exact absurd RT.out q
  . exact q
  . exact absurd (.inl (by show (11:Int)≠0;decide)) q
 obtain rfl:n5=0:=hE5.is.len.symm
 have BA:=Blk.new w5 #[.int .i64 nowA,.slice A1A n1A c1A,.slice A2A n2A c2A,.slice A3A n3A c3A,.slice A4A n4A c4A,.int .i64 stopA] 29
 have B5:=(B4.gr g5).al (.cells #[.int .i64 nowA,.slice A1A n1A c1A,.slice A2A n2A c2A,.slice A3A n3A c3A,.slice A4A n4A c4A,.int .i64 stopA] 29)
 have G5:=hid ((G4.out.trans g5).al (.cells #[.int .i64 nowA,.slice A1A n1A c1A,.slice A2A n2A c2A,.slice A3A n3A c3A,.slice A4A n4A c4A,.int .i64 stopA] 29))
 have W5:=hid ((W4.out.gr g5).gr ((Gr.refl w5).al (.cells #[.int .i64 nowA,.slice A1A n1A c1A,.slice A2A n2A c2A,.slice A3A n3A c3A,.slice A4A n4A c4A,.int .i64 stopA] 29)))
 have N5:=hid (hW5.gr ((Gr.refl w5).al (.cells #[.int .i64 nowA,.slice A1A n1A c1A,.slice A2A n2A c2A,.slice A3A n3A c3A,.slice A4A n4A c4A,.int .i64 stopA] 29)))
 clear hW5 hE5 g5 cS B4 G4 W4 WI
 go_upto_region 10 with fail
 clear q0 qz0 q1 qz1 q2 qz2 q3 qz3 q4 qz4 q5 qz5
 generalize w5.alloc (.cells #[.int .i64 nowA,.slice A1A n1A c1A,.slice A2A n2A c2A,.slice A3A n3A c3A,.slice A4A n4A c4A,.int .i64 stopA] 29)=V5 at BA B5 G5 W5 N5 ⊢
 generalize w5.heap.size=ga at BA ⊢
 clear lt4
 have lt5:=B5.lt
 have lta:=BA.lt
 obtain⟨s0,sz0⟩:=B5.at_ (k:=0) (v:=.int .i64 now) rfl
 obtain⟨s1,sz1⟩:=B5.at_ (k:=1) (v:=.slice A1 n1 c1) rfl
 obtain⟨s2,sz2⟩:=B5.at_ (k:=2) (v:=.slice (some ⟨b,off,none⟩) n2 c2) rfl
 obtain⟨s3,sz3⟩:=B5.at_ (k:=3) (v:=.slice A3 n3 c3) rfl
 obtain⟨s4,sz4⟩:=B5.at_ (k:=4) (v:=.slice A4 n4 c4) rfl
 obtain⟨s5,sz5⟩:=B5.at_ (k:=5) (v:=.int .i64 11) rfl
 have WI:=hid ((W5.out.is G5.out).stopped)
 have cT:=hid (hM.tick V5 _ _ dd (hg.gr G5.out) WI.out hdd)
 go_wp2_with fail
 with_reducible refine cT.out.mono ?_
 rintro e w6 ⟨⟨s,ψ6,x6,rfl,hT6,hW6⟩,g6⟩
 obtain⟨nowB,⟨A1B,n1B,c1B⟩,⟨A2B,n2B,c2B⟩,⟨A3B,n3B,c3B⟩,⟨A4B,n4B,c4B⟩,stopB⟩:=s
 obtain⟨rfl,rfl⟩:ψ6={ cutW ω with stop:=11 }/\x6=0:=by
  rcases hT6 with ⟨q,_⟩ | ⟨_,_,_,q⟩ | ⟨_,_,q,_⟩ | ⟨_,_,q,_⟩
  . exact absurd ⟨RT.out,htim⟩ q
  . exact q
  . exact absurd q (by show ¬ (11:Int)=0;decide)
  . exact absurd q (by show ¬ (11:Int)=0;decide)
 have BB:=Blk.new w6 #[.int .i64 nowB,.slice A1B n1B c1B,.slice A2B n2B c2B,.slice A3B n3B c3B,.slice A4B n4B c4B,.int .i64 stopB] 29
 have B6:=(B5.gr g6).al (.cells #[.int .i64 nowB,.slice A1B n1B c1B,.slice A2B n2B c2B,.slice A3B n3B c3B,.slice A4B n4B c4B,.int .i64 stopB] 29)
 have A6:=(BA.gr g6).al (.cells #[.int .i64 nowB,.slice A1B n1B c1B,.slice A2B n2B c2B,.slice A3B n3B c3B,.slice A4B n4B c4B,.int .i64 stopB] 29)
 have G6:=hid ((G5.out.trans g6).al (.cells #[.int .i64 nowB,.slice A1B n1B c1B,.slice A2B n2B c2B,.slice A3B n3B c3B,.slice A4B n4B c4B,.int .i64 stopB] 29))
 have W6:=hid ((W5.out.gr g6).gr ((Gr.refl w6).al (.cells #[.int .i64 nowB,.slice A1B n1B c1B,.slice A2B n2B c2B,.slice A3B n3B c3B,.slice A4B n4B c4B,.int .i64 stopB] 29)))
 have N6:=hid ((N5.out.gr g6).gr ((Gr.refl w6).al (.cells #[.int .i64 nowB,.slice A1B n1B c1B,.slice A2B n2B c2B,.slice A3B n3B c3B,.slice A4B n4B c4B,.int .i64 stopB] 29)))
 have M6:=hid (hW6.gr ((Gr.refl w6).al (.cells #[.int .i64 nowB,.slice A1B n1B c1B,.slice A2B n2B c2B,.slice A3B n3B c3B,.slice A4B n4B c4B,.int .i64 stopB] 29)))
 clear hW6 g6 cT B5 BA G5 W5 N5 WI
 go_upto_region 11 with fail
 clear s0 sz0 s1 sz1 s2 sz2 s3 sz3 s4 sz4 s5 sz5
 generalize w6.alloc (.cells #[.int .i64 nowB,.slice A1B n1B c1B,.slice A2B n2B c2B,.slice A3B n3B c3B,.slice A4B n4B c4B,.int .i64 stopB] 29)=V6 at BB B6 A6 G6 W6 N6 M6 ⊢
 generalize w6.heap.size=gb at BB ⊢
 clear lt5 lta
 have cA:=hid (alive_is (w:=V6) hM (hg.gr G6.out))
 go_wp2_with fail
 with_reducible refine cA.out.mono ?_
 rintro e w7 ⟨rfl,g7⟩
 have B7:=B6.gr g7
 have A7:=A6.gr g7
 have lt7:=B7.lt
 have lta:=A7.lt
 obtain⟨t0,tz0⟩:=B7.at_ (k:=0) (v:=.int .i64 now) rfl
 obtain⟨t1,tz1⟩:=B7.at_ (k:=1) (v:=.slice A1 n1 c1) rfl
 obtain⟨t2,tz2⟩:=B7.at_ (k:=2) (v:=.slice (some ⟨b,off,none⟩) n2 c2) rfl
 obtain⟨t3,tz3⟩:=B7.at_ (k:=3) (v:=.slice A3 n3 c3) rfl
 obtain⟨t4,tz4⟩:=B7.at_ (k:=4) (v:=.slice A4 n4 c4) rfl
 obtain⟨t5,tz5⟩:=B7.at_ (k:=5) (v:=.int .i64 11) rfl
 obtain⟨u0,uz0⟩:=A7.at_ (k:=0) (v:=.int .i64 nowA) rfl
 obtain⟨u1,uz1⟩:=A7.at_ (k:=1) (v:=.slice A1A n1A c1A) rfl
 obtain⟨u2,uz2⟩:=A7.at_ (k:=2) (v:=.slice A2A n2A c2A) rfl
 obtain⟨u3,uz3⟩:=A7.at_ (k:=3) (v:=.slice A3A n3A c3A) rfl
 obtain⟨u4,uz4⟩:=A7.at_ (k:=4) (v:=.slice A4A n4A c4A) rfl
 obtain⟨u5,uz5⟩:=A7.at_ (k:=5) (v:=.int .i64 stopA) rfl
 have WI:=hid ((W6.out.gr g7).is (G6.out.trans g7)).stopped
 have NI:=hid (N6.out.gr g7).is
 have cE:=hid (rWSame_is NI.out WI (v:=true) (by simp))
 go_wp2_with fail
 with_reducible refine cE.out.mono ?_
 rintro e w8 ⟨rfl,g8⟩
 clear t0 tz0 t1 tz1 t2 tz2 t3 tz3 t4 tz4 t5 tz5
 clear u0 uz0 u1 uz1 u2 uz2 u3 uz3 u4 uz4 u5 uz5
 clear lt7 lta
 have B8:=B7.gr g8
 have A8:=(BB.gr g7).gr g8
 have lt8:=B8.lt
 have ltb:=A8.lt
 obtain⟨t0,tz0⟩:=B8.at_ (k:=0) (v:=.int .i64 now) rfl
 obtain⟨t1,tz1⟩:=B8.at_ (k:=1) (v:=.slice A1 n1 c1) rfl
 obtain⟨t2,tz2⟩:=B8.at_ (k:=2) (v:=.slice (some ⟨b,off,none⟩) n2 c2) rfl
 obtain⟨t3,tz3⟩:=B8.at_ (k:=3) (v:=.slice A3 n3 c3) rfl
 obtain⟨t4,tz4⟩:=B8.at_ (k:=4) (v:=.slice A4 n4 c4) rfl
 obtain⟨t5,tz5⟩:=B8.at_ (k:=5) (v:=.int .i64 11) rfl
 obtain⟨u0,uz0⟩:=A8.at_ (k:=0) (v:=.int .i64 nowB) rfl
 obtain⟨u1,uz1⟩:=A8.at_ (k:=1) (v:=.slice A1B n1B c1B) rfl
 obtain⟨u2,uz2⟩:=A8.at_ (k:=2) (v:=.slice A2B n2B c2B) rfl
 obtain⟨u3,uz3⟩:=A8.at_ (k:=3) (v:=.slice A3B n3B c3B) rfl
 obtain⟨u4,uz4⟩:=A8.at_ (k:=4) (v:=.slice A4B n4B c4B) rfl
 obtain⟨u5,uz5⟩:=A8.at_ (k:=5) (v:=.int .i64 stopB) rfl
 have WI2:=hid (WI.gr g8)
 have MI:=hid ((M6.out.gr g7).gr g8).is
 have cE2:=hid (rWSame_is MI.out WI2.out (v:=true) (by simp))
 go_wp2_with fail
 with_reducible refine cE2.out.mono ?_
 rintro e w9 ⟨rfl,g9⟩
 go_wp2_with fail
 go_ret
 exact⟨rfl,((G6.out.trans g7).trans g8).trans g9⟩
theorem still_low (hM:Mach) (hg:P15.Glob w) (h:WIs w r ω) (hw:B64 who) (hd:B64 d) (hright:RightW (cutW ω)) (h0:who<0) :
 Calls Tryz.prog 8 #[r.v,.int .i64 who,.int .i64 d] w λ e w'=>e=.returned (.bool true)/\Gr w w':=by
 obtain⟨D,hD⟩:∃ D,IntKind.u64.wrap d=D:=⟨_,rfl⟩
 obtain⟨dd,hddd⟩:∃ dd,D % 1152921504606846976=dd:=⟨_,rfl⟩
 have D0:0<=D:=by rw [<- hD,IntKind.wrap_u64];omega
 have D1:D<18446744073709551616:=by rw [<- hD,IntKind.wrap_u64];omega
 have e3:D.tmod 1152921504606846976=dd:=by rw [Int.tmod_eq_emod_of_nonneg D0,hddd]
 have dd0:0<=dd:=by omega
 have dd1:dd<1152921504606846976:=by omega
 have hdd:B64 dd:=⟨by omega,by omega⟩
 have htim:Tim dd:=⟨by omega,by omega⟩
 clear hddd
 have hK0:w.heap.size<(w.alloc (.cells r.a 29)).heap.size:=by rw [World.size_alloc];omega
 have cC:=hid (cut_is (w:=w.alloc (.cells r.a 29)) h ((Gr.refl w).al _))
 have B0:=Blk.new w r.a 29
 have HB0:=hid B0
 clear B0
 go_enter Tryz.func8,Tryz.ntmps8
 go_wp2_with fail
 with_reducible refine cC.out.mono ?_
 rintro e w1 ⟨⟨s,rfl,hW⟩,g1⟩
 obtain⟨now,⟨A1,n1,c1⟩,⟨A2,n2,c2⟩,⟨A3,n3,c3⟩,⟨A4,n4,c4⟩,stop⟩:=s
 have B1:=HB0.out.gr g1
 have G1:=((Gr.refl w).al (.cells r.a 29)).trans g1
 have lt1:=B1.lt
 obtain⟨a0,az0⟩:=B1.at_ (k:=0) (v:=.int .i64 r.now) rfl
 obtain⟨a1,az1⟩:=B1.at_ (k:=1) (v:=.slice r.p.A r.p.n r.p.c) rfl
 obtain⟨a2,az2⟩:=B1.at_ (k:=2) (v:=.slice r.c.A r.c.n r.c.c) rfl
 obtain⟨a3,az3⟩:=B1.at_ (k:=3) (v:=.slice r.m.A r.m.n r.m.c) rfl
 obtain⟨a4,az4⟩:=B1.at_ (k:=4) (v:=.slice r.t.A r.t.n r.t.c) rfl
 obtain⟨a5,az5⟩:=B1.at_ (k:=5) (v:=.int .i64 r.stop) rfl
 have B2:=put6_blk B1 rfl (.int .i64 now) (.slice A1 n1 c1) (.slice A2 n2 c2) (.slice A3 n3 c3) (.slice A4 n4 c4) (.int .i64 stop)
 have G2:=hid (put6_gr (x0:=.int .i64 now) (x1:=.slice A1 n1 c1) (x2:=.slice A2 n2 c2) (x3:=.slice A3 n3 c3) (x4:=.slice A4 n4 c4) (x5:=.int .i64 stop) (b:=w.heap.size) G1 (Nat.le_refl _))
 have W2:=hid (hW.to (FromB.put6 (b:=w.heap.size) hK0 (.int .i64 now) (.slice A1 n1 c1) (.slice A2 n2 c2) (.slice A3 n3 c3) (.slice A4 n4 c4) (.int .i64 stop)))
 clear hW g1 cC B1 G1 HB0
 go_upto_region 2 with fail
 clear a0 az0 a1 az1 a2 az2 a3 az3 a4 az4 a5 az5
 generalize (((((w1.setCell ⟨w.heap.size,0,none⟩ (.int .i64 now)).setCell ⟨w.heap.size,1,none⟩ (.slice A1 n1 c1)).setCell ⟨w.heap.size,2,none⟩ (.slice A2 n2 c2)).setCell ⟨w.heap.size,3,none⟩ (.slice A3 n3 c3)).setCell ⟨w.heap.size,4,none⟩ (.slice A4 n4 c4)).setCell ⟨w.heap.size,5,none⟩ (.int .i64 stop)=V1 at B2 G2 W2 ⊢
 have lt2:=B2.lt
 clear lt1
 obtain⟨b0,bz0⟩:=B2.at_ (k:=0) (v:=.int .i64 now) rfl
 obtain⟨b1,bz1⟩:=B2.at_ (k:=1) (v:=.slice A1 n1 c1) rfl
 obtain⟨b2,bz2⟩:=B2.at_ (k:=2) (v:=.slice A2 n2 c2) rfl
 obtain⟨b3,bz3⟩:=B2.at_ (k:=3) (v:=.slice A3 n3 c3) rfl
 obtain⟨b4,bz4⟩:=B2.at_ (k:=4) (v:=.slice A4 n4 c4) rfl
 obtain⟨b5,bz5⟩:=B2.at_ (k:=5) (v:=.int .i64 stop) rfl
 have WI:=hid (W2.out.is G2.out)
 have cS:=hid (hM.step V1 _ _ who (hg.gr G2.out) WI.out hw)
 go_wp2_with fail
 with_reducible refine cS.out.mono ?_
 rintro e w2 ⟨⟨s,ψ,A,n,c,ev,x,rfl,hS,hW,hE,hnc,hcm⟩,g3⟩
 obtain⟨nowN,⟨A1N,n1N,c1N⟩,⟨A2N,n2N,c2N⟩,⟨A3N,n3N,c3N⟩,⟨A4N,n4N,c4N⟩,stopN⟩:=s
 have BN:=Blk.new w2 #[.int .i64 nowN,.slice A1N n1N c1N,.slice A2N n2N c2N,.slice A3N n3N c3N,.slice A4N n4N c4N,.int .i64 stopN] 29
 have B3:=(B2.gr g3).al (.cells #[.int .i64 nowN,.slice A1N n1N c1N,.slice A2N n2N c2N,.slice A3N n3N c3N,.slice A4N n4N c4N,.int .i64 stopN] 29)
 have G3:=hid ((G2.out.trans g3).al (.cells #[.int .i64 nowN,.slice A1N n1N c1N,.slice A2N n2N c2N,.slice A3N n3N c3N,.slice A4N n4N c4N,.int .i64 stopN] 29))
 have W3:=hid ((W2.out.gr g3).gr ((Gr.refl w2).al (.cells #[.int .i64 nowN,.slice A1N n1N c1N,.slice A2N n2N c2N,.slice A3N n3N c3N,.slice A4N n4N c4N,.int .i64 stopN] 29)))
 have N3:=hid (hW.gr ((Gr.refl w2).al (.cells #[.int .i64 nowN,.slice A1N n1N c1N,.slice A2N n2N c2N,.slice A3N n3N c3N,.slice A4N n4N c4N,.int .i64 stopN] 29)))
 have E3:=hid (hE.gr ((Gr.refl w2).al (.cells #[.int .i64 nowN,.slice A1N n1N c1N,.slice A2N n2N c2N,.slice A3N n3N c3N,.slice A4N n4N c4N,.int .i64 stopN] 29)))
 have KN:=g3.size
 clear hW hE g3 cS B2 G2 W2 WI
 go_upto_region 3 with fail
 clear b0 bz0 b1 bz1 b2 bz2 b3 bz3 b4 bz4 b5 bz5
 generalize w2.alloc (.cells #[.int .i64 nowN,.slice A1N n1N c1N,.slice A2N n2N c2N,.slice A3N n3N c3N,.slice A4N n4N c4N,.int .i64 stopN] 29)=V2 at BN B3 G3 W3 N3 E3 ⊢
 generalize w2.heap.size=gn at BN KN ⊢
 clear lt2
 have lt3:=B3.lt
 have ltn:=BN.lt
 obtain⟨rfl,hev⟩:x=0/\(Still (cutW ω) who->ψ=cutW ω/\ev=[]):=by
  rcases hS with ⟨q,_⟩ | ⟨_,_,q1,q2,q3⟩ | ⟨_,q,_,_,_,_,q3⟩
  . exact absurd hright q
  . exact⟨q3,λ _=>⟨q1,q2⟩⟩
  . exact⟨q3,λ q'=>absurd q' q⟩
 clear hS
 obtain⟨rfl,rfl⟩:=hev (.inr (.inl h0))
 obtain rfl:n=0:=(E3.out.is).len.symm
 have WI0:=hid (W3.out.is G3.out)
 have NI0:=hid (N3.out).is
 have cE0:=hid (rWSame_is NI0.out WI0.out (v:=true) (by simp))
 obtain⟨m0,mz0⟩:=B3.at_ (k:=0) (v:=.int .i64 now) rfl
 obtain⟨m1,mz1⟩:=B3.at_ (k:=1) (v:=.slice A1 n1 c1) rfl
 obtain⟨m2,mz2⟩:=B3.at_ (k:=2) (v:=.slice A2 n2 c2) rfl
 obtain⟨m3,mz3⟩:=B3.at_ (k:=3) (v:=.slice A3 n3 c3) rfl
 obtain⟨m4,mz4⟩:=B3.at_ (k:=4) (v:=.slice A4 n4 c4) rfl
 obtain⟨m5,mz5⟩:=B3.at_ (k:=5) (v:=.int .i64 stop) rfl
 obtain⟨v0,vz0⟩:=BN.at_ (k:=0) (v:=.int .i64 nowN) rfl
 obtain⟨v1,vz1⟩:=BN.at_ (k:=1) (v:=.slice A1N n1N c1N) rfl
 obtain⟨v2,vz2⟩:=BN.at_ (k:=2) (v:=.slice A2N n2N c2N) rfl
 obtain⟨v3,vz3⟩:=BN.at_ (k:=3) (v:=.slice A3N n3N c3N) rfl
 obtain⟨v4,vz4⟩:=BN.at_ (k:=4) (v:=.slice A4N n4N c4N) rfl
 obtain⟨v5,vz5⟩:=BN.at_ (k:=5) (v:=.int .i64 stopN) rfl
 go_wp2_with fail
 with_reducible refine cE0.out.mono ?_
 rintro e w3 ⟨rfl,g0⟩
 clear m0 mz0 m1 mz1 m2 mz2 m3 mz3 m4 mz4 m5 mz5
 clear v0 vz0 v1 vz1 v2 vz2 v3 vz3 v4 vz4 v5 vz5
 have B3':=B3.gr g0
 have G3':=hid (G3.out.trans g0)
 have W3':=hid (W3.out.gr g0)
 clear WI0 NI0 cE0 B3 G3 W3 N3 E3 lt3 ltn BN
 have B3:=B3'
 have G3:=G3'
 have W3:=W3'
 clear B3' G3' W3'
 have lt3:=B3.lt
 obtain⟨m0,mz0⟩:=B3.at_ (k:=0) (v:=.int .i64 now) rfl
 obtain⟨m1,mz1⟩:=B3.at_ (k:=1) (v:=.slice A1 n1 c1) rfl
 obtain⟨m2,mz2⟩:=B3.at_ (k:=2) (v:=.slice A2 n2 c2) rfl
 obtain⟨m3,mz3⟩:=B3.at_ (k:=3) (v:=.slice A3 n3 c3) rfl
 obtain⟨m4,mz4⟩:=B3.at_ (k:=4) (v:=.slice A4 n4 c4) rfl
 obtain⟨m5,mz5⟩:=B3.at_ (k:=5) (v:=.int .i64 stop) rfl
 go_upto_region 8 with fail
 clear m0 mz0 m1 mz1 m2 mz2 m3 mz3 m4 mz4 m5 mz5
 have B4:=(B3.set 5 (.int .i64 11))
 have G4:=hid (G3.out.st (p:=⟨w.heap.size,5,none⟩) (Nat.le_refl _) (.int .i64 11))
 have W4:=hid (W3.out.to (FromB.st (p:=⟨w.heap.size,5,none⟩) hK0 (.int .i64 11)))
 obtain⟨p0,pz0⟩:=B3.at_ (k:=0) (v:=.int .i64 now) rfl
 obtain⟨p1,pz1⟩:=B3.at_ (k:=1) (v:=.slice A1 n1 c1) rfl
 obtain⟨p2,pz2⟩:=B3.at_ (k:=2) (v:=.slice A2 n2 c2) rfl
 obtain⟨p3,pz3⟩:=B3.at_ (k:=3) (v:=.slice A3 n3 c3) rfl
 obtain⟨p4,pz4⟩:=B3.at_ (k:=4) (v:=.slice A4 n4 c4) rfl
 obtain⟨p5,pz5⟩:=B3.at_ (k:=5) (v:=.int .i64 stop) rfl
 clear B3 G3 W3
 go_upto_region 9 with fail
 clear p0 pz0 p1 pz1 p2 pz2 p3 pz3 p4 pz4 p5 pz5
 generalize w3.setCell ⟨w.heap.size,5,none⟩ (.int .i64 11)=V4 at B4 G4 W4 ⊢
 have lt4:=B4.lt
 obtain⟨q0,qz0⟩:=B4.at_ (k:=0) (v:=.int .i64 now) rfl
 obtain⟨q1,qz1⟩:=B4.at_ (k:=1) (v:=.slice A1 n1 c1) rfl
 obtain⟨q2,qz2⟩:=B4.at_ (k:=2) (v:=.slice A2 n2 c2) rfl
 obtain⟨q3,qz3⟩:=B4.at_ (k:=3) (v:=.slice A3 n3 c3) rfl
 obtain⟨q4,qz4⟩:=B4.at_ (k:=4) (v:=.slice A4 n4 c4) rfl
 obtain⟨q5,qz5⟩:=B4.at_ (k:=5) (v:=.int .i64 11) rfl
 have WI:=hid ((W4.out.is G4.out).stopped)
 have RT:=hid hright.stopped
 have cS:=hid (hM.step V4 _ _ _ (hg.gr G4.out) WI.out hw)
 go_wp2_with fail
 with_reducible refine cS.out.mono ?_
 rintro e w5 ⟨⟨s,ψ5,A5,n5,c5,ev5,x5,rfl,hS5,hW5,hE5,-,-⟩,g5⟩
 obtain⟨nowA,⟨A1A,n1A,c1A⟩,⟨A2A,n2A,c2A⟩,⟨A3A,n3A,c3A⟩,⟨A4A,n4A,c4A⟩,stopA⟩:=s
 obtain⟨rfl,rfl,rfl⟩:ψ5={ cutW ω with stop:=11 }/\ev5=[]/\x5=0:=by
  rcases hS5 with ⟨q,_⟩ | ⟨_,_,q⟩ | ⟨_,q,_⟩
  . exact absurd RT.out q
  . exact q
  . exact absurd (.inl (by show (11:Int)≠0;decide)) q
 obtain rfl:n5=0:=hE5.is.len.symm
 have BA:=Blk.new w5 #[.int .i64 nowA,.slice A1A n1A c1A,.slice A2A n2A c2A,.slice A3A n3A c3A,.slice A4A n4A c4A,.int .i64 stopA] 29
 have B5:=(B4.gr g5).al (.cells #[.int .i64 nowA,.slice A1A n1A c1A,.slice A2A n2A c2A,.slice A3A n3A c3A,.slice A4A n4A c4A,.int .i64 stopA] 29)
 have G5:=hid ((G4.out.trans g5).al (.cells #[.int .i64 nowA,.slice A1A n1A c1A,.slice A2A n2A c2A,.slice A3A n3A c3A,.slice A4A n4A c4A,.int .i64 stopA] 29))
 have W5:=hid ((W4.out.gr g5).gr ((Gr.refl w5).al (.cells #[.int .i64 nowA,.slice A1A n1A c1A,.slice A2A n2A c2A,.slice A3A n3A c3A,.slice A4A n4A c4A,.int .i64 stopA] 29)))
 have N5:=hid (hW5.gr ((Gr.refl w5).al (.cells #[.int .i64 nowA,.slice A1A n1A c1A,.slice A2A n2A c2A,.slice A3A n3A c3A,.slice A4A n4A c4A,.int .i64 stopA] 29)))
 clear hW5 hE5 g5 cS B4 G4 W4 WI
 go_upto_region 10 with fail
 clear q0 qz0 q1 qz1 q2 qz2 q3 qz3 q4 qz4 q5 qz5
 generalize w5.alloc (.cells #[.int .i64 nowA,.slice A1A n1A c1A,.slice A2A n2A c2A,.slice A3A n3A c3A,.slice A4A n4A c4A,.int .i64 stopA] 29)=V5 at BA B5 G5 W5 N5 ⊢
 generalize w5.heap.size=ga at BA ⊢
 clear lt4
 have lt5:=B5.lt
 have lta:=BA.lt
 obtain⟨s0,sz0⟩:=B5.at_ (k:=0) (v:=.int .i64 now) rfl
 obtain⟨s1,sz1⟩:=B5.at_ (k:=1) (v:=.slice A1 n1 c1) rfl
 obtain⟨s2,sz2⟩:=B5.at_ (k:=2) (v:=.slice A2 n2 c2) rfl
 obtain⟨s3,sz3⟩:=B5.at_ (k:=3) (v:=.slice A3 n3 c3) rfl
 obtain⟨s4,sz4⟩:=B5.at_ (k:=4) (v:=.slice A4 n4 c4) rfl
 obtain⟨s5,sz5⟩:=B5.at_ (k:=5) (v:=.int .i64 11) rfl
 have WI:=hid ((W5.out.is G5.out).stopped)
 have cT:=hid (hM.tick V5 _ _ dd (hg.gr G5.out) WI.out hdd)
 go_wp2_with fail
 with_reducible refine cT.out.mono ?_
 rintro e w6 ⟨⟨s,ψ6,x6,rfl,hT6,hW6⟩,g6⟩
 obtain⟨nowB,⟨A1B,n1B,c1B⟩,⟨A2B,n2B,c2B⟩,⟨A3B,n3B,c3B⟩,⟨A4B,n4B,c4B⟩,stopB⟩:=s
 obtain⟨rfl,rfl⟩:ψ6={ cutW ω with stop:=11 }/\x6=0:=by
  rcases hT6 with ⟨q,_⟩ | ⟨_,_,_,q⟩ | ⟨_,_,q,_⟩ | ⟨_,_,q,_⟩
  . exact absurd ⟨RT.out,htim⟩ q
  . exact q
  . exact absurd q (by show ¬ (11:Int)=0;decide)
  . exact absurd q (by show ¬ (11:Int)=0;decide)
 have BB:=Blk.new w6 #[.int .i64 nowB,.slice A1B n1B c1B,.slice A2B n2B c2B,.slice A3B n3B c3B,.slice A4B n4B c4B,.int .i64 stopB] 29
 have B6:=(B5.gr g6).al (.cells #[.int .i64 nowB,.slice A1B n1B c1B,.slice A2B n2B c2B,.slice A3B n3B c3B,.slice A4B n4B c4B,.int .i64 stopB] 29)
 have A6:=(BA.gr g6).al (.cells #[.int .i64 nowB,.slice A1B n1B c1B,.slice A2B n2B c2B,.slice A3B n3B c3B,.slice A4B n4B c4B,.int .i64 stopB] 29)
 have G6:=hid ((G5.out.trans g6).al (.cells #[.int .i64 nowB,.slice A1B n1B c1B,.slice A2B n2B c2B,.slice A3B n3B c3B,.slice A4B n4B c4B,.int .i64 stopB] 29))
 have W6:=hid ((W5.out.gr g6).gr ((Gr.refl w6).al (.cells #[.int .i64 nowB,.slice A1B n1B c1B,.slice A2B n2B c2B,.slice A3B n3B c3B,.slice A4B n4B c4B,.int .i64 stopB] 29)))
 have N6:=hid ((N5.out.gr g6).gr ((Gr.refl w6).al (.cells #[.int .i64 nowB,.slice A1B n1B c1B,.slice A2B n2B c2B,.slice A3B n3B c3B,.slice A4B n4B c4B,.int .i64 stopB] 29)))
 have M6:=hid (hW6.gr ((Gr.refl w6).al (.cells #[.int .i64 nowB,.slice A1B n1B c1B,.slice A2B n2B c2B,.slice A3B n3B c3B,.slice A4B n4B c4B,.int .i64 stopB] 29)))
 clear hW6 g6 cT B5 BA G5 W5 N5 WI
 go_upto_region 11 with fail
 clear s0 sz0 s1 sz1 s2 sz2 s3 sz3 s4 sz4 s5 sz5
 generalize w6.alloc (.cells #[.int .i64 nowB,.slice A1B n1B c1B,.slice A2B n2B c2B,.slice A3B n3B c3B,.slice A4B n4B c4B,.int .i64 stopB] 29)=V6 at BB B6 A6 G6 W6 N6 M6 ⊢
 generalize w6.heap.size=gb at BB ⊢
 clear lt5 lta
 have cA:=hid (alive_is (w:=V6) hM (hg.gr G6.out))
 go_wp2_with fail
 with_reducible refine cA.out.mono ?_
 rintro e w7 ⟨rfl,g7⟩
 have B7:=B6.gr g7
 have A7:=A6.gr g7
 have lt7:=B7.lt
 have lta:=A7.lt
 obtain⟨t0,tz0⟩:=B7.at_ (k:=0) (v:=.int .i64 now) rfl
 obtain⟨t1,tz1⟩:=B7.at_ (k:=1) (v:=.slice A1 n1 c1) rfl
 obtain⟨t2,tz2⟩:=B7.at_ (k:=2) (v:=.slice A2 n2 c2) rfl
 obtain⟨t3,tz3⟩:=B7.at_ (k:=3) (v:=.slice A3 n3 c3) rfl
 obtain⟨t4,tz4⟩:=B7.at_ (k:=4) (v:=.slice A4 n4 c4) rfl
 obtain⟨t5,tz5⟩:=B7.at_ (k:=5) (v:=.int .i64 11) rfl
 obtain⟨u0,uz0⟩:=A7.at_ (k:=0) (v:=.int .i64 nowA) rfl
 obtain⟨u1,uz1⟩:=A7.at_ (k:=1) (v:=.slice A1A n1A c1A) rfl
 obtain⟨u2,uz2⟩:=A7.at_ (k:=2) (v:=.slice A2A n2A c2A) rfl
 obtain⟨u3,uz3⟩:=A7.at_ (k:=3) (v:=.slice A3A n3A c3A) rfl
 obtain⟨u4,uz4⟩:=A7.at_ (k:=4) (v:=.slice A4A n4A c4A) rfl
 obtain⟨u5,uz5⟩:=A7.at_ (k:=5) (v:=.int .i64 stopA) rfl
 have WI:=hid ((W6.out.gr g7).is (G6.out.trans g7)).stopped
 have NI:=hid (N6.out.gr g7).is
 have cE:=hid (rWSame_is NI.out WI (v:=true) (by simp))
 go_wp2_with fail
 with_reducible refine cE.out.mono ?_
 rintro e w8 ⟨rfl,g8⟩
 clear t0 tz0 t1 tz1 t2 tz2 t3 tz3 t4 tz4 t5 tz5
 clear u0 uz0 u1 uz1 u2 uz2 u3 uz3 u4 uz4 u5 uz5
 clear lt7 lta
 have B8:=B7.gr g8
 have A8:=(BB.gr g7).gr g8
 have lt8:=B8.lt
 have ltb:=A8.lt
 obtain⟨t0,tz0⟩:=B8.at_ (k:=0) (v:=.int .i64 now) rfl
 obtain⟨t1,tz1⟩:=B8.at_ (k:=1) (v:=.slice A1 n1 c1) rfl
 obtain⟨t2,tz2⟩:=B8.at_ (k:=2) (v:=.slice A2 n2 c2) rfl
 obtain⟨t3,tz3⟩:=B8.at_ (k:=3) (v:=.slice A3 n3 c3) rfl
 obtain⟨t4,tz4⟩:=B8.at_ (k:=4) (v:=.slice A4 n4 c4) rfl
 obtain⟨t5,tz5⟩:=B8.at_ (k:=5) (v:=.int .i64 11) rfl
 obtain⟨u0,uz0⟩:=A8.at_ (k:=0) (v:=.int .i64 nowB) rfl
 obtain⟨u1,uz1⟩:=A8.at_ (k:=1) (v:=.slice A1B n1B c1B) rfl
 obtain⟨u2,uz2⟩:=A8.at_ (k:=2) (v:=.slice A2B n2B c2B) rfl
 obtain⟨u3,uz3⟩:=A8.at_ (k:=3) (v:=.slice A3B n3B c3B) rfl
 obtain⟨u4,uz4⟩:=A8.at_ (k:=4) (v:=.slice A4B n4B c4B) rfl
 obtain⟨u5,uz5⟩:=A8.at_ (k:=5) (v:=.int .i64 stopB) rfl
 have WI2:=hid (WI.gr g8)
 have MI:=hid ((M6.out.gr g7).gr g8).is
 have cE2:=hid (rWSame_is MI.out WI2.out (v:=true) (by simp))
 go_wp2_with fail
 with_reducible refine cE2.out.mono ?_
 rintro e w9 ⟨rfl,g9⟩
 go_wp2_with fail
 go_ret
 exact⟨rfl,((G6.out.trans g7).trans g8).trans g9⟩
theorem still_high (hM:Mach) (hg:P15.Glob w) (h:WIs w r ω) (hw:B64 who) (hd:B64 d) (hright:RightW (cutW ω)) (h0:0<=who) (h1:((cutW ω).cl.length:Int)<=who) :
 Calls Tryz.prog 8 #[r.v,.int .i64 who,.int .i64 d] w λ e w'=>e=.returned (.bool true)/\Gr w w':=by
 obtain⟨D,hD⟩:∃ D,IntKind.u64.wrap d=D:=⟨_,rfl⟩
 obtain⟨dd,hddd⟩:∃ dd,D % 1152921504606846976=dd:=⟨_,rfl⟩
 have D0:0<=D:=by rw [<- hD,IntKind.wrap_u64];omega
 have D1:D<18446744073709551616:=by rw [<- hD,IntKind.wrap_u64];omega
 have e3:D.tmod 1152921504606846976=dd:=by rw [Int.tmod_eq_emod_of_nonneg D0,hddd]
 have dd0:0<=dd:=by omega
 have dd1:dd<1152921504606846976:=by omega
 have hdd:B64 dd:=⟨by omega,by omega⟩
 have htim:Tim dd:=⟨by omega,by omega⟩
 clear hddd
 have hK0:w.heap.size<(w.alloc (.cells r.a 29)).heap.size:=by rw [World.size_alloc];omega
 have cC:=hid (cut_is (w:=w.alloc (.cells r.a 29)) h ((Gr.refl w).al _))
 have B0:=Blk.new w r.a 29
 have HB0:=hid B0
 clear B0
 go_enter Tryz.func8,Tryz.ntmps8
 go_wp2_with fail
 with_reducible refine cC.out.mono ?_
 rintro e w1 ⟨⟨s,rfl,hW⟩,g1⟩
 obtain⟨now,⟨A1,n1,c1⟩,⟨A2,n2,c2⟩,⟨A3,n3,c3⟩,⟨A4,n4,c4⟩,stop⟩:=s
 have B1:=HB0.out.gr g1
 have G1:=((Gr.refl w).al (.cells r.a 29)).trans g1
 have lt1:=B1.lt
 obtain⟨a0,az0⟩:=B1.at_ (k:=0) (v:=.int .i64 r.now) rfl
 obtain⟨a1,az1⟩:=B1.at_ (k:=1) (v:=.slice r.p.A r.p.n r.p.c) rfl
 obtain⟨a2,az2⟩:=B1.at_ (k:=2) (v:=.slice r.c.A r.c.n r.c.c) rfl
 obtain⟨a3,az3⟩:=B1.at_ (k:=3) (v:=.slice r.m.A r.m.n r.m.c) rfl
 obtain⟨a4,az4⟩:=B1.at_ (k:=4) (v:=.slice r.t.A r.t.n r.t.c) rfl
 obtain⟨a5,az5⟩:=B1.at_ (k:=5) (v:=.int .i64 r.stop) rfl
 have B2:=put6_blk B1 rfl (.int .i64 now) (.slice A1 n1 c1) (.slice A2 n2 c2) (.slice A3 n3 c3) (.slice A4 n4 c4) (.int .i64 stop)
 have G2:=hid (put6_gr (x0:=.int .i64 now) (x1:=.slice A1 n1 c1) (x2:=.slice A2 n2 c2) (x3:=.slice A3 n3 c3) (x4:=.slice A4 n4 c4) (x5:=.int .i64 stop) (b:=w.heap.size) G1 (Nat.le_refl _))
 have W2:=hid (hW.to (FromB.put6 (b:=w.heap.size) hK0 (.int .i64 now) (.slice A1 n1 c1) (.slice A2 n2 c2) (.slice A3 n3 c3) (.slice A4 n4 c4) (.int .i64 stop)))
 clear hW g1 cC B1 G1 HB0
 go_upto_region 2 with fail
 clear a0 az0 a1 az1 a2 az2 a3 az3 a4 az4 a5 az5
 generalize (((((w1.setCell ⟨w.heap.size,0,none⟩ (.int .i64 now)).setCell ⟨w.heap.size,1,none⟩ (.slice A1 n1 c1)).setCell ⟨w.heap.size,2,none⟩ (.slice A2 n2 c2)).setCell ⟨w.heap.size,3,none⟩ (.slice A3 n3 c3)).setCell ⟨w.heap.size,4,none⟩ (.slice A4 n4 c4)).setCell ⟨w.heap.size,5,none⟩ (.int .i64 stop)=V1 at B2 G2 W2 ⊢
 have lt2:=B2.lt
 clear lt1
 obtain⟨b0,bz0⟩:=B2.at_ (k:=0) (v:=.int .i64 now) rfl
 obtain⟨b1,bz1⟩:=B2.at_ (k:=1) (v:=.slice A1 n1 c1) rfl
 obtain⟨b2,bz2⟩:=B2.at_ (k:=2) (v:=.slice A2 n2 c2) rfl
 obtain⟨b3,bz3⟩:=B2.at_ (k:=3) (v:=.slice A3 n3 c3) rfl
 obtain⟨b4,bz4⟩:=B2.at_ (k:=4) (v:=.slice A4 n4 c4) rfl
 obtain⟨b5,bz5⟩:=B2.at_ (k:=5) (v:=.int .i64 stop) rfl
 have WI:=hid (W2.out.is G2.out)
 have cS:=hid (hM.step V1 _ _ who (hg.gr G2.out) WI.out hw)
 go_wp2_with fail
 with_reducible refine cS.out.mono ?_
 rintro e w2 ⟨⟨s,ψ,A,n,c,ev,x,rfl,hS,hW,hE,hnc,hcm⟩,g3⟩
 obtain⟨nowN,⟨A1N,n1N,c1N⟩,⟨A2N,n2N,c2N⟩,⟨A3N,n3N,c3N⟩,⟨A4N,n4N,c4N⟩,stopN⟩:=s
 have BN:=Blk.new w2 #[.int .i64 nowN,.slice A1N n1N c1N,.slice A2N n2N c2N,.slice A3N n3N c3N,.slice A4N n4N c4N,.int .i64 stopN] 29
 have B3:=(B2.gr g3).al (.cells #[.int .i64 nowN,.slice A1N n1N c1N,.slice A2N n2N c2N,.slice A3N n3N c3N,.slice A4N n4N c4N,.int .i64 stopN] 29)
 have G3:=hid ((G2.out.trans g3).al (.cells #[.int .i64 nowN,.slice A1N n1N c1N,.slice A2N n2N c2N,.slice A3N n3N c3N,.slice A4N n4N c4N,.int .i64 stopN] 29))
 have W3:=hid ((W2.out.gr g3).gr ((Gr.refl w2).al (.cells #[.int .i64 nowN,.slice A1N n1N c1N,.slice A2N n2N c2N,.slice A3N n3N c3N,.slice A4N n4N c4N,.int .i64 stopN] 29)))
 have N3:=hid (hW.gr ((Gr.refl w2).al (.cells #[.int .i64 nowN,.slice A1N n1N c1N,.slice A2N n2N c2N,.slice A3N n3N c3N,.slice A4N n4N c4N,.int .i64 stopN] 29)))
 have E3:=hid (hE.gr ((Gr.refl w2).al (.cells #[.int .i64 nowN,.slice A1N n1N c1N,.slice A2N n2N c2N,.slice A3N n3N c3N,.slice A4N n4N c4N,.int .i64 stopN] 29)))
 have KN:=g3.size
 clear hW hE g3 cS B2 G2 W2 WI
 go_upto_region 3 with fail
 clear b0 bz0 b1 bz1 b2 bz2 b3 bz3 b4 bz4 b5 bz5
 generalize w2.alloc (.cells #[.int .i64 nowN,.slice A1N n1N c1N,.slice A2N n2N c2N,.slice A3N n3N c3N,.slice A4N n4N c4N,.int .i64 stopN] 29)=V2 at BN B3 G3 W3 N3 E3 ⊢
 generalize w2.heap.size=gn at BN KN ⊢
 clear lt2
 have lt3:=B3.lt
 have ltn:=BN.lt
 obtain⟨rfl,hev⟩:x=0/\(Still (cutW ω) who->ψ=cutW ω/\ev=[]):=by
  rcases hS with ⟨q,_⟩ | ⟨_,_,q1,q2,q3⟩ | ⟨_,q,_,_,_,_,q3⟩
  . exact absurd hright q
  . exact⟨q3,λ _=>⟨q1,q2⟩⟩
  . exact⟨q3,λ q'=>absurd q' q⟩
 clear hS
 obtain⟨rfl,rfl⟩:=hev (.inr (.inr (.inl h1)))
 obtain rfl:n=0:=(E3.out.is).len.symm
 have hl:(cutW ω).cl.length=n2:=(W3.out.is G3.out).c.len
 have h2:(n2:Int)<=who:=by omega
 have h3:¬ who<0:=by omega
 clear h1 hl
 have WI0:=hid (W3.out.is G3.out)
 have NI0:=hid (N3.out).is
 have cE0:=hid (rWSame_is NI0.out WI0.out (v:=true) (by simp))
 obtain⟨m0,mz0⟩:=B3.at_ (k:=0) (v:=.int .i64 now) rfl
 obtain⟨m1,mz1⟩:=B3.at_ (k:=1) (v:=.slice A1 n1 c1) rfl
 obtain⟨m2,mz2⟩:=B3.at_ (k:=2) (v:=.slice A2 n2 c2) rfl
 obtain⟨m3,mz3⟩:=B3.at_ (k:=3) (v:=.slice A3 n3 c3) rfl
 obtain⟨m4,mz4⟩:=B3.at_ (k:=4) (v:=.slice A4 n4 c4) rfl
 obtain⟨m5,mz5⟩:=B3.at_ (k:=5) (v:=.int .i64 stop) rfl
 obtain⟨v0,vz0⟩:=BN.at_ (k:=0) (v:=.int .i64 nowN) rfl
 obtain⟨v1,vz1⟩:=BN.at_ (k:=1) (v:=.slice A1N n1N c1N) rfl
 obtain⟨v2,vz2⟩:=BN.at_ (k:=2) (v:=.slice A2N n2N c2N) rfl
 obtain⟨v3,vz3⟩:=BN.at_ (k:=3) (v:=.slice A3N n3N c3N) rfl
 obtain⟨v4,vz4⟩:=BN.at_ (k:=4) (v:=.slice A4N n4N c4N) rfl
 obtain⟨v5,vz5⟩:=BN.at_ (k:=5) (v:=.int .i64 stopN) rfl
 go_wp2_with fail
 with_reducible refine cE0.out.mono ?_
 rintro e w3 ⟨rfl,g0⟩
 clear m0 mz0 m1 mz1 m2 mz2 m3 mz3 m4 mz4 m5 mz5
 clear v0 vz0 v1 vz1 v2 vz2 v3 vz3 v4 vz4 v5 vz5
 have B3':=B3.gr g0
 have G3':=hid (G3.out.trans g0)
 have W3':=hid (W3.out.gr g0)
 clear WI0 NI0 cE0 B3 G3 W3 N3 E3 lt3 ltn BN
 have B3:=B3'
 have G3:=G3'
 have W3:=W3'
 clear B3' G3' W3'
 have lt3:=B3.lt
 obtain⟨m0,mz0⟩:=B3.at_ (k:=0) (v:=.int .i64 now) rfl
 obtain⟨m1,mz1⟩:=B3.at_ (k:=1) (v:=.slice A1 n1 c1) rfl
 obtain⟨m2,mz2⟩:=B3.at_ (k:=2) (v:=.slice A2 n2 c2) rfl
 obtain⟨m3,mz3⟩:=B3.at_ (k:=3) (v:=.slice A3 n3 c3) rfl
 obtain⟨m4,mz4⟩:=B3.at_ (k:=4) (v:=.slice A4 n4 c4) rfl
 obtain⟨m5,mz5⟩:=B3.at_ (k:=5) (v:=.int .i64 stop) rfl
 go_upto_region 8 with fail
 clear m0 mz0 m1 mz1 m2 mz2 m3 mz3 m4 mz4 m5 mz5
 have B4:=(B3.set 5 (.int .i64 11))
 have G4:=hid (G3.out.st (p:=⟨w.heap.size,5,none⟩) (Nat.le_refl _) (.int .i64 11))
 have W4:=hid (W3.out.to (FromB.st (p:=⟨w.heap.size,5,none⟩) hK0 (.int .i64 11)))
 obtain⟨p0,pz0⟩:=B3.at_ (k:=0) (v:=.int .i64 now) rfl
 obtain⟨p1,pz1⟩:=B3.at_ (k:=1) (v:=.slice A1 n1 c1) rfl
 obtain⟨p2,pz2⟩:=B3.at_ (k:=2) (v:=.slice A2 n2 c2) rfl
 obtain⟨p3,pz3⟩:=B3.at_ (k:=3) (v:=.slice A3 n3 c3) rfl
 obtain⟨p4,pz4⟩:=B3.at_ (k:=4) (v:=.slice A4 n4 c4) rfl
 obtain⟨p5,pz5⟩:=B3.at_ (k:=5) (v:=.int .i64 stop) rfl
 clear B3 G3 W3
 go_upto_region 9 with fail
 clear p0 pz0 p1 pz1 p2 pz2 p3 pz3 p4 pz4 p5 pz5
 generalize w3.setCell ⟨w.heap.size,5,none⟩ (.int .i64 11)=V4 at B4 G4 W4 ⊢
 have lt4:=B4.lt
 obtain⟨q0,qz0⟩:=B4.at_ (k:=0) (v:=.int .i64 now) rfl
 obtain⟨q1,qz1⟩:=B4.at_ (k:=1) (v:=.slice A1 n1 c1) rfl
 obtain⟨q2,qz2⟩:=B4.at_ (k:=2) (v:=.slice A2 n2 c2) rfl
 obtain⟨q3,qz3⟩:=B4.at_ (k:=3) (v:=.slice A3 n3 c3) rfl
 obtain⟨q4,qz4⟩:=B4.at_ (k:=4) (v:=.slice A4 n4 c4) rfl
 obtain⟨q5,qz5⟩:=B4.at_ (k:=5) (v:=.int .i64 11) rfl
 have WI:=hid ((W4.out.is G4.out).stopped)
 have RT:=hid hright.stopped
 have cS:=hid (hM.step V4 _ _ _ (hg.gr G4.out) WI.out hw)
 go_wp2_with fail
 with_reducible refine cS.out.mono ?_
 rintro e w5 ⟨⟨s,ψ5,A5,n5,c5,ev5,x5,rfl,hS5,hW5,hE5,-,-⟩,g5⟩
 obtain⟨nowA,⟨A1A,n1A,c1A⟩,⟨A2A,n2A,c2A⟩,⟨A3A,n3A,c3A⟩,⟨A4A,n4A,c4A⟩,stopA⟩:=s
 obtain⟨rfl,rfl,rfl⟩:ψ5={ cutW ω with stop:=11 }/\ev5=[]/\x5=0:=by
  rcases hS5 with ⟨q,_⟩ | ⟨_,_,q⟩ | ⟨_,q,_⟩
  . exact absurd RT.out q
  . exact q
  . exact absurd (.inl (by show (11:Int)≠0;decide)) q
 obtain rfl:n5=0:=hE5.is.len.symm
 have BA:=Blk.new w5 #[.int .i64 nowA,.slice A1A n1A c1A,.slice A2A n2A c2A,.slice A3A n3A c3A,.slice A4A n4A c4A,.int .i64 stopA] 29
 have B5:=(B4.gr g5).al (.cells #[.int .i64 nowA,.slice A1A n1A c1A,.slice A2A n2A c2A,.slice A3A n3A c3A,.slice A4A n4A c4A,.int .i64 stopA] 29)
 have G5:=hid ((G4.out.trans g5).al (.cells #[.int .i64 nowA,.slice A1A n1A c1A,.slice A2A n2A c2A,.slice A3A n3A c3A,.slice A4A n4A c4A,.int .i64 stopA] 29))
 have W5:=hid ((W4.out.gr g5).gr ((Gr.refl w5).al (.cells #[.int .i64 nowA,.slice A1A n1A c1A,.slice A2A n2A c2A,.slice A3A n3A c3A,.slice A4A n4A c4A,.int .i64 stopA] 29)))
 have N5:=hid (hW5.gr ((Gr.refl w5).al (.cells #[.int .i64 nowA,.slice A1A n1A c1A,.slice A2A n2A c2A,.slice A3A n3A c3A,.slice A4A n4A c4A,.int .i64 stopA] 29)))
 clear hW5 hE5 g5 cS B4 G4 W4 WI
 go_upto_region 10 with fail
 clear q0 qz0 q1 qz1 q2 qz2 q3 qz3 q4 qz4 q5 qz5
 generalize w5.alloc (.cells #[.int .i64 nowA,.slice A1A n1A c1A,.slice A2A n2A c2A,.slice A3A n3A c3A,.slice A4A n4A c4A,.int .i64 stopA] 29)=V5 at BA B5 G5 W5 N5 ⊢
 generalize w5.heap.size=ga at BA ⊢
 clear lt4
 have lt5:=B5.lt
 have lta:=BA.lt
 obtain⟨s0,sz0⟩:=B5.at_ (k:=0) (v:=.int .i64 now) rfl
 obtain⟨s1,sz1⟩:=B5.at_ (k:=1) (v:=.slice A1 n1 c1) rfl
 obtain⟨s2,sz2⟩:=B5.at_ (k:=2) (v:=.slice A2 n2 c2) rfl
 obtain⟨s3,sz3⟩:=B5.at_ (k:=3) (v:=.slice A3 n3 c3) rfl
 obtain⟨s4,sz4⟩:=B5.at_ (k:=4) (v:=.slice A4 n4 c4) rfl
 obtain⟨s5,sz5⟩:=B5.at_ (k:=5) (v:=.int .i64 11) rfl
 have WI:=hid ((W5.out.is G5.out).stopped)
 have cT:=hid (hM.tick V5 _ _ dd (hg.gr G5.out) WI.out hdd)
 go_wp2_with fail
 with_reducible refine cT.out.mono ?_
 rintro e w6 ⟨⟨s,ψ6,x6,rfl,hT6,hW6⟩,g6⟩
 obtain⟨nowB,⟨A1B,n1B,c1B⟩,⟨A2B,n2B,c2B⟩,⟨A3B,n3B,c3B⟩,⟨A4B,n4B,c4B⟩,stopB⟩:=s
 obtain⟨rfl,rfl⟩:ψ6={ cutW ω with stop:=11 }/\x6=0:=by
  rcases hT6 with ⟨q,_⟩ | ⟨_,_,_,q⟩ | ⟨_,_,q,_⟩ | ⟨_,_,q,_⟩
  . exact absurd ⟨RT.out,htim⟩ q
  . exact q
  . exact absurd q (by show ¬ (11:Int)=0;decide)
  . exact absurd q (by show ¬ (11:Int)=0;decide)
 have BB:=Blk.new w6 #[.int .i64 nowB,.slice A1B n1B c1B,.slice A2B n2B c2B,.slice A3B n3B c3B,.slice A4B n4B c4B,.int .i64 stopB] 29
 have B6:=(B5.gr g6).al (.cells #[.int .i64 nowB,.slice A1B n1B c1B,.slice A2B n2B c2B,.slice A3B n3B c3B,.slice A4B n4B c4B,.int .i64 stopB] 29)
 have A6:=(BA.gr g6).al (.cells #[.int .i64 nowB,.slice A1B n1B c1B,.slice A2B n2B c2B,.slice A3B n3B c3B,.slice A4B n4B c4B,.int .i64 stopB] 29)
 have G6:=hid ((G5.out.trans g6).al (.cells #[.int .i64 nowB,.slice A1B n1B c1B,.slice A2B n2B c2B,.slice A3B n3B c3B,.slice A4B n4B c4B,.int .i64 stopB] 29))
 have W6:=hid ((W5.out.gr g6).gr ((Gr.refl w6).al (.cells #[.int .i64 nowB,.slice A1B n1B c1B,.slice A2B n2B c2B,.slice A3B n3B c3B,.slice A4B n4B c4B,.int .i64 stopB] 29)))
 have N6:=hid ((N5.out.gr g6).gr ((Gr.refl w6).al (.cells #[.int .i64 nowB,.slice A1B n1B c1B,.slice A2B n2B c2B,.slice A3B n3B c3B,.slice A4B n4B c4B,.int .i64 stopB] 29)))
 have M6:=hid (hW6.gr ((Gr.refl w6).al (.cells #[.int .i64 nowB,.slice A1B n1B c1B,.slice A2B n2B c2B,.slice A3B n3B c3B,.slice A4B n4B c4B,.int .i64 stopB] 29)))
 clear hW6 g6 cT B5 BA G5 W5 N5 WI
 go_upto_region 11 with fail
 clear s0 sz0 s1 sz1 s2 sz2 s3 sz3 s4 sz4 s5 sz5
 generalize w6.alloc (.cells #[.int .i64 nowB,.slice A1B n1B c1B,.slice A2B n2B c2B,.slice A3B n3B c3B,.slice A4B n4B c4B,.int .i64 stopB] 29)=V6 at BB B6 A6 G6 W6 N6 M6 ⊢
 generalize w6.heap.size=gb at BB ⊢
 clear lt5 lta
 have cA:=hid (alive_is (w:=V6) hM (hg.gr G6.out))
 go_wp2_with fail
 with_reducible refine cA.out.mono ?_
 rintro e w7 ⟨rfl,g7⟩
 have B7:=B6.gr g7
 have A7:=A6.gr g7
 have lt7:=B7.lt
 have lta:=A7.lt
 obtain⟨t0,tz0⟩:=B7.at_ (k:=0) (v:=.int .i64 now) rfl
 obtain⟨t1,tz1⟩:=B7.at_ (k:=1) (v:=.slice A1 n1 c1) rfl
 obtain⟨t2,tz2⟩:=B7.at_ (k:=2) (v:=.slice A2 n2 c2) rfl
 obtain⟨t3,tz3⟩:=B7.at_ (k:=3) (v:=.slice A3 n3 c3) rfl
 obtain⟨t4,tz4⟩:=B7.at_ (k:=4) (v:=.slice A4 n4 c4) rfl
 obtain⟨t5,tz5⟩:=B7.at_ (k:=5) (v:=.int .i64 11) rfl
 obtain⟨u0,uz0⟩:=A7.at_ (k:=0) (v:=.int .i64 nowA) rfl
 obtain⟨u1,uz1⟩:=A7.at_ (k:=1) (v:=.slice A1A n1A c1A) rfl
 obtain⟨u2,uz2⟩:=A7.at_ (k:=2) (v:=.slice A2A n2A c2A) rfl
 obtain⟨u3,uz3⟩:=A7.at_ (k:=3) (v:=.slice A3A n3A c3A) rfl
 obtain⟨u4,uz4⟩:=A7.at_ (k:=4) (v:=.slice A4A n4A c4A) rfl
 obtain⟨u5,uz5⟩:=A7.at_ (k:=5) (v:=.int .i64 stopA) rfl
 have WI:=hid ((W6.out.gr g7).is (G6.out.trans g7)).stopped
 have NI:=hid (N6.out.gr g7).is
 have cE:=hid (rWSame_is NI.out WI (v:=true) (by simp))
 go_wp2_with fail
 with_reducible refine cE.out.mono ?_
 rintro e w8 ⟨rfl,g8⟩
 clear t0 tz0 t1 tz1 t2 tz2 t3 tz3 t4 tz4 t5 tz5
 clear u0 uz0 u1 uz1 u2 uz2 u3 uz3 u4 uz4 u5 uz5
 clear lt7 lta
 have B8:=B7.gr g8
 have A8:=(BB.gr g7).gr g8
 have lt8:=B8.lt
 have ltb:=A8.lt
 obtain⟨t0,tz0⟩:=B8.at_ (k:=0) (v:=.int .i64 now) rfl
 obtain⟨t1,tz1⟩:=B8.at_ (k:=1) (v:=.slice A1 n1 c1) rfl
 obtain⟨t2,tz2⟩:=B8.at_ (k:=2) (v:=.slice A2 n2 c2) rfl
 obtain⟨t3,tz3⟩:=B8.at_ (k:=3) (v:=.slice A3 n3 c3) rfl
 obtain⟨t4,tz4⟩:=B8.at_ (k:=4) (v:=.slice A4 n4 c4) rfl
 obtain⟨t5,tz5⟩:=B8.at_ (k:=5) (v:=.int .i64 11) rfl
 obtain⟨u0,uz0⟩:=A8.at_ (k:=0) (v:=.int .i64 nowB) rfl
 obtain⟨u1,uz1⟩:=A8.at_ (k:=1) (v:=.slice A1B n1B c1B) rfl
 obtain⟨u2,uz2⟩:=A8.at_ (k:=2) (v:=.slice A2B n2B c2B) rfl
 obtain⟨u3,uz3⟩:=A8.at_ (k:=3) (v:=.slice A3B n3B c3B) rfl
 obtain⟨u4,uz4⟩:=A8.at_ (k:=4) (v:=.slice A4B n4B c4B) rfl
 obtain⟨u5,uz5⟩:=A8.at_ (k:=5) (v:=.int .i64 stopB) rfl
 have WI2:=hid (WI.gr g8)
 have MI:=hid ((M6.out.gr g7).gr g8).is
 have cE2:=hid (rWSame_is MI.out WI2.out (v:=true) (by simp))
 go_wp2_with fail
 with_reducible refine cE2.out.mono ?_
 rintro e w9 ⟨rfl,g9⟩
 go_wp2_with fail
 go_ret
 exact⟨rfl,((G6.out.trans g7).trans g8).trans g9⟩
theorem still_parked (hM:Mach) (hg:P15.Glob w) (h:WIs w r ω) (hw:B64 who) (hd:B64 d) (hright:RightW (cutW ω)) (h0:0<=who) (hgo:∃ c,(cutW ω).cl[who.toNat]?=some c/\c.gst≠0) :
 Calls Tryz.prog 8 #[r.v,.int .i64 who,.int .i64 d] w λ e w'=>e=.returned (.bool true)/\Gr w w':=by
 obtain⟨D,hD⟩:∃ D,IntKind.u64.wrap d=D:=⟨_,rfl⟩
 obtain⟨dd,hddd⟩:∃ dd,D % 1152921504606846976=dd:=⟨_,rfl⟩
 have D0:0<=D:=by rw [<- hD,IntKind.wrap_u64];omega
 have D1:D<18446744073709551616:=by rw [<- hD,IntKind.wrap_u64];omega
 have e3:D.tmod 1152921504606846976=dd:=by rw [Int.tmod_eq_emod_of_nonneg D0,hddd]
 have dd0:0<=dd:=by omega
 have dd1:dd<1152921504606846976:=by omega
 have hdd:B64 dd:=⟨by omega,by omega⟩
 have htim:Tim dd:=⟨by omega,by omega⟩
 clear hddd
 have hK0:w.heap.size<(w.alloc (.cells r.a 29)).heap.size:=by rw [World.size_alloc];omega
 have cC:=hid (cut_is (w:=w.alloc (.cells r.a 29)) h ((Gr.refl w).al _))
 have B0:=Blk.new w r.a 29
 have HB0:=hid B0
 clear B0
 go_enter Tryz.func8,Tryz.ntmps8
 go_wp2_with fail
 with_reducible refine cC.out.mono ?_
 rintro e w1 ⟨⟨s,rfl,hW⟩,g1⟩
 obtain⟨now,⟨A1,n1,c1⟩,⟨A2,n2,c2⟩,⟨A3,n3,c3⟩,⟨A4,n4,c4⟩,stop⟩:=s
 have B1:=HB0.out.gr g1
 have G1:=((Gr.refl w).al (.cells r.a 29)).trans g1
 have lt1:=B1.lt
 obtain⟨a0,az0⟩:=B1.at_ (k:=0) (v:=.int .i64 r.now) rfl
 obtain⟨a1,az1⟩:=B1.at_ (k:=1) (v:=.slice r.p.A r.p.n r.p.c) rfl
 obtain⟨a2,az2⟩:=B1.at_ (k:=2) (v:=.slice r.c.A r.c.n r.c.c) rfl
 obtain⟨a3,az3⟩:=B1.at_ (k:=3) (v:=.slice r.m.A r.m.n r.m.c) rfl
 obtain⟨a4,az4⟩:=B1.at_ (k:=4) (v:=.slice r.t.A r.t.n r.t.c) rfl
 obtain⟨a5,az5⟩:=B1.at_ (k:=5) (v:=.int .i64 r.stop) rfl
 have B2:=put6_blk B1 rfl (.int .i64 now) (.slice A1 n1 c1) (.slice A2 n2 c2) (.slice A3 n3 c3) (.slice A4 n4 c4) (.int .i64 stop)
 have G2:=hid (put6_gr (x0:=.int .i64 now) (x1:=.slice A1 n1 c1) (x2:=.slice A2 n2 c2) (x3:=.slice A3 n3 c3) (x4:=.slice A4 n4 c4) (x5:=.int .i64 stop) (b:=w.heap.size) G1 (Nat.le_refl _))
 have W2:=hid (hW.to (FromB.put6 (b:=w.heap.size) hK0 (.int .i64 now) (.slice A1 n1 c1) (.slice A2 n2 c2) (.slice A3 n3 c3) (.slice A4 n4 c4) (.int .i64 stop)))
 clear hW g1 cC B1 G1 HB0
 go_upto_region 2 with fail
 clear a0 az0 a1 az1 a2 az2 a3 az3 a4 az4 a5 az5
 generalize (((((w1.setCell ⟨w.heap.size,0,none⟩ (.int .i64 now)).setCell ⟨w.heap.size,1,none⟩ (.slice A1 n1 c1)).setCell ⟨w.heap.size,2,none⟩ (.slice A2 n2 c2)).setCell ⟨w.heap.size,3,none⟩ (.slice A3 n3 c3)).setCell ⟨w.heap.size,4,none⟩ (.slice A4 n4 c4)).setCell ⟨w.heap.size,5,none⟩ (.int .i64 stop)=V1 at B2 G2 W2 ⊢
 have lt2:=B2.lt
 clear lt1
 obtain⟨b0,bz0⟩:=B2.at_ (k:=0) (v:=.int .i64 now) rfl
 obtain⟨b1,bz1⟩:=B2.at_ (k:=1) (v:=.slice A1 n1 c1) rfl
 obtain⟨b2,bz2⟩:=B2.at_ (k:=2) (v:=.slice A2 n2 c2) rfl
 obtain⟨b3,bz3⟩:=B2.at_ (k:=3) (v:=.slice A3 n3 c3) rfl
 obtain⟨b4,bz4⟩:=B2.at_ (k:=4) (v:=.slice A4 n4 c4) rfl
 obtain⟨b5,bz5⟩:=B2.at_ (k:=5) (v:=.int .i64 stop) rfl
 have WI:=hid (W2.out.is G2.out)
 have cS:=hid (hM.step V1 _ _ who (hg.gr G2.out) WI.out hw)
 go_wp2_with fail
 with_reducible refine cS.out.mono ?_
 rintro e w2 ⟨⟨s,ψ,A,n,c,ev,x,rfl,hS,hW,hE,hnc,hcm⟩,g3⟩
 obtain⟨nowN,⟨A1N,n1N,c1N⟩,⟨A2N,n2N,c2N⟩,⟨A3N,n3N,c3N⟩,⟨A4N,n4N,c4N⟩,stopN⟩:=s
 have BN:=Blk.new w2 #[.int .i64 nowN,.slice A1N n1N c1N,.slice A2N n2N c2N,.slice A3N n3N c3N,.slice A4N n4N c4N,.int .i64 stopN] 29
 have B3:=(B2.gr g3).al (.cells #[.int .i64 nowN,.slice A1N n1N c1N,.slice A2N n2N c2N,.slice A3N n3N c3N,.slice A4N n4N c4N,.int .i64 stopN] 29)
 have G3:=hid ((G2.out.trans g3).al (.cells #[.int .i64 nowN,.slice A1N n1N c1N,.slice A2N n2N c2N,.slice A3N n3N c3N,.slice A4N n4N c4N,.int .i64 stopN] 29))
 have W3:=hid ((W2.out.gr g3).gr ((Gr.refl w2).al (.cells #[.int .i64 nowN,.slice A1N n1N c1N,.slice A2N n2N c2N,.slice A3N n3N c3N,.slice A4N n4N c4N,.int .i64 stopN] 29)))
 have N3:=hid (hW.gr ((Gr.refl w2).al (.cells #[.int .i64 nowN,.slice A1N n1N c1N,.slice A2N n2N c2N,.slice A3N n3N c3N,.slice A4N n4N c4N,.int .i64 stopN] 29)))
 have E3:=hid (hE.gr ((Gr.refl w2).al (.cells #[.int .i64 nowN,.slice A1N n1N c1N,.slice A2N n2N c2N,.slice A3N n3N c3N,.slice A4N n4N c4N,.int .i64 stopN] 29)))
 have KN:=g3.size
 clear hW hE g3 cS B2 G2 W2 WI
 go_upto_region 3 with fail
 clear b0 bz0 b1 bz1 b2 bz2 b3 bz3 b4 bz4 b5 bz5
 generalize w2.alloc (.cells #[.int .i64 nowN,.slice A1N n1N c1N,.slice A2N n2N c2N,.slice A3N n3N c3N,.slice A4N n4N c4N,.int .i64 stopN] 29)=V2 at BN B3 G3 W3 N3 E3 ⊢
 generalize w2.heap.size=gn at BN KN ⊢
 clear lt2
 have lt3:=B3.lt
 have ltn:=BN.lt
 obtain⟨rfl,hev⟩:x=0/\(Still (cutW ω) who->ψ=cutW ω/\ev=[]):=by
  rcases hS with ⟨q,_⟩ | ⟨_,_,q1,q2,q3⟩ | ⟨_,q,_,_,_,_,q3⟩
  . exact absurd hright q
  . exact⟨q3,λ _=>⟨q1,q2⟩⟩
  . exact⟨q3,λ q'=>absurd q' q⟩
 clear hS
 obtain⟨rfl,rfl⟩:=hev (.inr (.inr (.inr hgo)))
 obtain rfl:n=0:=(E3.out.is).len.symm
 obtain⟨cl,hcl,hgst⟩:=hgo
 obtain⟨k,rfl⟩:∃ k:Nat,who=(k:Int):=⟨who.toNat,by omega⟩
 rw [Int.toNat_natCast] at hcl
 have hc0:CMem V2 A2 n2 (cutW ω).cl:=(W3.out.is G3.out).c
 have hk:k<n2:=by have h1:=hc0.len;have h2:=(List.getElem?_eq_some_iff.1 hcl).1;omega
 have hk1:(k:Int)<(n2:Int):=by omega
 obtain⟨b,off,z,rfl,hb,hz,-,f0,-⟩:=CMem.cells hc0 hk
 rw [hcl] at hz
 cases hz
 have hgz:(cl.gst != 0)=true:=by simpa using hgst
 clear hc0 hcl hgst hk
 have WI0:=hid (W3.out.is G3.out)
 have NI0:=hid (N3.out).is
 have cE0:=hid (rWSame_is NI0.out WI0.out (v:=true) (by simp))
 obtain⟨m0,mz0⟩:=B3.at_ (k:=0) (v:=.int .i64 now) rfl
 obtain⟨m1,mz1⟩:=B3.at_ (k:=1) (v:=.slice A1 n1 c1) rfl
 obtain⟨m2,mz2⟩:=B3.at_ (k:=2) (v:=.slice (some ⟨b,off,none⟩) n2 c2) rfl
 obtain⟨m3,mz3⟩:=B3.at_ (k:=3) (v:=.slice A3 n3 c3) rfl
 obtain⟨m4,mz4⟩:=B3.at_ (k:=4) (v:=.slice A4 n4 c4) rfl
 obtain⟨m5,mz5⟩:=B3.at_ (k:=5) (v:=.int .i64 stop) rfl
 obtain⟨v0,vz0⟩:=BN.at_ (k:=0) (v:=.int .i64 nowN) rfl
 obtain⟨v1,vz1⟩:=BN.at_ (k:=1) (v:=.slice A1N n1N c1N) rfl
 obtain⟨v2,vz2⟩:=BN.at_ (k:=2) (v:=.slice A2N n2N c2N) rfl
 obtain⟨v3,vz3⟩:=BN.at_ (k:=3) (v:=.slice A3N n3N c3N) rfl
 obtain⟨v4,vz4⟩:=BN.at_ (k:=4) (v:=.slice A4N n4N c4N) rfl
 obtain⟨v5,vz5⟩:=BN.at_ (k:=5) (v:=.int .i64 stopN) rfl
 go_wp2_with fail
 with_reducible refine cE0.out.mono ?_
 rintro e w3 ⟨rfl,g0⟩
 clear m0 mz0 m1 mz1 m2 mz2 m3 mz3 m4 mz4 m5 mz5
 clear v0 vz0 v1 vz1 v2 vz2 v3 vz3 v4 vz4 v5 vz5
 have B3':=B3.gr g0
 have G3':=hid (G3.out.trans g0)
 have W3':=hid (W3.out.gr g0)
 clear WI0 NI0 cE0 B3 G3 W3 N3 E3 lt3 ltn BN
 have B3:=B3'
 have G3:=G3'
 have W3:=W3'
 clear B3' G3' W3'
 have lt3:=B3.lt
 obtain⟨m0,mz0⟩:=B3.at_ (k:=0) (v:=.int .i64 now) rfl
 obtain⟨m1,mz1⟩:=B3.at_ (k:=1) (v:=.slice A1 n1 c1) rfl
 obtain⟨m2,mz2⟩:=B3.at_ (k:=2) (v:=.slice (some ⟨b,off,none⟩) n2 c2) rfl
 obtain⟨m3,mz3⟩:=B3.at_ (k:=3) (v:=.slice A3 n3 c3) rfl
 obtain⟨m4,mz4⟩:=B3.at_ (k:=4) (v:=.slice A4 n4 c4) rfl
 obtain⟨m5,mz5⟩:=B3.at_ (k:=5) (v:=.int .i64 stop) rfl
 go_upto_region 8 with fail
 clear m0 mz0 m1 mz1 m2 mz2 m3 mz3 m4 mz4 m5 mz5
 have B4:=(B3.set 5 (.int .i64 11))
 have G4:=hid (G3.out.st (p:=⟨w.heap.size,5,none⟩) (Nat.le_refl _) (.int .i64 11))
 have W4:=hid (W3.out.to (FromB.st (p:=⟨w.heap.size,5,none⟩) hK0 (.int .i64 11)))
 obtain⟨p0,pz0⟩:=B3.at_ (k:=0) (v:=.int .i64 now) rfl
 obtain⟨p1,pz1⟩:=B3.at_ (k:=1) (v:=.slice A1 n1 c1) rfl
 obtain⟨p2,pz2⟩:=B3.at_ (k:=2) (v:=.slice (some ⟨b,off,none⟩) n2 c2) rfl
 obtain⟨p3,pz3⟩:=B3.at_ (k:=3) (v:=.slice A3 n3 c3) rfl
 obtain⟨p4,pz4⟩:=B3.at_ (k:=4) (v:=.slice A4 n4 c4) rfl
 obtain⟨p5,pz5⟩:=B3.at_ (k:=5) (v:=.int .i64 stop) rfl
 clear B3 G3 W3
 go_upto_region 9 with fail
 clear p0 pz0 p1 pz1 p2 pz2 p3 pz3 p4 pz4 p5 pz5
 generalize w3.setCell ⟨w.heap.size,5,none⟩ (.int .i64 11)=V4 at B4 G4 W4 ⊢
 have lt4:=B4.lt
 obtain⟨q0,qz0⟩:=B4.at_ (k:=0) (v:=.int .i64 now) rfl
 obtain⟨q1,qz1⟩:=B4.at_ (k:=1) (v:=.slice A1 n1 c1) rfl
 obtain⟨q2,qz2⟩:=B4.at_ (k:=2) (v:=.slice (some ⟨b,off,none⟩) n2 c2) rfl
 obtain⟨q3,qz3⟩:=B4.at_ (k:=3) (v:=.slice A3 n3 c3) rfl
 obtain⟨q4,qz4⟩:=B4.at_ (k:=4) (v:=.slice A4 n4 c4) rfl
 obtain⟨q5,qz5⟩:=B4.at_ (k:=5) (v:=.int .i64 11) rfl
 have WI:=hid ((W4.out.is G4.out).stopped)
 have RT:=hid hright.stopped
 have cS:=hid (hM.step V4 _ _ _ (hg.gr G4.out) WI.out hw)
 go_wp2_with fail
 with_reducible refine cS.out.mono ?_
 rintro e w5 ⟨⟨s,ψ5,A5,n5,c5,ev5,x5,rfl,hS5,hW5,hE5,-,-⟩,g5⟩
 obtain⟨nowA,⟨A1A,n1A,c1A⟩,⟨A2A,n2A,c2A⟩,⟨A3A,n3A,c3A⟩,⟨A4A,n4A,c4A⟩,stopA⟩:=s
 obtain⟨rfl,rfl,rfl⟩:ψ5={ cutW ω with stop:=11 }/\ev5=[]/\x5=0:=by
  rcases hS5 with ⟨q,_⟩ | ⟨_,_,q⟩ | ⟨_,q,_⟩
  . exact absurd RT.out q
  . exact q
  . exact absurd (.inl (by show (11:Int)≠0;decide)) q
 obtain rfl:n5=0:=hE5.is.len.symm
 have BA:=Blk.new w5 #[.int .i64 nowA,.slice A1A n1A c1A,.slice A2A n2A c2A,.slice A3A n3A c3A,.slice A4A n4A c4A,.int .i64 stopA] 29
 have B5:=(B4.gr g5).al (.cells #[.int .i64 nowA,.slice A1A n1A c1A,.slice A2A n2A c2A,.slice A3A n3A c3A,.slice A4A n4A c4A,.int .i64 stopA] 29)
 have G5:=hid ((G4.out.trans g5).al (.cells #[.int .i64 nowA,.slice A1A n1A c1A,.slice A2A n2A c2A,.slice A3A n3A c3A,.slice A4A n4A c4A,.int .i64 stopA] 29))
 have W5:=hid ((W4.out.gr g5).gr ((Gr.refl w5).al (.cells #[.int .i64 nowA,.slice A1A n1A c1A,.slice A2A n2A c2A,.slice A3A n3A c3A,.slice A4A n4A c4A,.int .i64 stopA] 29)))
 have N5:=hid (hW5.gr ((Gr.refl w5).al (.cells #[.int .i64 nowA,.slice A1A n1A c1A,.slice A2A n2A c2A,.slice A3A n3A c3A,.slice A4A n4A c4A,.int .i64 stopA] 29)))
 clear hW5 hE5 g5 cS B4 G4 W4 WI
 go_upto_region 10 with fail
 clear q0 qz0 q1 qz1 q2 qz2 q3 qz3 q4 qz4 q5 qz5
 generalize w5.alloc (.cells #[.int .i64 nowA,.slice A1A n1A c1A,.slice A2A n2A c2A,.slice A3A n3A c3A,.slice A4A n4A c4A,.int .i64 stopA] 29)=V5 at BA B5 G5 W5 N5 ⊢
 generalize w5.heap.size=ga at BA ⊢
 clear lt4
 have lt5:=B5.lt
 have lta:=BA.lt
 obtain⟨s0,sz0⟩:=B5.at_ (k:=0) (v:=.int .i64 now) rfl
 obtain⟨s1,sz1⟩:=B5.at_ (k:=1) (v:=.slice A1 n1 c1) rfl
 obtain⟨s2,sz2⟩:=B5.at_ (k:=2) (v:=.slice (some ⟨b,off,none⟩) n2 c2) rfl
 obtain⟨s3,sz3⟩:=B5.at_ (k:=3) (v:=.slice A3 n3 c3) rfl
 obtain⟨s4,sz4⟩:=B5.at_ (k:=4) (v:=.slice A4 n4 c4) rfl
 obtain⟨s5,sz5⟩:=B5.at_ (k:=5) (v:=.int .i64 11) rfl
 have WI:=hid ((W5.out.is G5.out).stopped)
 have cT:=hid (hM.tick V5 _ _ dd (hg.gr G5.out) WI.out hdd)
 go_wp2_with fail
 with_reducible refine cT.out.mono ?_
 rintro e w6 ⟨⟨s,ψ6,x6,rfl,hT6,hW6⟩,g6⟩
 obtain⟨nowB,⟨A1B,n1B,c1B⟩,⟨A2B,n2B,c2B⟩,⟨A3B,n3B,c3B⟩,⟨A4B,n4B,c4B⟩,stopB⟩:=s
 obtain⟨rfl,rfl⟩:ψ6={ cutW ω with stop:=11 }/\x6=0:=by
  rcases hT6 with ⟨q,_⟩ | ⟨_,_,_,q⟩ | ⟨_,_,q,_⟩ | ⟨_,_,q,_⟩
  . exact absurd ⟨RT.out,htim⟩ q
  . exact q
  . exact absurd q (by show ¬ (11:Int)=0;decide)
  . exact absurd q (by show ¬ (11:Int)=0;decide)
 have BB:=Blk.new w6 #[.int .i64 nowB,.slice A1B n1B c1B,.slice A2B n2B c2B,.slice A3B n3B c3B,.slice A4B n4B c4B,.int .i64 stopB] 29
 have B6:=(B5.gr g6).al (.cells #[.int .i64 nowB,.slice A1B n1B c1B,.slice A2B n2B c2B,.slice A3B n3B c3B,.slice A4B n4B c4B,.int .i64 stopB] 29)
 have A6:=(BA.gr g6).al (.cells #[.int .i64 nowB,.slice A1B n1B c1B,.slice A2B n2B c2B,.slice A3B n3B c3B,.slice A4B n4B c4B,.int .i64 stopB] 29)
 have G6:=hid ((G5.out.trans g6).al (.cells #[.int .i64 nowB,.slice A1B n1B c1B,.slice A2B n2B c2B,.slice A3B n3B c3B,.slice A4B n4B c4B,.int .i64 stopB] 29))
 have W6:=hid ((W5.out.gr g6).gr ((Gr.refl w6).al (.cells #[.int .i64 nowB,.slice A1B n1B c1B,.slice A2B n2B c2B,.slice A3B n3B c3B,.slice A4B n4B c4B,.int .i64 stopB] 29)))
 have N6:=hid ((N5.out.gr g6).gr ((Gr.refl w6).al (.cells #[.int .i64 nowB,.slice A1B n1B c1B,.slice A2B n2B c2B,.slice A3B n3B c3B,.slice A4B n4B c4B,.int .i64 stopB] 29)))
 have M6:=hid (hW6.gr ((Gr.refl w6).al (.cells #[.int .i64 nowB,.slice A1B n1B c1B,.slice A2B n2B c2B,.slice A3B n3B c3B,.slice A4B n4B c4B,.int .i64 stopB] 29)))
 clear hW6 g6 cT B5 BA G5 W5 N5 WI
 go_upto_region 11 with fail
 clear s0 sz0 s1 sz1 s2 sz2 s3 sz3 s4 sz4 s5 sz5
 generalize w6.alloc (.cells #[.int .i64 nowB,.slice A1B n1B c1B,.slice A2B n2B c2B,.slice A3B n3B c3B,.slice A4B n4B c4B,.int .i64 stopB] 29)=V6 at BB B6 A6 G6 W6 N6 M6 ⊢
 generalize w6.heap.size=gb at BB ⊢
 clear lt5 lta
 have cA:=hid (alive_is (w:=V6) hM (hg.gr G6.out))
 go_wp2_with fail
 with_reducible refine cA.out.mono ?_
 rintro e w7 ⟨rfl,g7⟩
 have B7:=B6.gr g7
 have A7:=A6.gr g7
 have lt7:=B7.lt
 have lta:=A7.lt
 obtain⟨t0,tz0⟩:=B7.at_ (k:=0) (v:=.int .i64 now) rfl
 obtain⟨t1,tz1⟩:=B7.at_ (k:=1) (v:=.slice A1 n1 c1) rfl
 obtain⟨t2,tz2⟩:=B7.at_ (k:=2) (v:=.slice (some ⟨b,off,none⟩) n2 c2) rfl
 obtain⟨t3,tz3⟩:=B7.at_ (k:=3) (v:=.slice A3 n3 c3) rfl
 obtain⟨t4,tz4⟩:=B7.at_ (k:=4) (v:=.slice A4 n4 c4) rfl
 obtain⟨t5,tz5⟩:=B7.at_ (k:=5) (v:=.int .i64 11) rfl
 obtain⟨u0,uz0⟩:=A7.at_ (k:=0) (v:=.int .i64 nowA) rfl
 obtain⟨u1,uz1⟩:=A7.at_ (k:=1) (v:=.slice A1A n1A c1A) rfl
 obtain⟨u2,uz2⟩:=A7.at_ (k:=2) (v:=.slice A2A n2A c2A) rfl
 obtain⟨u3,uz3⟩:=A7.at_ (k:=3) (v:=.slice A3A n3A c3A) rfl
 obtain⟨u4,uz4⟩:=A7.at_ (k:=4) (v:=.slice A4A n4A c4A) rfl
 obtain⟨u5,uz5⟩:=A7.at_ (k:=5) (v:=.int .i64 stopA) rfl
 have WI:=hid ((W6.out.gr g7).is (G6.out.trans g7)).stopped
 have NI:=hid (N6.out.gr g7).is
 have cE:=hid (rWSame_is NI.out WI (v:=true) (by simp))
 go_wp2_with fail
 with_reducible refine cE.out.mono ?_
 rintro e w8 ⟨rfl,g8⟩
 clear t0 tz0 t1 tz1 t2 tz2 t3 tz3 t4 tz4 t5 tz5
 clear u0 uz0 u1 uz1 u2 uz2 u3 uz3 u4 uz4 u5 uz5
 clear lt7 lta
 have B8:=B7.gr g8
 have A8:=(BB.gr g7).gr g8
 have lt8:=B8.lt
 have ltb:=A8.lt
 obtain⟨t0,tz0⟩:=B8.at_ (k:=0) (v:=.int .i64 now) rfl
 obtain⟨t1,tz1⟩:=B8.at_ (k:=1) (v:=.slice A1 n1 c1) rfl
 obtain⟨t2,tz2⟩:=B8.at_ (k:=2) (v:=.slice (some ⟨b,off,none⟩) n2 c2) rfl
 obtain⟨t3,tz3⟩:=B8.at_ (k:=3) (v:=.slice A3 n3 c3) rfl
 obtain⟨t4,tz4⟩:=B8.at_ (k:=4) (v:=.slice A4 n4 c4) rfl
 obtain⟨t5,tz5⟩:=B8.at_ (k:=5) (v:=.int .i64 11) rfl
 obtain⟨u0,uz0⟩:=A8.at_ (k:=0) (v:=.int .i64 nowB) rfl
 obtain⟨u1,uz1⟩:=A8.at_ (k:=1) (v:=.slice A1B n1B c1B) rfl
 obtain⟨u2,uz2⟩:=A8.at_ (k:=2) (v:=.slice A2B n2B c2B) rfl
 obtain⟨u3,uz3⟩:=A8.at_ (k:=3) (v:=.slice A3B n3B c3B) rfl
 obtain⟨u4,uz4⟩:=A8.at_ (k:=4) (v:=.slice A4B n4B c4B) rfl
 obtain⟨u5,uz5⟩:=A8.at_ (k:=5) (v:=.int .i64 stopB) rfl
 have WI2:=hid (WI.gr g8)
 have MI:=hid ((M6.out.gr g7).gr g8).is
 have cE2:=hid (rWSame_is MI.out WI2.out (v:=true) (by simp))
 go_wp2_with fail
 with_reducible refine cE2.out.mono ?_
 rintro e w9 ⟨rfl,g9⟩
 go_wp2_with fail
 go_ret
 exact⟨rfl,((G6.out.trans g7).trans g8).trans g9⟩
theorem MachineStill_walk (hM:Mach) (hg:P15.Glob w) (h:WIs w r ω) (hw:B64 who) (hd:B64 d) :
 Calls Tryz.prog 8 #[r.v,.int .i64 who,.int .i64 d] w λ e w'=>e=.returned (.bool true)/\Gr w w':=by
 by_cases hr:RightW (cutW ω)
 . by_cases h0:who<0
   . exact still_low hM hg h hw hd hr h0
   . by_cases h1:((cutW ω).cl.length:Int)<=who
     . exact still_high hM hg h hw hd hr (by omega) h1
     . have hlt:who.toNat<(cutW ω).cl.length:=by omega
       by_cases hz:((cutW ω).cl[who.toNat]).gst=0
       . exact still_go hM hg h hw hd hr (by omega) ⟨_,List.getElem?_eq_getElem hlt,hz⟩
       . exact still_parked hM hg h hw hd hr (by omega) ⟨_,List.getElem?_eq_getElem hlt,hz⟩
 . exact still_bad hM hg h hw hd hr
end
end P16
end
end Go.Proofs.YtainfijdhcehlaaGreatDoor
