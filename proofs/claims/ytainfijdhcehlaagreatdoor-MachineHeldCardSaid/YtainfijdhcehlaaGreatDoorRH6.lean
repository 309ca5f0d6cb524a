/-
  A part of the proof.
-/
import Derived.Test.YtainfijdhcehlaaGreatDoorRH5
set_option linter.unusedVariables false
set_option linter.unusedSimpArgs false
set_option maxRecDepth 100000
set_option maxHeartbeats 8000000
namespace Go.Proofs.YtainfijdhcehlaaGreatDoor
open Lib (hid)
section
open Go.ChangeShapes Go.WideShapes Go.ChangeAt Go.RowKit
namespace P16
open P12 (PV PMem POwn pl fewP)
def WAt (S:Nat->Prop) (W:World) (r:WR) (ω:Wv):Prop:=∃ W0 B,WNew B W0 r ω/\FromB B W0 W/\∀ k,S k->k<B\/W0.heap.size<=k
section
variable {S:Nat->Prop} {W W':World} {r:WR} {ω:Wv} {B:Nat}
theorem WAt.is (h:WAt S W r ω):WIs W r ω:=by
 obtain⟨W0,B,h1,h2,_⟩:=h
 exact (h1.to h2).is
theorem WAt.gr (h:WAt S W r ω) (g:Gr W W'):WAt S W' r ω:=by
 obtain⟨W0,B,h1,h2,h3⟩:=h
 exact⟨W0,B,h1,h2.trans (FromB.gr g),h3⟩
theorem WAt.new (h:WNew B W r ω) (hs:∀ k,S k->k<B):WAt S W r ω:=⟨W,B,h,FromB.refl,λ k hk=>.inl (hs k hk)⟩
theorem WAt.late (h:WNew B W r ω) (g:Gr W W') (hs:∀ k,S k->W.heap.size<=k):WAt S W' r ω:=⟨W,B,h,FromB.gr g,λ k hk=>.inr (hs k hk)⟩
end
theorem word_at {ψ:Wv} (h:Fine ψ) {j:Nat} (hj:j<4) {x:T3} (hx:ψ.mx[j]?=some x):∃ a b c q,x.1=P3.pw a b c q/\(0<=q/\q<268435456)/\LK ψ j=a:=by
 have h1:=h.inv.ow j hj
 have e:(mw ψ).cm j=⟨(mxAt ψ.mx j).1,(mxAt ψ.mx j).2.1,(mxAt ψ.mx j).2.2,(gtA ψ.tb j).1,(gtA ψ.tb j).2⟩:=rfl
 rw [mxAt_get hx] at e
 rw [e] at h1
 obtain⟨a,b,c,q,e1,e2⟩:=P3.pw_of h1
 have e1:x.1=P3.pw a b c q:=e1
 refine⟨a,b,c,q,e1,e2,?_⟩
 rw [LK_at hj]
 unfold Lk
 rw [e]
 show (wd x.1).L=a
 rw [e1]
 unfold wd P3.pw P3.b1
 dsimp only
 cases a<;>cases b<;>cases c<;>simp<;>omega
theorem idx4 (f:Nat->Bool) {j:Nat} (hj:j<4) (W:World):(Instr.index 34 (.agg #[.bool (f 0),.bool (f 1),.bool (f 2),.bool (f 3)]) (.int .i64 (j:Int))).run Tryz.prog W=.ok (.bool (f j)) W:=by
 have e:j=0\/j=1\/j=2\/j=3:=by omega
 rcases e with rfl | rfl | rfl | rfl<;>rfl
theorem put6_far {W:World} {b g:Nat} {vs:Array Value} {t:TypeId} (h:Blk W g vs t) (hb:b≠g) (x0 x1 x2 x3 x4 x5:Value):Blk ((((((W.setCell ⟨b,0,none⟩ x0).setCell ⟨b,1,none⟩ x1).setCell ⟨b,2,none⟩ x2).setCell ⟨b,3,none⟩ x3).setCell ⟨b,4,none⟩ x4).setCell ⟨b,5,none⟩ x5) g vs t :=
 (((((h.st (p:=⟨b,0,none⟩) hb x0).st (p:=⟨b,1,none⟩) hb x1).st (p:=⟨b,2,none⟩) hb x2).st (p:=⟨b,3,none⟩) hb x3).st (p:=⟨b,4,none⟩) hb x4).st (p:=⟨b,5,none⟩) hb x5
theorem held_cell {W:World} {g:Nat} {t:TypeId} {f:Nat->Bool} (h:Blk W g #[.bool (f 0),.bool (f 1),.bool (f 2),.bool (f 3)] t) {j:Nat} (hj:j<4):W.cell? ⟨g,j,none⟩=some (.bool (f j))/\W.frozen? ⟨g,j,none⟩=false:=by
 match j,hj with
 | 0,_=>exact h.at_ (k:=0) rfl
 | 1,_=>exact h.at_ (k:=1) rfl
 | 2,_=>exact h.at_ (k:=2) rfl
 | 3,_=>exact h.at_ (k:=3) rfl
theorem held_put {W:World} {g:Nat} {t:TypeId} {f f':Nat->Bool} (h:Blk W g #[.bool (f 0),.bool (f 1),.bool (f 2),.bool (f 3)] t) {j:Nat} (hj:j<4) {b:Bool} (h1:f' j=b) (h2:∀ m,m≠j->f' m=f m):Blk (W.setCell ⟨g,j,none⟩ (.bool b)) g #[.bool (f' 0),.bool (f' 1),.bool (f' 2),.bool (f' 3)] t:=by
 have h3:=h.set j (.bool b)
 match j,hj with
 | 0,_=>rw [h1,h2 1 (by decide),h2 2 (by decide),h2 3 (by decide)];exact h3
 | 1,_=>rw [h1,h2 0 (by decide),h2 2 (by decide),h2 3 (by decide)];exact h3
 | 2,_=>rw [h1,h2 0 (by decide),h2 1 (by decide),h2 3 (by decide)];exact h3
 | 3,_=>rw [h1,h2 0 (by decide),h2 1 (by decide),h2 2 (by decide)];exact h3
section
variable {w:World} {A B:Option Addr} {n c m d:Nat} {R:List PV} {L:List Int}
theorem MachineHeld_walk (hM:Mach) (hg:P15.Glob w) (hc:n<=c) (hn:n<=9223372036854775807) (hm:PMem w A n R) (hd:m<=d) (hmm:m<=9223372036854775807) (hL:IMem w B m L) :
 Calls Tryz.prog 3 #[.slice A n c,.slice B m d] w λ e w'=>e=.returned (.bool true)/\Gr w w':=by
 have cF:=hid (few_is hm hc hn)
 obtain⟨N,a5,b5,n5,k5,-⟩:=least m 1500
 have b5:min (m:Int) 1500=(N:Int):=b5
 have a5:(if (1500:Int)<(m:Int) then (1500:Int) else (m:Int))=(N:Int):=a5
 have p5:(0:Int)<=(N:Int):=by omega
 have m5:(N:Int)<=(d:Int):=by omega
 have HL:=hid hL
 clear hm hL
 go_enter Tryz.func3,Tryz.ntmps3
 go_wp2_with fail
 with_reducible refine cF.out.mono ?_
 rintro e w1 ⟨⟨B',m',d',R',rfl,-,hpl,hm10,hown⟩,g1⟩
 have hP:=hown.mem
 have cN:=hid (hM.new w1 B' m' d' R' (hg.gr g1) hP (by omega))
 have HG1:=hid g1
 clear hP hown g1 cF
 go_wp2_with fail
 with_reducible refine cN.out.mono ?_
 rintro e w2 ⟨⟨s,ψ,x,rfl,hN,hW⟩,g2⟩
 obtain⟨now,⟨A1,n1,c1⟩,⟨A2,n2,c2⟩,⟨A3,n3,c3⟩,⟨A4,n4,c4⟩,stop⟩:=s
 have G2:=hid (HG1.out.trans g2)
 rcases hN with ⟨hr,rfl,rfl⟩ | ⟨hr,rfl,rfl⟩
 rotate_left
 . have cA:=hid (alive_is (w:=w2.alloc (.cells #[.int .i64 now,.slice A1 n1 c1,.slice A2 n2 c2,.slice A3 n3 c3,.slice A4 n4 c4,.int .i64 stop] 29)) hM (hg.gr (G2.out.al _)))
   go_wp2_with fail
   with_reducible refine cA.out.mono ?_
   rintro e w9 ⟨rfl,g9⟩
   go_wp2_with fail
   go_ret
   exact⟨rfl,(G2.out.al _).trans g9⟩
 have F0:=hid (Fine.new hr)
 generalize hω:newW (pl R')=ω0 at *
 have now0:=hid (show ω0.now=0 from by rw [<- hω];rfl)
 have lk0:=hid (show ∀ j,LK ω0 j=false from λ j=>by
  rw [<- hω]
  unfold LK
  split
  . unfold Lk
    rw [mw_new]
    rfl
  . rfl)
 have BK:=Blk.new w2 #[.int .i64 now,.slice A1 n1 c1,.slice A2 n2 c2,.slice A3 n3 c3,.slice A4 n4 c4,.int .i64 stop] 29 |>.al (.cells #[.bool false,.bool false,.bool false,.bool false] 34)
 have BH:=Blk.new (w2.alloc (.cells #[.int .i64 now,.slice A1 n1 c1,.slice A2 n2 c2,.slice A3 n3 c3,.slice A4 n4 c4,.int .i64 stop] 29)) #[.bool false,.bool false,.bool false,.bool false] 34
 rw [World.size_alloc] at BH
 have G4:=hid ((G2.out.al (.cells #[.int .i64 now,.slice A1 n1 c1,.slice A2 n2 c2,.slice A3 n3 c3,.slice A4 n4 c4,.int .i64 stop] 29)).al (.cells #[.bool false,.bool false,.bool false,.bool false] 34))
 have W4:=hid (WAt.late (S:=λ k=>k=w2.heap.size\/k=w2.heap.size+1) hW (((Gr.refl w2).al (.cells #[.int .i64 now,.slice A1 n1 c1,.slice A2 n2 c2,.slice A3 n3 c3,.slice A4 n4 c4,.int .i64 stop] 29)).al (.cells #[.bool false,.bool false,.bool false,.bool false] 34)) (λ k hk=>by omega))
 have hKw:w.heap.size<=w2.heap.size:=G2.out.size
 clear hW g2 cN hr hω hpl HG1 G2
 go_upto_region 5 with fail
 generalize (w2.alloc (.cells #[.int .i64 now,.slice A1 n1 c1,.slice A2 n2 c2,.slice A3 n3 c3,.slice A4 n4 c4,.int .i64 stop] 29)).alloc (.cells #[.bool false,.bool false,.bool false,.bool false] 34)=V4 at BK BH G4 W4 ⊢
 generalize w2.heap.size=K at BK BH W4 hKw ⊢
 go_wp2_with fail
 clear a5 b5 p5 m5
 go_loopw [41] (λ i wr=>∃ (k:Nat) (ω:Wv) (r:WR),k<=N/\i=.int .i64 (k:Int)/\Hid (Fine ω)/\Hid (ω.now<=(k:Int)*5000000)/\Hid (Blk wr K r.a 29)/\Hid (Blk wr (K+1) #[.bool (LK ω 0),.bool (LK ω 1),.bool (LK ω 2),.bool (LK ω 3)] 34)/\Hid (WAt (λ k=>k=K\/k=K+1) wr r ω)/\Hid (Gr w wr)) (λ i _=>N-(intOf i).toNat)
 case atStart=>exact⟨0,ω0,⟨now,⟨A1,n1,c1⟩,⟨A2,n2,c2⟩,⟨A3,n3,c3⟩,⟨A4,n4,c4⟩,stop⟩,Nat.zero_le _,rfl,F0,hid (by rw [now0.out];decide),hid BK,hid (by simp only [lk0.out];exact BH),W4,G4⟩
 case round =>
  clear BK BH W4 G4 F0 now0 lk0
  obtain⟨k,ω,r,hk,rfl,HF,HN,HK,HH,HW,HG⟩:=hrel
  obtain⟨nowr,⟨A1r,n1r,c1r⟩,⟨A2r,n2r,c2r⟩,⟨A3r,n3r,c3r⟩,⟨A4r,n4r,c4r⟩,stopr⟩:=r
  by_cases hlt:k<N
  . have hN15:N<=1500:=k5
    obtain⟨bS,oS,v,rfl,hbl,hv,hvb,s0⟩:=(HL.out.gr HG.out).at_ (show k<m by omega)
    have cX:=hid (next_is hM (hg.gr HG.out) HW.out.is hvb)
    have i0:(0:Int)<=(k:Int):=by omega
    have i1:(k:Int)<(N:Int):=by omega
    have kb:=HK.out
    have ltk:=kb.lt
    have lth:=HH.out.lt
    obtain⟨k0,kz0⟩:=kb.at_ (k:=0) (v:=.int .i64 nowr) rfl
    obtain⟨k1,kz1⟩:=kb.at_ (k:=1) (v:=.slice A1r n1r c1r) rfl
    obtain⟨k2,kz2⟩:=kb.at_ (k:=2) (v:=.slice A2r n2r c2r) rfl
    obtain⟨k3,kz3⟩:=kb.at_ (k:=3) (v:=.slice A3r n3r c3r) rfl
    obtain⟨k4,kz4⟩:=kb.at_ (k:=4) (v:=.slice A4r n4r c4r) rfl
    obtain⟨k5,kz5⟩:=kb.at_ (k:=5) (v:=.int .i64 stopr) rfl
    clear hv kb
    go_upto_region 8 with fail
    clear s0 hbl
    go_wp2_with fail
    with_reducible refine cX.out.mono ?_
    rintro e w3 ⟨⟨s,ψ,A',n',c',ev,who,bb,rfl,hX,hWn,hE,hnc,hcm⟩,g3⟩
    obtain⟨nowN,⟨A1N,n1N,c1N⟩,⟨A2N,n2N,c2N⟩,⟨A3N,n3N,c3N⟩,⟨A4N,n4N,c4N⟩,stopN⟩:=s
    have hnow0:ω.now<=4611686018422387904:=by
     have h1:=HN.out
     have h2:(k:Int)<1500:=by omega
     have h3:(k:Int)*5000000<=1500*5000000:=by omega
     omega
    obtain⟨fψ,rfl,hpr,hnow,hst,F,hkind⟩:=NextM.rnd HF.out hX hvb hnow0
    have HPF:=hid fψ
    have HPN:=hid (show ψ.now<=((k+1:Nat):Int)*5000000 from by have:=HN.out;omega)
    have hWis:=hWn.is
    have HsN:=hid (show stopN=ψ.stop from hWis.stop)
    have Hsr:=hid (show stopr=ω.stop from HW.out.is.stop)
    have hm4:4=n3N:=fψ.m4.symm.trans hWis.m.len
    subst hm4
    have KB:=hid ((HK.out.gr g3).al (.cells #[.int .i64 nowN,.slice A1N n1N c1N,.slice A2N n2N c2N,.slice A3N 4 c3N,.slice A4N n4N c4N,.int .i64 stopN] 29))
    have HB:=hid ((HH.out.gr g3).al (.cells #[.int .i64 nowN,.slice A1N n1N c1N,.slice A2N n2N c2N,.slice A3N 4 c3N,.slice A4N n4N c4N,.int .i64 stopN] 29))
    have NB:=hid (Blk.new w3 #[.int .i64 nowN,.slice A1N n1N c1N,.slice A2N n2N c2N,.slice A3N 4 c3N,.slice A4N n4N c4N,.int .i64 stopN] 29)
    have GV:=hid ((HG.out.trans g3).al (.cells #[.int .i64 nowN,.slice A1N n1N c1N,.slice A2N n2N c2N,.slice A3N 4 c3N,.slice A4N n4N c4N,.int .i64 stopN] 29))
    have WN:=hid (hWn.gr ((Gr.refl w3).al (.cells #[.int .i64 nowN,.slice A1N n1N c1N,.slice A2N n2N c2N,.slice A3N 4 c3N,.slice A4N n4N c4N,.int .i64 stopN] 29)))
    have WR:=hid ((HW.out.gr g3).gr ((Gr.refl w3).al (.cells #[.int .i64 nowN,.slice A1N n1N c1N,.slice A2N n2N c2N,.slice A3N 4 c3N,.slice A4N n4N c4N,.int .i64 stopN] 29)))
    have hw3:=g3.size
    have hEE:=hE.gr ((Gr.refl w3).al (.cells #[.int .i64 nowN,.slice A1N n1N c1N,.slice A2N n2N c2N,.slice A3N 4 c3N,.slice A4N n4N c4N,.int .i64 stopN] 29))
    have hKB:K<wr.heap.size:=ltk
    have hKB1:K+1<wr.heap.size:=lth
    clear hWn hE hWis hX HN HF HW HK HH HG g3 cX fψ hpr hnow hnow0 ltk lth
    go_upto_region 9 with fail
    clear k0 kz0 k1 kz1 k2 kz2 k3 kz3 k4 kz4 k5 kz5
    have hKgN0:K+1<w3.heap.size:=Nat.lt_of_lt_of_le hKB1 hw3
    generalize w3.alloc (.cells #[.int .i64 nowN,.slice A1N n1N c1N,.slice A2N n2N c2N,.slice A3N 4 c3N,.slice A4N n4N c4N,.int .i64 stopN] 29)=V at KB HB NB GV WN WR hEE ⊢
    generalize w3.heap.size=gN at NB hKgN0 ⊢
    generalize wr.heap.size=Bd at WN hEE hKB hKB1
    have FB:=hid (FromB.refl (B:=Bd) (W:=V))
    have hsN:=HsN.out
    have hsr:=Hsr.out
    clear HsN Hsr
    have t12:(stopN==12)=false:=by rw [hsN];rcases hst with q | q<;>rw [q]<;>decide
    rcases hkind with ⟨hs0,rfl,rfl,hf,rfl⟩ | ⟨hs0,hs1,rfl,hf,rfl⟩ | ⟨hs0,ea,ee,en,hen,rfl,hev,hFs⟩
    . obtain rfl:n'=0:=hEE.is.len.symm
      have tA:(stopr != 0)=true:=by rw [hsr];simpa using hs0
      have tN:(stopN != 0)=true:=by rw [hsN];simpa using hs0
      clear hsr hsN hs0 hst
      have cE:=hid (rWSame_is (WN.out.is) (WR.out.is) (v:=true) (by simp))
      have kb:=KB.out
      have nb:=NB.out
      have ltk:=kb.lt
      have ltn:=nb.lt
      obtain⟨p0,pz0⟩:=kb.at_ (k:=0) (v:=.int .i64 nowr) rfl
      obtain⟨p1,pz1⟩:=kb.at_ (k:=1) (v:=.slice A1r n1r c1r) rfl
      obtain⟨p2,pz2⟩:=kb.at_ (k:=2) (v:=.slice A2r n2r c2r) rfl
      obtain⟨p3,pz3⟩:=kb.at_ (k:=3) (v:=.slice A3r n3r c3r) rfl
      obtain⟨p4,pz4⟩:=kb.at_ (k:=4) (v:=.slice A4r n4r c4r) rfl
      obtain⟨p5,pz5⟩:=kb.at_ (k:=5) (v:=.int .i64 stopr) rfl
      obtain⟨q0,qz0⟩:=nb.at_ (k:=0) (v:=.int .i64 nowN) rfl
      obtain⟨q1,qz1⟩:=nb.at_ (k:=1) (v:=.slice A1N n1N c1N) rfl
      obtain⟨q2,qz2⟩:=nb.at_ (k:=2) (v:=.slice A2N n2N c2N) rfl
      obtain⟨q3,qz3⟩:=nb.at_ (k:=3) (v:=.slice A3N 4 c3N) rfl
      obtain⟨q4,qz4⟩:=nb.at_ (k:=4) (v:=.slice A4N n4N c4N) rfl
      obtain⟨q5,qz5⟩:=nb.at_ (k:=5) (v:=.int .i64 stopN) rfl
      clear kb nb
      go_wp2_with fail
      with_reducible refine cE.out.mono ?_
      rintro e w4 ⟨rfl,g4⟩
      clear p0 pz0 q0 qz0 p1 pz1 q1 qz1 p2 pz2 q2 qz2 p3 pz3 q3 qz3 p4 pz4 q4 qz4 p5 pz5 q5 qz5 ltk ltn
      have KB2:=hid (KB.out.gr g4)
      have HB2:=hid (HB.out.gr g4)
      have NB2:=hid (NB.out.gr g4)
      have GV2:=hid (GV.out.trans g4)
      have FB2:=hid (FB.out.trans (FromB.gr (B:=Bd) g4))
      clear KB HB NB GV FB cE WR g4
      have KB:=KB2
      have HB:=HB2
      have NB:=NB2
      have GV:=GV2
      have FB:=FB2
      clear KB2 HB2 NB2 GV2 FB2
      go_upto_region 13 with fail
      go_loopw [14,89] (λ Fv i wr=>Fv=.bool false/\i=.int .i64 0/\Hid (Blk wr K #[.int .i64 nowr,.slice A1r n1r c1r,.slice A2r n2r c2r,.slice A3r n3r c3r,.slice A4r n4r c4r,.int .i64 stopr] 29)/\Hid (Blk wr (K+1) #[.bool (LK ψ 0),.bool (LK ψ 1),.bool (LK ψ 2),.bool (LK ψ 3)] 34)/\Hid (Blk wr gN #[.int .i64 nowN,.slice A1N n1N c1N,.slice A2N n2N c2N,.slice A3N 4 c3N,.slice A4N n4N c4N,.int .i64 stopN] 29)/\Hid (FromB Bd V wr)/\Hid (Gr w wr)) (λ _ i _=>1-(intOf i).toNat)
      case atStart=>exact⟨rfl,rfl,KB,HB,NB,FB,GV⟩
      case round =>
       clear hEE KB HB NB FB GV
       obtain⟨rfl,rfl,KB,HB,NB,FB,GV⟩:=hrel
       rename World=>VT
       have kb:=KB.out
       have nb:=NB.out
       have ltk:=kb.lt
       have ltn:=nb.lt
       have ks:=(kb.at_ (k:=5) (v:=.int .i64 stopr) rfl).1
       have ns:=(nb.at_ (k:=5) (v:=.int .i64 stopN) rfl).1
       have hb:=HB.out
       have lth:=hb.lt
       have b0:=(hb.at_ (k:=0) (v:=.bool (LK ψ 0)) rfl).1
       have b1:=(hb.at_ (k:=1) (v:=.bool (LK ψ 1)) rfl).1
       have b2:=(hb.at_ (k:=2) (v:=.bool (LK ψ 2)) rfl).1
       have b3:=(hb.at_ (k:=3) (v:=.bool (LK ψ 3)) rfl).1
       clear kb nb hb
       go_upto_region 38 with fail
       clear ks ns b0 b1 b2 b3 ltk ltn lth
       go_loopw [138] (λ i wr=>∃ j:Nat,j<=4/\i=.int .i64 (j:Int)/\Hid (Gr VT wr)) (λ i _=>4-(intOf i).toNat)
       case atStart=>exact⟨0,by decide,rfl,hid (Gr.refl _)⟩
       case round =>
        obtain⟨j,hj,rfl,HV⟩:=hrel
        have nb:=NB.out.gr HV.out
        have ltn:=nb.lt
        by_cases hj4:j<4
        . have n3:=(nb.at_ (k:=3) (v:=.slice A3N 4 c3N) rfl).1
          obtain⟨bm,om,xm,rfl,hbm,hxm,-,e0,e1,e2⟩:=T3Mem.cells (k:=j) (((WN.out.to FB.out).gr HV.out).is).m hj4
          obtain⟨a,bb,cc,q,hq,hqn,hLa⟩:=word_at HPF.out hj4 hxm
          have hidx:=idx4 (LK ψ) hj4
          rw [hLa] at hidx
          rw [hq] at e0
          have cU:=λ W=>hid (P3.Unpack_ok a bb cc q hqn W)
          have j0:(0:Int)<=(j:Int):=by omega
          have j1:(j:Int)<4:=by omega
          generalize P3.pw a bb cc q=wd0 at cU e0
          clear nb hxm hq hqn hLa e1 e2
          go_wp2_with fail
          with_reducible refine (cU _).out.mono ?_
          rintro e w8 ⟨rfl,g8⟩
          go_wp2_with fail
          go_roundw
          case rel=>exact⟨j+1,by omega,by go_num,hid ((HV.out.trans g8).al _)⟩
          case measure=>simp [intOf];omega
        . obtain rfl:j=4:=by omega
          have kb:=KB.out.gr HV.out
          have ltk:=kb.lt
          have GF:=hid (put6_gr (x0:=.int .i64 nowN) (x1:=.slice A1N n1N c1N) (x2:=.slice A2N n2N c2N) (x3:=.slice A3N 4 c3N) (x4:=.slice A4N n4N c4N) (x5:=.int .i64 stopN) (b:=K) (GV.out.trans HV.out) hKw)
          have BF:=hid (put6_blk kb rfl (.int .i64 nowN) (.slice A1N n1N c1N) (.slice A2N n2N c2N) (.slice A3N 4 c3N) (.slice A4N n4N c4N) (.int .i64 stopN))
          have HF2:=hid (put6_far (b:=K) (g:=K+1) (HB.out.gr HV.out) (by omega) (.int .i64 nowN) (.slice A1N n1N c1N) (.slice A2N n2N c2N) (.slice A3N 4 c3N) (.slice A4N n4N c4N) (.int .i64 stopN))
          have WF:=hid (WAt.new (S:=λ k=>k=K\/k=K+1) (((WN.out.to FB.out).gr HV.out).to (FromB.put6 (b:=K) hKB (.int .i64 nowN) (.slice A1N n1N c1N) (.slice A2N n2N c2N) (.slice A3N 4 c3N) (.slice A4N n4N c4N) (.int .i64 stopN))) (λ k hk=>by omega))
          obtain⟨a0,az0⟩:=nb.at_ (k:=0) (v:=.int .i64 nowN) rfl
          obtain⟨a1,az1⟩:=nb.at_ (k:=1) (v:=.slice A1N n1N c1N) rfl
          obtain⟨a2,az2⟩:=nb.at_ (k:=2) (v:=.slice A2N n2N c2N) rfl
          obtain⟨a3,az3⟩:=nb.at_ (k:=3) (v:=.slice A3N 4 c3N) rfl
          obtain⟨a4,az4⟩:=nb.at_ (k:=4) (v:=.slice A4N n4N c4N) rfl
          obtain⟨a5,az5⟩:=nb.at_ (k:=5) (v:=.int .i64 stopN) rfl
          obtain⟨b0,bz0⟩:=kb.at_ (k:=0) (v:=.int .i64 nowr) rfl
          obtain⟨b1,bz1⟩:=kb.at_ (k:=1) (v:=.slice A1r n1r c1r) rfl
          obtain⟨b2,bz2⟩:=kb.at_ (k:=2) (v:=.slice A2r n2r c2r) rfl
          obtain⟨b3,bz3⟩:=kb.at_ (k:=3) (v:=.slice A3r n3r c3r) rfl
          obtain⟨b4,bz4⟩:=kb.at_ (k:=4) (v:=.slice A4r n4r c4r) rfl
          obtain⟨b5,bz5⟩:=kb.at_ (k:=5) (v:=.int .i64 stopr) rfl
          clear nb kb HV
          go_wp2_with fail
          go_roundw
          case rel=>exact⟨k+1,ψ,⟨nowN,⟨A1N,n1N,c1N⟩,⟨A2N,n2N,c2N⟩,⟨A3N,4,c3N⟩,⟨A4N,n4N,c4N⟩,stopN⟩,by omega,by go_num,HPF,HPN,BF,HF2,WF,GF⟩
          case measure=>simp [intOf];omega
    . obtain rfl:n'=0:=hEE.is.len.symm
      have tA:(stopr != 0)=false:=by rw [hsr,hs0];decide
      have tN:(stopN != 0)=false:=by rw [hsN,hs1];decide
      rw [<- hf] at HB
      clear hsr hsN hs0 hs1 hst hf WR
      have kb:=KB.out
      have nb:=NB.out
      have ltk:=kb.lt
      have ltn:=nb.lt
      obtain⟨p0,pz0⟩:=kb.at_ (k:=0) (v:=.int .i64 nowr) rfl
      obtain⟨p1,pz1⟩:=kb.at_ (k:=1) (v:=.slice A1r n1r c1r) rfl
      obtain⟨p2,pz2⟩:=kb.at_ (k:=2) (v:=.slice A2r n2r c2r) rfl
      obtain⟨p3,pz3⟩:=kb.at_ (k:=3) (v:=.slice A3r n3r c3r) rfl
      obtain⟨p4,pz4⟩:=kb.at_ (k:=4) (v:=.slice A4r n4r c4r) rfl
      obtain⟨p5,pz5⟩:=kb.at_ (k:=5) (v:=.int .i64 stopr) rfl
      obtain⟨q0,qz0⟩:=nb.at_ (k:=0) (v:=.int .i64 nowN) rfl
      obtain⟨q1,qz1⟩:=nb.at_ (k:=1) (v:=.slice A1N n1N c1N) rfl
      obtain⟨q2,qz2⟩:=nb.at_ (k:=2) (v:=.slice A2N n2N c2N) rfl
      obtain⟨q3,qz3⟩:=nb.at_ (k:=3) (v:=.slice A3N 4 c3N) rfl
      obtain⟨q4,qz4⟩:=nb.at_ (k:=4) (v:=.slice A4N n4N c4N) rfl
      obtain⟨q5,qz5⟩:=nb.at_ (k:=5) (v:=.int .i64 stopN) rfl
      clear kb nb
      go_upto_region 13 with fail
      clear p0 pz0 q0 qz0 p1 pz1 q1 qz1 p2 pz2 q2 qz2 p3 pz3 q3 qz3 p4 pz4 q4 qz4 p5 pz5 q5 qz5 ltk ltn
      go_loopw [14,89] (λ Fv i wr=>Fv=.bool false/\i=.int .i64 0/\Hid (Blk wr K #[.int .i64 nowr,.slice A1r n1r c1r,.slice A2r n2r c2r,.slice A3r n3r c3r,.slice A4r n4r c4r,.int .i64 stopr] 29)/\Hid (Blk wr (K+1) #[.bool (LK ψ 0),.bool (LK ψ 1),.bool (LK ψ 2),.bool (LK ψ 3)] 34)/\Hid (Blk wr gN #[.int .i64 nowN,.slice A1N n1N c1N,.slice A2N n2N c2N,.slice A3N 4 c3N,.slice A4N n4N c4N,.int .i64 stopN] 29)/\Hid (FromB Bd V wr)/\Hid (Gr w wr)) (λ _ i _=>1-(intOf i).toNat)
      case atStart=>exact⟨rfl,rfl,KB,HB,NB,FB,GV⟩
      case round =>
       clear hEE KB HB NB FB GV
       obtain⟨rfl,rfl,KB,HB,NB,FB,GV⟩:=hrel
       rename World=>VT
       have kb:=KB.out
       have nb:=NB.out
       have ltk:=kb.lt
       have ltn:=nb.lt
       have ks:=(kb.at_ (k:=5) (v:=.int .i64 stopr) rfl).1
       have ns:=(nb.at_ (k:=5) (v:=.int .i64 stopN) rfl).1
       have hb:=HB.out
       have lth:=hb.lt
       have b0:=(hb.at_ (k:=0) (v:=.bool (LK ψ 0)) rfl).1
       have b1:=(hb.at_ (k:=1) (v:=.bool (LK ψ 1)) rfl).1
       have b2:=(hb.at_ (k:=2) (v:=.bool (LK ψ 2)) rfl).1
       have b3:=(hb.at_ (k:=3) (v:=.bool (LK ψ 3)) rfl).1
       clear kb nb hb
       go_upto_region 38 with fail
       clear ks ns b0 b1 b2 b3 ltk ltn lth
       go_loopw [138] (λ i wr=>∃ j:Nat,j<=4/\i=.int .i64 (j:Int)/\Hid (Gr VT wr)) (λ i _=>4-(intOf i).toNat)
       case atStart=>exact⟨0,by decide,rfl,hid (Gr.refl _)⟩
       case round =>
        obtain⟨j,hj,rfl,HV⟩:=hrel
        have nb:=NB.out.gr HV.out
        have ltn:=nb.lt
        by_cases hj4:j<4
        . have n3:=(nb.at_ (k:=3) (v:=.slice A3N 4 c3N) rfl).1
          obtain⟨bm,om,xm,rfl,hbm,hxm,-,e0,e1,e2⟩:=T3Mem.cells (k:=j) (((WN.out.to FB.out).gr HV.out).is).m hj4
          obtain⟨a,bb,cc,q,hq,hqn,hLa⟩:=word_at HPF.out hj4 hxm
          have hidx:=idx4 (LK ψ) hj4
          rw [hLa] at hidx
          rw [hq] at e0
          have cU:=λ W=>hid (P3.Unpack_ok a bb cc q hqn W)
          have j0:(0:Int)<=(j:Int):=by omega
          have j1:(j:Int)<4:=by omega
          generalize P3.pw a bb cc q=wd0 at cU e0
          clear nb hxm hq hqn hLa e1 e2
          go_wp2_with fail
          with_reducible refine (cU _).out.mono ?_
          rintro e w8 ⟨rfl,g8⟩
          go_wp2_with fail
          go_roundw
          case rel=>exact⟨j+1,by omega,by go_num,hid ((HV.out.trans g8).al _)⟩
          case measure=>simp [intOf];omega
        . obtain rfl:j=4:=by omega
          have kb:=KB.out.gr HV.out
          have ltk:=kb.lt
          have GF:=hid (put6_gr (x0:=.int .i64 nowN) (x1:=.slice A1N n1N c1N) (x2:=.slice A2N n2N c2N) (x3:=.slice A3N 4 c3N) (x4:=.slice A4N n4N c4N) (x5:=.int .i64 stopN) (b:=K) (GV.out.trans HV.out) hKw)
          have BF:=hid (put6_blk kb rfl (.int .i64 nowN) (.slice A1N n1N c1N) (.slice A2N n2N c2N) (.slice A3N 4 c3N) (.slice A4N n4N c4N) (.int .i64 stopN))
          have HF2:=hid (put6_far (b:=K) (g:=K+1) (HB.out.gr HV.out) (by omega) (.int .i64 nowN) (.slice A1N n1N c1N) (.slice A2N n2N c2N) (.slice A3N 4 c3N) (.slice A4N n4N c4N) (.int .i64 stopN))
          have WF:=hid (WAt.new (S:=λ k=>k=K\/k=K+1) (((WN.out.to FB.out).gr HV.out).to (FromB.put6 (b:=K) hKB (.int .i64 nowN) (.slice A1N n1N c1N) (.slice A2N n2N c2N) (.slice A3N 4 c3N) (.slice A4N n4N c4N) (.int .i64 stopN))) (λ k hk=>by omega))
          obtain⟨a0,az0⟩:=nb.at_ (k:=0) (v:=.int .i64 nowN) rfl
          obtain⟨a1,az1⟩:=nb.at_ (k:=1) (v:=.slice A1N n1N c1N) rfl
          obtain⟨a2,az2⟩:=nb.at_ (k:=2) (v:=.slice A2N n2N c2N) rfl
          obtain⟨a3,az3⟩:=nb.at_ (k:=3) (v:=.slice A3N 4 c3N) rfl
          obtain⟨a4,az4⟩:=nb.at_ (k:=4) (v:=.slice A4N n4N c4N) rfl
          obtain⟨a5,az5⟩:=nb.at_ (k:=5) (v:=.int .i64 stopN) rfl
          obtain⟨b0,bz0⟩:=kb.at_ (k:=0) (v:=.int .i64 nowr) rfl
          obtain⟨b1,bz1⟩:=kb.at_ (k:=1) (v:=.slice A1r n1r c1r) rfl
          obtain⟨b2,bz2⟩:=kb.at_ (k:=2) (v:=.slice A2r n2r c2r) rfl
          obtain⟨b3,bz3⟩:=kb.at_ (k:=3) (v:=.slice A3r n3r c3r) rfl
          obtain⟨b4,bz4⟩:=kb.at_ (k:=4) (v:=.slice A4r n4r c4r) rfl
          obtain⟨b5,bz5⟩:=kb.at_ (k:=5) (v:=.int .i64 stopr) rfl
          clear nb kb HV
          go_wp2_with fail
          go_roundw
          case rel=>exact⟨k+1,ψ,⟨nowN,⟨A1N,n1N,c1N⟩,⟨A2N,n2N,c2N⟩,⟨A3N,4,c3N⟩,⟨A4N,n4N,c4N⟩,stopN⟩,by omega,by go_num,HPF,HPN,BF,HF2,WF,GF⟩
          case measure=>simp [intOf];omega
    . obtain rfl:n'=1:=hEE.is.len.symm
      obtain⟨be,oe,x,rfl,hbe,hx,-,e0,e1,e2⟩:=T3Mem.cells (k:=0) hEE.is (by decide)
      cases hx
      simp only [Nat.zero_mul,Nat.add_zero] at e0 e1 e2
      have tA:(stopr != 0)=false:=by rw [hsr,hs0];decide
      have en0:(0:Int)<=(en:Int):=by omega
      have en4:(en:Int)<4:=by omega
      have hKgN:K+1<gN:=hKgN0
      clear hEE
      rcases hev with ⟨rfl | rfl,hwas,hnew,hfar,rfl⟩ | ⟨rfl,hfar,rfl⟩ | ⟨rfl,hwas,hnew,hfar,rfl⟩ | ⟨rfl,hwas,hfar,rfl⟩
      . have tN:(stopN != 0)=false:=by rw [hsN];rw [Classical.byContradiction (λ q=>absurd (hFs.1 q) (by decide):¬ ψ.stop=0->False)];decide
        have hcell:=held_cell HB.out hen
        rw [hwas] at hcell
        obtain⟨hc1,hc2⟩:=hcell
        have lth:=HB.out.lt
        have GX:=(Gr.refl V).al (.cells #[.int .i64 ea,.int .i64 0,.int .i64 (en:Int)] 40)
        have NX:=hid ((held_put HB.out hen (b:=true) hnew hfar).al (.cells #[.int .i64 ea,.int .i64 0,.int .i64 (en:Int)] 40))
        have KX:=hid ((KB.out.st (p:=⟨K+1,en,none⟩) (by show K+1≠K;omega) (.bool true)).al (.cells #[.int .i64 ea,.int .i64 0,.int .i64 (en:Int)] 40))
        have MX:=hid ((NB.out.st (p:=⟨K+1,en,none⟩) (by show K+1≠gN;omega) (.bool true)).al (.cells #[.int .i64 ea,.int .i64 0,.int .i64 (en:Int)] 40))
        have FX:=hid ((FromB.st (B:=Bd) (W:=V) (p:=⟨K+1,en,none⟩) (by show K+1<Bd;omega) (.bool true)).trans (FromB.gr ((Gr.refl _).al (.cells #[.int .i64 ea,.int .i64 0,.int .i64 (en:Int)] 40))))
        have RX:=hid ((GV.out.st (p:=⟨K+1,en,none⟩) (by show w.heap.size<=K+1;omega) (.bool true)).al (.cells #[.int .i64 ea,.int .i64 0,.int .i64 (en:Int)] 40))
        clear hsr hsN hs0 hst hFs WR GX hfar
        have kb:=KB.out
        have nb:=NB.out
        have ltk:=kb.lt
        have ltn:=nb.lt
        obtain⟨p0,pz0⟩:=kb.at_ (k:=0) (v:=.int .i64 nowr) rfl
        obtain⟨p1,pz1⟩:=kb.at_ (k:=1) (v:=.slice A1r n1r c1r) rfl
        obtain⟨p2,pz2⟩:=kb.at_ (k:=2) (v:=.slice A2r n2r c2r) rfl
        obtain⟨p3,pz3⟩:=kb.at_ (k:=3) (v:=.slice A3r n3r c3r) rfl
        obtain⟨p4,pz4⟩:=kb.at_ (k:=4) (v:=.slice A4r n4r c4r) rfl
        obtain⟨p5,pz5⟩:=kb.at_ (k:=5) (v:=.int .i64 stopr) rfl
        obtain⟨q0,qz0⟩:=nb.at_ (k:=0) (v:=.int .i64 nowN) rfl
        obtain⟨q1,qz1⟩:=nb.at_ (k:=1) (v:=.slice A1N n1N c1N) rfl
        obtain⟨q2,qz2⟩:=nb.at_ (k:=2) (v:=.slice A2N n2N c2N) rfl
        obtain⟨q3,qz3⟩:=nb.at_ (k:=3) (v:=.slice A3N 4 c3N) rfl
        obtain⟨q4,qz4⟩:=nb.at_ (k:=4) (v:=.slice A4N n4N c4N) rfl
        obtain⟨q5,qz5⟩:=nb.at_ (k:=5) (v:=.int .i64 stopN) rfl
        clear kb nb
        go_upto_region 13 with fail
        clear p0 pz0 q0 qz0 p1 pz1 q1 qz1 p2 pz2 q2 qz2 p3 pz3 q3 qz3 p4 pz4 q4 qz4 p5 pz5 q5 qz5 ltk ltn
        go_loopw [14,89] (λ Fv i wr=>(Fv=.bool false/\i=.int .i64 0/\wr=V)\/(Fv=.bool false/\i=.int .i64 1/\Hid (Blk wr K #[.int .i64 nowr,.slice A1r n1r c1r,.slice A2r n2r c2r,.slice A3r n3r c3r,.slice A4r n4r c4r,.int .i64 stopr] 29)/\Hid (Blk wr (K+1) #[.bool (LK ψ 0),.bool (LK ψ 1),.bool (LK ψ 2),.bool (LK ψ 3)] 34)/\Hid (Blk wr gN #[.int .i64 nowN,.slice A1N n1N c1N,.slice A2N n2N c2N,.slice A3N 4 c3N,.slice A4N n4N c4N,.int .i64 stopN] 29)/\Hid (FromB Bd V wr)/\Hid (Gr w wr))) (λ _ i _=>1-(intOf i).toNat)
        case atStart=>exact .inl ⟨rfl,rfl,rfl⟩
        case round =>
         rcases hrel with ⟨rfl,rfl,hVw⟩ | ⟨rfl,rfl,KY,HY,NY,FY,RY⟩
         . subst hVw
           go_wp2_with fail
           go_roundw
           case rel=>exact .inr ⟨rfl,by go_num,KX,NX,MX,FX,RX⟩
           case measure=>simp [intOf]
         . clear KB HB NB GV FB KX NX MX FX RX hc1 hc2 lth
           have KB:=KY
           have HB:=HY
           have NB:=NY
           have FB:=FY
           have GV:=RY
           clear KY HY NY FY RY
           rename World=>VT
           have kb:=KB.out
           have nb:=NB.out
           have ltk:=kb.lt
           have ltn:=nb.lt
           have ks:=(kb.at_ (k:=5) (v:=.int .i64 stopr) rfl).1
           have ns:=(nb.at_ (k:=5) (v:=.int .i64 stopN) rfl).1
           have hb:=HB.out
           have lth:=hb.lt
           have b0:=(hb.at_ (k:=0) (v:=.bool (LK ψ 0)) rfl).1
           have b1:=(hb.at_ (k:=1) (v:=.bool (LK ψ 1)) rfl).1
           have b2:=(hb.at_ (k:=2) (v:=.bool (LK ψ 2)) rfl).1
           have b3:=(hb.at_ (k:=3) (v:=.bool (LK ψ 3)) rfl).1
           clear kb nb hb
           go_upto_region 38 with fail
           clear ks ns b0 b1 b2 b3 ltk ltn lth
           go_loopw [138] (λ i wr=>∃ j:Nat,j<=4/\i=.int .i64 (j:Int)/\Hid (Gr VT wr)) (λ i _=>4-(intOf i).toNat)
           case atStart=>exact⟨0,by decide,rfl,hid (Gr.refl _)⟩
           case round =>
            obtain⟨j,hj,rfl,HV⟩:=hrel
            have nb:=NB.out.gr HV.out
            have ltn:=nb.lt
            by_cases hj4:j<4
            . have n3:=(nb.at_ (k:=3) (v:=.slice A3N 4 c3N) rfl).1
              obtain⟨bm,om,xm,rfl,hbm,hxm,-,e0,e1,e2⟩:=T3Mem.cells (k:=j) (((WN.out.to FB.out).gr HV.out).is).m hj4
              obtain⟨a,bb,cc,q,hq,hqn,hLa⟩:=word_at HPF.out hj4 hxm
              have hidx:=idx4 (LK ψ) hj4
              rw [hLa] at hidx
              rw [hq] at e0
              have cU:=λ W=>hid (P3.Unpack_ok a bb cc q hqn W)
              have j0:(0:Int)<=(j:Int):=by omega
              have j1:(j:Int)<4:=by omega
              generalize P3.pw a bb cc q=wd0 at cU e0
              clear nb hxm hq hqn hLa e1 e2
              go_wp2_with fail
              with_reducible refine (cU _).out.mono ?_
              rintro e w8 ⟨rfl,g8⟩
              go_wp2_with fail
              go_roundw
              case rel=>exact⟨j+1,by omega,by go_num,hid ((HV.out.trans g8).al _)⟩
              case measure=>simp [intOf];omega
            . obtain rfl:j=4:=by omega
              have kb:=KB.out.gr HV.out
              have ltk:=kb.lt
              have GF:=hid (put6_gr (x0:=.int .i64 nowN) (x1:=.slice A1N n1N c1N) (x2:=.slice A2N n2N c2N) (x3:=.slice A3N 4 c3N) (x4:=.slice A4N n4N c4N) (x5:=.int .i64 stopN) (b:=K) (GV.out.trans HV.out) hKw)
              have BF:=hid (put6_blk kb rfl (.int .i64 nowN) (.slice A1N n1N c1N) (.slice A2N n2N c2N) (.slice A3N 4 c3N) (.slice A4N n4N c4N) (.int .i64 stopN))
              have HF2:=hid (put6_far (b:=K) (g:=K+1) (HB.out.gr HV.out) (by omega) (.int .i64 nowN) (.slice A1N n1N c1N) (.slice A2N n2N c2N) (.slice A3N 4 c3N) (.slice A4N n4N c4N) (.int .i64 stopN))
              have WF:=hid (WAt.new (S:=λ k=>k=K\/k=K+1) (((WN.out.to FB.out).gr HV.out).to (FromB.put6 (b:=K) hKB (.int .i64 nowN) (.slice A1N n1N c1N) (.slice A2N n2N c2N) (.slice A3N 4 c3N) (.slice A4N n4N c4N) (.int .i64 stopN))) (λ k hk=>by omega))
              obtain⟨a0,az0⟩:=nb.at_ (k:=0) (v:=.int .i64 nowN) rfl
              obtain⟨a1,az1⟩:=nb.at_ (k:=1) (v:=.slice A1N n1N c1N) rfl
              obtain⟨a2,az2⟩:=nb.at_ (k:=2) (v:=.slice A2N n2N c2N) rfl
              obtain⟨a3,az3⟩:=nb.at_ (k:=3) (v:=.slice A3N 4 c3N) rfl
              obtain⟨a4,az4⟩:=nb.at_ (k:=4) (v:=.slice A4N n4N c4N) rfl
              obtain⟨a5,az5⟩:=nb.at_ (k:=5) (v:=.int .i64 stopN) rfl
              obtain⟨b0,bz0⟩:=kb.at_ (k:=0) (v:=.int .i64 nowr) rfl
              obtain⟨b1,bz1⟩:=kb.at_ (k:=1) (v:=.slice A1r n1r c1r) rfl
              obtain⟨b2,bz2⟩:=kb.at_ (k:=2) (v:=.slice A2r n2r c2r) rfl
              obtain⟨b3,bz3⟩:=kb.at_ (k:=3) (v:=.slice A3r n3r c3r) rfl
              obtain⟨b4,bz4⟩:=kb.at_ (k:=4) (v:=.slice A4r n4r c4r) rfl
              obtain⟨b5,bz5⟩:=kb.at_ (k:=5) (v:=.int .i64 stopr) rfl
              clear nb kb HV
              go_wp2_with fail
              go_roundw
              case rel=>exact⟨k+1,ψ,⟨nowN,⟨A1N,n1N,c1N⟩,⟨A2N,n2N,c2N⟩,⟨A3N,4,c3N⟩,⟨A4N,n4N,c4N⟩,stopN⟩,by omega,by go_num,HPF,HPN,BF,HF2,WF,GF⟩
              case measure=>simp [intOf];omega
      . have tN:(stopN != 0)=false:=by rw [hsN];rw [Classical.byContradiction (λ q=>absurd (hFs.1 q) (by decide):¬ ψ.stop=0->False)];decide
        have hcell:=held_cell HB.out hen
        rw [hwas] at hcell
        obtain⟨hc1,hc2⟩:=hcell
        have lth:=HB.out.lt
        have GX:=(Gr.refl V).al (.cells #[.int .i64 ea,.int .i64 1,.int .i64 (en:Int)] 40)
        have NX:=hid ((held_put HB.out hen (b:=true) hnew hfar).al (.cells #[.int .i64 ea,.int .i64 1,.int .i64 (en:Int)] 40))
        have KX:=hid ((KB.out.st (p:=⟨K+1,en,none⟩) (by show K+1≠K;omega) (.bool true)).al (.cells #[.int .i64 ea,.int .i64 1,.int .i64 (en:Int)] 40))
        have MX:=hid ((NB.out.st (p:=⟨K+1,en,none⟩) (by show K+1≠gN;omega) (.bool true)).al (.cells #[.int .i64 ea,.int .i64 1,.int .i64 (en:Int)] 40))
        have FX:=hid ((FromB.st (B:=Bd) (W:=V) (p:=⟨K+1,en,none⟩) (by show K+1<Bd;omega) (.bool true)).trans (FromB.gr ((Gr.refl _).al (.cells #[.int .i64 ea,.int .i64 1,.int .i64 (en:Int)] 40))))
        have RX:=hid ((GV.out.st (p:=⟨K+1,en,none⟩) (by show w.heap.size<=K+1;omega) (.bool true)).al (.cells #[.int .i64 ea,.int .i64 1,.int .i64 (en:Int)] 40))
        clear hsr hsN hs0 hst hFs WR GX hfar
        have kb:=KB.out
        have nb:=NB.out
        have ltk:=kb.lt
        have ltn:=nb.lt
        obtain⟨p0,pz0⟩:=kb.at_ (k:=0) (v:=.int .i64 nowr) rfl
        obtain⟨p1,pz1⟩:=kb.at_ (k:=1) (v:=.slice A1r n1r c1r) rfl
        obtain⟨p2,pz2⟩:=kb.at_ (k:=2) (v:=.slice A2r n2r c2r) rfl
        obtain⟨p3,pz3⟩:=kb.at_ (k:=3) (v:=.slice A3r n3r c3r) rfl
        obtain⟨p4,pz4⟩:=kb.at_ (k:=4) (v:=.slice A4r n4r c4r) rfl
        obtain⟨p5,pz5⟩:=kb.at_ (k:=5) (v:=.int .i64 stopr) rfl
        obtain⟨q0,qz0⟩:=nb.at_ (k:=0) (v:=.int .i64 nowN) rfl
        obtain⟨q1,qz1⟩:=nb.at_ (k:=1) (v:=.slice A1N n1N c1N) rfl
        obtain⟨q2,qz2⟩:=nb.at_ (k:=2) (v:=.slice A2N n2N c2N) rfl
        obtain⟨q3,qz3⟩:=nb.at_ (k:=3) (v:=.slice A3N 4 c3N) rfl
        obtain⟨q4,qz4⟩:=nb.at_ (k:=4) (v:=.slice A4N n4N c4N) rfl
        obtain⟨q5,qz5⟩:=nb.at_ (k:=5) (v:=.int .i64 stopN) rfl
        clear kb nb
        go_upto_region 13 with fail
        clear p0 pz0 q0 qz0 p1 pz1 q1 qz1 p2 pz2 q2 qz2 p3 pz3 q3 qz3 p4 pz4 q4 qz4 p5 pz5 q5 qz5 ltk ltn
        go_loopw [14,89] (λ Fv i wr=>(Fv=.bool false/\i=.int .i64 0/\wr=V)\/(Fv=.bool false/\i=.int .i64 1/\Hid (Blk wr K #[.int .i64 nowr,.slice A1r n1r c1r,.slice A2r n2r c2r,.slice A3r n3r c3r,.slice A4r n4r c4r,.int .i64 stopr] 29)/\Hid (Blk wr (K+1) #[.bool (LK ψ 0),.bool (LK ψ 1),.bool (LK ψ 2),.bool (LK ψ 3)] 34)/\Hid (Blk wr gN #[.int .i64 nowN,.slice A1N n1N c1N,.slice A2N n2N c2N,.slice A3N 4 c3N,.slice A4N n4N c4N,.int .i64 stopN] 29)/\Hid (FromB Bd V wr)/\Hid (Gr w wr))) (λ _ i _=>1-(intOf i).toNat)
        case atStart=>exact .inl ⟨rfl,rfl,rfl⟩
        case round =>
         rcases hrel with ⟨rfl,rfl,hVw⟩ | ⟨rfl,rfl,KY,HY,NY,FY,RY⟩
         . subst hVw
           go_wp2_with fail
           go_roundw
           case rel=>exact .inr ⟨rfl,by go_num,KX,NX,MX,FX,RX⟩
           case measure=>simp [intOf]
         . clear KB HB NB GV FB KX NX MX FX RX hc1 hc2 lth
           have KB:=KY
           have HB:=HY
           have NB:=NY
           have FB:=FY
           have GV:=RY
           clear KY HY NY FY RY
           rename World=>VT
           have kb:=KB.out
           have nb:=NB.out
           have ltk:=kb.lt
           have ltn:=nb.lt
           have ks:=(kb.at_ (k:=5) (v:=.int .i64 stopr) rfl).1
           have ns:=(nb.at_ (k:=5) (v:=.int .i64 stopN) rfl).1
           have hb:=HB.out
           have lth:=hb.lt
           have b0:=(hb.at_ (k:=0) (v:=.bool (LK ψ 0)) rfl).1
           have b1:=(hb.at_ (k:=1) (v:=.bool (LK ψ 1)) rfl).1
           have b2:=(hb.at_ (k:=2) (v:=.bool (LK ψ 2)) rfl).1
           have b3:=(hb.at_ (k:=3) (v:=.bool (LK ψ 3)) rfl).1
           clear kb nb hb
           go_upto_region 38 with fail
           clear ks ns b0 b1 b2 b3 ltk ltn lth
           go_loopw [138] (λ i wr=>∃ j:Nat,j<=4/\i=.int .i64 (j:Int)/\Hid (Gr VT wr)) (λ i _=>4-(intOf i).toNat)
           case atStart=>exact⟨0,by decide,rfl,hid (Gr.refl _)⟩
           case round =>
            obtain⟨j,hj,rfl,HV⟩:=hrel
            have nb:=NB.out.gr HV.out
            have ltn:=nb.lt
            by_cases hj4:j<4
            . have n3:=(nb.at_ (k:=3) (v:=.slice A3N 4 c3N) rfl).1
              obtain⟨bm,om,xm,rfl,hbm,hxm,-,e0,e1,e2⟩:=T3Mem.cells (k:=j) (((WN.out.to FB.out).gr HV.out).is).m hj4
              obtain⟨a,bb,cc,q,hq,hqn,hLa⟩:=word_at HPF.out hj4 hxm
              have hidx:=idx4 (LK ψ) hj4
              rw [hLa] at hidx
              rw [hq] at e0
              have cU:=λ W=>hid (P3.Unpack_ok a bb cc q hqn W)
              have j0:(0:Int)<=(j:Int):=by omega
              have j1:(j:Int)<4:=by omega
              generalize P3.pw a bb cc q=wd0 at cU e0
              clear nb hxm hq hqn hLa e1 e2
              go_wp2_with fail
              with_reducible refine (cU _).out.mono ?_
              rintro e w8 ⟨rfl,g8⟩
              go_wp2_with fail
              go_roundw
              case rel=>exact⟨j+1,by omega,by go_num,hid ((HV.out.trans g8).al _)⟩
              case measure=>simp [intOf];omega
            . obtain rfl:j=4:=by omega
              have kb:=KB.out.gr HV.out
              have ltk:=kb.lt
              have GF:=hid (put6_gr (x0:=.int .i64 nowN) (x1:=.slice A1N n1N c1N) (x2:=.slice A2N n2N c2N) (x3:=.slice A3N 4 c3N) (x4:=.slice A4N n4N c4N) (x5:=.int .i64 stopN) (b:=K) (GV.out.trans HV.out) hKw)
              have BF:=hid (put6_blk kb rfl (.int .i64 nowN) (.slice A1N n1N c1N) (.slice A2N n2N c2N) (.slice A3N 4 c3N) (.slice A4N n4N c4N) (.int .i64 stopN))
              have HF2:=hid (put6_far (b:=K) (g:=K+1) (HB.out.gr HV.out) (by omega) (.int .i64 nowN) (.slice A1N n1N c1N) (.slice A2N n2N c2N) (.slice A3N 4 c3N) (.slice A4N n4N c4N) (.int .i64 stopN))
              have WF:=hid (WAt.new (S:=λ k=>k=K\/k=K+1) (((WN.out.to FB.out).gr HV.out).to (FromB.put6 (b:=K) hKB (.int .i64 nowN) (.slice A1N n1N c1N) (.slice A2N n2N c2N) (.slice A3N 4 c3N) (.slice A4N n4N c4N) (.int .i64 stopN))) (λ k hk=>by omega))
              obtain⟨a0,az0⟩:=nb.at_ (k:=0) (v:=.int .i64 nowN) rfl
              obtain⟨a1,az1⟩:=nb.at_ (k:=1) (v:=.slice A1N n1N c1N) rfl
              obtain⟨a2,az2⟩:=nb.at_ (k:=2) (v:=.slice A2N n2N c2N) rfl
              obtain⟨a3,az3⟩:=nb.at_ (k:=3) (v:=.slice A3N 4 c3N) rfl
              obtain⟨a4,az4⟩:=nb.at_ (k:=4) (v:=.slice A4N n4N c4N) rfl
              obtain⟨a5,az5⟩:=nb.at_ (k:=5) (v:=.int .i64 stopN) rfl
              obtain⟨b0,bz0⟩:=kb.at_ (k:=0) (v:=.int .i64 nowr) rfl
              obtain⟨b1,bz1⟩:=kb.at_ (k:=1) (v:=.slice A1r n1r c1r) rfl
              obtain⟨b2,bz2⟩:=kb.at_ (k:=2) (v:=.slice A2r n2r c2r) rfl
              obtain⟨b3,bz3⟩:=kb.at_ (k:=3) (v:=.slice A3r n3r c3r) rfl
              obtain⟨b4,bz4⟩:=kb.at_ (k:=4) (v:=.slice A4r n4r c4r) rfl
              obtain⟨b5,bz5⟩:=kb.at_ (k:=5) (v:=.int .i64 stopr) rfl
              clear nb kb HV
              go_wp2_with fail
              go_roundw
              case rel=>exact⟨k+1,ψ,⟨nowN,⟨A1N,n1N,c1N⟩,⟨A2N,n2N,c2N⟩,⟨A3N,4,c3N⟩,⟨A4N,n4N,c4N⟩,stopN⟩,by omega,by go_num,HPF,HPN,BF,HF2,WF,GF⟩
              case measure=>simp [intOf];omega
      . have tN:(stopN != 0)=false:=by rw [hsN];rw [Classical.byContradiction (λ q=>absurd (hFs.1 q) (by decide):¬ ψ.stop=0->False)];decide
        have hcell:=held_cell HB.out hen
        obtain⟨hc1,hc2⟩:=hcell
        have lth:=HB.out.lt
        have GX:=(Gr.refl V).al (.cells #[.int .i64 ea,.int .i64 2,.int .i64 (en:Int)] 40)
        have NX:=hid (show Blk _ (K+1) #[.bool (LK ψ 0),.bool (LK ψ 1),.bool (LK ψ 2),.bool (LK ψ 3)] 34 from by rw [hfar];exact HB.out.gr GX)
        have KX:=hid (KB.out.gr GX)
        have MX:=hid (NB.out.gr GX)
        have FX:=hid (FromB.gr (B:=Bd) GX)
        have RX:=hid (GV.out.trans GX)
        clear hsr hsN hs0 hst hFs WR GX hfar
        have kb:=KB.out
        have nb:=NB.out
        have ltk:=kb.lt
        have ltn:=nb.lt
        obtain⟨p0,pz0⟩:=kb.at_ (k:=0) (v:=.int .i64 nowr) rfl
        obtain⟨p1,pz1⟩:=kb.at_ (k:=1) (v:=.slice A1r n1r c1r) rfl
        obtain⟨p2,pz2⟩:=kb.at_ (k:=2) (v:=.slice A2r n2r c2r) rfl
        obtain⟨p3,pz3⟩:=kb.at_ (k:=3) (v:=.slice A3r n3r c3r) rfl
        obtain⟨p4,pz4⟩:=kb.at_ (k:=4) (v:=.slice A4r n4r c4r) rfl
        obtain⟨p5,pz5⟩:=kb.at_ (k:=5) (v:=.int .i64 stopr) rfl
        obtain⟨q0,qz0⟩:=nb.at_ (k:=0) (v:=.int .i64 nowN) rfl
        obtain⟨q1,qz1⟩:=nb.at_ (k:=1) (v:=.slice A1N n1N c1N) rfl
        obtain⟨q2,qz2⟩:=nb.at_ (k:=2) (v:=.slice A2N n2N c2N) rfl
        obtain⟨q3,qz3⟩:=nb.at_ (k:=3) (v:=.slice A3N 4 c3N) rfl
        obtain⟨q4,qz4⟩:=nb.at_ (k:=4) (v:=.slice A4N n4N c4N) rfl
        obtain⟨q5,qz5⟩:=nb.at_ (k:=5) (v:=.int .i64 stopN) rfl
        clear kb nb
        go_upto_region 13 with fail
        clear p0 pz0 q0 qz0 p1 pz1 q1 qz1 p2 pz2 q2 qz2 p3 pz3 q3 qz3 p4 pz4 q4 qz4 p5 pz5 q5 qz5 ltk ltn
        go_loopw [14,89] (λ Fv i wr=>(Fv=.bool false/\i=.int .i64 0/\wr=V)\/(Fv=.bool false/\i=.int .i64 1/\Hid (Blk wr K #[.int .i64 nowr,.slice A1r n1r c1r,.slice A2r n2r c2r,.slice A3r n3r c3r,.slice A4r n4r c4r,.int .i64 stopr] 29)/\Hid (Blk wr (K+1) #[.bool (LK ψ 0),.bool (LK ψ 1),.bool (LK ψ 2),.bool (LK ψ 3)] 34)/\Hid (Blk wr gN #[.int .i64 nowN,.slice A1N n1N c1N,.slice A2N n2N c2N,.slice A3N 4 c3N,.slice A4N n4N c4N,.int .i64 stopN] 29)/\Hid (FromB Bd V wr)/\Hid (Gr w wr))) (λ _ i _=>1-(intOf i).toNat)
        case atStart=>exact .inl ⟨rfl,rfl,rfl⟩
        case round =>
         rcases hrel with ⟨rfl,rfl,hVw⟩ | ⟨rfl,rfl,KY,HY,NY,FY,RY⟩
         . subst hVw
           go_wp2_with fail
           go_roundw
           case rel=>exact .inr ⟨rfl,by go_num,KX,NX,MX,FX,RX⟩
           case measure=>simp [intOf]
         . clear KB HB NB GV FB KX NX MX FX RX hc1 hc2 lth
           have KB:=KY
           have HB:=HY
           have NB:=NY
           have FB:=FY
           have GV:=RY
           clear KY HY NY FY RY
           rename World=>VT
           have kb:=KB.out
           have nb:=NB.out
           have ltk:=kb.lt
           have ltn:=nb.lt
           have ks:=(kb.at_ (k:=5) (v:=.int .i64 stopr) rfl).1
           have ns:=(nb.at_ (k:=5) (v:=.int .i64 stopN) rfl).1
           have hb:=HB.out
           have lth:=hb.lt
           have b0:=(hb.at_ (k:=0) (v:=.bool (LK ψ 0)) rfl).1
           have b1:=(hb.at_ (k:=1) (v:=.bool (LK ψ 1)) rfl).1
           have b2:=(hb.at_ (k:=2) (v:=.bool (LK ψ 2)) rfl).1
           have b3:=(hb.at_ (k:=3) (v:=.bool (LK ψ 3)) rfl).1
           clear kb nb hb
           go_upto_region 38 with fail
           clear ks ns b0 b1 b2 b3 ltk ltn lth
           go_loopw [138] (λ i wr=>∃ j:Nat,j<=4/\i=.int .i64 (j:Int)/\Hid (Gr VT wr)) (λ i _=>4-(intOf i).toNat)
           case atStart=>exact⟨0,by decide,rfl,hid (Gr.refl _)⟩
           case round =>
            obtain⟨j,hj,rfl,HV⟩:=hrel
            have nb:=NB.out.gr HV.out
            have ltn:=nb.lt
            by_cases hj4:j<4
            . have n3:=(nb.at_ (k:=3) (v:=.slice A3N 4 c3N) rfl).1
              obtain⟨bm,om,xm,rfl,hbm,hxm,-,e0,e1,e2⟩:=T3Mem.cells (k:=j) (((WN.out.to FB.out).gr HV.out).is).m hj4
              obtain⟨a,bb,cc,q,hq,hqn,hLa⟩:=word_at HPF.out hj4 hxm
              have hidx:=idx4 (LK ψ) hj4
              rw [hLa] at hidx
              rw [hq] at e0
              have cU:=λ W=>hid (P3.Unpack_ok a bb cc q hqn W)
              have j0:(0:Int)<=(j:Int):=by omega
              have j1:(j:Int)<4:=by omega
              generalize P3.pw a bb cc q=wd0 at cU e0
              clear nb hxm hq hqn hLa e1 e2
              go_wp2_with fail
              with_reducible refine (cU _).out.mono ?_
              rintro e w8 ⟨rfl,g8⟩
              go_wp2_with fail
              go_roundw
              case rel=>exact⟨j+1,by omega,by go_num,hid ((HV.out.trans g8).al _)⟩
              case measure=>simp [intOf];omega
            . obtain rfl:j=4:=by omega
              have kb:=KB.out.gr HV.out
              have ltk:=kb.lt
              have GF:=hid (put6_gr (x0:=.int .i64 nowN) (x1:=.slice A1N n1N c1N) (x2:=.slice A2N n2N c2N) (x3:=.slice A3N 4 c3N) (x4:=.slice A4N n4N c4N) (x5:=.int .i64 stopN) (b:=K) (GV.out.trans HV.out) hKw)
              have BF:=hid (put6_blk kb rfl (.int .i64 nowN) (.slice A1N n1N c1N) (.slice A2N n2N c2N) (.slice A3N 4 c3N) (.slice A4N n4N c4N) (.int .i64 stopN))
              have HF2:=hid (put6_far (b:=K) (g:=K+1) (HB.out.gr HV.out) (by omega) (.int .i64 nowN) (.slice A1N n1N c1N) (.slice A2N n2N c2N) (.slice A3N 4 c3N) (.slice A4N n4N c4N) (.int .i64 stopN))
              have WF:=hid (WAt.new (S:=λ k=>k=K\/k=K+1) (((WN.out.to FB.out).gr HV.out).to (FromB.put6 (b:=K) hKB (.int .i64 nowN) (.slice A1N n1N c1N) (.slice A2N n2N c2N) (.slice A3N 4 c3N) (.slice A4N n4N c4N) (.int .i64 stopN))) (λ k hk=>by omega))
              obtain⟨a0,az0⟩:=nb.at_ (k:=0) (v:=.int .i64 nowN) rfl
              obtain⟨a1,az1⟩:=nb.at_ (k:=1) (v:=.slice A1N n1N c1N) rfl
              obtain⟨a2,az2⟩:=nb.at_ (k:=2) (v:=.slice A2N n2N c2N) rfl
              obtain⟨a3,az3⟩:=nb.at_ (k:=3) (v:=.slice A3N 4 c3N) rfl
              obtain⟨a4,az4⟩:=nb.at_ (k:=4) (v:=.slice A4N n4N c4N) rfl
              obtain⟨a5,az5⟩:=nb.at_ (k:=5) (v:=.int .i64 stopN) rfl
              obtain⟨b0,bz0⟩:=kb.at_ (k:=0) (v:=.int .i64 nowr) rfl
              obtain⟨b1,bz1⟩:=kb.at_ (k:=1) (v:=.slice A1r n1r c1r) rfl
              obtain⟨b2,bz2⟩:=kb.at_ (k:=2) (v:=.slice A2r n2r c2r) rfl
              obtain⟨b3,bz3⟩:=kb.at_ (k:=3) (v:=.slice A3r n3r c3r) rfl
              obtain⟨b4,bz4⟩:=kb.at_ (k:=4) (v:=.slice A4r n4r c4r) rfl
              obtain⟨b5,bz5⟩:=kb.at_ (k:=5) (v:=.int .i64 stopr) rfl
              clear nb kb HV
              go_wp2_with fail
              go_roundw
              case rel=>exact⟨k+1,ψ,⟨nowN,⟨A1N,n1N,c1N⟩,⟨A2N,n2N,c2N⟩,⟨A3N,4,c3N⟩,⟨A4N,n4N,c4N⟩,stopN⟩,by omega,by go_num,HPF,HPN,BF,HF2,WF,GF⟩
              case measure=>simp [intOf];omega
      . have tN:(stopN != 0)=false:=by rw [hsN];rw [Classical.byContradiction (λ q=>absurd (hFs.1 q) (by decide):¬ ψ.stop=0->False)];decide
        have hcell:=held_cell HB.out hen
        rw [hwas] at hcell
        obtain⟨hc1,hc2⟩:=hcell
        have lth:=HB.out.lt
        have GX:=(Gr.refl V).al (.cells #[.int .i64 ea,.int .i64 3,.int .i64 (en:Int)] 40)
        have NX:=hid ((held_put HB.out hen (b:=false) hnew hfar).al (.cells #[.int .i64 ea,.int .i64 3,.int .i64 (en:Int)] 40))
        have KX:=hid ((KB.out.st (p:=⟨K+1,en,none⟩) (by show K+1≠K;omega) (.bool false)).al (.cells #[.int .i64 ea,.int .i64 3,.int .i64 (en:Int)] 40))
        have MX:=hid ((NB.out.st (p:=⟨K+1,en,none⟩) (by show K+1≠gN;omega) (.bool false)).al (.cells #[.int .i64 ea,.int .i64 3,.int .i64 (en:Int)] 40))
        have FX:=hid ((FromB.st (B:=Bd) (W:=V) (p:=⟨K+1,en,none⟩) (by show K+1<Bd;omega) (.bool false)).trans (FromB.gr ((Gr.refl _).al (.cells #[.int .i64 ea,.int .i64 3,.int .i64 (en:Int)] 40))))
        have RX:=hid ((GV.out.st (p:=⟨K+1,en,none⟩) (by show w.heap.size<=K+1;omega) (.bool false)).al (.cells #[.int .i64 ea,.int .i64 3,.int .i64 (en:Int)] 40))
        clear hsr hsN hs0 hst hFs WR GX hfar
        have kb:=KB.out
        have nb:=NB.out
        have ltk:=kb.lt
        have ltn:=nb.lt
        obtain⟨p0,pz0⟩:=kb.at_ (k:=0) (v:=.int .i64 nowr) rfl
        obtain⟨p1,pz1⟩:=kb.at_ (k:=1) (v:=.slice A1r n1r c1r) rfl
        obtain⟨p2,pz2⟩:=kb.at_ (k:=2) (v:=.slice A2r n2r c2r) rfl
        obtain⟨p3,pz3⟩:=kb.at_ (k:=3) (v:=.slice A3r n3r c3r) rfl
        obtain⟨p4,pz4⟩:=kb.at_ (k:=4) (v:=.slice A4r n4r c4r) rfl
        obtain⟨p5,pz5⟩:=kb.at_ (k:=5) (v:=.int .i64 stopr) rfl
        obtain⟨q0,qz0⟩:=nb.at_ (k:=0) (v:=.int .i64 nowN) rfl
        obtain⟨q1,qz1⟩:=nb.at_ (k:=1) (v:=.slice A1N n1N c1N) rfl
        obtain⟨q2,qz2⟩:=nb.at_ (k:=2) (v:=.slice A2N n2N c2N) rfl
        obtain⟨q3,qz3⟩:=nb.at_ (k:=3) (v:=.slice A3N 4 c3N) rfl
        obtain⟨q4,qz4⟩:=nb.at_ (k:=4) (v:=.slice A4N n4N c4N) rfl
        obtain⟨q5,qz5⟩:=nb.at_ (k:=5) (v:=.int .i64 stopN) rfl
        clear kb nb
        go_upto_region 13 with fail
        clear p0 pz0 q0 qz0 p1 pz1 q1 qz1 p2 pz2 q2 qz2 p3 pz3 q3 qz3 p4 pz4 q4 qz4 p5 pz5 q5 qz5 ltk ltn
        go_loopw [14,89] (λ Fv i wr=>(Fv=.bool false/\i=.int .i64 0/\wr=V)\/(Fv=.bool false/\i=.int .i64 1/\Hid (Blk wr K #[.int .i64 nowr,.slice A1r n1r c1r,.slice A2r n2r c2r,.slice A3r n3r c3r,.slice A4r n4r c4r,.int .i64 stopr] 29)/\Hid (Blk wr (K+1) #[.bool (LK ψ 0),.bool (LK ψ 1),.bool (LK ψ 2),.bool (LK ψ 3)] 34)/\Hid (Blk wr gN #[.int .i64 nowN,.slice A1N n1N c1N,.slice A2N n2N c2N,.slice A3N 4 c3N,.slice A4N n4N c4N,.int .i64 stopN] 29)/\Hid (FromB Bd V wr)/\Hid (Gr w wr))) (λ _ i _=>1-(intOf i).toNat)
        case atStart=>exact .inl ⟨rfl,rfl,rfl⟩
        case round =>
         rcases hrel with ⟨rfl,rfl,hVw⟩ | ⟨rfl,rfl,KY,HY,NY,FY,RY⟩
         . subst hVw
           go_wp2_with fail
           go_roundw
           case rel=>exact .inr ⟨rfl,by go_num,KX,NX,MX,FX,RX⟩
           case measure=>simp [intOf]
         . clear KB HB NB GV FB KX NX MX FX RX hc1 hc2 lth
           have KB:=KY
           have HB:=HY
           have NB:=NY
           have FB:=FY
           have GV:=RY
           clear KY HY NY FY RY
           rename World=>VT
           have kb:=KB.out
           have nb:=NB.out
           have ltk:=kb.lt
           have ltn:=nb.lt
           have ks:=(kb.at_ (k:=5) (v:=.int .i64 stopr) rfl).1
           have ns:=(nb.at_ (k:=5) (v:=.int .i64 stopN) rfl).1
           have hb:=HB.out
           have lth:=hb.lt
           have b0:=(hb.at_ (k:=0) (v:=.bool (LK ψ 0)) rfl).1
           have b1:=(hb.at_ (k:=1) (v:=.bool (LK ψ 1)) rfl).1
           have b2:=(hb.at_ (k:=2) (v:=.bool (LK ψ 2)) rfl).1
           have b3:=(hb.at_ (k:=3) (v:=.bool (LK ψ 3)) rfl).1
           clear kb nb hb
           go_upto_region 38 with fail
           clear ks ns b0 b1 b2 b3 ltk ltn lth
           go_loopw [138] (λ i wr=>∃ j:Nat,j<=4/\i=.int .i64 (j:Int)/\Hid (Gr VT wr)) (λ i _=>4-(intOf i).toNat)
           case atStart=>exact⟨0,by decide,rfl,hid (Gr.refl _)⟩
           case round =>
            obtain⟨j,hj,rfl,HV⟩:=hrel
            have nb:=NB.out.gr HV.out
            have ltn:=nb.lt
            by_cases hj4:j<4
            . have n3:=(nb.at_ (k:=3) (v:=.slice A3N 4 c3N) rfl).1
              obtain⟨bm,om,xm,rfl,hbm,hxm,-,e0,e1,e2⟩:=T3Mem.cells (k:=j) (((WN.out.to FB.out).gr HV.out).is).m hj4
              obtain⟨a,bb,cc,q,hq,hqn,hLa⟩:=word_at HPF.out hj4 hxm
              have hidx:=idx4 (LK ψ) hj4
              rw [hLa] at hidx
              rw [hq] at e0
              have cU:=λ W=>hid (P3.Unpack_ok a bb cc q hqn W)
              have j0:(0:Int)<=(j:Int):=by omega
              have j1:(j:Int)<4:=by omega
              generalize P3.pw a bb cc q=wd0 at cU e0
              clear nb hxm hq hqn hLa e1 e2
              go_wp2_with fail
              with_reducible refine (cU _).out.mono ?_
              rintro e w8 ⟨rfl,g8⟩
              go_wp2_with fail
              go_roundw
              case rel=>exact⟨j+1,by omega,by go_num,hid ((HV.out.trans g8).al _)⟩
              case measure=>simp [intOf];omega
            . obtain rfl:j=4:=by omega
              have kb:=KB.out.gr HV.out
              have ltk:=kb.lt
              have GF:=hid (put6_gr (x0:=.int .i64 nowN) (x1:=.slice A1N n1N c1N) (x2:=.slice A2N n2N c2N) (x3:=.slice A3N 4 c3N) (x4:=.slice A4N n4N c4N) (x5:=.int .i64 stopN) (b:=K) (GV.out.trans HV.out) hKw)
              have BF:=hid (put6_blk kb rfl (.int .i64 nowN) (.slice A1N n1N c1N) (.slice A2N n2N c2N) (.slice A3N 4 c3N) (.slice A4N n4N c4N) (.int .i64 stopN))
              have HF2:=hid (put6_far (b:=K) (g:=K+1) (HB.out.gr HV.out) (by omega) (.int .i64 nowN) (.slice A1N n1N c1N) (.slice A2N n2N c2N) (.slice A3N 4 c3N) (.slice A4N n4N c4N) (.int .i64 stopN))
              have WF:=hid (WAt.new (S:=λ k=>k=K\/k=K+1) (((WN.out.to FB.out).gr HV.out).to (FromB.put6 (b:=K) hKB (.int .i64 nowN) (.slice A1N n1N c1N) (.slice A2N n2N c2N) (.slice A3N 4 c3N) (.slice A4N n4N c4N) (.int .i64 stopN))) (λ k hk=>by omega))
              obtain⟨a0,az0⟩:=nb.at_ (k:=0) (v:=.int .i64 nowN) rfl
              obtain⟨a1,az1⟩:=nb.at_ (k:=1) (v:=.slice A1N n1N c1N) rfl
              obtain⟨a2,az2⟩:=nb.at_ (k:=2) (v:=.slice A2N n2N c2N) rfl
              obtain⟨a3,az3⟩:=nb.at_ (k:=3) (v:=.slice A3N 4 c3N) rfl
              obtain⟨a4,az4⟩:=nb.at_ (k:=4) (v:=.slice A4N n4N c4N) rfl
              obtain⟨a5,az5⟩:=nb.at_ (k:=5) (v:=.int .i64 stopN) rfl
              obtain⟨b0,bz0⟩:=kb.at_ (k:=0) (v:=.int .i64 nowr) rfl
              obtain⟨b1,bz1⟩:=kb.at_ (k:=1) (v:=.slice A1r n1r c1r) rfl
              obtain⟨b2,bz2⟩:=kb.at_ (k:=2) (v:=.slice A2r n2r c2r) rfl
              obtain⟨b3,bz3⟩:=kb.at_ (k:=3) (v:=.slice A3r n3r c3r) rfl
              obtain⟨b4,bz4⟩:=kb.at_ (k:=4) (v:=.slice A4r n4r c4r) rfl
              obtain⟨b5,bz5⟩:=kb.at_ (k:=5) (v:=.int .i64 stopr) rfl
              clear nb kb HV
              go_wp2_with fail
              go_roundw
              case rel=>exact⟨k+1,ψ,⟨nowN,⟨A1N,n1N,c1N⟩,⟨A2N,n2N,c2N⟩,⟨A3N,4,c3N⟩,⟨A4N,n4N,c4N⟩,stopN⟩,by omega,by go_num,HPF,HPN,BF,HF2,WF,GF⟩
              case measure=>simp [intOf];omega
      . have tN:(stopN != 0)=true:=by rw [hsN];simpa using hFs.2 rfl
        have hcell:=held_cell HB.out hen
        rw [hwas] at hcell
        obtain⟨hc1,hc2⟩:=hcell
        have lth:=HB.out.lt
        have GX:=(Gr.refl V).al (.cells #[.int .i64 ea,.int .i64 4,.int .i64 (en:Int)] 40)
        have NX:=hid (show Blk _ (K+1) #[.bool (LK ψ 0),.bool (LK ψ 1),.bool (LK ψ 2),.bool (LK ψ 3)] 34 from by rw [hfar];exact HB.out.gr GX)
        have KX:=hid (KB.out.gr GX)
        have MX:=hid (NB.out.gr GX)
        have FX:=hid (FromB.gr (B:=Bd) GX)
        have RX:=hid (GV.out.trans GX)
        clear hsr hsN hs0 hst hFs WR GX hfar
        have kb:=KB.out
        have nb:=NB.out
        have ltk:=kb.lt
        have ltn:=nb.lt
        obtain⟨p0,pz0⟩:=kb.at_ (k:=0) (v:=.int .i64 nowr) rfl
        obtain⟨p1,pz1⟩:=kb.at_ (k:=1) (v:=.slice A1r n1r c1r) rfl
        obtain⟨p2,pz2⟩:=kb.at_ (k:=2) (v:=.slice A2r n2r c2r) rfl
        obtain⟨p3,pz3⟩:=kb.at_ (k:=3) (v:=.slice A3r n3r c3r) rfl
        obtain⟨p4,pz4⟩:=kb.at_ (k:=4) (v:=.slice A4r n4r c4r) rfl
        obtain⟨p5,pz5⟩:=kb.at_ (k:=5) (v:=.int .i64 stopr) rfl
        obtain⟨q0,qz0⟩:=nb.at_ (k:=0) (v:=.int .i64 nowN) rfl
        obtain⟨q1,qz1⟩:=nb.at_ (k:=1) (v:=.slice A1N n1N c1N) rfl
        obtain⟨q2,qz2⟩:=nb.at_ (k:=2) (v:=.slice A2N n2N c2N) rfl
        obtain⟨q3,qz3⟩:=nb.at_ (k:=3) (v:=.slice A3N 4 c3N) rfl
        obtain⟨q4,qz4⟩:=nb.at_ (k:=4) (v:=.slice A4N n4N c4N) rfl
        obtain⟨q5,qz5⟩:=nb.at_ (k:=5) (v:=.int .i64 stopN) rfl
        clear kb nb
        go_upto_region 13 with fail
        clear p0 pz0 q0 qz0 p1 pz1 q1 qz1 p2 pz2 q2 qz2 p3 pz3 q3 qz3 p4 pz4 q4 qz4 p5 pz5 q5 qz5 ltk ltn
        go_loopw [14,89] (λ Fv i wr=>(Fv=.bool false/\i=.int .i64 0/\wr=V)\/(Fv=.bool true/\i=.int .i64 1/\Hid (Blk wr K #[.int .i64 nowr,.slice A1r n1r c1r,.slice A2r n2r c2r,.slice A3r n3r c3r,.slice A4r n4r c4r,.int .i64 stopr] 29)/\Hid (Blk wr (K+1) #[.bool (LK ψ 0),.bool (LK ψ 1),.bool (LK ψ 2),.bool (LK ψ 3)] 34)/\Hid (Blk wr gN #[.int .i64 nowN,.slice A1N n1N c1N,.slice A2N n2N c2N,.slice A3N 4 c3N,.slice A4N n4N c4N,.int .i64 stopN] 29)/\Hid (FromB Bd V wr)/\Hid (Gr w wr))) (λ _ i _=>1-(intOf i).toNat)
        case atStart=>exact .inl ⟨rfl,rfl,rfl⟩
        case round =>
         rcases hrel with ⟨rfl,rfl,hVw⟩ | ⟨rfl,rfl,KY,HY,NY,FY,RY⟩
         . subst hVw
           go_wp2_with fail
           go_roundw
           case rel=>exact .inr ⟨rfl,by go_num,KX,NX,MX,FX,RX⟩
           case measure=>simp [intOf]
         . clear KB HB NB GV FB KX NX MX FX RX hc1 hc2 lth
           have KB:=KY
           have HB:=HY
           have NB:=NY
           have FB:=FY
           have GV:=RY
           clear KY HY NY FY RY
           rename World=>VT
           have kb:=KB.out
           have nb:=NB.out
           have ltk:=kb.lt
           have ltn:=nb.lt
           have ks:=(kb.at_ (k:=5) (v:=.int .i64 stopr) rfl).1
           have ns:=(nb.at_ (k:=5) (v:=.int .i64 stopN) rfl).1
           have hb:=HB.out
           have lth:=hb.lt
           have b0:=(hb.at_ (k:=0) (v:=.bool (LK ψ 0)) rfl).1
           have b1:=(hb.at_ (k:=1) (v:=.bool (LK ψ 1)) rfl).1
           have b2:=(hb.at_ (k:=2) (v:=.bool (LK ψ 2)) rfl).1
           have b3:=(hb.at_ (k:=3) (v:=.bool (LK ψ 3)) rfl).1
           clear kb nb hb
           go_upto_region 38 with fail
           clear ks ns b0 b1 b2 b3 ltk ltn lth
           go_loopw [138] (λ i wr=>∃ j:Nat,j<=4/\i=.int .i64 (j:Int)/\Hid (Gr VT wr)) (λ i _=>4-(intOf i).toNat)
           case atStart=>exact⟨0,by decide,rfl,hid (Gr.refl _)⟩
           case round =>
            obtain⟨j,hj,rfl,HV⟩:=hrel
            have nb:=NB.out.gr HV.out
            have ltn:=nb.lt
            by_cases hj4:j<4
            . have n3:=(nb.at_ (k:=3) (v:=.slice A3N 4 c3N) rfl).1
              obtain⟨bm,om,xm,rfl,hbm,hxm,-,e0,e1,e2⟩:=T3Mem.cells (k:=j) (((WN.out.to FB.out).gr HV.out).is).m hj4
              obtain⟨a,bb,cc,q,hq,hqn,hLa⟩:=word_at HPF.out hj4 hxm
              have hidx:=idx4 (LK ψ) hj4
              rw [hLa] at hidx
              rw [hq] at e0
              have cU:=λ W=>hid (P3.Unpack_ok a bb cc q hqn W)
              have j0:(0:Int)<=(j:Int):=by omega
              have j1:(j:Int)<4:=by omega
              generalize P3.pw a bb cc q=wd0 at cU e0
              clear nb hxm hq hqn hLa e1 e2
              go_wp2_with fail
              with_reducible refine (cU _).out.mono ?_
              rintro e w8 ⟨rfl,g8⟩
              go_wp2_with fail
              go_roundw
              case rel=>exact⟨j+1,by omega,by go_num,hid ((HV.out.trans g8).al _)⟩
              case measure=>simp [intOf];omega
            . obtain rfl:j=4:=by omega
              have kb:=KB.out.gr HV.out
              have ltk:=kb.lt
              have GF:=hid (put6_gr (x0:=.int .i64 nowN) (x1:=.slice A1N n1N c1N) (x2:=.slice A2N n2N c2N) (x3:=.slice A3N 4 c3N) (x4:=.slice A4N n4N c4N) (x5:=.int .i64 stopN) (b:=K) (GV.out.trans HV.out) hKw)
              have BF:=hid (put6_blk kb rfl (.int .i64 nowN) (.slice A1N n1N c1N) (.slice A2N n2N c2N) (.slice A3N 4 c3N) (.slice A4N n4N c4N) (.int .i64 stopN))
              have HF2:=hid (put6_far (b:=K) (g:=K+1) (HB.out.gr HV.out) (by omega) (.int .i64 nowN) (.slice A1N n1N c1N) (.slice A2N n2N c2N) (.slice A3N 4 c3N) (.slice A4N n4N c4N) (.int .i64 stopN))
              have WF:=hid (WAt.new (S:=λ k=>k=K\/k=K+1) (((WN.out.to FB.out).gr HV.out).to (FromB.put6 (b:=K) hKB (.int .i64 nowN) (.slice A1N n1N c1N) (.slice A2N n2N c2N) (.slice A3N 4 c3N) (.slice A4N n4N c4N) (.int .i64 stopN))) (λ k hk=>by omega))
              obtain⟨a0,az0⟩:=nb.at_ (k:=0) (v:=.int .i64 nowN) rfl
              obtain⟨a1,az1⟩:=nb.at_ (k:=1) (v:=.slice A1N n1N c1N) rfl
              obtain⟨a2,az2⟩:=nb.at_ (k:=2) (v:=.slice A2N n2N c2N) rfl
              obtain⟨a3,az3⟩:=nb.at_ (k:=3) (v:=.slice A3N 4 c3N) rfl
              obtain⟨a4,az4⟩:=nb.at_ (k:=4) (v:=.slice A4N n4N c4N) rfl
              obtain⟨a5,az5⟩:=nb.at_ (k:=5) (v:=.int .i64 stopN) rfl
              obtain⟨b0,bz0⟩:=kb.at_ (k:=0) (v:=.int .i64 nowr) rfl
              obtain⟨b1,bz1⟩:=kb.at_ (k:=1) (v:=.slice A1r n1r c1r) rfl
              obtain⟨b2,bz2⟩:=kb.at_ (k:=2) (v:=.slice A2r n2r c2r) rfl
              obtain⟨b3,bz3⟩:=kb.at_ (k:=3) (v:=.slice A3r n3r c3r) rfl
              obtain⟨b4,bz4⟩:=kb.at_ (k:=4) (v:=.slice A4r n4r c4r) rfl
              obtain⟨b5,bz5⟩:=kb.at_ (k:=5) (v:=.int .i64 stopr) rfl
              clear nb kb HV
              go_wp2_with fail
              go_roundw
              case rel=>exact⟨k+1,ψ,⟨nowN,⟨A1N,n1N,c1N⟩,⟨A2N,n2N,c2N⟩,⟨A3N,4,c3N⟩,⟨A4N,n4N,c4N⟩,stopN⟩,by omega,by go_num,HPF,HPN,BF,HF2,WF,GF⟩
              case measure=>simp [intOf];omega
  . obtain rfl:k=N:=by omega
    have cA:=hid (alive_is (w:=wr) hM (hg.gr HG.out))
    go_wp2_with fail
    with_reducible refine cA.out.mono ?_
    rintro e w9 ⟨rfl,g9⟩
    go_wp2_with fail
    go_ret
    exact⟨rfl,HG.out.trans g9⟩
end
end P16
end
end Go.Proofs.YtainfijdhcehlaaGreatDoor
