/-
  MachineAlone: for any acts, whoever is alone, and tidy, makes one step for each lock, each unlock, and each step of work, and is done: the law answers true, as long as the array give.states holds what the program's text lays.
-/
import Derived.Test.YtainfijdhcehlaaGreatDoorRA3
import Derived.Test.YtainfijdhcehlaaGreatDoorCards
import Derived.Test.YtainfijdhcehlaaGreatDoorTie
set_option linter.unusedVariables false
set_option linter.unusedSimpArgs false
set_option maxRecDepth 100000
set_option maxHeartbeats 8000000
namespace Go.Proofs.YtainfijdhcehlaaGreatDoor
open Lib (hid)
section
open Go.ChangeShapes Go.WideShapes Go.ChangeAt Go.RowKit
namespace P16
def St (P:List Ac) (ω:Wv) (a t:Nat):Prop:=∃ hd:Option Nat,mw ω=W1 P a t hd 0/\P12.held none (P.take a)=some (hd.map λ m=>(m:Int))
section
variable {P:List Ac} {ω ψ:Wv} {a t:Nat} {k n x:Int} {ev:List T3} {h:Option Int}
theorem take_at (ha:P[a]?=some (k,n)):P.take (a+1)=P.take a++[(k,n)]:=by
 rw [List.take_add_one,ha];rfl
theorem tidy_step (hT:P12.tidyB P=true) (ha:P[a]?=some (k,n)) (hh:P12.held none (P.take a)=some h) :
 k≠1/\(k=0->h=none/\P12.held none (P.take (a+1))=some (some n))/\(k=2->h=some n/\P12.held none (P.take (a+1))=some none)/\(k=3->P12.held none (P.take (a+1))=some h):=by
 have hlt:=(List.getElem?_eq_some_iff.1 ha).1
 have he:P[a]=(k,n):=(List.getElem?_eq_some_iff.1 ha).2
 have hsplit:P=P.take a++(k,n)::P.drop (a+1):=by
  rw [<- he,<- List.drop_eq_getElem_cons hlt,List.take_append_drop]
 unfold P12.tidyB at hT
 have hT:=eq_of_beq hT
 rw [hsplit,P12.held_append,hh] at hT
 have hT:P12.held h ((k,n)::P.drop (a+1))=some none:=hT
 have ht:P12.held none (P.take (a+1))=P12.held h [(k,n)]:=by rw [take_at ha,P12.held_append,hh];rfl
 rw [ht]
 rw [P12.held] at hT ⊢
 by_cases h1:k=1
 . rw [if_pos h1] at hT;cases hT
 . rw [if_neg h1] at hT ⊢
   refine⟨h1,λ e=>?_,λ e=>?_,λ e=>?_⟩
   . rw [if_pos e] at hT ⊢
     by_cases hs:h.isSome=true
     . rw [if_pos hs] at hT;cases hT
     . rw [if_neg hs]
       cases h with
       | none=>exact⟨rfl,rfl⟩
       | some _=>exact absurd rfl hs
   . rw [if_neg (by omega),if_pos e] at hT ⊢
     by_cases hs:h=some n
     . rw [if_pos hs];exact⟨hs,rfl⟩
     . rw [if_neg hs] at hT;cases hT
   . rw [if_neg (by omega),if_neg (by omega)]
     rfl
theorem lone_step (h:Fine ω) (hT:P12.tidyB P=true) (ha:P[a]?=some (k,n)) (hok:P12.okA (k,n)=true) (hs:St P ω a t) (ht:k≠3->t=0) (hst:StepM ω 0 ψ ev x) :
 x=0/\Fine ψ/\((k=0/\ev=[(0,0,n)]/\St P ψ (a+1) 0)\/(k=2/\ev=[(0,3,n)]/\St P ψ (a+1) 0)\/(k=3/\ev=[]/\((n=0\/(t:Int)+1=n)->St P ψ (a+1) 0)/\(¬ (n=0\/(t:Int)+1=n)->St P ψ a (t+1)))):=by
 obtain⟨f,rfl,_,q | ⟨_,_,_,e1,rfl⟩⟩:=StepM.fine h hst
 . exact absurd q.1 (by decide)
 refine⟨rfl,f,?_⟩
 obtain⟨hd,hw,hh⟩:=hs
 obtain⟨t1,t2,t3,t4⟩:=tidy_step hT ha hh
 rw [hw] at e1 ⊢
 have h0:(0:Int).toNat=0:=rfl
 rw [h0] at e1 ⊢
 rcases P12.okA_iff.1 hok with ⟨e,_⟩ | ⟨e,e',n0,n3⟩
 . have e:k=3:=e
   subst e
   rw [alone_work ha] at e1 ⊢
   refine .inr (.inr ⟨rfl,rfl,λ q=>?_,λ q=>?_⟩)
   . rw [if_pos q] at e1
     exact⟨hd,e1,t4 rfl⟩
   . rw [if_neg q] at e1
     exact⟨hd,e1,hh⟩
 . have e:0<=k:=e
   have e':k<=2:=e'
   have n0:0<=n:=n0
   have hn:((n.toNat:Nat):Int)=n:=by omega
   obtain rfl:=ht (by omega)
   by_cases k0:k=0
   . subst k0
     obtain⟨q1,q2⟩:=t2 rfl
     obtain rfl:hd=none:=by cases hd with
      | none=>rfl
      | some _=>cases q1
     rw [alone_lock ha] at e1 ⊢
     exact .inl ⟨rfl,rfl,some n.toNat,e1,by rw [q2];simp [hn]⟩
   . obtain rfl:k=2:=by omega
     obtain⟨q1,q2⟩:=t3 rfl
     obtain rfl:hd=some n.toNat:=by cases hd with
      | none=>cases q1
      | some j =>
       have:(j:Int)=n:=Option.some.inj q1
       congr 1
       omega
     rw [alone_give ha] at e1 ⊢
     exact .inr (.inl ⟨rfl,rfl,none,e1,q2⟩)
theorem lone_new:St P (newW [P]) 0 0:=⟨none,by rw [mw_new,new_one],rfl⟩
theorem lone_done (h:St P ω P.length 0):∃ c,ω.cl=[c]/\c.gst=2/\c.permit=false/\ω.stop=0:=by
 obtain⟨hd,hw,_⟩:=h
 have e1:ω.cl=[cAt P.length 0 P.length]:=congrArg Mw.cl hw
 have e2:ω.stop=0:=congrArg Mw.stop hw
 refine⟨_,e1,?_,?_,e2⟩
 . unfold cAt first;simp
 . unfold cAt first;simp
end
end P16
end
section
open Go.ChangeShapes Go.WideShapes Go.ChangeAt Go.RowKit
namespace P16
open P12 (PV PMem POwn pl fewP)
def WAt (S:Nat->Prop) (W:World) (r:WR) (ω:Wv):Prop:=∃ W0 B,WNew B W0 r ω/\FromB B W0 W/\∀ k,S k->k<B\/W0.heap.size<=k
section
variable {S:Nat->Prop} {W W':World} {r:WR} {ω:Wv} {B:Nat}
theorem WAt.is (h:WAt S W r ω):WIs W r ω:=by
 obtain⟨W0,B,h1,h2,_⟩:=h
 exact (h1.to h2).is
theorem WAt.gr (h:WAt S W r ω) (g:Gr W W'):WAt S W' r ω:=by
 obtain⟨W0,B,h1,h2,h3⟩:=h
 exact⟨W0,B,h1,h2.trans (FromB.gr g),h3⟩
theorem WAt.new (h:WNew B W r ω) (hs:∀ k,S k->k<B):WAt S W r ω:=⟨W,B,h,FromB.refl,λ k hk=>.inl (hs k hk)⟩
theorem WAt.late (h:WNew B W r ω) (g:Gr W W') (hs:∀ k,S k->W.heap.size<=k):WAt S W' r ω:=⟨W,B,h,FromB.gr g,λ k hk=>.inr (hs k hk)⟩
end
theorem put6_far {W:World} {b g:Nat} {vs:Array Value} {t:TypeId} (h:Blk W g vs t) (hb:b≠g) (x0 x1 x2 x3 x4 x5:Value):Blk ((((((W.setCell ⟨b,0,none⟩ x0).setCell ⟨b,1,none⟩ x1).setCell ⟨b,2,none⟩ x2).setCell ⟨b,3,none⟩ x3).setCell ⟨b,4,none⟩ x4).setCell ⟨b,5,none⟩ x5) g vs t :=
 (((((h.st (p:=⟨b,0,none⟩) hb x0).st (p:=⟨b,1,none⟩) hb x1).st (p:=⟨b,2,none⟩) hb x2).st (p:=⟨b,3,none⟩) hb x3).st (p:=⟨b,4,none⟩) hb x4).st (p:=⟨b,5,none⟩) hb x5
end P16
end
section
open Go.ChangeShapes Go.WideShapes Go.ChangeAt Go.RowKit
namespace P16
open P12 (PV PMem pl)
theorem run_event_same (e n:Int) (w:World) :
 (binOp .neq 40 (.agg #[.int .i64 0,.int .i64 e,.int .i64 n]) (.agg #[.int .i64 0,.int .i64 e,.int .i64 n])).run Tryz.prog w=.ok (.bool false) w:=by
 go_simp
section
variable {w:World} {x:PV}
theorem MachineAlone_walk (hM:Mach) (hg:P15.Glob w) (hx:x.ok w) :
 Calls Tryz.prog 7 #[.slice x.A x.n x.c] w λ e w'=>e=.returned (.bool true)/\Gr w w':=by
 obtain⟨xA,xn,xc,xl⟩:=x
 obtain⟨hm,hnc,hcm⟩:=hx
 dsimp only at hm hnc hcm ⊢
 obtain⟨q,a5,b5,n5,k5,t5⟩:=least xn 64
 have b5:min (xn:Int) 64=(q:Int):=b5
 have a5:(if (64:Int)<(xn:Int) then (64:Int) else (xn:Int))=(q:Int):=a5
 have p5:(0:Int)<=(q:Int):=by omega
 have m5:(q:Int)<=(xc:Int):=by omega
 obtain⟨P,hP⟩:∃ P,xl.take 64=P:=⟨_,rfl⟩
 have hmP:Mem w xA q P:=by rw [<- hP,t5 _ hm.1];exact hm.take_ q n5
 have hlen:P.length=q:=hmP.1
 have g1:=(Gr.refl w).al (.cells #[.slice xA q xc] 64)
 have hPM:=P12.pmem_one (x:=⟨xA,q,xc,P⟩) (Blk.new w #[.slice xA q xc] 64) ⟨hmP.gr g1,by show q<=xc;omega,hcm⟩
 have cN:=hid (hM.new _ _ 1 1 _ (hg.gr g1) hPM (by decide))
 have HP:=hid hmP
 have HLEN:=hid hlen
 have HG1:=hid g1
 clear hPM g1 hmP hlen hm hP t5
 go_enter Tryz.func7,Tryz.ntmps7
 go_wp2_with fail
 with_reducible refine cN.out.mono ?_
 rintro e w2 ⟨⟨s,ψ,x,rfl,hN,hW⟩,g2⟩
 obtain⟨now,⟨A1,n1,c1⟩,⟨A2,n2,c2⟩,⟨A3,n3,c3⟩,⟨A4,n4,c4⟩,stop⟩:=s
 have G2:=hid (HG1.out.trans g2)
 have hN:NewM [P] ψ x:=hN
 rcases hN with ⟨hr,rfl,rfl⟩ | ⟨hr,rfl,rfl⟩
 rotate_left
 . have cA:=hid (alive_is (w:=w2.alloc (.cells #[.int .i64 now,.slice A1 n1 c1,.slice A2 n2 c2,.slice A3 n3 c3,.slice A4 n4 c4,.int .i64 stop] 29)) hM (hg.gr (G2.out.al _)))
   go_wp2_with fail
   with_reducible refine cA.out.mono ?_
   rintro e w9 ⟨rfl,g9⟩
   go_wp2_with fail
   go_ret
   exact⟨rfl,(G2.out.al _).trans g9⟩
 have F0:=hid (Fine.new hr)
 have S0:=hid (lone_new (P:=P))
 have HOK:=hid (show ∀ a∈P,P12.okA a=true from ((right_facts hr).2 P (List.mem_singleton.2 rfl)).2)
 generalize newW [P]=ω0 at *
 have BK:=Blk.new w2 #[.int .i64 now,.slice A1 n1 c1,.slice A2 n2 c2,.slice A3 n3 c3,.slice A4 n4 c4,.int .i64 stop] 29
 have G4:=hid (G2.out.al (.cells #[.int .i64 now,.slice A1 n1 c1,.slice A2 n2 c2,.slice A3 n3 c3,.slice A4 n4 c4,.int .i64 stop] 29))
 have W4:=hid (WAt.late (S:=λ k=>k=w2.heap.size) hW ((Gr.refl w2).al (.cells #[.int .i64 now,.slice A1 n1 c1,.slice A2 n2 c2,.slice A3 n3 c3,.slice A4 n4 c4,.int .i64 stop] 29)) (λ k hk=>by omega))
 have hKw:w.heap.size<=w2.heap.size:=G2.out.size
 clear hW g2 cN hr HG1 G2
 go_upto_region 5 with fail
 generalize w2.alloc (.cells #[.int .i64 now,.slice A1 n1 c1,.slice A2 n2 c2,.slice A3 n3 c3,.slice A4 n4 c4,.int .i64 stop] 29)=V4 at BK G4 W4 ⊢
 generalize w2.heap.size=K at BK W4 hKw ⊢
 obtain⟨TB,hTB⟩:∃ TB,P12.tidyB P=TB:=⟨_,rfl⟩
 have cT:=hid (P12.rTidy_is (c:=xc) hTB (by omega) V4 (HP.out.gr G4.out))
 have HTB:=hid hTB
 clear hTB
 go_wp2_with fail
 with_reducible refine cT.out.mono ?_
 rintro e w5 ⟨rfl,g5⟩
 clear cT
 cases TB with
 | false =>
  have cA:=hid (alive_is (w:=w5) hM (hg.gr (G4.out.trans g5)))
  go_wp2_with fail
  with_reducible refine cA.out.mono ?_
  rintro e w9 ⟨rfl,g9⟩
  go_wp2_with fail
  go_ret
  exact⟨rfl,(G4.out.trans g5).trans g9⟩
 | true =>
 have BK:=hid (BK.gr g5)
 have G5:=hid (G4.out.trans g5)
 have W5:=hid (W4.out.gr g5)
 clear G4 W4 g5
 go_wp2_with fail
 clear a5 b5 p5 m5
 go_loopw [38] (λ i wr=>∃ (a:Nat) (ω:Wv) (r:WR),a<=q/\i=.int .i64 (a:Int)/\Hid (Fine ω)/\Hid (St P ω a 0)/\Hid (Blk wr K r.a 29)/\Hid (WAt (λ k=>k=K) wr r ω)/\Hid (Gr w wr)) (λ i _=>q-(intOf i).toNat)
 case atStart=>exact⟨0,ω0,⟨now,⟨A1,n1,c1⟩,⟨A2,n2,c2⟩,⟨A3,n3,c3⟩,⟨A4,n4,c4⟩,stop⟩,Nat.zero_le _,rfl,F0,S0,BK,W5,G5⟩
 case round =>
  clear BK W5 G5 F0 S0
  obtain⟨a,ω,r,ha,rfl,HF,HS,HK,HW,HG⟩:=hrel
  by_cases hlt:a<q
  . obtain⟨ba,oa,⟨k,n⟩,rfl,hba,hact,-,-,c0,c1⟩:=(HP.out.gr HG.out).at_ hlt
    have hok:=HOK.out _ (List.mem_of_getElem? hact)
    have htd:k≠1:=by
     obtain⟨hd,_,hh⟩:=HS.out
     exact (tidy_step HTB.out hact hh).1
    have HACT:=hid hact
    have HOKA:=hid hok
    dsimp only at c0 c1
    have i0:(0:Int)<=(a:Int):=by omega
    have i1:(a:Int)<(q:Int):=by omega
    have BA:=hid (Blk.new wr #[.int .i64 k,.int .i64 n] 67)
    have GA:=hid (HG.out.al (.cells #[.int .i64 k,.int .i64 n] 67))
    have KA:=hid (HK.out.al (.cells #[.int .i64 k,.int .i64 n] 67))
    have WA:=hid (HW.out.gr ((Gr.refl wr).al (.cells #[.int .i64 k,.int .i64 n] 67)))
    have hkn:(k=3/\0<=n/\n<=1000)\/((k=0\/k=2)/\0<=n/\n<=3):=by
     rcases P12.okA_iff.1 hok with q | ⟨q1,q2,q3,q4⟩
     . exact .inl q
     . have q1:0<=k:=q1
       have q2:k<=2:=q2
       exact .inr ⟨by omega,q3,q4⟩
    have hKr:K<wr.heap.size:=HK.out.lt
    clear hact hok htd HG HK HW hba
    go_upto_region 10 with fail
    clear c0 c1
    generalize wr.alloc (.cells #[.int .i64 k,.int .i64 n] 67)=V at BA GA KA WA ⊢
    generalize wr.heap.size=gA at BA hKr ⊢
    have ba':=BA.out
    have lta:=ba'.lt
    have y0:=(ba'.at_ (k:=0) (v:=.int .i64 k) rfl).1
    have y1:=(ba'.at_ (k:=1) (v:=.int .i64 n) rfl).1
    clear ba'
    rcases hkn with ⟨rfl,hn0,hn1⟩ | ⟨rfl | rfl,hn0,hn3⟩
    . obtain⟨M,hM1,hM2,hM3⟩:∃ M:Nat,(if (1:Int)<n then n else 1)=(M:Int)/\max (1:Int) n=(M:Int)/\(M:Int)<=1000:=by
       by_cases h1:1<n
       . exact⟨n.toNat,by rw [if_pos h1];omega,by omega,by omega⟩
       . exact⟨1,by rw [if_neg h1];rfl,by omega,by decide⟩
      have hwn:wrap64 n=n:=by unfold wrap64;omega
      have HMN:=hid (show ∀ t:Nat,t<M->((n=0\/(t:Int)+1=n)↔t+1=M) from λ t ht=>by
       constructor
       . rintro (h | h)
         . rw [h] at hM2;omega
         . omega
       . intro h
         by_cases h0:n=0
         . exact .inl h0
         . right;omega)
      have hm0:0<M:=by omega
      go_upto_region 11 with fail
      clear y0 y1 lta hwn hM1 hM2
      go_loopw [49] (λ i wr=>∃ (t:Nat) (ω:Wv) (r:WR),t<=M/\i=.int .i64 (t:Int)/\Hid (Fine ω)/\Hid (t<M->St P ω a t)/\Hid (t=M->St P ω (a+1) 0)/\Hid (Blk wr K r.a 29)/\Hid (Blk wr gA #[.int .i64 3,.int .i64 n] 67)/\Hid (WAt (λ k=>k=K) wr r ω)/\Hid (Gr w wr)) (λ i _=>M-(intOf i).toNat)
      case atStart=>exact⟨0,ω,r,Nat.zero_le _,rfl,HF,hid (λ _=>HS.out),hid (λ h=>absurd h (by omega)),KA,BA,WA,GA⟩
      case round =>
       clear HF HS KA BA WA GA
       obtain⟨t,ω,r,ht,rfl,HF,HS,HE,HK,BA,HW,HG⟩:=hrel
       obtain⟨nowr,⟨A1r,n1r,c1r⟩,⟨A2r,n2r,c2r⟩,⟨A3r,n3r,c3r⟩,⟨A4r,n4r,c4r⟩,stopr⟩:=r
       by_cases htM:t<M
       . have kb:=HK.out
         have ltk:=kb.lt
         have t0:(0:Int)<=(t:Int):=by omega
         have t1:(t:Int)<(M:Int):=by omega
         obtain⟨k0,kz0⟩:=kb.at_ (k:=0) (v:=.int .i64 nowr) rfl
         obtain⟨k1,kz1⟩:=kb.at_ (k:=1) (v:=.slice A1r n1r c1r) rfl
         obtain⟨k2,kz2⟩:=kb.at_ (k:=2) (v:=.slice A2r n2r c2r) rfl
         obtain⟨k3,kz3⟩:=kb.at_ (k:=3) (v:=.slice A3r n3r c3r) rfl
         obtain⟨k4,kz4⟩:=kb.at_ (k:=4) (v:=.slice A4r n4r c4r) rfl
         obtain⟨k5,kz5⟩:=kb.at_ (k:=5) (v:=.int .i64 stopr) rfl
         clear kb
         have cS:=hid (hM.step wr _ _ 0 (hg.gr HG.out) HW.out.is ⟨by decide,by decide⟩)
         go_wp2_with fail
         with_reducible refine cS.out.mono ?_
         rintro e w6 ⟨⟨s,ψ,A',n',c',ev,x,rfl,hS,hWn,hE,hnc',hcm'⟩,g6⟩
         obtain⟨nowN,⟨A1N,n1N,c1N⟩,⟨A2N,n2N,c2N⟩,⟨A3N,n3N,c3N⟩,⟨A4N,n4N,c4N⟩,stopN⟩:=s
         obtain⟨rfl,fψ,hcase⟩:=lone_step HF.out HTB.out HACT.out HOKA.out (HS.out htM) (λ h=>absurd rfl h) hS
         rcases hcase with ⟨q1,_⟩ | ⟨q1,_⟩ | ⟨_,rfl,hc1,hc2⟩
         . exact absurd q1 (by decide)
         . exact absurd q1 (by decide)
         have HS2:=hid (show t+1<M->St P ψ a (t+1) from λ h=>hc2 (λ q=>by have:=(HMN.out t htM).1 q;omega))
         have HE2:=hid (show t+1=M->St P ψ (a+1) 0 from λ h=>hc1 ((HMN.out t htM).2 h))
         clear hc1 hc2
         have HF2:=hid fψ
         have KB:=hid ((HK.out.gr g6).al (.cells #[.int .i64 nowN,.slice A1N n1N c1N,.slice A2N n2N c2N,.slice A3N n3N c3N,.slice A4N n4N c4N,.int .i64 stopN] 29))
         have AB:=hid ((BA.out.gr g6).al (.cells #[.int .i64 nowN,.slice A1N n1N c1N,.slice A2N n2N c2N,.slice A3N n3N c3N,.slice A4N n4N c4N,.int .i64 stopN] 29))
         have NB:=hid (Blk.new w6 #[.int .i64 nowN,.slice A1N n1N c1N,.slice A2N n2N c2N,.slice A3N n3N c3N,.slice A4N n4N c4N,.int .i64 stopN] 29)
         have GV:=hid ((HG.out.trans g6).al (.cells #[.int .i64 nowN,.slice A1N n1N c1N,.slice A2N n2N c2N,.slice A3N n3N c3N,.slice A4N n4N c4N,.int .i64 stopN] 29))
         have WN:=hid (hWn.gr ((Gr.refl w6).al (.cells #[.int .i64 nowN,.slice A1N n1N c1N,.slice A2N n2N c2N,.slice A3N n3N c3N,.slice A4N n4N c4N,.int .i64 stopN] 29)))
         have hEE:=hE.gr ((Gr.refl w6).al (.cells #[.int .i64 nowN,.slice A1N n1N c1N,.slice A2N n2N c2N,.slice A3N n3N c3N,.slice A4N n4N c4N,.int .i64 stopN] 29))
         have hKB:K<wr.heap.size:=ltk
         clear hWn hE hS HF HS HE HW HK BA HG g6 cS fψ ltk
         go_upto_region 13 with fail
         clear k0 kz0 k1 kz1 k2 kz2 k3 kz3 k4 kz4 k5 kz5
         generalize w6.alloc (.cells #[.int .i64 nowN,.slice A1N n1N c1N,.slice A2N n2N c2N,.slice A3N n3N c3N,.slice A4N n4N c4N,.int .i64 stopN] 29)=V6 at KB AB NB GV WN hEE ⊢
         generalize w6.heap.size=gN at NB ⊢
         generalize wr.heap.size=Bd at WN hEE hKB
         have ab:=AB.out
         have lta:=ab.lt
         have y0:=(ab.at_ (k:=0) (v:=.int .i64 3) rfl).1
         have y1:=(ab.at_ (k:=1) (v:=.int .i64 n) rfl).1
         clear ab
         obtain rfl:n'=0:=hEE.is.len.symm
         go_upto_region 16 with fail
         go_loopw [70] (λ i wr=>i=.int .i64 0/\Hid (Gr V6 wr)) (λ i _=>1-(intOf i).toNat)
         case atStart=>exact⟨rfl,hid (Gr.refl _)⟩
         case round =>
          obtain⟨rfl,GE⟩:=hrel
          clear hEE
          rename World=>V7
          clear y0 y1 lta
          have kb:=KB.out.gr GE.out
          have nb:=NB.out.gr GE.out
          have ltk:=kb.lt
          have ltn:=nb.lt
          obtain⟨p0,pz0⟩:=kb.at_ (k:=0) (v:=.int .i64 nowr) rfl
          obtain⟨p1,pz1⟩:=kb.at_ (k:=1) (v:=.slice A1r n1r c1r) rfl
          obtain⟨p2,pz2⟩:=kb.at_ (k:=2) (v:=.slice A2r n2r c2r) rfl
          obtain⟨p3,pz3⟩:=kb.at_ (k:=3) (v:=.slice A3r n3r c3r) rfl
          obtain⟨p4,pz4⟩:=kb.at_ (k:=4) (v:=.slice A4r n4r c4r) rfl
          obtain⟨p5,pz5⟩:=kb.at_ (k:=5) (v:=.int .i64 stopr) rfl
          obtain⟨q0,qz0⟩:=nb.at_ (k:=0) (v:=.int .i64 nowN) rfl
          obtain⟨q1,qz1⟩:=nb.at_ (k:=1) (v:=.slice A1N n1N c1N) rfl
          obtain⟨q2,qz2⟩:=nb.at_ (k:=2) (v:=.slice A2N n2N c2N) rfl
          obtain⟨q3,qz3⟩:=nb.at_ (k:=3) (v:=.slice A3N n3N c3N) rfl
          obtain⟨q4,qz4⟩:=nb.at_ (k:=4) (v:=.slice A4N n4N c4N) rfl
          obtain⟨q5,qz5⟩:=nb.at_ (k:=5) (v:=.int .i64 stopN) rfl
          have BF:=hid (put6_blk kb rfl (.int .i64 nowN) (.slice A1N n1N c1N) (.slice A2N n2N c2N) (.slice A3N n3N c3N) (.slice A4N n4N c4N) (.int .i64 stopN))
          have GF:=hid (put6_gr (x0:=.int .i64 nowN) (x1:=.slice A1N n1N c1N) (x2:=.slice A2N n2N c2N) (x3:=.slice A3N n3N c3N) (x4:=.slice A4N n4N c4N) (x5:=.int .i64 stopN) (b:=K) (GV.out.trans GE.out) hKw)
          have AF:=hid (put6_far (b:=K) (g:=gA) (AB.out.gr GE.out) (by omega) (.int .i64 nowN) (.slice A1N n1N c1N) (.slice A2N n2N c2N) (.slice A3N n3N c3N) (.slice A4N n4N c4N) (.int .i64 stopN))
          have WF:=hid (WAt.new (S:=λ k=>k=K) ((WN.out.gr GE.out).to (FromB.put6 (b:=K) hKB (.int .i64 nowN) (.slice A1N n1N c1N) (.slice A2N n2N c2N) (.slice A3N n3N c3N) (.slice A4N n4N c4N) (.int .i64 stopN))) (λ k hk=>by omega))
          clear kb nb KB NB GV WN GE AB
          go_wp2_with fail
          go_roundw
          case rel=>exact⟨t+1,ψ,⟨nowN,⟨A1N,n1N,c1N⟩,⟨A2N,n2N,c2N⟩,⟨A3N,n3N,c3N⟩,⟨A4N,n4N,c4N⟩,stopN⟩,by omega,by go_num,HF2,HS2,HE2,BF,AF,WF,GF⟩
          case measure=>simp [intOf];omega
       . obtain rfl:t=M:=by omega
         go_wp2_with fail
         go_roundw
         case rel=>exact⟨a+1,ω,⟨nowr,⟨A1r,n1r,c1r⟩,⟨A2r,n2r,c2r⟩,⟨A3r,n3r,c3r⟩,⟨A4r,n4r,c4r⟩,stopr⟩,by omega,by go_num,HF,hid (HE.out rfl),HK,HW,HG⟩
         case measure=>simp [intOf];omega
    . have hwn:wrap64 (n*0)=0:=by rw [Int.mul_zero];unfold wrap64;omega
      have hm0:0<1:=by decide
      go_upto_region 11 with fail
      clear y0 y1 lta hwn
      go_loopw [49] (λ i wr=>∃ (t:Nat) (ω:Wv) (r:WR),t<=1/\i=.int .i64 (t:Int)/\Hid (Fine ω)/\Hid (t<1->St P ω a t)/\Hid (t=1->St P ω (a+1) 0)/\Hid (Blk wr K r.a 29)/\Hid (Blk wr gA #[.int .i64 0,.int .i64 n] 67)/\Hid (WAt (λ k=>k=K) wr r ω)/\Hid (Gr w wr)) (λ i _=>1-(intOf i).toNat)
      case atStart=>exact⟨0,ω,r,Nat.zero_le _,rfl,HF,hid (λ _=>HS.out),hid (λ h=>absurd h (by omega)),KA,BA,WA,GA⟩
      case round =>
       clear HF HS KA BA WA GA
       obtain⟨t,ω,r,ht,rfl,HF,HS,HE,HK,BA,HW,HG⟩:=hrel
       obtain⟨nowr,⟨A1r,n1r,c1r⟩,⟨A2r,n2r,c2r⟩,⟨A3r,n3r,c3r⟩,⟨A4r,n4r,c4r⟩,stopr⟩:=r
       by_cases htM:t<1
       . have kb:=HK.out
         have ltk:=kb.lt
         have t0:(0:Int)<=(t:Int):=by omega
         have t1:(t:Int)<1:=by omega
         obtain⟨k0,kz0⟩:=kb.at_ (k:=0) (v:=.int .i64 nowr) rfl
         obtain⟨k1,kz1⟩:=kb.at_ (k:=1) (v:=.slice A1r n1r c1r) rfl
         obtain⟨k2,kz2⟩:=kb.at_ (k:=2) (v:=.slice A2r n2r c2r) rfl
         obtain⟨k3,kz3⟩:=kb.at_ (k:=3) (v:=.slice A3r n3r c3r) rfl
         obtain⟨k4,kz4⟩:=kb.at_ (k:=4) (v:=.slice A4r n4r c4r) rfl
         obtain⟨k5,kz5⟩:=kb.at_ (k:=5) (v:=.int .i64 stopr) rfl
         clear kb
         have cS:=hid (hM.step wr _ _ 0 (hg.gr HG.out) HW.out.is ⟨by decide,by decide⟩)
         go_wp2_with fail
         with_reducible refine cS.out.mono ?_
         rintro e w6 ⟨⟨s,ψ,A',n',c',ev,x,rfl,hS,hWn,hE,hnc',hcm'⟩,g6⟩
         obtain⟨nowN,⟨A1N,n1N,c1N⟩,⟨A2N,n2N,c2N⟩,⟨A3N,n3N,c3N⟩,⟨A4N,n4N,c4N⟩,stopN⟩:=s
         obtain⟨rfl,fψ,hcase⟩:=lone_step HF.out HTB.out HACT.out HOKA.out (HS.out htM) (λ h=>by omega) hS
         obtain⟨rfl,hst⟩:ev=[(0,0,n)]/\St P ψ (a+1) 0:=by
          rcases hcase with ⟨q1,q2,q3⟩ | ⟨q1,q2,q3⟩ | ⟨q1,_⟩
          . exact⟨q2,q3⟩
          . exact absurd q1 (by decide)
          . exact absurd q1 (by decide)
         have HS2:=hid (show t+1<1->St P ψ a (t+1) from λ h=>absurd h (by omega))
         have HE2:=hid (show t+1=1->St P ψ (a+1) 0 from λ _=>hst)
         clear hst hcase
         have HF2:=hid fψ
         have KB:=hid ((HK.out.gr g6).al (.cells #[.int .i64 nowN,.slice A1N n1N c1N,.slice A2N n2N c2N,.slice A3N n3N c3N,.slice A4N n4N c4N,.int .i64 stopN] 29))
         have AB:=hid ((BA.out.gr g6).al (.cells #[.int .i64 nowN,.slice A1N n1N c1N,.slice A2N n2N c2N,.slice A3N n3N c3N,.slice A4N n4N c4N,.int .i64 stopN] 29))
         have NB:=hid (Blk.new w6 #[.int .i64 nowN,.slice A1N n1N c1N,.slice A2N n2N c2N,.slice A3N n3N c3N,.slice A4N n4N c4N,.int .i64 stopN] 29)
         have GV:=hid ((HG.out.trans g6).al (.cells #[.int .i64 nowN,.slice A1N n1N c1N,.slice A2N n2N c2N,.slice A3N n3N c3N,.slice A4N n4N c4N,.int .i64 stopN] 29))
         have WN:=hid (hWn.gr ((Gr.refl w6).al (.cells #[.int .i64 nowN,.slice A1N n1N c1N,.slice A2N n2N c2N,.slice A3N n3N c3N,.slice A4N n4N c4N,.int .i64 stopN] 29)))
         have hEE:=hE.gr ((Gr.refl w6).al (.cells #[.int .i64 nowN,.slice A1N n1N c1N,.slice A2N n2N c2N,.slice A3N n3N c3N,.slice A4N n4N c4N,.int .i64 stopN] 29))
         have hKB:K<wr.heap.size:=ltk
         clear hWn hE hS HF HS HE HW HK BA HG g6 cS fψ ltk
         go_upto_region 13 with fail
         clear k0 kz0 k1 kz1 k2 kz2 k3 kz3 k4 kz4 k5 kz5
         generalize w6.alloc (.cells #[.int .i64 nowN,.slice A1N n1N c1N,.slice A2N n2N c2N,.slice A3N n3N c3N,.slice A4N n4N c4N,.int .i64 stopN] 29)=V6 at KB AB NB GV WN hEE ⊢
         generalize w6.heap.size=gN at NB ⊢
         generalize wr.heap.size=Bd at WN hEE hKB
         have ab:=AB.out
         have lta:=ab.lt
         have y0:=(ab.at_ (k:=0) (v:=.int .i64 0) rfl).1
         have y1:=(ab.at_ (k:=1) (v:=.int .i64 n) rfl).1
         clear ab
         obtain rfl:n'=1:=hEE.is.len.symm
         obtain⟨be,oe,y,rfl,hbe,hy,-,e0,e1,e2⟩:=T3Mem.cells (k:=0) hEE.is (by decide)
         cases hy
         simp only [Nat.zero_mul,Nat.add_zero] at e0 e1 e2
         have hne:=λ W=>run_event_same 0 n W
         clear hEE
         go_upto_region 16 with fail
         go_loopw [70] (λ i wr=>(i=.int .i64 0/\wr=V6)\/(i=.int .i64 1/\Hid (Gr V6 wr))) (λ i _=>1-(intOf i).toNat)
         case atStart=>exact .inl ⟨rfl,rfl⟩
         case round =>
          rcases hrel with ⟨rfl,hVw⟩ | ⟨rfl,GE⟩
          . subst hVw
            go_wp2_with fail
            go_roundw
            case rel=>exact .inr ⟨by go_num,hid ((Gr.refl _).al _)⟩
            case measure=>simp [intOf]
          . clear e0 e1 e2 hbe hne
            rename World=>V7
            clear y0 y1 lta
            have kb:=KB.out.gr GE.out
            have nb:=NB.out.gr GE.out
            have ltk:=kb.lt
            have ltn:=nb.lt
            obtain⟨p0,pz0⟩:=kb.at_ (k:=0) (v:=.int .i64 nowr) rfl
            obtain⟨p1,pz1⟩:=kb.at_ (k:=1) (v:=.slice A1r n1r c1r) rfl
            obtain⟨p2,pz2⟩:=kb.at_ (k:=2) (v:=.slice A2r n2r c2r) rfl
            obtain⟨p3,pz3⟩:=kb.at_ (k:=3) (v:=.slice A3r n3r c3r) rfl
            obtain⟨p4,pz4⟩:=kb.at_ (k:=4) (v:=.slice A4r n4r c4r) rfl
            obtain⟨p5,pz5⟩:=kb.at_ (k:=5) (v:=.int .i64 stopr) rfl
            obtain⟨q0,qz0⟩:=nb.at_ (k:=0) (v:=.int .i64 nowN) rfl
            obtain⟨q1,qz1⟩:=nb.at_ (k:=1) (v:=.slice A1N n1N c1N) rfl
            obtain⟨q2,qz2⟩:=nb.at_ (k:=2) (v:=.slice A2N n2N c2N) rfl
            obtain⟨q3,qz3⟩:=nb.at_ (k:=3) (v:=.slice A3N n3N c3N) rfl
            obtain⟨q4,qz4⟩:=nb.at_ (k:=4) (v:=.slice A4N n4N c4N) rfl
            obtain⟨q5,qz5⟩:=nb.at_ (k:=5) (v:=.int .i64 stopN) rfl
            have BF:=hid (put6_blk kb rfl (.int .i64 nowN) (.slice A1N n1N c1N) (.slice A2N n2N c2N) (.slice A3N n3N c3N) (.slice A4N n4N c4N) (.int .i64 stopN))
            have GF:=hid (put6_gr (x0:=.int .i64 nowN) (x1:=.slice A1N n1N c1N) (x2:=.slice A2N n2N c2N) (x3:=.slice A3N n3N c3N) (x4:=.slice A4N n4N c4N) (x5:=.int .i64 stopN) (b:=K) (GV.out.trans GE.out) hKw)
            have AF:=hid (put6_far (b:=K) (g:=gA) (AB.out.gr GE.out) (by omega) (.int .i64 nowN) (.slice A1N n1N c1N) (.slice A2N n2N c2N) (.slice A3N n3N c3N) (.slice A4N n4N c4N) (.int .i64 stopN))
            have WF:=hid (WAt.new (S:=λ k=>k=K) ((WN.out.gr GE.out).to (FromB.put6 (b:=K) hKB (.int .i64 nowN) (.slice A1N n1N c1N) (.slice A2N n2N c2N) (.slice A3N n3N c3N) (.slice A4N n4N c4N) (.int .i64 stopN))) (λ k hk=>by omega))
            clear kb nb KB NB GV WN GE AB
            go_wp2_with fail
            go_roundw
            case rel=>exact⟨t+1,ψ,⟨nowN,⟨A1N,n1N,c1N⟩,⟨A2N,n2N,c2N⟩,⟨A3N,n3N,c3N⟩,⟨A4N,n4N,c4N⟩,stopN⟩,by omega,by go_num,HF2,HS2,HE2,BF,AF,WF,GF⟩
            case measure=>simp [intOf];omega
       . obtain rfl:t=1:=by omega
         go_wp2_with fail
         go_roundw
         case rel=>exact⟨a+1,ω,⟨nowr,⟨A1r,n1r,c1r⟩,⟨A2r,n2r,c2r⟩,⟨A3r,n3r,c3r⟩,⟨A4r,n4r,c4r⟩,stopr⟩,by omega,by go_num,HF,hid (HE.out rfl),HK,HW,HG⟩
         case measure=>simp [intOf];omega
    . have hwn:wrap64 (n*0)=0:=by rw [Int.mul_zero];unfold wrap64;omega
      have hm0:0<1:=by decide
      go_upto_region 11 with fail
      clear y0 y1 lta hwn
      go_loopw [49] (λ i wr=>∃ (t:Nat) (ω:Wv) (r:WR),t<=1/\i=.int .i64 (t:Int)/\Hid (Fine ω)/\Hid (t<1->St P ω a t)/\Hid (t=1->St P ω (a+1) 0)/\Hid (Blk wr K r.a 29)/\Hid (Blk wr gA #[.int .i64 2,.int .i64 n] 67)/\Hid (WAt (λ k=>k=K) wr r ω)/\Hid (Gr w wr)) (λ i _=>1-(intOf i).toNat)
      case atStart=>exact⟨0,ω,r,Nat.zero_le _,rfl,HF,hid (λ _=>HS.out),hid (λ h=>absurd h (by omega)),KA,BA,WA,GA⟩
      case round =>
       clear HF HS KA BA WA GA
       obtain⟨t,ω,r,ht,rfl,HF,HS,HE,HK,BA,HW,HG⟩:=hrel
       obtain⟨nowr,⟨A1r,n1r,c1r⟩,⟨A2r,n2r,c2r⟩,⟨A3r,n3r,c3r⟩,⟨A4r,n4r,c4r⟩,stopr⟩:=r
       by_cases htM:t<1
       . have kb:=HK.out
         have ltk:=kb.lt
         have t0:(0:Int)<=(t:Int):=by omega
         have t1:(t:Int)<1:=by omega
         obtain⟨k0,kz0⟩:=kb.at_ (k:=0) (v:=.int .i64 nowr) rfl
         obtain⟨k1,kz1⟩:=kb.at_ (k:=1) (v:=.slice A1r n1r c1r) rfl
         obtain⟨k2,kz2⟩:=kb.at_ (k:=2) (v:=.slice A2r n2r c2r) rfl
         obtain⟨k3,kz3⟩:=kb.at_ (k:=3) (v:=.slice A3r n3r c3r) rfl
         obtain⟨k4,kz4⟩:=kb.at_ (k:=4) (v:=.slice A4r n4r c4r) rfl
         obtain⟨k5,kz5⟩:=kb.at_ (k:=5) (v:=.int .i64 stopr) rfl
         clear kb
         have cS:=hid (hM.step wr _ _ 0 (hg.gr HG.out) HW.out.is ⟨by decide,by decide⟩)
         go_wp2_with fail
         with_reducible refine cS.out.mono ?_
         rintro e w6 ⟨⟨s,ψ,A',n',c',ev,x,rfl,hS,hWn,hE,hnc',hcm'⟩,g6⟩
         obtain⟨nowN,⟨A1N,n1N,c1N⟩,⟨A2N,n2N,c2N⟩,⟨A3N,n3N,c3N⟩,⟨A4N,n4N,c4N⟩,stopN⟩:=s
         obtain⟨rfl,fψ,hcase⟩:=lone_step HF.out HTB.out HACT.out HOKA.out (HS.out htM) (λ h=>by omega) hS
         obtain⟨rfl,hst⟩:ev=[(0,3,n)]/\St P ψ (a+1) 0:=by
          rcases hcase with ⟨q1,q2,q3⟩ | ⟨q1,q2,q3⟩ | ⟨q1,_⟩
          . exact absurd q1 (by decide)
          . exact⟨q2,q3⟩
          . exact absurd q1 (by decide)
         have HS2:=hid (show t+1<1->St P ψ a (t+1) from λ h=>absurd h (by omega))
         have HE2:=hid (show t+1=1->St P ψ (a+1) 0 from λ _=>hst)
         clear hst hcase
         have HF2:=hid fψ
         have KB:=hid ((HK.out.gr g6).al (.cells #[.int .i64 nowN,.slice A1N n1N c1N,.slice A2N n2N c2N,.slice A3N n3N c3N,.slice A4N n4N c4N,.int .i64 stopN] 29))
         have AB:=hid ((BA.out.gr g6).al (.cells #[.int .i64 nowN,.slice A1N n1N c1N,.slice A2N n2N c2N,.slice A3N n3N c3N,.slice A4N n4N c4N,.int .i64 stopN] 29))
         have NB:=hid (Blk.new w6 #[.int .i64 nowN,.slice A1N n1N c1N,.slice A2N n2N c2N,.slice A3N n3N c3N,.slice A4N n4N c4N,.int .i64 stopN] 29)
         have GV:=hid ((HG.out.trans g6).al (.cells #[.int .i64 nowN,.slice A1N n1N c1N,.slice A2N n2N c2N,.slice A3N n3N c3N,.slice A4N n4N c4N,.int .i64 stopN] 29))
         have WN:=hid (hWn.gr ((Gr.refl w6).al (.cells #[.int .i64 nowN,.slice A1N n1N c1N,.slice A2N n2N c2N,.slice A3N n3N c3N,.slice A4N n4N c4N,.int .i64 stopN] 29)))
         have hEE:=hE.gr ((Gr.refl w6).al (.cells #[.int .i64 nowN,.slice A1N n1N c1N,.slice A2N n2N c2N,.slice A3N n3N c3N,.slice A4N n4N c4N,.int .i64 stopN] 29))
         have hKB:K<wr.heap.size:=ltk
         clear hWn hE hS HF HS HE HW HK BA HG g6 cS fψ ltk
         go_upto_region 13 with fail
         clear k0 kz0 k1 kz1 k2 kz2 k3 kz3 k4 kz4 k5 kz5
         generalize w6.alloc (.cells #[.int .i64 nowN,.slice A1N n1N c1N,.slice A2N n2N c2N,.slice A3N n3N c3N,.slice A4N n4N c4N,.int .i64 stopN] 29)=V6 at KB AB NB GV WN hEE ⊢
         generalize w6.heap.size=gN at NB ⊢
         generalize wr.heap.size=Bd at WN hEE hKB
         have ab:=AB.out
         have lta:=ab.lt
         have y0:=(ab.at_ (k:=0) (v:=.int .i64 2) rfl).1
         have y1:=(ab.at_ (k:=1) (v:=.int .i64 n) rfl).1
         clear ab
         obtain rfl:n'=1:=hEE.is.len.symm
         obtain⟨be,oe,y,rfl,hbe,hy,-,e0,e1,e2⟩:=T3Mem.cells (k:=0) hEE.is (by decide)
         cases hy
         simp only [Nat.zero_mul,Nat.add_zero] at e0 e1 e2
         have hne:=λ W=>run_event_same 3 n W
         clear hEE
         go_upto_region 16 with fail
         go_loopw [70] (λ i wr=>(i=.int .i64 0/\wr=V6)\/(i=.int .i64 1/\Hid (Gr V6 wr))) (λ i _=>1-(intOf i).toNat)
         case atStart=>exact .inl ⟨rfl,rfl⟩
         case round =>
          rcases hrel with ⟨rfl,hVw⟩ | ⟨rfl,GE⟩
          . subst hVw
            go_wp2_with fail
            go_roundw
            case rel=>exact .inr ⟨by go_num,hid ((Gr.refl _).al _)⟩
            case measure=>simp [intOf]
          . clear e0 e1 e2 hbe hne
            rename World=>V7
            clear y0 y1 lta
            have kb:=KB.out.gr GE.out
            have nb:=NB.out.gr GE.out
            have ltk:=kb.lt
            have ltn:=nb.lt
            obtain⟨p0,pz0⟩:=kb.at_ (k:=0) (v:=.int .i64 nowr) rfl
            obtain⟨p1,pz1⟩:=kb.at_ (k:=1) (v:=.slice A1r n1r c1r) rfl
            obtain⟨p2,pz2⟩:=kb.at_ (k:=2) (v:=.slice A2r n2r c2r) rfl
            obtain⟨p3,pz3⟩:=kb.at_ (k:=3) (v:=.slice A3r n3r c3r) rfl
            obtain⟨p4,pz4⟩:=kb.at_ (k:=4) (v:=.slice A4r n4r c4r) rfl
            obtain⟨p5,pz5⟩:=kb.at_ (k:=5) (v:=.int .i64 stopr) rfl
            obtain⟨q0,qz0⟩:=nb.at_ (k:=0) (v:=.int .i64 nowN) rfl
            obtain⟨q1,qz1⟩:=nb.at_ (k:=1) (v:=.slice A1N n1N c1N) rfl
            obtain⟨q2,qz2⟩:=nb.at_ (k:=2) (v:=.slice A2N n2N c2N) rfl
            obtain⟨q3,qz3⟩:=nb.at_ (k:=3) (v:=.slice A3N n3N c3N) rfl
            obtain⟨q4,qz4⟩:=nb.at_ (k:=4) (v:=.slice A4N n4N c4N) rfl
            obtain⟨q5,qz5⟩:=nb.at_ (k:=5) (v:=.int .i64 stopN) rfl
            have BF:=hid (put6_blk kb rfl (.int .i64 nowN) (.slice A1N n1N c1N) (.slice A2N n2N c2N) (.slice A3N n3N c3N) (.slice A4N n4N c4N) (.int .i64 stopN))
            have GF:=hid (put6_gr (x0:=.int .i64 nowN) (x1:=.slice A1N n1N c1N) (x2:=.slice A2N n2N c2N) (x3:=.slice A3N n3N c3N) (x4:=.slice A4N n4N c4N) (x5:=.int .i64 stopN) (b:=K) (GV.out.trans GE.out) hKw)
            have AF:=hid (put6_far (b:=K) (g:=gA) (AB.out.gr GE.out) (by omega) (.int .i64 nowN) (.slice A1N n1N c1N) (.slice A2N n2N c2N) (.slice A3N n3N c3N) (.slice A4N n4N c4N) (.int .i64 stopN))
            have WF:=hid (WAt.new (S:=λ k=>k=K) ((WN.out.gr GE.out).to (FromB.put6 (b:=K) hKB (.int .i64 nowN) (.slice A1N n1N c1N) (.slice A2N n2N c2N) (.slice A3N n3N c3N) (.slice A4N n4N c4N) (.int .i64 stopN))) (λ k hk=>by omega))
            clear kb nb KB NB GV WN GE AB
            go_wp2_with fail
            go_roundw
            case rel=>exact⟨t+1,ψ,⟨nowN,⟨A1N,n1N,c1N⟩,⟨A2N,n2N,c2N⟩,⟨A3N,n3N,c3N⟩,⟨A4N,n4N,c4N⟩,stopN⟩,by omega,by go_num,HF2,HS2,HE2,BF,AF,WF,GF⟩
            case measure=>simp [intOf];omega
       . obtain rfl:t=1:=by omega
         go_wp2_with fail
         go_roundw
         case rel=>exact⟨a+1,ω,⟨nowr,⟨A1r,n1r,c1r⟩,⟨A2r,n2r,c2r⟩,⟨A3r,n3r,c3r⟩,⟨A4r,n4r,c4r⟩,stopr⟩,by omega,by go_num,HF,hid (HE.out rfl),HK,HW,HG⟩
         case measure=>simp [intOf];omega
  . obtain rfl:a=q:=by omega
    have hd:=HS.out
    rw [<- HLEN.out] at hd
    obtain⟨c,hcl,hgst,hper,hstp⟩:=lone_done hd
    obtain⟨nowr,⟨A1r,n1r,c1r⟩,⟨A2r,n2r,c2r⟩,⟨A3r,n3r,c3r⟩,⟨A4r,n4r,c4r⟩,stopr⟩:=r
    have WI:=HW.out.is
    have hl:=WI.c.len
    rw [hcl] at hl
    have hl:1=n2r:=hl
    subst hl
    have hsr:stopr=ω.stop:=WI.stop
    rw [hstp] at hsr
    subst hsr
    have hc0:CMem wr A2r 1 _:=WI.c
    obtain⟨b2,o2,z,hA2,hb2,hz,-,h0,h1,-⟩:=CMem.cells (k:=0) hc0 (by decide)
    rw [hcl] at hz
    cases hz
    rw [hgst] at h0
    rw [hper] at h1
    simp only [Nat.zero_mul,Nat.add_zero] at h0 h1
    subst hA2
    have kb:=HK.out
    have ltk:=kb.lt
    have k2:=(kb.at_ (k:=2) (v:=.slice (some ⟨b2,o2,none⟩) 1 c2r) rfl).1
    have BG:=Blk.new wr #[.int .i64 2,.bool false] 51
    have hGM:P11.GMem (wr.alloc (.cells #[.int .i64 2,.bool false] 51)) (some ⟨wr.heap.size,0,none⟩) 1 [(2,false)]:=P11.GMem.of_blk (l:=[(2,false)]) BG rfl (by intro y hy;rw [List.mem_singleton] at hy;subst hy;exact (by decide:(-9223372036854775808:Int)<=2/\(2:Int)<=9223372036854775807))
    have cR:=hid (P11.Runnable_at (c:=1) (by decide) (by decide) (v:=0) (by decide) _ hGM)
    have GR:=hid (HG.out.al (.cells #[.int .i64 2,.bool false] 51))
    have KR:=hid (kb.al (.cells #[.int .i64 2,.bool false] 51))
    have c0':=hc0.gr ((Gr.refl wr).al (.cells #[.int .i64 2,.bool false] 51))
    have HC0:=hid c0'
    clear WI hc0 c0' kb BG hGM hd
    go_wp2_with fail
    with_reducible refine cR.out.mono ?_
    rintro e w8 ⟨C,dd,rfl,-,-,g8⟩
    have cA:=hid (alive_is (w:=w8) hM (hg.gr (GR.out.trans g8)))
    clear h0 h1 k2 ltk
    go_wp2_with fail
    with_reducible refine cA.out.mono ?_
    rintro e w9 ⟨rfl,g9⟩
    have kb:=(KR.out.gr g8).gr g9
    have ltk:=kb.lt
    have k2:=(kb.at_ (k:=2) (v:=.slice (some ⟨b2,o2,none⟩) 1 c2r) rfl).1
    have k5:=(kb.at_ (k:=5) (v:=.int .i64 0) rfl).1
    obtain⟨b3,o3,z,hA2,hb3,hz,-,h0,-⟩:=CMem.cells (k:=0) ((HC0.out.gr g8).gr g9) (by decide)
    cases hA2
    rw [hcl] at hz
    cases hz
    rw [hgst] at h0
    simp only [Nat.zero_mul,Nat.add_zero] at h0
    clear kb hcl hgst hper
    go_wp2_with fail
    go_ret
    exact⟨rfl,(GR.out.trans g8).trans g9⟩
end
end P16
end
section
open Go.ChangeShapes Go.WideShapes Go.ChangeAt Go.RowKit Go.Joins
namespace P15
def laidL : List (String × DataW Unit) := [("deadbolt/give.states", Rows.laid_deadbolt_give_states)]
theorem laidL_shaped (os:Os) (args:Array Value):((World.laidAll Tryz.prog os laidL).forCall (λ _ _=>0) ⟨#[],args,[]⟩).Shaped Tryz.prog :=
 World.shaped_of_ZipB (by kernel_rfl) (by kernel_rfl)
theorem laidL_met (os:Os) (args:Array Value):laidMetH Tryz.prog laidL ((World.laidAll Tryz.prog os laidL).forCall (λ _ _=>0) ⟨#[],args,[]⟩).memory:=by
 rw [MakeChecks.laidMetH_plain _ _ _ (by kernel_rfl)]
 exact laidMet_laidAll _ (by kernel_rfl) (by kernel_rfl)
section
variable {W:World}
theorem metL (h:laidMetH Tryz.prog laidL W):laidMet Tryz.prog laidL W:=by
 rwa [MakeChecks.laidMetH_plain _ _ _ (by kernel_rfl)] at h
theorem states_of {rest : List (String × DataW Unit)} (h : laidMet Tryz.prog (("deadbolt/give.states", Rows.laid_deadbolt_give_states) :: rest) W) : Glob W := by
 obtain⟨ps,⟨g,t,cs,fuel,p,q,hg,ht,hv,hd,_,_⟩,_⟩:=h
 obtain rfl := Option.some.inj ((show Tryz.prog.globalNamed "deadbolt/give.states" = some 0 by kernel_rfl).symm.trans hg)
 obtain rfl:=Option.some.inj ((show (Tryz.prog.globals[0]?).map (·.type)=some 263 by kernel_rfl).symm.trans ht)
 obtain⟨xs,m,_,ex,hcl,hl,hel⟩:=DataW.trod_array Tryz.underlying263 hd
 have c1:Tryz.prog.cellsOf 3=1:=by kernel_rfl
 have c8:Tryz.prog.cellsOf 263=8:=by kernel_rfl
 rw [c8] at hcl
 rw [c1] at hel
 have e3:xs.map (·.1)=[.lit (.int .i64 0),.lit (.int .i64 3),.lit (.int .i64 1),.lit (.int .i64 3),.lit (.int .i64 2),.lit (.int .i64 3),.lit (.int .i64 2),.lit (.int .i64 3)]:=(DataW.agg.inj (Prod.mk.inj ex).1).symm
 have each:∀ i (z:Int),i<8->(xs.map (·.1))[i]?=some (.lit (.int .i64 z))->cs.toList[i]?=some (.int .i64 z):=by
  intro i z hi hb
  have hE:=hel i hi
  rw [List.getElem?_eq_getElem (by omega)] at hE
  obtain⟨s,e1,e2,_⟩:=DataW.trod_int Tryz.underlying3 hE
  rw [List.getElem?_map,List.getElem?_eq_getElem (by omega:i<xs.length),e2] at hb
  simp only [Option.map_some,Option.some.injEq,DataW.lit.injEq,Lit.int.injEq,true_and] at hb
  rw [<- hb]
  have h0:((cs.toList.drop (i*1)).take 1)[0]?=some (.int .i64 s):=by rw [e1];rfl
  simpa using h0
 unfold Glob
 rw [hv]
 refine congrArg some (Array.ext' (List.ext_getElem? λ i=>?_))
 match i with
 | 0=>exact each 0 _ (by omega) (by rw [e3];rfl)
 | 1=>exact each 1 _ (by omega) (by rw [e3];rfl)
 | 2=>exact each 2 _ (by omega) (by rw [e3];rfl)
 | 3=>exact each 3 _ (by omega) (by rw [e3];rfl)
 | 4=>exact each 4 _ (by omega) (by rw [e3];rfl)
 | 5=>exact each 5 _ (by omega) (by rw [e3];rfl)
 | 6=>exact each 6 _ (by omega) (by rw [e3];rfl)
 | 7=>exact each 7 _ (by omega) (by rw [e3];rfl)
 | n+8 =>
  rw [List.getElem?_eq_none (by omega),List.getElem?_eq_none (by simp)]
theorem globL (h:laidMetH Tryz.prog laidL W) (hs:W.ShapedOpen Tryz.prog):Glob W:=states_of (metL h)
end
end P15
end
section
open Go.ChangeShapes Go.WideShapes Go.ChangeAt Go.RowKit Go.Joins
namespace P16
abbrev laidL:=P15.laidL
theorem laidL_shaped (os:Os) (args:Array Value):((World.laidAll Tryz.prog os laidL).forCall (λ _ _=>0) ⟨#[],args,[]⟩).Shaped Tryz.prog:=P15.laidL_shaped os args
theorem laidL_met (os:Os) (args:Array Value):laidMetH Tryz.prog laidL ((World.laidAll Tryz.prog os laidL).forCall (λ _ _=>0) ⟨#[],args,[]⟩).memory:=P15.laidL_met os args
theorem globL {W:World} (h:laidMetH Tryz.prog laidL W) (hs:W.ShapedOpen Tryz.prog):P15.Glob W:=P15.globL h hs
end P16
end
section
open Go.ChangeShapes Go.WideShapes Go.ChangeAt Go.RowKit Go.Joins
theorem MachineAlone_lifted (os:Os) (started:os.Started) (H:Type) (enc:TypeId×Value->H) :
 ReturnsInHanded {} Tryz.checked os 7 .any (λ w args=>(Rows.machineAloneSpec.pre enc Tryz.prog Tryz.f7 Rows.machineAloneRow.domain false w args/\laidMetH Tryz.prog P16.laidL w)/\sizedMet enc Tryz.prog Tryz.f7 (OpenSpec.ofChange Rows.machineAloneSpec) false w args)
  (Rows.machineAloneSpec.post enc Tryz.prog Tryz.f7 false true false false):=by
 refine LW.returns_laid_shaped (C:=Tryz.checked) (X:=λ w _=>laidMetH Tryz.prog P16.laidL w) (λ _ _ _ hh h=>laidMetH.of_heap hh h) own started (by kernel_rfl) Tryz.func7
  (ChangeSpec.witness_shaped (enc:=enc) (C:=Tryz.checked) (os:=os) (X:=λ w _=>laidMetH Tryz.prog P16.laidL w) false (World.laidAll Tryz.prog os P16.laidL) #[.slice none 0 0] 8 (World.laidAll_os _ _ _) (P16.laidL_shaped os _) (by kernel_rfl) (by kernel_rfl) (by kernel_rfl) (P16.laidL_met os _)) ?_
 intro W base args ds gs before hval0 hW hL hS
 have hval:∀ (j:Nat) t v,Tryz.f7.params[j]?=some t->args[j]?=some v->Value.okWide Tryz.prog W .any base t v:=hval0
 have hW':=hW
 obtain⟨p,q,hA0,hV,rfl,hfz,hnd⟩:=hW
 have hA:DataW.TrodAll enc Tryz.prog W 0 (λ _=>true) true Tryz.f7.params.toList args.toList ds p:=hA0
 rw [Tryz.params7] at hA hval
 have hK:=hA
 obtain⟨v0,vs0,d0,ds0,p0,q0,hargs,rfl,hp,h0,r0⟩:=trodAll_cons hA
 obtain⟨rfl,rfl,rfl⟩:=trodAll_nil r0
 obtain rfl:args=#[v0]:=by cases args;simp_all
 obtain⟨rfl,rfl⟩:=trodVars_none hV
 obtain⟨x0,rfl,hx0⟩:=P12.open_acts (hval 0 64 v0 rfl rfl) h0
 clear hA0 hval0
 refine (P16.MachineAlone_walk P16.mach (P16.globL hL hS) (x:=x0) hx0).mono λ e W' ⟨he,hg⟩=>?_
 subst he
 exact⟨_,rfl,post_below (pa:=p) (pv:=[]) hW' (λ _ _ _=>(trodAll_cons_mk (shut_bool Tryz.underlying4 _) trodAll_mk0))
  (λ sp hs=>trodAll_stays laidOut hg sp (by kernel_rfl) hK (λ x hx=>hW'.lt x (List.mem_append_left _ hx)) (λ x hx=>hs x (List.mem_append_left _ hx))) (λ _ _=>rfl) rfl
  hg (ok_one (by kernel_rfl) rfl (okWide_bool_mk Tryz.underlying4 _))⟩
theorem MachineAlone_closed:joinedFacts Tryz.pinned.checked.prog 7 Tryz.f7 Rows.machineAloneSpec Rows.machineAloneRow=true:=by kernel_rfl
theorem MachineAlone_over:Rows.machineAloneRow.holds Tryz.pinned (OpenSpec.ofChange Rows.machineAloneSpec) :=
 OpenClaim.holds_of_wide 7 Tryz.f7 rfl rfl rfl rfl rfl rfl rfl ⟨rfl,rfl,rfl,rfl,rfl⟩ rfl rfl rfl rfl rfl (by kernel_rfl) Tryz.func7 MachineAlone_closed
  (of_decide_eq_true (by kernel_rfl)) (by unfold Func.isWrapper;first | (rw [if_pos (by decide +kernel)];kernel_rfl) | (rw [if_neg (by decide +kernel)];exact⟨rfl,rfl⟩))
  (λ os started H enc _=>MachineAlone_lifted os started H enc)
theorem MachineAlone_card:Rows.MachineAloneCardSaid :=
 Claim7.holds_tied_plain_at .later [] [.data] true _ true
  MachineAlone_over (λ _ h=>by cases h) (by kernel_rfl) (λ _ h=>by cases h) machineAlone_row_tie rfl ⟨rfl,rfl⟩ (by kernel_rfl) rfl
  (λ f fn hf hfn=>by
    obtain rfl : f = 7 := Option.some.inj ((show Tryz.prog.funcNamed "deadbolt/deadboltlaw16.MachineAlone" = some 7 by kernel_rfl).symm.trans hf) |>.symm
    obtain rfl:fn=Tryz.f7:=(Option.some.inj (Tryz.func7.symm.trans hfn)).symm
    exact⟨by kernel_rfl,λ j t ht=>by
     rw [Tryz.params7] at ht
     have hm:t∈[64]:=by
      have:=Array.mem_of_getElem? ht
      simpa using this
     have hall:([64]:List TypeId).all (λ t=>Tryz.prog.wantsStandIn t==false)=true:=by kernel_rfl
     have hw:=List.all_eq_true.1 hall t hm
     exact beq_iff_eq.1 hw⟩)
  (by kernel_rfl)
#print axioms MachineAlone_card
end
end Go.Proofs.YtainfijdhcehlaaGreatDoor
