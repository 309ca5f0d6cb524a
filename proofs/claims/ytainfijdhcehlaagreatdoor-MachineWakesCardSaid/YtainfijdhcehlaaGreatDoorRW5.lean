/-
  MachineWakes: for any programs and any numbers, where somebody is within locking a mutex that nobody holds, somebody can go on: the law answers true, as long as the array give.states holds what the program's text lays.
-/
import Derived.Test.YtainfijdhcehlaaGreatDoorRW4
import Derived.Test.YtainfijdhcehlaaGreatDoorCards
import Derived.Test.YtainfijdhcehlaaGreatDoorTie
set_option linter.unusedVariables false
set_option linter.unusedSimpArgs false
set_option maxRecDepth 100000
set_option maxHeartbeats 8000000
namespace Go.Proofs.YtainfijdhcehlaaGreatDoor
open Lib (hid)
section
open Go.ChangeShapes Go.WideShapes Go.ChangeAt Go.RowKit
namespace P16
open P12 (PV PMem POwn pl fewP)
def ab (ω:Wv) (m:Nat) (i:Nat):Bool×Int:=match ω.cl[i]?,ω.progs[i]? with
 | some c,some p=>abt p c (m:Int)
 | _,_=>(false,0)
def gs0 (ω:Wv) (i:Nat):Bool:=match ω.cl[i]? with
 | some c=>c.gst==0
 | none=>false
def wt (ω:Wv) (m q:Nat):Bool:=(List.range q).any λ i=>(ab ω m i).1&&(ab ω m i).2==0
def gs (ω:Wv) (m q:Nat):Bool:=(List.range q).any λ i=>(ab ω m i).1&&gs0 ω i
theorem wt_succ (ω:Wv) (m q:Nat):wt ω m (q+1)=(wt ω m q||((ab ω m q).1&&(ab ω m q).2==0)):=by
 unfold wt
 rw [List.range_succ,List.any_append]
 simp
theorem gs_succ (ω:Wv) (m q:Nat):gs ω m (q+1)=(gs ω m q||((ab ω m q).1&&gs0 ω q)):=by
 unfold gs
 rw [List.range_succ,List.any_append]
 simp
theorem ab_at {ω:Wv} {m i:Nat} {c:Cl} {p:List Ac} (hc:ω.cl[i]?=some c) (hp:ω.progs[i]?=some p):ab ω m i=abt p c (m:Int):=by unfold ab;rw [hc,hp]
theorem waking {ω:Wv} (h:Fine ω) {m:Nat} (hm:m<4) (hL:LK ω m=false) (hw:wt ω m ω.cl.length=true):gs ω m ω.cl.length=true:=by
 have hlen:ω.cl.length=ω.progs.length:=h.inv.len
 unfold wt at hw
 rw [List.any_eq_true] at hw
 obtain⟨i,hi,hw⟩:=hw
 rw [List.mem_range] at hi
 rw [Bool.and_eq_true,beq_iff_eq] at hw
 obtain⟨c,hc⟩:∃ c,ω.cl[i]?=some c:=⟨_,List.getElem?_eq_getElem hi⟩
 obtain⟨p,hp⟩:∃ p,ω.progs[i]?=some p:=⟨_,List.getElem?_eq_getElem (by omega)⟩
 rw [ab_at hc hp] at hw
 unfold abt at hw
 cases ha:p[c.act.toNat]? with
 | none=>rw [ha] at hw;simp at hw
 | some a =>
  obtain⟨k,n⟩:=a
  rw [ha] at hw
  simp only [Bool.and_eq_true,bne_iff_ne,beq_iff_eq] at hw
  obtain⟨⟨⟨h1,rfl⟩,h3⟩,rfl⟩:=hw
  rw [LK_at hm] at hL
  obtain⟨j,c',p',k',n',e1,e2,e3,rfl,e5,e6,e7⟩:=h.inv.goes_on hm hL (i:=i) (c:=c) (p:=p) hc hp ha h3
  have e1:ω.cl[j]?=some c':=e1
  have e2:ω.progs[j]?=some p':=e2
  unfold gs
  rw [List.any_eq_true]
  refine⟨j,List.mem_range.2 (List.getElem?_eq_some_iff.1 e1).1,?_⟩
  rw [ab_at e1 e2]
  unfold abt gs0
  rw [e3,e1]
  simp [e5,e6,e7]
section
variable {w:World} {A B:Option Addr} {n c m d:Nat} {R:List PV} {L:List Int}
theorem MachineWakes_walk (hM:Mach) (hg:P15.Glob w) (hc:n<=c) (hn:n<=9223372036854775807) (hm:PMem w A n R) (hd:m<=d) (hmm:m<=9223372036854775807) (hL:IMem w B m L) :
 Calls Tryz.prog 4 #[.slice A n c,.slice B m d] w λ e w'=>e=.returned (.bool true)/\Gr w w':=by
 have cF:=hid (few_is hm hc hn)
 obtain⟨N,a5,b5,n5,k5,-⟩:=least m 1500
 have b5:min (m:Int) 1500=(N:Int):=b5
 have a5:(if (1500:Int)<(m:Int) then (1500:Int) else (m:Int))=(N:Int):=a5
 have p5:(0:Int)<=(N:Int):=by omega
 have m5:(N:Int)<=(d:Int):=by omega
 have HL:=hid hL
 clear hm hL
 go_enter Tryz.func4,Tryz.ntmps4
 go_wp2_with fail
 with_reducible refine cF.out.mono ?_
 rintro e w1 ⟨⟨B',m',d',R',rfl,-,hpl,hm10,hown⟩,g1⟩
 have hP:=hown.mem
 have cN:=hid (hM.new w1 B' m' d' R' (hg.gr g1) hP (by omega))
 have HG1:=hid g1
 clear hP hown g1 cF
 go_wp2_with fail
 with_reducible refine cN.out.mono ?_
 rintro e w2 ⟨⟨s,ψ,x,rfl,hN,hW⟩,g2⟩
 obtain⟨now,⟨A1,n1,c1⟩,⟨A2,n2,c2⟩,⟨A3,n3,c3⟩,⟨A4,n4,c4⟩,stop⟩:=s
 have G2:=hid (HG1.out.trans g2)
 rcases hN with ⟨hr,rfl,rfl⟩ | ⟨hr,rfl,rfl⟩
 rotate_left
 . have cA:=hid (alive_is (w:=w2.alloc (.cells #[.int .i64 now,.slice A1 n1 c1,.slice A2 n2 c2,.slice A3 n3 c3,.slice A4 n4 c4,.int .i64 stop] 29)) hM (hg.gr (G2.out.al _)))
   go_wp2_with fail
   with_reducible refine cA.out.mono ?_
   rintro e w9 ⟨rfl,g9⟩
   go_wp2_with fail
   go_ret
   exact⟨rfl,(G2.out.al _).trans g9⟩
 have F0:=hid (Fine.new hr)
 generalize hω:newW (pl R')=ω0 at *
 have now0:=hid (show ω0.now=0 from by rw [<- hω];rfl)
 have BK:=Blk.new w2 #[.int .i64 now,.slice A1 n1 c1,.slice A2 n2 c2,.slice A3 n3 c3,.slice A4 n4 c4,.int .i64 stop] 29
 have G4:=hid (G2.out.al (.cells #[.int .i64 now,.slice A1 n1 c1,.slice A2 n2 c2,.slice A3 n3 c3,.slice A4 n4 c4,.int .i64 stop] 29))
 have W4:=hid (WAt.late (S:=λ k=>k=w2.heap.size) hW ((Gr.refl w2).al (.cells #[.int .i64 now,.slice A1 n1 c1,.slice A2 n2 c2,.slice A3 n3 c3,.slice A4 n4 c4,.int .i64 stop] 29)) (λ k hk=>by omega))
 have hKw:w.heap.size<=w2.heap.size:=G2.out.size
 clear hW g2 cN hr hω hpl HG1 G2
 go_upto_region 4 with fail
 generalize w2.alloc (.cells #[.int .i64 now,.slice A1 n1 c1,.slice A2 n2 c2,.slice A3 n3 c3,.slice A4 n4 c4,.int .i64 stop] 29)=V4 at BK G4 W4 ⊢
 generalize w2.heap.size=K at BK W4 hKw ⊢
 go_wp2_with fail
 clear a5 b5 p5 m5
 go_loopw [41] (λ i wr=>∃ (k:Nat) (ω:Wv) (r:WR),k<=N/\i=.int .i64 (k:Int)/\Hid (Fine ω)/\Hid (ω.now<=(k:Int)*5000000)/\Hid (Blk wr K r.a 29)/\Hid (WAt (λ k=>k=K) wr r ω)/\Hid (Gr w wr)) (λ i _=>N-(intOf i).toNat)
 case atStart=>exact⟨0,ω0,⟨now,⟨A1,n1,c1⟩,⟨A2,n2,c2⟩,⟨A3,n3,c3⟩,⟨A4,n4,c4⟩,stop⟩,Nat.zero_le _,rfl,F0,hid (by rw [now0.out];decide),hid BK,W4,G4⟩
 case round =>
  clear BK W4 G4 F0 now0
  obtain⟨k,ω,r,hk,rfl,HF,HN,HK,HW,HG⟩:=hrel
  obtain⟨nowr,⟨A1r,n1r,c1r⟩,⟨A2r,n2r,c2r⟩,⟨A3r,n3r,c3r⟩,⟨A4r,n4r,c4r⟩,stopr⟩:=r
  by_cases hlt:k<N
  . have hN15:N<=1500:=k5
    obtain⟨bS,oS,v,rfl,hbl,hv,hvb,s0⟩:=(HL.out.gr HG.out).at_ (show k<m by omega)
    have cX:=hid (next_is hM (hg.gr HG.out) HW.out.is hvb)
    have i0:(0:Int)<=(k:Int):=by omega
    have i1:(k:Int)<(N:Int):=by omega
    have kb:=HK.out
    have ltk:=kb.lt
    obtain⟨k0,kz0⟩:=kb.at_ (k:=0) (v:=.int .i64 nowr) rfl
    obtain⟨k1,kz1⟩:=kb.at_ (k:=1) (v:=.slice A1r n1r c1r) rfl
    obtain⟨k2,kz2⟩:=kb.at_ (k:=2) (v:=.slice A2r n2r c2r) rfl
    obtain⟨k3,kz3⟩:=kb.at_ (k:=3) (v:=.slice A3r n3r c3r) rfl
    obtain⟨k4,kz4⟩:=kb.at_ (k:=4) (v:=.slice A4r n4r c4r) rfl
    obtain⟨k5,kz5⟩:=kb.at_ (k:=5) (v:=.int .i64 stopr) rfl
    clear hv kb
    go_upto_region 7 with fail
    clear s0 hbl
    go_wp2_with fail
    with_reducible refine cX.out.mono ?_
    rintro e w3 ⟨⟨s,ψ,A',n',c',ev,who,bb,rfl,hX,hWn,hE,hnc,hcm⟩,g3⟩
    obtain⟨nowN,⟨A1N,n1N,c1N⟩,⟨A2N,n2N,c2N⟩,⟨A3N,n3N,c3N⟩,⟨A4N,n4N,c4N⟩,stopN⟩:=s
    have hnow0:ω.now<=4611686018422387904:=by
     have h1:=HN.out
     have h2:(k:Int)<1500:=by omega
     have h3:(k:Int)*5000000<=1500*5000000:=by omega
     omega
    obtain⟨fψ,rfl,hpr,hnow,hst,F,-⟩:=NextM.rnd HF.out hX hvb hnow0
    have HPF:=hid fψ
    have HPN:=hid (show ψ.now<=((k+1:Nat):Int)*5000000 from by have:=HN.out;omega)
    have hWis:=hWn.is
    have hcn:n2r=n2N:=by
     have h1:ω.cl.length=ω.progs.length:=HF.out.inv.len
     have h2:ψ.cl.length=ψ.progs.length:=fψ.inv.len
     have h3:ω.cl.length=n2r:=HW.out.is.c.len
     have h4:ψ.cl.length=n2N:=hWis.c.len
     rw [hpr] at h2
     omega
    subst hcn
    have hpn:n2r=n1N:=by
     have h2:ψ.cl.length=ψ.progs.length:=fψ.inv.len
     have h4:ψ.cl.length=n2r:=hWis.c.len
     have h5:ψ.progs.length=n1N:=hWis.lens.1
     omega
    subst hpn
    have hm4:4=n3N:=fψ.m4.symm.trans hWis.m.len
    subst hm4
    have hcl:ψ.cl.length=n2r:=hWis.c.len
    have hn2:n2r<=9223372036854775807:=hWis.oc.lt
    have HCL:=hid hcl
    have HsN:=hid (show stopN=ψ.stop from hWis.stop)
    have KB:=hid ((HK.out.gr g3).al (.cells #[.int .i64 nowN,.slice A1N n2r c1N,.slice A2N n2r c2N,.slice A3N 4 c3N,.slice A4N n4N c4N,.int .i64 stopN] 29))
    have NB:=hid (Blk.new w3 #[.int .i64 nowN,.slice A1N n2r c1N,.slice A2N n2r c2N,.slice A3N 4 c3N,.slice A4N n4N c4N,.int .i64 stopN] 29)
    have GV:=hid ((HG.out.trans g3).al (.cells #[.int .i64 nowN,.slice A1N n2r c1N,.slice A2N n2r c2N,.slice A3N 4 c3N,.slice A4N n4N c4N,.int .i64 stopN] 29))
    have WN:=hid (hWn.gr ((Gr.refl w3).al (.cells #[.int .i64 nowN,.slice A1N n2r c1N,.slice A2N n2r c2N,.slice A3N 4 c3N,.slice A4N n4N c4N,.int .i64 stopN] 29)))
    have hKB:K<wr.heap.size:=ltk
    clear hWn hE hWis hX HN HF HW HK HG g3 cX fψ hpr hnow hnow0 ltk hcl
    go_upto_region 8 with fail
    clear k0 kz0 k1 kz1 k2 kz2 k3 kz3 k4 kz4 k5 kz5
    generalize w3.alloc (.cells #[.int .i64 nowN,.slice A1N n2r c1N,.slice A2N n2r c2N,.slice A3N 4 c3N,.slice A4N n4N c4N,.int .i64 stopN] 29)=V at KB NB GV WN ⊢
    generalize w3.heap.size=gN at NB ⊢
    generalize wr.heap.size=Bd at WN hKB
    have kb:=KB.out
    have nb:=NB.out
    have ltk:=kb.lt
    have ltn:=nb.lt
    obtain⟨p0,pz0⟩:=kb.at_ (k:=0) (v:=.int .i64 nowr) rfl
    obtain⟨p1,pz1⟩:=kb.at_ (k:=1) (v:=.slice A1r n1r c1r) rfl
    obtain⟨p2,pz2⟩:=kb.at_ (k:=2) (v:=.slice A2r n2r c2r) rfl
    obtain⟨p3,pz3⟩:=kb.at_ (k:=3) (v:=.slice A3r n3r c3r) rfl
    obtain⟨p4,pz4⟩:=kb.at_ (k:=4) (v:=.slice A4r n4r c4r) rfl
    obtain⟨p5,pz5⟩:=kb.at_ (k:=5) (v:=.int .i64 stopr) rfl
    obtain⟨q0,qz0⟩:=nb.at_ (k:=0) (v:=.int .i64 nowN) rfl
    obtain⟨q1,qz1⟩:=nb.at_ (k:=1) (v:=.slice A1N n2r c1N) rfl
    obtain⟨q2,qz2⟩:=nb.at_ (k:=2) (v:=.slice A2N n2r c2N) rfl
    obtain⟨q3,qz3⟩:=nb.at_ (k:=3) (v:=.slice A3N 4 c3N) rfl
    obtain⟨q4,qz4⟩:=nb.at_ (k:=4) (v:=.slice A4N n4N c4N) rfl
    obtain⟨q5,qz5⟩:=nb.at_ (k:=5) (v:=.int .i64 stopN) rfl
    have BF:=hid (put6_blk kb rfl (.int .i64 nowN) (.slice A1N n2r c1N) (.slice A2N n2r c2N) (.slice A3N 4 c3N) (.slice A4N n4N c4N) (.int .i64 stopN))
    have GF:=hid (put6_gr (x0:=.int .i64 nowN) (x1:=.slice A1N n2r c1N) (x2:=.slice A2N n2r c2N) (x3:=.slice A3N 4 c3N) (x4:=.slice A4N n4N c4N) (x5:=.int .i64 stopN) (b:=K) GV.out hKw)
    have WF:=hid (WAt.new (S:=λ k=>k=K) (WN.out.to (FromB.put6 (b:=K) hKB (.int .i64 nowN) (.slice A1N n2r c1N) (.slice A2N n2r c2N) (.slice A3N 4 c3N) (.slice A4N n4N c4N) (.int .i64 stopN))) (λ k hk=>by omega))
    clear kb nb KB NB GV WN
    go_upto_region 11 with fail
    clear p0 pz0 q0 qz0 p1 pz1 q1 qz1 p2 pz2 q2 qz2 p3 pz3 q3 qz3 p4 pz4 q4 qz4 p5 pz5 q5 qz5 ltk ltn
    generalize (((((V.setCell ⟨K,0,none⟩ (.int .i64 nowN)).setCell ⟨K,1,none⟩ (.slice A1N n2r c1N)).setCell ⟨K,2,none⟩ (.slice A2N n2r c2N)).setCell ⟨K,3,none⟩ (.slice A3N 4 c3N)).setCell ⟨K,4,none⟩ (.slice A4N n4N c4N)).setCell ⟨K,5,none⟩ (.int .i64 stopN)=V6 at BF GF WF ⊢
    have kb:=BF.out
    have ltk:=kb.lt
    have ks:=(kb.at_ (k:=5) (v:=.int .i64 stopN) rfl).1
    clear kb
    by_cases hs:ψ.stop=0
    rotate_left
    . have tN:(stopN != 0)=true:=by rw [HsN.out];simpa using hs
      have cA:=hid (alive_is (w:=V6) hM (hg.gr GF.out))
      go_wp2_with fail
      with_reducible refine cA.out.mono ?_
      rintro e w9 ⟨rfl,g9⟩
      go_wp2_with fail
      go_ret
      exact⟨rfl,GF.out.trans g9⟩
    have tN:(stopN != 0)=false:=by rw [HsN.out,hs];decide
    clear hs HsN hst
    go_upto_region 14 with fail
    clear ks ltk
    go_loopw [84] (λ i wr=>∃ j:Nat,j<=4/\i=.int .i64 (j:Int)/\Hid (Gr V6 wr)) (λ i _=>4-(intOf i).toNat)
    case atStart=>exact⟨0,by decide,rfl,hid (Gr.refl _)⟩
    case round =>
     obtain⟨j,hj,rfl,HV⟩:=hrel
     by_cases hj4:j<4
     . have j0:(0:Int)<=(j:Int):=by omega
       have j1:(j:Int)<4:=by omega
       have kb:=BF.out.gr HV.out
       have ltk:=kb.lt
       have k2:=(kb.at_ (k:=2) (v:=.slice A2N n2r c2N) rfl).1
       clear kb
       go_upto_region 18 with fail
       clear k2 ltk
       rename World=>VM
       go_loopw [14,15,90] (λ Wv Gv i wr=>∃ q:Nat,q<=n2r/\i=.int .i64 (q:Int)/\Wv=.bool (wt ψ j q)/\Gv=.bool (gs ψ j q)/\Hid (Gr V6 wr)) (λ _ _ i _=>n2r-(intOf i).toNat)
       case atStart=>exact⟨0,Nat.zero_le _,rfl,rfl,rfl,HV⟩
       case round =>
        clear HV
        obtain⟨q,hq,rfl,rfl,rfl,HV⟩:=hrel
        by_cases hqn:q<n2r
        . have kb:=BF.out.gr HV.out
          have ltk:=kb.lt
          obtain⟨k0,kz0⟩:=kb.at_ (k:=0) (v:=.int .i64 nowN) rfl
          obtain⟨k1,kz1⟩:=kb.at_ (k:=1) (v:=.slice A1N n2r c1N) rfl
          obtain⟨k2,kz2⟩:=kb.at_ (k:=2) (v:=.slice A2N n2r c2N) rfl
          obtain⟨k3,kz3⟩:=kb.at_ (k:=3) (v:=.slice A3N 4 c3N) rfl
          obtain⟨k4,kz4⟩:=kb.at_ (k:=4) (v:=.slice A4N n4N c4N) rfl
          obtain⟨k5,kz5⟩:=kb.at_ (k:=5) (v:=.int .i64 stopN) rfl
          clear kb
          have WI:=(WF.out.gr HV.out).is
          obtain⟨bc,oc,x,hAc,hbc,hx,-,f0,f1,f2,f3,f4,f5,f6,f7,f8,f9,f10,f11,f12⟩:=CMem.cells WI.c hqn
          have hpx:q<ψ.progs.length:=by
           have h1:ψ.cl.length=ψ.progs.length:=HPF.out.inv.len
           have:=HCL.out
           omega
          have hpp:ψ.progs[q]?=some ψ.progs[q]:=List.getElem?_eq_getElem hpx
          have hci:=HPF.out.inv.ci q x ψ.progs[q] hx hpp
          have hab:=ab_at (m:=j) hx hpp
          have hg0:gs0 ψ q=(x.gst==0):=by unfold gs0;rw [hx]
          have hX:=(Gr.refl wr).al (.cells #[.int .i64 x.gst,.bool x.permit,.int .i64 x.act,.int .i64 x.pc,.int .i64 x.worked,.int .i64 x.ticket,.bool x.first,.bool x.told,.int .i64 x.since,.bool x.st,.bool x.aw,.int .i64 x.rounds,.int .i64 x.old] 55)
          have cA:=hid (about_is (m:=(j:Int)) (WI.gr hX) hx hpp hci.a0)
          rw [<- hab] at cA
          obtain⟨is,kd,hik⟩:∃ is kd,ab ψ j q=(is,kd):=⟨_,_,rfl⟩
          rw [hik] at cA
          obtain⟨g0,hgx⟩:∃ g0,(x.gst==0)=g0:=⟨_,rfl⟩
          have HWT:=hid (show wt ψ j (q+1)=(wt ψ j q||(is&&kd==0)) from by rw [wt_succ,hik])
          have HGT:=hid (show gs ψ j (q+1)=(gs ψ j q||(is&&g0)) from by rw [gs_succ,hik,hg0,hgx])
          have BX:=hid (Blk.new wr #[.int .i64 x.gst,.bool x.permit,.int .i64 x.act,.int .i64 x.pc,.int .i64 x.worked,.int .i64 x.ticket,.bool x.first,.bool x.told,.int .i64 x.since,.bool x.st,.bool x.aw,.int .i64 x.rounds,.int .i64 x.old] 55)
          have GX:=hid (HV.out.trans hX)
          generalize wt ψ j q=W0 at HWT ⊢
          generalize gs ψ j q=G0 at HGT ⊢
          have q0:(0:Int)<=(q:Int):=by omega
          have q1:(q:Int)<(n2r:Int):=by omega
          dsimp only at hAc
          subst hAc
          clear WI hx hpp hci hab hg0 hik hX HV
          go_wp2_with fail
          with_reducible refine cA.out.mono ?_
          rintro e w7 ⟨rfl,g7⟩
          have bx:=BX.out.gr g7
          have ltx:=bx.lt
          have x0:=(bx.at_ (k:=0) (v:=.int .i64 x.gst) rfl).1
          have GY:=hid (GX.out.trans g7)
          clear bx BX GX g7 cA
          cases W0<;>cases G0<;>cases is
          all_goals (
           go_wp2_with fail
           go_roundw
           case rel=>exact⟨q+1,by omega,by go_num,by rw [HWT.out];simp,by rw [HGT.out];simp [hgx],GY⟩
           case measure=>simp [intOf];omega)
        . obtain rfl:q=n2r:=by omega
          have kb:=BF.out.gr HV.out
          have ltk:=kb.lt
          have k3:=(kb.at_ (k:=3) (v:=.slice A3N 4 c3N) rfl).1
          clear kb
          obtain⟨bm,om,xm,hA3,hbm,hxm,-,e0,e1,e2⟩:=T3Mem.cells (k:=j) ((WF.out.gr HV.out).is).m hj4
          dsimp only at hA3
          subst hA3
          obtain⟨a,bb,cc,qq,hqq,hqn',hLa⟩:=word_at HPF.out hj4 hxm
          have hwk:=waking HPF.out hj4
          rw [hLa,HCL.out] at hwk
          rw [hqq] at e0
          have cU:=λ W=>hid (P3.Unpack_ok a bb cc qq hqn' W)
          generalize P3.pw a bb cc qq=wd0 at cU e0
          generalize wt ψ j q=W0 at hwk ⊢
          generalize gs ψ j q=G0 at hwk ⊢
          clear hxm hqq hqn' hLa e1 e2
          go_wp2_with fail
          with_reducible refine (cU _).out.mono ?_
          rintro e w8 ⟨rfl,g8⟩
          have GY:=hid ((HV.out.trans g8).al (.cells #[.bool a,.bool bb,.bool cc,.int .i64 qq] 42))
          clear g8 cU k3 ltk e0
          cases a<;>cases W0<;>cases G0<;>first | (exact absurd (hwk rfl rfl) (by decide)) | skip
          all_goals (
           clear hwk
           go_wp2_with fail
           go_roundw
           case rel=>exact⟨j+1,by omega,by go_num,GY⟩
           case measure=>simp [intOf];omega)
     . obtain rfl:j=4:=by omega
       go_wp2_with fail
       go_roundw
       case rel=>exact⟨k+1,ψ,⟨nowN,⟨A1N,n2r,c1N⟩,⟨A2N,n2r,c2N⟩,⟨A3N,4,c3N⟩,⟨A4N,n4N,c4N⟩,stopN⟩,by omega,by go_num,HPF,HPN,hid (BF.out.gr HV.out),hid (WF.out.gr HV.out),hid (GF.out.trans HV.out)⟩
       case measure=>simp [intOf];omega
  . obtain rfl:k=N:=by omega
    have cA:=hid (alive_is (w:=wr) hM (hg.gr HG.out))
    go_wp2_with fail
    with_reducible refine cA.out.mono ?_
    rintro e w9 ⟨rfl,g9⟩
    go_wp2_with fail
    go_ret
    exact⟨rfl,HG.out.trans g9⟩
end
end P16
end
section
open Go.ChangeShapes Go.WideShapes Go.ChangeAt Go.RowKit Go.Joins
namespace P15
def laidL : List (String × DataW Unit) := [("deadbolt/give.states", Rows.laid_deadbolt_give_states)]
theorem laidL_shaped (os:Os) (args:Array Value):((World.laidAll Tryz.prog os laidL).forCall (λ _ _=>0) ⟨#[],args,[]⟩).Shaped Tryz.prog :=
 World.shaped_of_ZipB (by kernel_rfl) (by kernel_rfl)
theorem laidL_met (os:Os) (args:Array Value):laidMetH Tryz.prog laidL ((World.laidAll Tryz.prog os laidL).forCall (λ _ _=>0) ⟨#[],args,[]⟩).memory:=by
 rw [MakeChecks.laidMetH_plain _ _ _ (by kernel_rfl)]
 exact laidMet_laidAll _ (by kernel_rfl) (by kernel_rfl)
section
variable {W:World}
theorem metL (h:laidMetH Tryz.prog laidL W):laidMet Tryz.prog laidL W:=by
 rwa [MakeChecks.laidMetH_plain _ _ _ (by kernel_rfl)] at h
theorem states_of {rest : List (String × DataW Unit)} (h : laidMet Tryz.prog (("deadbolt/give.states", Rows.laid_deadbolt_give_states) :: rest) W) : Glob W := by
 obtain⟨ps,⟨g,t,cs,fuel,p,q,hg,ht,hv,hd,_,_⟩,_⟩:=h
 obtain rfl := Option.some.inj ((show Tryz.prog.globalNamed "deadbolt/give.states" = some 0 by kernel_rfl).symm.trans hg)
 obtain rfl:=Option.some.inj ((show (Tryz.prog.globals[0]?).map (·.type)=some 263 by kernel_rfl).symm.trans ht)
 obtain⟨xs,m,_,ex,hcl,hl,hel⟩:=DataW.trod_array Tryz.underlying263 hd
 have c1:Tryz.prog.cellsOf 3=1:=by kernel_rfl
 have c8:Tryz.prog.cellsOf 263=8:=by kernel_rfl
 rw [c8] at hcl
 rw [c1] at hel
 have e3:xs.map (·.1)=[.lit (.int .i64 0),.lit (.int .i64 3),.lit (.int .i64 1),.lit (.int .i64 3),.lit (.int .i64 2),.lit (.int .i64 3),.lit (.int .i64 2),.lit (.int .i64 3)]:=(DataW.agg.inj (Prod.mk.inj ex).1).symm
 have each:∀ i (z:Int),i<8->(xs.map (·.1))[i]?=some (.lit (.int .i64 z))->cs.toList[i]?=some (.int .i64 z):=by
  intro i z hi hb
  have hE:=hel i hi
  rw [List.getElem?_eq_getElem (by omega)] at hE
  obtain⟨s,e1,e2,_⟩:=DataW.trod_int Tryz.underlying3 hE
  rw [List.getElem?_map,List.getElem?_eq_getElem (by omega:i<xs.length),e2] at hb
  simp only [Option.map_some,Option.some.injEq,DataW.lit.injEq,Lit.int.injEq,true_and] at hb
  rw [<- hb]
  have h0:((cs.toList.drop (i*1)).take 1)[0]?=some (.int .i64 s):=by rw [e1];rfl
  simpa using h0
 unfold Glob
 rw [hv]
 refine congrArg some (Array.ext' (List.ext_getElem? λ i=>?_))
 match i with
 | 0=>exact each 0 _ (by omega) (by rw [e3];rfl)
 | 1=>exact each 1 _ (by omega) (by rw [e3];rfl)
 | 2=>exact each 2 _ (by omega) (by rw [e3];rfl)
 | 3=>exact each 3 _ (by omega) (by rw [e3];rfl)
 | 4=>exact each 4 _ (by omega) (by rw [e3];rfl)
 | 5=>exact each 5 _ (by omega) (by rw [e3];rfl)
 | 6=>exact each 6 _ (by omega) (by rw [e3];rfl)
 | 7=>exact each 7 _ (by omega) (by rw [e3];rfl)
 | n+8 =>
  rw [List.getElem?_eq_none (by omega),List.getElem?_eq_none (by simp)]
theorem globL (h:laidMetH Tryz.prog laidL W) (hs:W.ShapedOpen Tryz.prog):Glob W:=states_of (metL h)
end
end P15
end
section
open Go.ChangeShapes Go.WideShapes Go.ChangeAt Go.RowKit Go.Joins
namespace P16
abbrev laidL:=P15.laidL
theorem laidL_shaped (os:Os) (args:Array Value):((World.laidAll Tryz.prog os laidL).forCall (λ _ _=>0) ⟨#[],args,[]⟩).Shaped Tryz.prog:=P15.laidL_shaped os args
theorem laidL_met (os:Os) (args:Array Value):laidMetH Tryz.prog laidL ((World.laidAll Tryz.prog os laidL).forCall (λ _ _=>0) ⟨#[],args,[]⟩).memory:=P15.laidL_met os args
theorem globL {W:World} (h:laidMetH Tryz.prog laidL W) (hs:W.ShapedOpen Tryz.prog):P15.Glob W:=P15.globL h hs
end P16
end
section
open Go.ChangeShapes Go.WideShapes Go.ChangeAt Go.RowKit Go.Joins
theorem MachineWakes_lifted (os:Os) (started:os.Started) (H:Type) (enc:TypeId×Value->H) :
 ReturnsInHanded {} Tryz.checked os 4 .any (λ w args=>(Rows.machineWakesSpec.pre enc Tryz.prog Tryz.f4 Rows.machineWakesRow.domain false w args/\laidMetH Tryz.prog P16.laidL w)/\sizedMet enc Tryz.prog Tryz.f4 (OpenSpec.ofChange Rows.machineWakesSpec) false w args)
  (Rows.machineWakesSpec.post enc Tryz.prog Tryz.f4 false true false false):=by
 refine LW.returns_laid_shaped (C:=Tryz.checked) (X:=λ w _=>laidMetH Tryz.prog P16.laidL w) (λ _ _ _ hh h=>laidMetH.of_heap hh h) own started (by kernel_rfl) Tryz.func4
  (ChangeSpec.witness_shaped (enc:=enc) (C:=Tryz.checked) (os:=os) (X:=λ w _=>laidMetH Tryz.prog P16.laidL w) false (World.laidAll Tryz.prog os P16.laidL) #[.slice none 0 0,.slice none 0 0] 8 (World.laidAll_os _ _ _) (P16.laidL_shaped os _) (by kernel_rfl) (by kernel_rfl) (by kernel_rfl) (P16.laidL_met os _)) ?_
 intro W base args ds gs before hval0 hW hL hS
 have hval:∀ (j:Nat) t v,Tryz.f4.params[j]?=some t->args[j]?=some v->Value.okWide Tryz.prog W .any base t v:=hval0
 have hW':=hW
 obtain⟨p,q,hA0,hV,rfl,hfz,hnd⟩:=hW
 have hA:DataW.TrodAll enc Tryz.prog W 0 (λ _=>true) true Tryz.f4.params.toList args.toList ds p:=hA0
 rw [Tryz.params4] at hA hval
 have hK:=hA
 obtain⟨v0,vs0,d0,ds0,p0,q0,hargs,rfl,hp,h0,r0⟩:=trodAll_cons hA
 obtain⟨v1,vs1,d1,ds1,p1,q1,rfl,rfl,rfl,h1,r1⟩:=trodAll_cons r0
 obtain⟨rfl,rfl,rfl⟩:=trodAll_nil r1
 obtain rfl:args=#[v0,v1]:=by cases args;simp_all
 obtain⟨rfl,rfl⟩:=trodVars_none hV
 obtain⟨A0,n0,c0,R0,rfl,hc0,hn0,hm0⟩:=P12.open_acts2 (hval 0 22 v0 rfl rfl) h0
 obtain⟨A1,n1,c1,l1,rfl,hc1,hn1,hm1⟩:=open_ints (hval 1 23 v1 rfl rfl) h1
 clear hA0 hval0
 refine (P16.MachineWakes_walk P16.mach (P16.globL hL hS) hc0 hn0 hm0 hc1 hn1 hm1).mono λ e W' ⟨he,hg⟩=>?_
 subst he
 exact⟨_,rfl,post_below (pa:=p) (pv:=[]) hW' (λ _ _ _=>(trodAll_cons_mk (shut_bool Tryz.underlying4 _) trodAll_mk0))
  (λ sp hs=>trodAll_stays laidOut hg sp (by kernel_rfl) hK (λ x hx=>hW'.lt x (List.mem_append_left _ hx)) (λ x hx=>hs x (List.mem_append_left _ hx))) (λ _ _=>rfl) rfl
  hg (ok_one (by kernel_rfl) rfl (okWide_bool_mk Tryz.underlying4 _))⟩
theorem MachineWakes_closed:joinedFacts Tryz.pinned.checked.prog 4 Tryz.f4 Rows.machineWakesSpec Rows.machineWakesRow=true:=by kernel_rfl
theorem MachineWakes_over:Rows.machineWakesRow.holds Tryz.pinned (OpenSpec.ofChange Rows.machineWakesSpec) :=
 OpenClaim.holds_of_wide 4 Tryz.f4 rfl rfl rfl rfl rfl rfl rfl ⟨rfl,rfl,rfl,rfl,rfl⟩ rfl rfl rfl rfl rfl (by kernel_rfl) Tryz.func4 MachineWakes_closed
  (of_decide_eq_true (by kernel_rfl)) (by unfold Func.isWrapper;first | (rw [if_pos (by decide +kernel)];kernel_rfl) | (rw [if_neg (by decide +kernel)];exact⟨rfl,rfl⟩))
  (λ os started H enc _=>MachineWakes_lifted os started H enc)
theorem MachineWakes_card:Rows.MachineWakesCardSaid :=
 Claim7.holds_tied_plain_at .later [] [.data] true _ true
  MachineWakes_over (λ _ h=>by cases h) (by kernel_rfl) (λ _ h=>by cases h) machineWakes_row_tie rfl ⟨rfl,rfl⟩ (by kernel_rfl) rfl
  (λ f fn hf hfn=>by
    obtain rfl : f = 4 := Option.some.inj ((show Tryz.prog.funcNamed "deadbolt/deadboltlaw16.MachineWakes" = some 4 by kernel_rfl).symm.trans hf) |>.symm
    obtain rfl:fn=Tryz.f4:=(Option.some.inj (Tryz.func4.symm.trans hfn)).symm
    exact⟨by kernel_rfl,λ j t ht=>by
     rw [Tryz.params4] at ht
     have hm:t∈[22,23]:=by
      have:=Array.mem_of_getElem? ht
      simpa using this
     have hall:([22,23]:List TypeId).all (λ t=>Tryz.prog.wantsStandIn t==false)=true:=by kernel_rfl
     have hw:=List.all_eq_true.1 hall t hm
     exact beq_iff_eq.1 hw⟩)
  (by kernel_rfl)
#print axioms MachineWakes_card
end
end Go.Proofs.YtainfijdhcehlaaGreatDoor
