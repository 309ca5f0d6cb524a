/-
  A part of the proof.
-/
import Derived.Test.YtainfijdhcehlaaGreatDoorQN10
import Derived.Deep.DeepCutAuto
import Derived.Deep.SlicePairs
import Derived.Deep.QuietTactic
import Derived.BigQuiet
import Derived.Outline
import Derived.Deep.RegionHeld3
import Derived.RegionTactic
set_option linter.all false
set_option maxRecDepth 100000
set_option maxHeartbeats 8000000
namespace Go.Proofs.YtainfijdhcehlaaGreatDoor
open Lib (hid)
section
open Go.ChangeShapes Go.WideShapes Go.ChangeAt Go.RowKit
namespace P16
open P12 (PV PMem POwn pl fewP)
theorem HandK.few {ω ψ:Wv} {ev:List T3} {who:Int} (h:HandK ω ψ ev who):ev=[]\/∃ a e n,ev=[(a,e,n)]:=by
 rcases h with ⟨_,q | ⟨a,e,n,q,_⟩⟩ | ⟨_,q,_⟩
 . exact .inl q
 . exact .inr ⟨a,e,n,q⟩
 . exact q
theorem hand_at {ω ψ:Wv} {ev:List T3} {who:Int} {j:Nat} {x y:T3} (hK:HandK ω ψ ev who) (fω:Fine ω) (fψ:Fine ψ) (hj:j<4) (hx:ω.mx[j]?=some x) (hy:ψ.mx[j]?=some y) :
 ∃ a b c q a' b' c' q',x.1=P3.pw a b c q/\(0<=q/\q<268435456)/\y.1=P3.pw a' b' c' q'/\(0<=q'/\q'<268435456) /\
  ((a=a'/\b=b'/\c=c'/\q=q')\/(0<=who/\who<(ω.cl.length:Int))) /\
  (c=c'\/∃ (i:Nat) (z:Cl),who=(i:Int)/\ω.cl[i]?=some z/\((c=false/\c'=true/\z.pc=2/\z.st=true)\/(c=true/\c'=false/\z.pc=8))) /\
  (∀ ea ee en,ev=[(ea,ee,en)]->en≠(j:Int)\/c=false\/(ee≠1/\ee≠0)\/(ee=0/\∃ (i:Nat) (z:Cl),who=(i:Int)/\ω.cl[i]?=some z/\z.pc=8)):=by
 obtain⟨a,b,c,q,e1,e2,e3⟩:=flags_at fω hj hx
 rcases hK with ⟨h1,h2⟩ | ⟨h0,h2,z,hz,h3⟩
 . have hxy:y.1=x.1:=by
    have:=h1 j hj
    rw [mxAt_get hx,mxAt_get hy] at this
    exact this
   refine⟨a,b,c,q,a,b,c,q,e1,e2,by rw [hxy,e1],e2,.inl ⟨rfl,rfl,rfl,rfl⟩,.inl rfl,λ ea ee en he=>?_⟩
   rcases h2 with h2 | ⟨_,_,_,h2,h4,h5⟩
   . rw [h2] at he;cases he
   . rw [h2] at he;cases he;exact .inr (.inr (.inl ⟨h5,h4⟩))
 . obtain⟨a',b',c',q',f1,f2,f3⟩:=flags_at fψ hj hy
   obtain⟨i,rfl⟩:∃ i:Nat,who=(i:Int):=⟨who.toNat,by omega⟩
   rw [Int.toNat_natCast] at hz
   have hlt:=(List.getElem?_eq_some_iff.1 hz).1
   obtain⟨k1,k2,k3⟩:=h3 j hj
   rw [e3,f3] at k1 k2
   rw [e3] at k3
   refine⟨a,b,c,q,a',b',c',q',e1,e2,f1,f2,.inr ⟨by omega,by omega⟩,?_,λ ea ee en he=>?_⟩
   . cases c<;>cases c'
     . exact .inl rfl
     . exact .inr ⟨i,z,rfl,hz,.inl ⟨rfl,rfl,k1 rfl rfl⟩⟩
     . exact .inr ⟨i,z,rfl,hz,.inr ⟨rfl,rfl,k2 rfl rfl⟩⟩
     . exact .inl rfl
   . by_cases hen:en=(j:Int)
     . subst hen
       cases c with
       | false=>exact .inr (.inl rfl)
       | true =>
        obtain⟨m1,m2⟩:=k3 ea ee he rfl
        by_cases h00:ee=0
        . exact .inr (.inr (.inr ⟨h00,i,z,rfl,hz,m2 h00⟩))
        . exact .inr (.inr (.inl ⟨m1,h00⟩))
     . exact .inl hen
section
variable {w:World} {A B:Option Addr} {n c m d:Nat} {R:List PV} {L:List Int}
theorem MachineHands_walk (hM:Mach) (hg:P15.Glob w) (hc:n<=c) (hn:n<=9223372036854775807) (hm:PMem w A n R) (hd:m<=d) (hmm:m<=9223372036854775807) (hL:IMem w B m L) :
 Calls Tryz.prog 5 #[.slice A n c,.slice B m d] w λ e w'=>e=.returned (.bool true)/\Gr w w':=by
 have cF:=hid (few_is hm hc hn)
 obtain⟨N,a5,b5,n5,k5,-⟩:=least m 1500
 have b5:min (m:Int) 1500=(N:Int):=b5
 have a5:(if (1500:Int)<(m:Int) then (1500:Int) else (m:Int))=(N:Int):=a5
 have p5:(0:Int)<=(N:Int):=by omega
 have m5:(N:Int)<=(d:Int):=by omega
 have HL:=hid hL
 clear hm hL
 go_enter Tryz.func5,Tryz.ntmps5
 go_wp2_with fail
 with_reducible refine cF.out.mono ?_
 rintro e w1 ⟨⟨B',m',d',R',rfl,-,hpl,hm10,hown⟩,g1⟩
 have hP:=hown.mem
 have cN:=hid (hM.new w1 B' m' d' R' (hg.gr g1) hP (by omega))
 have HG1:=hid g1
 clear hP hown g1 cF
 go_wp2_with fail
 with_reducible refine cN.out.mono ?_
 rintro e w2 ⟨⟨s,ψ,x,rfl,hN,hW⟩,g2⟩
 obtain⟨now,⟨A1,n1,c1⟩,⟨A2,n2,c2⟩,⟨A3,n3,c3⟩,⟨A4,n4,c4⟩,stop⟩:=s
 have G2:=hid (HG1.out.trans g2)
 rcases hN with ⟨hr,rfl,rfl⟩ | ⟨hr,rfl,rfl⟩
 rotate_left
 . have cA:=hid (alive_is (w:=w2.alloc (.cells #[.int .i64 now,.slice A1 n1 c1,.slice A2 n2 c2,.slice A3 n3 c3,.slice A4 n4 c4,.int .i64 stop] 29)) hM (hg.gr (G2.out.al _)))
   go_wp2_with fail
   with_reducible refine cA.out.mono ?_
   rintro e w9 ⟨rfl,g9⟩
   go_wp2_with fail
   go_ret
   exact⟨rfl,(G2.out.al _).trans g9⟩
 have F0:=hid (Fine.new hr)
 generalize hω:newW (pl R')=ω0 at *
 have now0:=hid (show ω0.now=0 from by rw [<- hω];rfl)
 have BK:=Blk.new w2 #[.int .i64 now,.slice A1 n1 c1,.slice A2 n2 c2,.slice A3 n3 c3,.slice A4 n4 c4,.int .i64 stop] 29
 have G4:=hid (G2.out.al (.cells #[.int .i64 now,.slice A1 n1 c1,.slice A2 n2 c2,.slice A3 n3 c3,.slice A4 n4 c4,.int .i64 stop] 29))
 have W4:=hid (WAt.late (S:=λ k=>k=w2.heap.size) hW ((Gr.refl w2).al (.cells #[.int .i64 now,.slice A1 n1 c1,.slice A2 n2 c2,.slice A3 n3 c3,.slice A4 n4 c4,.int .i64 stop] 29)) (λ k hk=>by omega))
 have hKw:w.heap.size<=w2.heap.size:=G2.out.size
 clear hW g2 cN hr hω hpl HG1 G2
 go_upto_region 4 with fail
 generalize w2.alloc (.cells #[.int .i64 now,.slice A1 n1 c1,.slice A2 n2 c2,.slice A3 n3 c3,.slice A4 n4 c4,.int .i64 stop] 29)=V4 at BK G4 W4 ⊢
 generalize w2.heap.size=K at BK W4 hKw ⊢
 go_wp2_with fail
 clear a5 b5 p5 m5
 go_loopw [39] (λ i wr=>∃ (k:Nat) (ω:Wv) (r:WR),k<=N/\i=.int .i64 (k:Int)/\Hid (Fine ω)/\Hid (ω.now<=(k:Int)*5000000)/\Hid (Blk wr K r.a 29)/\Hid (WAt (λ k=>k=K) wr r ω)/\Hid (Gr w wr)) (λ i _=>N-(intOf i).toNat)
 case atStart=>exact⟨0,ω0,⟨now,⟨A1,n1,c1⟩,⟨A2,n2,c2⟩,⟨A3,n3,c3⟩,⟨A4,n4,c4⟩,stop⟩,Nat.zero_le _,rfl,F0,hid (by rw [now0.out];decide),hid BK,W4,G4⟩
 case round =>
  clear BK W4 G4 F0 now0
  obtain⟨k,ω,r,hk,rfl,HF,HN,HK,HW,HG⟩:=hrel
  obtain⟨nowr,⟨A1r,n1r,c1r⟩,⟨A2r,n2r,c2r⟩,⟨A3r,n3r,c3r⟩,⟨A4r,n4r,c4r⟩,stopr⟩:=r
  by_cases hlt:k<N
  . have hN15:N<=1500:=k5
    obtain⟨bS,oS,v,rfl,hbl,hv,hvb,s0⟩:=(HL.out.gr HG.out).at_ (show k<m by omega)
    have cX:=hid (next_is hM (hg.gr HG.out) HW.out.is hvb)
    have i0:(0:Int)<=(k:Int):=by omega
    have i1:(k:Int)<(N:Int):=by omega
    have kb:=HK.out
    have ltk:=kb.lt
    obtain⟨k0,kz0⟩:=kb.at_ (k:=0) (v:=.int .i64 nowr) rfl
    obtain⟨k1,kz1⟩:=kb.at_ (k:=1) (v:=.slice A1r n1r c1r) rfl
    obtain⟨k2,kz2⟩:=kb.at_ (k:=2) (v:=.slice A2r n2r c2r) rfl
    obtain⟨k3,kz3⟩:=kb.at_ (k:=3) (v:=.slice A3r n3r c3r) rfl
    obtain⟨k4,kz4⟩:=kb.at_ (k:=4) (v:=.slice A4r n4r c4r) rfl
    obtain⟨k5,kz5⟩:=kb.at_ (k:=5) (v:=.int .i64 stopr) rfl
    clear hv kb
    go_upto_region 7 with fail
    clear s0 hbl
    go_wp2_with fail
    with_reducible refine cX.out.mono ?_
    rintro e w3 ⟨⟨s,ψ,A',n',c',ev,who,bb,rfl,hX,hWn,hE,hnc,hcm⟩,g3⟩
    obtain⟨nowN,⟨A1N,n1N,c1N⟩,⟨A2N,n2N,c2N⟩,⟨A3N,n3N,c3N⟩,⟨A4N,n4N,c4N⟩,stopN⟩:=s
    have hnow0:ω.now<=4611686018422387904:=by
     have h1:=HN.out
     have h2:(k:Int)<1500:=by omega
     have h3:(k:Int)*5000000<=1500*5000000:=by omega
     omega
    obtain⟨fψ,rfl,hpr,hnow,hst,F,-⟩:=NextM.rnd HF.out hX hvb hnow0
    have hHK:=NextM.hands HF.out hX hvb hnow0
    have HPF:=hid fψ
    have HFO:=hid HF.out
    have HHK:=hid hHK
    have HPN:=hid (show ψ.now<=((k+1:Nat):Int)*5000000 from by have:=HN.out;omega)
    have hWis:=hWn.is
    have hm4:4=n3N:=fψ.m4.symm.trans hWis.m.len
    subst hm4
    have hm4r:4=n3r:=HF.out.m4.symm.trans HW.out.is.m.len
    subst hm4r
    have HCL:=hid (show ω.cl.length=n2r from HW.out.is.c.len)
    have KB:=hid ((HK.out.gr g3).al (.cells #[.int .i64 nowN,.slice A1N n1N c1N,.slice A2N n2N c2N,.slice A3N 4 c3N,.slice A4N n4N c4N,.int .i64 stopN] 29))
    have NB:=hid (Blk.new w3 #[.int .i64 nowN,.slice A1N n1N c1N,.slice A2N n2N c2N,.slice A3N 4 c3N,.slice A4N n4N c4N,.int .i64 stopN] 29)
    have GV:=hid ((HG.out.trans g3).al (.cells #[.int .i64 nowN,.slice A1N n1N c1N,.slice A2N n2N c2N,.slice A3N 4 c3N,.slice A4N n4N c4N,.int .i64 stopN] 29))
    have WN:=hid (hWn.gr ((Gr.refl w3).al (.cells #[.int .i64 nowN,.slice A1N n1N c1N,.slice A2N n2N c2N,.slice A3N 4 c3N,.slice A4N n4N c4N,.int .i64 stopN] 29)))
    have WR:=hid ((HW.out.gr g3).gr ((Gr.refl w3).al (.cells #[.int .i64 nowN,.slice A1N n1N c1N,.slice A2N n2N c2N,.slice A3N 4 c3N,.slice A4N n4N c4N,.int .i64 stopN] 29)))
    have HEE:=hid (hE.gr ((Gr.refl w3).al (.cells #[.int .i64 nowN,.slice A1N n1N c1N,.slice A2N n2N c2N,.slice A3N 4 c3N,.slice A4N n4N c4N,.int .i64 stopN] 29)))
    have hKB:K<wr.heap.size:=ltk
    clear hWn hE hWis hX HN HF HW HK HG g3 cX fψ hpr hnow hnow0 ltk hst hHK
    go_upto_region 8 with fail
    clear k0 kz0 k1 kz1 k2 kz2 k3 kz3 k4 kz4 k5 kz5
    generalize w3.alloc (.cells #[.int .i64 nowN,.slice A1N n1N c1N,.slice A2N n2N c2N,.slice A3N 4 c3N,.slice A4N n4N c4N,.int .i64 stopN] 29)=V at KB NB GV WN WR HEE ⊢
    generalize w3.heap.size=gN at NB ⊢
    generalize wr.heap.size=Bd at WN HEE hKB
    have kb:=KB.out
    have nb:=NB.out
    have ltk:=kb.lt
    have ltn:=nb.lt
    have k3:=(kb.at_ (k:=3) (v:=.slice A3r 4 c3r) rfl).1
    have q3:=(nb.at_ (k:=3) (v:=.slice A3N 4 c3N) rfl).1
    clear kb nb
    go_upto_region 11 with fail
    clear ltk ltn k3 q3
    go_loopw [68] (λ i wr=>∃ j:Nat,j<=4/\i=.int .i64 (j:Int)/\Hid (Gr V wr)) (λ i _=>4-(intOf i).toNat)
    case atStart=>exact⟨0,by decide,rfl,hid (Gr.refl _)⟩
    case round =>
     obtain⟨j,hj,rfl,HV⟩:=hrel
     have kb:=KB.out.gr HV.out
     have nb:=NB.out.gr HV.out
     have ltk:=kb.lt
     have ltn:=nb.lt
     by_cases hj4:j<4
     . have j0:(0:Int)<=(j:Int):=by omega
       have j1:(j:Int)<4:=by omega
       obtain⟨bm,om,xm,hA3,hbm,hxm,-,e0,-,-⟩:=T3Mem.cells (k:=j) ((WR.out.gr HV.out).is).m hj4
       obtain⟨bn,on,ym,hB3,hbn,hym,-,f0,-,-⟩:=T3Mem.cells (k:=j) ((WN.out.gr HV.out).is).m hj4
       dsimp only at hA3 hB3
       subst hA3 hB3
       obtain⟨a,b,c,q,a',b',c',q',hx1,hq1,hy1,hq2,hin,hz,he⟩:=hand_at HHK.out HFO.out HPF.out hj4 hxm hym
       rw [hx1] at e0
       rw [hy1] at f0
       have cU:=λ W=>hid (P3.Unpack_ok a b c q hq1 W)
       have cV:=λ W=>hid (P3.Unpack_ok a' b' c' q' hq2 W)
       generalize P3.pw a b c q=wd0 at cU e0
       generalize P3.pw a' b' c' q'=wd1 at cV f0
       have k3:=(kb.at_ (k:=3) (v:=.slice (some ⟨bm,om,none⟩) 4 c3r) rfl).1
       have HIN:=hid hin
       have HZ:=hid hz
       have HEV:=hid he
       clear hxm hym hx1 hy1 hq1 hq2 hin hz he
       go_wp2_with fail
       with_reducible refine (cU _).out.mono ?_
       rintro e w8 ⟨rfl,g8⟩
       have nb8:=nb.gr g8
       have q3:=(nb8.at_ (k:=3) (v:=.slice (some ⟨bn,on,none⟩) 4 c3N) rfl).1
       have ltn8:=nb8.lt
       have f0:=(g8.cell (p:=⟨bn,on+j*3,none⟩) hbn).trans f0
       have hbn8:=Nat.lt_of_lt_of_le hbn g8.size
       have BF1:=Blk.new w8 #[.bool a,.bool b,.bool c,.int .i64 q] 42
       have G8:=(HV.out.trans g8).al (.cells #[.bool a,.bool b,.bool c,.int .i64 q] 42)
       clear g8 k3 e0 hbm ltk kb nb ltn
       go_wp2_with fail
       with_reducible refine (cV _).out.mono ?_
       rintro e w9 ⟨rfl,g9⟩
       have B1:=hid ((BF1.gr g9).al (.cells #[.bool a',.bool b',.bool c',.int .i64 q'] 42))
       have B2:=hid (Blk.new w9 #[.bool a',.bool b',.bool c',.int .i64 q'] 42)
       have G9:=hid ((G8.trans g9).al (.cells #[.bool a',.bool b',.bool c',.int .i64 q'] 42))
       clear g9 BF1 G8 cU cV nb8 q3 ltn8 f0 hbn8 hbn
       go_upto_region 15 with fail
       generalize w9.alloc (.cells #[.bool a',.bool b',.bool c',.int .i64 q'] 42)=V9 at B1 B2 G9 ⊢
       generalize w9.heap.size=f2 at B2 ⊢
       generalize w8.heap.size=f1 at B1 ⊢
       have kb:=KB.out.gr G9.out
       have ltk:=kb.lt
       have k2:=(kb.at_ (k:=2) (v:=.slice A2r n2r c2r) rfl).1
       have b1:=B1.out
       have b2:=B2.out
       have lt1:=b1.lt
       have lt2:=b2.lt
       obtain⟨x0,x1,x2,x3⟩:V9.cell? ⟨f1,0,none⟩=some (.bool a)/\V9.cell? ⟨f1,1,none⟩=some (.bool b)/\V9.cell? ⟨f1,2,none⟩=some (.bool c)/\V9.cell? ⟨f1,3,none⟩=some (.int .i64 q):=⟨(b1.at_ (k:=0) rfl).1,(b1.at_ (k:=1) rfl).1,(b1.at_ (k:=2) rfl).1,(b1.at_ (k:=3) rfl).1⟩
       obtain⟨y0,y1,y2,y3⟩:V9.cell? ⟨f2,0,none⟩=some (.bool a')/\V9.cell? ⟨f2,1,none⟩=some (.bool b')/\V9.cell? ⟨f2,2,none⟩=some (.bool c')/\V9.cell? ⟨f2,3,none⟩=some (.int .i64 q'):=⟨(b2.at_ (k:=0) rfl).1,(b2.at_ (k:=1) rfl).1,(b2.at_ (k:=2) rfl).1,(b2.at_ (k:=3) rfl).1⟩
       clear kb b1 b2
       go_cut [112] (λ t wx=>t=.bool false/\wx=V9)
       case first =>
        as_aux_lemma =>
         obtain⟨dd,hdd⟩:=yn (a=a'/\b=b'/\c=c'/\q=q')
         have hne:=λ W=>run_flags_neq a b c q a' b' c' q' hdd W
         cases dd with
         | true =>
          clear hdd
          go_wp2_with fail
          go_meet
          exact⟨rfl,rfl⟩
         | false =>
          obtain⟨hw0,hw1⟩:=HIN.out.resolve_left (λ h=>by have:=hdd.2 h;simp at this)
          rw [HCL.out] at hw1
          have hw2:¬ who<0:=by omega
          have hw3:¬ (n2r:Int)<=who:=by omega
          clear hdd hw0 hw1
          go_wp2_with fail
          go_meet
          exact⟨rfl,rfl⟩
       obtain⟨rfl,hwx⟩:=hcut
       obtain rfl:V9=wc:=hwx.symm
       clear hwx
       go_upto_region 17 with fail
       go_cut [156] (λ t wx=>t=.bool false/\wx=V9)
       case first =>
        as_aux_lemma =>
         rcases HZ.out with rfl | ⟨i,z,rfl,hz,hcc⟩
         . cases c<;>(go_wp2_with fail;go_meet;exact⟨rfl,rfl⟩)
         . have hc0:CMem V9 A2r n2r ω.cl:=((WR.out.gr G9.out).is).c
           have hi:i<n2r:=by have h1:=hc0.len;have h2:=(List.getElem?_eq_some_iff.1 hz).1;omega
           have hi0:(0:Int)<=(i:Int):=by omega
           have hi1:(i:Int)<(n2r:Int):=by omega
           obtain⟨bc,oc,z',hA2,hbc,hz',-,z0,z1,z2,z3,z4,z5,z6,z7,z8,z9,-⟩:=CMem.cells hc0 hi
           rw [hz] at hz'
           cases hz'
           rw [hA2] at k2
           clear hc0 hz hi hA2
           rcases hcc with ⟨rfl,rfl,hpc,hst⟩ | ⟨rfl,rfl,hpc⟩
           . rw [hpc] at z3
             rw [hst] at z9
             go_wp2_with fail
             go_meet
             exact⟨rfl,rfl⟩
           . rw [hpc] at z3
             go_wp2_with fail
             go_meet
             exact⟨rfl,rfl⟩
       obtain⟨rfl,hwx⟩:=hcut
       obtain rfl:V9=wc:=hwx.symm
       clear hwx
       rcases HHK.out.few with rfl | ⟨ea,ee,en,rfl⟩
       . as_aux_lemma =>
          obtain rfl:n'=0:=(HEE.out.is).len.symm
          go_upto_region 20 with fail
          clear k2 ltk lt1 lt2 x0 x1 x2 x3 y0 y1 y2 y3
          go_loopw [159] (λ i wr=>i=.int .i64 0/\Hid (Gr V9 wr)) (λ i _=>1-(intOf i).toNat)
          case atStart=>exact⟨rfl,hid (Gr.refl _)⟩
          case round =>
           obtain⟨rfl,GE⟩:=hrel
           go_wp2_with fail
           go_roundw
           case rel=>exact⟨j+1,by omega,by go_num,hid (G9.out.trans GE.out)⟩
           case measure=>simp [intOf];omega
       . as_aux_lemma =>
          obtain rfl:n'=1:=(HEE.out.is).len.symm
          obtain⟨be,oe,y,hAe,hbe,hy,-,e0,e1,e2⟩:=T3Mem.cells (k:=0) ((HEE.out.gr G9.out).is) (by decide)
          cases hy
          subst hAe
          simp only [Nat.zero_mul,Nat.add_zero] at e0 e1 e2
          have HE2:=hid (HEV.out ea ee en rfl)
          clear x0 x1 x3 y0 y1 y2 y3 lt2
          go_upto_region 20 with fail
          go_loopw [159] (λ i wr=>(i=.int .i64 0/\wr=V9)\/(i=.int .i64 1/\Hid (Gr V9 wr))) (λ i _=>1-(intOf i).toNat)
          case atStart=>exact .inl ⟨rfl,rfl⟩
          case round =>
           rcases hrel with ⟨rfl,hVw⟩ | ⟨rfl,GE⟩
           . subst hVw
             have GX:=hid ((Gr.refl wr).al (.cells #[.int .i64 ea,.int .i64 ee,.int .i64 en] 40))
             obtain⟨BB,hBB⟩:∃ BB,(en==(j:Int))=BB:=⟨_,rfl⟩
             have hb:=hBB
             clear hBB
             cases BB with
             | false =>
              clear HE2 x2 k2
              go_wp2_with fail
              go_roundw
              case rel=>exact .inr ⟨by go_num,GX⟩
              case measure=>simp [intOf]
             | true =>
              have hen:=eq_of_beq hb
              cases c with
              | false =>
               clear HE2 k2 hen
               go_wp2_with fail
               go_roundw
               case rel=>exact .inr ⟨by go_num,GX⟩
               case measure=>simp [intOf]
              | true =>
               rcases HE2.out with hq | hq | ⟨hq1,hq0⟩ | ⟨rfl,i,z,rfl,hz,hpc⟩
               . exact absurd hen hq
               . cases hq
               . have hq1':(ee==1)=false:=by simpa using hq1
                 have hq0':(ee==0)=false:=by simpa using hq0
                 clear hq1 hq0 HE2 k2 hen
                 go_wp2_with fail
                 go_roundw
                 case rel=>exact .inr ⟨by go_num,GX⟩
                 case measure=>simp [intOf]
               . have hc0:CMem wr A2r n2r ω.cl:=((WR.out.gr G9.out).is).c
                 have hi:i<n2r:=by have h1:=hc0.len;have h2:=(List.getElem?_eq_some_iff.1 hz).1;omega
                 have hi0:(0:Int)<=(i:Int):=by omega
                 have hi1:(i:Int)<(n2r:Int):=by omega
                 obtain⟨bc,oc,z',hA2,hbc,hz',-,z0,z1,z2,z3,-⟩:=CMem.cells hc0 hi
                 rw [hz] at hz'
                 cases hz'
                 rw [hA2] at k2
                 rw [hpc] at z3
                 clear hc0 hz hi hA2 z0 z1 z2 HE2 hen
                 go_wp2_with fail
                 go_roundw
                 case rel=>exact .inr ⟨by go_num,GX⟩
                 case measure=>simp [intOf]
           . clear e0 e1 e2 hbe k2 ltk lt1 x2 HE2
             go_wp2_with fail
             go_roundw
             case rel=>exact⟨j+1,by omega,by go_num,hid (G9.out.trans GE.out)⟩
             case measure=>simp [intOf];omega
     . obtain rfl:j=4:=by omega
       have BF:=hid (put6_blk kb rfl (.int .i64 nowN) (.slice A1N n1N c1N) (.slice A2N n2N c2N) (.slice A3N 4 c3N) (.slice A4N n4N c4N) (.int .i64 stopN))
       have GF:=hid (put6_gr (x0:=.int .i64 nowN) (x1:=.slice A1N n1N c1N) (x2:=.slice A2N n2N c2N) (x3:=.slice A3N 4 c3N) (x4:=.slice A4N n4N c4N) (x5:=.int .i64 stopN) (b:=K) (GV.out.trans HV.out) hKw)
       have WF:=hid (WAt.new (S:=λ k=>k=K) ((WN.out.gr HV.out).to (FromB.put6 (b:=K) hKB (.int .i64 nowN) (.slice A1N n1N c1N) (.slice A2N n2N c2N) (.slice A3N 4 c3N) (.slice A4N n4N c4N) (.int .i64 stopN))) (λ k hk=>by omega))
       obtain⟨p0,pz0⟩:=kb.at_ (k:=0) (v:=.int .i64 nowr) rfl
       obtain⟨p1,pz1⟩:=kb.at_ (k:=1) (v:=.slice A1r n1r c1r) rfl
       obtain⟨p2,pz2⟩:=kb.at_ (k:=2) (v:=.slice A2r n2r c2r) rfl
       obtain⟨p3,pz3⟩:=kb.at_ (k:=3) (v:=.slice A3r 4 c3r) rfl
       obtain⟨p4,pz4⟩:=kb.at_ (k:=4) (v:=.slice A4r n4r c4r) rfl
       obtain⟨p5,pz5⟩:=kb.at_ (k:=5) (v:=.int .i64 stopr) rfl
       obtain⟨q0,qz0⟩:=nb.at_ (k:=0) (v:=.int .i64 nowN) rfl
       obtain⟨q1,qz1⟩:=nb.at_ (k:=1) (v:=.slice A1N n1N c1N) rfl
       obtain⟨q2,qz2⟩:=nb.at_ (k:=2) (v:=.slice A2N n2N c2N) rfl
       obtain⟨q3,qz3⟩:=nb.at_ (k:=3) (v:=.slice A3N 4 c3N) rfl
       obtain⟨q4,qz4⟩:=nb.at_ (k:=4) (v:=.slice A4N n4N c4N) rfl
       obtain⟨q5,qz5⟩:=nb.at_ (k:=5) (v:=.int .i64 stopN) rfl
       clear kb nb HV
       go_wp2_with fail
       go_roundw
       case rel=>exact⟨k+1,ψ,⟨nowN,⟨A1N,n1N,c1N⟩,⟨A2N,n2N,c2N⟩,⟨A3N,4,c3N⟩,⟨A4N,n4N,c4N⟩,stopN⟩,by omega,by go_num,HPF,HPN,BF,WF,GF⟩
       case measure=>simp [intOf];omega
  . obtain rfl:k=N:=by omega
    have cA:=hid (alive_is (w:=wr) hM (hg.gr HG.out))
    go_wp2_with fail
    with_reducible refine cA.out.mono ?_
    rintro e w9 ⟨rfl,g9⟩
    go_wp2_with fail
    go_ret
    exact⟨rfl,HG.out.trans g9⟩
end
end P16
end
section
open Go.ChangeShapes Go.WideShapes Go.ChangeAt Go.RowKit
namespace P16
open P12 (PV PMem)
def ORow {α:Type} (en:α->List Value) (q:Nat) (W:World) (b o:Nat) (l:List α):Prop :=
 ∃ vs t,Blk W b vs t/\∀ i x,l[i]?=some x->∀ j v,(en x)[j]?=some v->vs[o+i*q+j]?=some v
section
variable {α:Type} {en:α->List Value} {q:Nat} {W W':World} {b o i j:Nat} {l:List α} {x y:α} {v:Value}
theorem ORow.lt (h:ORow en q W b o l):b<W.heap.size:=by obtain⟨_,_,h,_⟩:=h;exact h.lt
theorem ORow.kept (h:ORow en q W b o l) (e:W'.heap[b]?=W.heap[b]?):ORow en q W' b o l:=by
 obtain⟨vs,t,h,k⟩:=h
 exact⟨vs,t,by unfold Blk at *;rw [e];exact h,k⟩
theorem ORow.gr (h:ORow en q W b o l) (g:Gr W W'):ORow en q W' b o l:=h.kept (g.block b h.lt)
theorem ORow.st (h:ORow en q W b o l) {p:Addr} (hp:p.block≠b) (v:Value):ORow en q (W.setCell p v) b o l :=
 h.kept (Below.heap_setCell W p v b (λ e=>hp e.symm))
theorem ORow.at_ (h:ORow en q W b o l) (hi:l[i]?=some x) (hj:(en x)[j]?=some v):W.cell? ⟨b,o+i*q+j,none⟩=some v/\W.frozen? ⟨b,o+i*q+j,none⟩=false:=by
 obtain⟨vs,t,h,k⟩:=h
 exact h.at_ (k i x hi j v hj)
theorem ORow.put (h:ORow en q W b o l) (hq:∀ x,(en x).length=q) (hi:l[i]?=some x) (hj:j<q) (hy:en y=(en x).set j v):ORow en q (W.setCell ⟨b,o+i*q+j,none⟩ v) b o (l.set i y):=by
 obtain⟨vs,t,h,k⟩:=h
 have hlt:=(List.getElem?_eq_some_iff.1 hi).1
 have hsz:o+i*q+j<vs.size:=by
  have hjx:j<(en x).length:=by rw [hq];exact hj
  have:=k i x hi j _ (List.getElem?_eq_getElem hjx)
  exact (Array.getElem?_eq_some_iff.1 this).1
 refine⟨_,t,h.set _ v,λ i' x' hi' j' v' hj'=>?_⟩
 have hjl':j'<q:=by rw [<- hq x'];exact (List.getElem?_eq_some_iff.1 hj').1
 rw [Array.getElem?_setIfInBounds]
 by_cases hii:i'=i
 . subst hii
   rw [List.getElem?_set_self hlt] at hi'
   cases hi'
   rw [hy,List.getElem?_set] at hj'
   by_cases hjj:j'=j
   . subst hjj
     rw [if_pos rfl,if_pos (by rw [hq];exact hj)] at hj'
     rw [if_pos rfl,if_pos hsz]
     exact hj'
   . rw [if_neg (Ne.symm hjj)] at hj'
     rw [if_neg (by omega)]
     exact k _ x hi _ _ hj'
 . rw [List.getElem?_set_ne (Ne.symm hii)] at hi'
   have hne:o+i*q+j≠o+i'*q+j':=by
    intro e
    have e2:i*q+j=i'*q+j':=by omega
    have a1:(i*q+j) / q=i:=by rw [Nat.mul_comm,Nat.mul_add_div (by omega),Nat.div_eq_of_lt hj];omega
    have a2:(i'*q+j') / q=i':=by rw [Nat.mul_comm,Nat.mul_add_div (by omega),Nat.div_eq_of_lt hjl'];omega
    rw [e2,a2] at a1
    exact hii a1
   rw [if_neg hne]
   exact k _ x' hi' _ _ hj'
end
theorem clV_len (c:Cl):(clV c).length=13:=rfl
theorem t3V_len (x:T3):(t3V x).length=3:=rfl
structure Cx where
 B:Nat
 b:Nat
 bc:Nat
 oc:Nat
 bm:Nat
 om:Nat
 now:Int
 who:Int
 k:Int
 n:Int
 p:Sl
 nc:Nat
 cc:Nat
 cm:Nat
 progs:List (List Ac)
 st:Int
def Cx.i (x:Cx):Nat:=x.who.toNat
def Cx.m (x:Cx):Nat:=x.n.toNat
structure Kx (x:Cx) (W W':World):Prop where
 os:W'.os=W.os
 tape:W'.tape=W.tape
 output:W'.output=W.output
 size:W.heap.size<=W'.heap.size
 block:∀ k,k<W.heap.size->k≠x.b->k≠x.bc->k≠x.bm->W'.heap[k]?=W.heap[k]?
def Kb (x:Cx) (W W':World):Prop:=W.heap.size<=W'.heap.size/\∀ k,x.B<=k->k<W.heap.size->k≠x.b->k≠x.bc->k≠x.bm->W'.heap[k]?=W.heap[k]?
section
variable {x:Cx} {W W' W'':World}
theorem Kx.trans (h:Kx x W W') (g:Kx x W' W''):Kx x W W'' :=
 ⟨g.os.trans h.os,g.tape.trans h.tape,g.output.trans h.output,Nat.le_trans h.size g.size,λ k hk h1 h2 h3=>(g.block k (Nat.lt_of_lt_of_le hk h.size) h1 h2 h3).trans (h.block k hk h1 h2 h3)⟩
theorem Kx.gr (g:Gr W W'):Kx x W W':=⟨g.os,g.tape,g.output,g.size,λ k hk _ _ _=>g.block k hk⟩
theorem Kx.st {p:Addr} (hp:p.block=x.b\/p.block=x.bc\/p.block=x.bm) (v:Value):Kx x W (W.setCell p v) :=
 ⟨rfl,rfl,rfl,by simp [World.setCell],λ k hk h1 h2 h3=>Below.heap_setCell W p v k (by rcases hp with e | e | e<;>rw [e]<;>assumption)⟩
theorem Kx.kb (h:Kx x W W'):Kb x W W':=⟨h.size,λ k _=>h.block k⟩
theorem Kb.trans (h:Kb x W W') (g:Kb x W' W''):Kb x W W'' :=
 ⟨Nat.le_trans h.1 g.1,λ k hb hk h1 h2 h3=>(g.2 k hb (Nat.lt_of_lt_of_le hk h.1) h1 h2 h3).trans (h.2 k hb hk h1 h2 h3)⟩
theorem FromB.kb (h:FromB x.B W W'):Kb x W W':=⟨h.1,λ k hb hk _ _ _=>h.2 k hb hk⟩
theorem Kx.old {V:World} (g:Gr V W) (h:Kx x W W') (h1:V.heap.size<=x.b) (h2:V.heap.size<=x.bc) (h3:V.heap.size<=x.bm):Gr V W' :=
 ⟨h.os.trans g.os,h.tape.trans g.tape,h.output.trans g.output,Nat.le_trans g.size h.size,λ k hk=>(h.block k (Nat.lt_of_lt_of_le hk g.size) (by omega) (by omega) (by omega)).trans (g.block k hk)⟩
end
abbrev Cx.cells (x:Cx) (T E:Sl):Array Value :=
 #[.int .i64 x.now,.slice x.p.A x.p.n x.p.c,.slice (some ⟨x.bc,x.oc,none⟩) x.nc x.cc,.slice (some ⟨x.bm,x.om,none⟩) 4 x.cm,.slice T.A T.n T.c,.int .i64 x.st,.int .i64 x.who,.pointer (some ⟨x.bc,x.oc+x.who.toNat*13,none⟩),.int .i64 x.k,.int .i64 x.n,.slice E.A E.n E.c]
structure TS (x:Cx) (W:World) (T E:Sl) (cl:List Cl) (mx:List T3) (tb:List Sp) (ev:List T3):Prop where
 lb:x.B<=x.b
 lc:x.B<=x.bc
 lm:x.B<=x.bm
 n1:x.b≠x.bc
 n2:x.b≠x.bm
 n3:x.bc≠x.bm
 t:Blk W x.b (x.cells T E) 99
 c:ORow clV 13 W x.bc x.oc cl
 m:ORow t3V 3 W x.bm x.om mx
 cb:∀ c∈cl,CB c
 mb:∀ c∈mx,TB3 c
 lenc:cl.length=x.nc
 lenm:mx.length=4
 pr:∀ W',Kb x W W'->∃ R,PMem W' x.p.A x.p.n R/\P12.pl R=x.progs
 tb:∀ W',Kb x W W'->∃ S,SMem W' T.A T.n S/\S.map SV.pl=tb
 ev:∀ W',Kb x W W'->T3Mem W' E.A E.n ev
 op:x.p.ok
 ot:T.ok
 oe:E.ok
 oc:x.nc<=x.cc/\x.cc<=9223372036854775807
 om:4<=x.cm/\x.cm<=9223372036854775807
 w0:0<=x.who
 w1:x.who<x.nc
 wi:B64 x.who
 ni:B64 x.n
 kt:B64 x.now
section
variable {x:Cx} {W W':World} {T E:Sl} {cl:List Cl} {mx:List T3} {tb:List Sp} {ev:List T3} {c d:Cl} {a:T3} {j:Nat} {v:Value}
theorem TS.gr (h:TS x W T E cl mx tb ev) (g:Gr W W'):TS x W' T E cl mx tb ev :=
 { h with t:=h.t.gr g,c:=h.c.gr g,m:=h.m.gr g,pr:=λ _ k=>h.pr _ ((Kx.gr g).kb.trans k),tb:=λ _ k=>h.tb _ ((Kx.gr g).kb.trans k),ev:=λ _ k=>h.ev _ ((Kx.gr g).kb.trans k) }
theorem TS.putC (h:TS x W T E cl mx tb ev) {i:Nat} (hc:cl[i]?=some c) (j:Nat) (v:Value) (d:Cl) (hd:clV d=(clV c).set j v) (hj:j<13) (hb:CB d):TS x (W.setCell ⟨x.bc,x.oc+i*13+j,none⟩ v) T E (cl.set i d) mx tb ev :=
 have k:Kx x W (W.setCell ⟨x.bc,x.oc+i*13+j,none⟩ v):=Kx.st (.inr (.inl rfl)) v
 { h with t:=h.t.st (p:=⟨x.bc,x.oc+i*13+j,none⟩) h.n1.symm v,c:=h.c.put clV_len hc hj hd,m:=h.m.st (p:=⟨x.bc,x.oc+i*13+j,none⟩) h.n3 v,cb:=(λ c hc=>(List.mem_or_eq_of_mem_set hc).elim (h.cb _) (λ e=>e▸hb)),lenc:=(List.length_set ..).trans h.lenc,pr:=λ _ q=>h.pr _ (k.kb.trans q),tb:=λ _ q=>h.tb _ (k.kb.trans q),ev:=λ _ q=>h.ev _ (k.kb.trans q) }
theorem TS.putC2 {i:Nat} {c0:Cl} (hc:cl[i]?=some c0) (h:TS x W T E (cl.set i c) mx tb ev) (j:Nat) (v:Value) (d:Cl) (hd:clV d=(clV c).set j v) (hj:j<13) (hb:CB d):TS x (W.setCell ⟨x.bc,x.oc+i*13+j,none⟩ v) T E (cl.set i d) mx tb ev:=by
 have q:=h.putC (c:=c) (by rw [List.getElem?_set_self (List.getElem?_eq_some_iff.1 hc).1]) j v d hd hj hb
 rwa [List.set_set] at q
theorem TS.putM (h:TS x W T E cl mx tb ev) {i:Nat} {a:T3} (ha:mx[i]?=some a) (j:Nat) (v:Value) (d:T3) (hd:t3V d=(t3V a).set j v) (hj:j<3) (hb:TB3 d):TS x (W.setCell ⟨x.bm,x.om+i*3+j,none⟩ v) T E cl (mx.set i d) tb ev :=
 have k:Kx x W (W.setCell ⟨x.bm,x.om+i*3+j,none⟩ v):=Kx.st (.inr (.inr rfl)) v
 { h with t:=h.t.st (p:=⟨x.bm,x.om+i*3+j,none⟩) h.n2.symm v,m:=h.m.put t3V_len ha hj hd,c:=h.c.st (p:=⟨x.bm,x.om+i*3+j,none⟩) h.n3.symm v,mb:=(λ c hc=>(List.mem_or_eq_of_mem_set hc).elim (h.mb _) (λ e=>e▸hb)),lenm:=(List.length_set ..).trans h.lenm,pr:=λ _ q=>h.pr _ (k.kb.trans q),tb:=λ _ q=>h.tb _ (k.kb.trans q),ev:=λ _ q=>h.ev _ (k.kb.trans q) }
theorem TS.putT (h:TS x W T E cl mx tb ev) {U:Sl} {ub:List Sp} (hu:∀ W',Kb x W W'->∃ S,SMem W' U.A U.n S/\S.map SV.pl=ub) (ok:U.ok):TS x (W.setCell ⟨x.b,4,none⟩ (.slice U.A U.n U.c)) U E cl mx ub ev :=
 have k:Kx x W (W.setCell ⟨x.b,4,none⟩ (.slice U.A U.n U.c)):=Kx.st (.inl rfl) _
 { h with t:=h.t.set 4 _,c:=h.c.st (p:=⟨x.b,4,none⟩) h.n1 _,m:=h.m.st (p:=⟨x.b,4,none⟩) h.n2 _,pr:=λ _ q=>h.pr _ (k.kb.trans q),tb:=λ _ q=>hu _ (k.kb.trans q),ev:=λ _ q=>h.ev _ (k.kb.trans q),ot:=ok }
theorem TS.putE (h:TS x W T E cl mx tb ev) {U:Sl} {l:List T3} (hu:∀ W',Kb x W W'->T3Mem W' U.A U.n l) (ok:U.ok):TS x (W.setCell ⟨x.b,10,none⟩ (.slice U.A U.n U.c)) T U cl mx tb l :=
 have k:Kx x W (W.setCell ⟨x.b,10,none⟩ (.slice U.A U.n U.c)):=Kx.st (.inl rfl) _
 { h with t:=h.t.set 10 _,c:=h.c.st (p:=⟨x.b,10,none⟩) h.n1 _,m:=h.m.st (p:=⟨x.b,10,none⟩) h.n2 _,pr:=λ _ q=>h.pr _ (k.kb.trans q),tb:=λ _ q=>h.tb _ (k.kb.trans q),ev:=λ _ q=>hu _ (k.kb.trans q),oe:=ok }
theorem TS.cells (h:TS x W T E cl mx tb ev) :
 (W.cell? ⟨x.b,0,none⟩=some (.int .i64 x.now))/\(W.cell? ⟨x.b,1,none⟩=some (.slice x.p.A x.p.n x.p.c))/\(W.cell? ⟨x.b,2,none⟩=some (.slice (some ⟨x.bc,x.oc,none⟩) x.nc x.cc)) /\
 (W.cell? ⟨x.b,3,none⟩=some (.slice (some ⟨x.bm,x.om,none⟩) 4 x.cm))/\(W.cell? ⟨x.b,4,none⟩=some (.slice T.A T.n T.c))/\(W.cell? ⟨x.b,5,none⟩=some (.int .i64 x.st)) /\
 (W.cell? ⟨x.b,6,none⟩=some (.int .i64 x.who))/\(W.cell? ⟨x.b,7,none⟩=some (.pointer (some ⟨x.bc,x.oc+x.who.toNat*13,none⟩)))/\(W.cell? ⟨x.b,8,none⟩=some (.int .i64 x.k)) /\
 (W.cell? ⟨x.b,9,none⟩=some (.int .i64 x.n))/\(W.cell? ⟨x.b,10,none⟩=some (.slice E.A E.n E.c))/\(∀ j,j<=10->W.frozen? ⟨x.b,j,none⟩=false):=by
 refine⟨(h.t.at_ rfl).1,(h.t.at_ rfl).1,(h.t.at_ rfl).1,(h.t.at_ rfl).1,(h.t.at_ rfl).1,(h.t.at_ rfl).1,(h.t.at_ rfl).1,(h.t.at_ rfl).1,(h.t.at_ rfl).1,(h.t.at_ rfl).1,(h.t.at_ rfl).1,λ j hj=>?_⟩
 have:j<(x.cells T E).size:=by show j<11;omega
 exact (h.t.at_ (Array.getElem?_eq_getElem this)).2
theorem TS.cl_ (h:TS x W T E cl mx tb ev) {i:Nat} (hc:cl[i]?=some c) :
 (W.cell? ⟨x.bc,x.oc+i*13,none⟩=some (.int .i64 c.gst))/\(W.cell? ⟨x.bc,x.oc+i*13+1,none⟩=some (.bool c.permit))/\(W.cell? ⟨x.bc,x.oc+i*13+2,none⟩=some (.int .i64 c.act)) /\
 (W.cell? ⟨x.bc,x.oc+i*13+3,none⟩=some (.int .i64 c.pc))/\(W.cell? ⟨x.bc,x.oc+i*13+4,none⟩=some (.int .i64 c.worked))/\(W.cell? ⟨x.bc,x.oc+i*13+5,none⟩=some (.int .i64 c.ticket)) /\
 (W.cell? ⟨x.bc,x.oc+i*13+6,none⟩=some (.bool c.first))/\(W.cell? ⟨x.bc,x.oc+i*13+7,none⟩=some (.bool c.told))/\(W.cell? ⟨x.bc,x.oc+i*13+8,none⟩=some (.int .i64 c.since)) /\
 (W.cell? ⟨x.bc,x.oc+i*13+9,none⟩=some (.bool c.st))/\(W.cell? ⟨x.bc,x.oc+i*13+10,none⟩=some (.bool c.aw))/\(W.cell? ⟨x.bc,x.oc+i*13+11,none⟩=some (.int .i64 c.rounds)) /\
 (W.cell? ⟨x.bc,x.oc+i*13+12,none⟩=some (.int .i64 c.old))/\(∀ j,j<13->W.frozen? ⟨x.bc,x.oc+i*13+j,none⟩=false):=by
 refine⟨(h.c.at_ (j:=0) hc rfl).1,(h.c.at_ (j:=1) hc rfl).1,(h.c.at_ (j:=2) hc rfl).1,(h.c.at_ (j:=3) hc rfl).1,(h.c.at_ (j:=4) hc rfl).1,(h.c.at_ (j:=5) hc rfl).1,(h.c.at_ (j:=6) hc rfl).1,(h.c.at_ (j:=7) hc rfl).1,(h.c.at_ (j:=8) hc rfl).1,(h.c.at_ (j:=9) hc rfl).1,(h.c.at_ (j:=10) hc rfl).1,(h.c.at_ (j:=11) hc rfl).1,(h.c.at_ (j:=12) hc rfl).1,λ j hj=>?_⟩
 have:j<(clV c).length:=by rw [clV_len];exact hj
 exact (h.c.at_ hc (List.getElem?_eq_getElem this)).2
theorem TS.mx_ (h:TS x W T E cl mx tb ev) {i:Nat} (ha:mx[i]?=some a) :
 (W.cell? ⟨x.bm,x.om+i*3,none⟩=some (.int .i64 a.1))/\(W.cell? ⟨x.bm,x.om+i*3+1,none⟩=some (.int .i64 a.2.1))/\(W.cell? ⟨x.bm,x.om+i*3+2,none⟩=some (.int .i64 a.2.2)) /\
 (∀ j,j<3->W.frozen? ⟨x.bm,x.om+i*3+j,none⟩=false):=by
 refine⟨(h.m.at_ (j:=0) ha rfl).1,(h.m.at_ (j:=1) ha rfl).1,(h.m.at_ (j:=2) ha rfl).1,λ j hj=>?_⟩
 have:j<(t3V a).length:=by rw [t3V_len];exact hj
 exact (h.m.at_ ha (List.getElem?_eq_getElem this)).2
end
end P16
end
section
open Go.ChangeShapes Go.WideShapes Go.ChangeAt Go.RowKit Go.Deep
namespace P11
abbrev G:=Int×Bool
def flat:List G->List Value
 | []=>[]
 | x::r=>.int .i64 x.1::.bool x.2::flat r
theorem flat_len (l:List G):(flat l).length=l.length*2:=by
 induction l with
 | nil=>rfl
 | cons x r ih=>simp [flat,ih];omega
theorem flat_get0:∀ (l:List G) (i:Nat) (x:G),l[i]?=some x->(flat l)[i*2]?=some (.int .i64 x.1)
 | [],i,x,h=>by simp at h
 | y::r,0,x,h=>by simp at h;subst h;rfl
 | y::r,i+1,x,h=>by
  rw [show (i+1)*2=i*2+1+1 from by omega]
  simpa [flat] using flat_get0 r i x (by simpa using h)
theorem flat_get1:∀ (l:List G) (i:Nat) (x:G),l[i]?=some x->(flat l)[i*2+1]?=some (.bool x.2)
 | [],i,x,h=>by simp at h
 | y::r,0,x,h=>by simp at h;subst h;rfl
 | y::r,i+1,x,h=>by
  rw [show (i+1)*2+1=i*2+1+1+1 from by omega]
  simpa [flat] using flat_get1 r i x (by simpa using h)
theorem flat_one (l:List G):∀ u∈flat l,u.oneCell'=true:=by
 induction l with
 | nil=>simp [flat]
 | cons x r ih =>
  intro u hu
  simp only [flat,List.mem_cons] at hu
  rcases hu with rfl | rfl | hu
  . rfl
  . rfl
  . exact ih u hu
theorem flat_set1:∀ (l:List G) (i:Nat) (x:G) (v:Int),l[i]?=some x->flat (l.set i (v,x.2))=(flat l).set (i*2) (.int .i64 v)
 | [],i,x,v,h=>by simp at h
 | y::r,0,x,v,h=>by simp at h;subst h;rfl
 | y::r,i+1,x,v,h=>by
  rw [show (i+1)*2=i*2+1+1 from by omega]
  simpa [flat] using flat_set1 r i x v (by simpa using h)
theorem flat_set2:∀ (l:List G) (i:Nat) (x:G) (v:Bool),l[i]?=some x->flat (l.set i (x.1,v))=(flat l).set (i*2+1) (.bool v)
 | [],i,x,v,h=>by simp at h
 | y::r,0,x,v,h=>by simp at h;subst h;rfl
 | y::r,i+1,x,v,h=>by
  rw [show (i+1)*2+1=i*2+1+1+1 from by omega]
  simpa [flat] using flat_set2 r i x v (by simpa using h)
theorem flat_inv:∀ (l:List G) (j:Nat) (u:Value),(flat l)[j]?=some u->∃ i x,l[i]?=some x/\((j=i*2/\u=.int .i64 x.1)\/(j=i*2+1/\u=.bool x.2))
 | [],j,u,h=>by simp [flat] at h
 | x::r,0,u,h=>by simp [flat] at h;exact⟨0,x,rfl,.inl ⟨rfl,h.symm⟩⟩
 | x::r,1,u,h=>by simp [flat] at h;exact⟨0,x,rfl,.inr ⟨rfl,h.symm⟩⟩
 | x::r,j+2,u,h=>by
  obtain⟨i,y,hy,h⟩:=flat_inv r j u (by simpa [flat] using h)
  refine⟨i+1,y,by simpa using hy,?_⟩
  rcases h with ⟨rfl,rfl⟩ | ⟨rfl,rfl⟩
  . exact .inl ⟨by omega,rfl⟩
  . exact .inr ⟨by omega,rfl⟩
def GMem (w:World) (A:Option Addr) (n:Nat) (l:List G):Prop :=
 l.length=n/\(∀ x∈l,B64 x.1)/\(0<n->∃ b off,A=some ⟨b,off,none⟩/\b<w.heap.size/\∀ j u,(flat l)[j]?=some u->w.cell? ⟨b,off+j,none⟩=some u)
def Late (B:Nat) (A:Option Addr):Prop:=∀ k,A.map (·.block)=some k->B<=k
section
variable {w w':World} {A:Option Addr} {n:Nat} {l:List G}
theorem GMem.nil_:GMem w A 0 []:=⟨rfl,by simp,λ h=>absurd h (by omega)⟩
theorem GMem.gr (h:GMem w A n l) (g:Gr w w'):GMem w' A n l :=
 ⟨h.1,h.2.1,λ hn=>by
   obtain⟨b,off,e,hb,hc⟩:=h.2.2 hn
   exact⟨b,off,e,Nat.lt_of_lt_of_le hb g.size,λ j u hu=>(g.cell (p:=⟨b,off+j,none⟩) hb).trans (hc j u hu)⟩⟩
theorem GMem.at_ {k:Nat} (h:GMem w A n l) (hk:k<n) :
 ∃ b off x,A=some ⟨b,off,none⟩/\b<w.heap.size/\l[k]?=some x/\B64 x.1/\w.cell? ⟨b,off+k*2,none⟩=some (.int .i64 x.1)/\w.cell? ⟨b,off+k*2+1,none⟩=some (.bool x.2):=by
 obtain⟨b,off,e,hb,hc⟩:=h.2.2 (by omega)
 have hl:k<l.length:=by have:=h.1;omega
 have hx:l[k]?=some l[k]:=List.getElem?_eq_getElem hl
 exact⟨b,off,l[k],e,hb,hx,h.2.1 l[k] (List.getElem_mem hl),hc _ _ (flat_get0 l k _ hx),hc _ _ (flat_get1 l k _ hx)⟩
theorem GMem.of_blk {g:Nat} {vs:Array Value} {t:TypeId} (h:Blk w g vs t) (hv:vs.toList=flat l) (hb:∀ x∈l,B64 x.1):GMem w (some ⟨g,0,none⟩) l.length l :=
 ⟨rfl,hb,λ _=>⟨g,0,rfl,h.lt,λ j u hu=>by
   rw [Nat.zero_add]
   refine (h.at_ ?_).1
   rw [<- hv] at hu
   simpa using hu⟩⟩
end
theorem infoGor:(Tryz.prog.info? 51).map (λ i=>(i.zero,i.size,i.bytes))=some (some (.agg #[.int .i64 0,.bool false]),2,16):=by kernel_rfl
def okG (x:G):Bool:=decide (0<=x.1)&&decide (x.1<=2)&&(!x.2||x.1==0)
def rightB (l:List G):Bool:=decide (l.length<=8)&&l.all okG
def pkG (x:G):Int×G:=if x.1=0 then (0,(if x.2 then 0 else 1,false)) else (6,x)
def rdG (x:G):Int×G:=if x.1=2 then (6,x) else if x.2 then (7,x) else (0,(0,x.1==0))
def enG (x:G):Int×G:=if x.1=0 then (0,(2,false)) else (6,x)
def outc (p:G->Int×G) (l:List G) (who:Int):Int×List G :=
 if rightB l=false then (1,[]) else if who<0 then (3,[]) else
 match l[who.toNat]? with
 | none=>(3,[])
 | some x=>if (p x).1=0 then (0,l.set who.toNat (p x).2) else ((p x).1,[])
theorem outc_arg {p:G->Int×G} {l:List G} {who:Int} (h:rightB l=false):outc p l who=(1,[]):=by simp [outc,h]
theorem outc_range {p:G->Int×G} {l:List G} {who:Int} (h:rightB l=true) (hw:who<0\/(l.length:Int)<=who):outc p l who=(3,[]):=by
 unfold outc
 rw [if_neg (by simp [h])]
 split
 . rfl
 . rw [List.getElem?_eq_none (by omega)]
theorem outc_at {p:G->Int×G} {l:List G} {k:Nat} {x:G} (h:rightB l=true) (hx:l[k]?=some x) :
 outc p l (k:Int)=if (p x).1=0 then (0,l.set k (p x).2) else ((p x).1,[]):=by
 unfold outc
 rw [if_neg (by simp [h]),if_neg (by omega),Int.toNat_natCast,hx]
end P11
end
section
open Go.ChangeShapes Go.WideShapes Go.ChangeAt Go.RowKit
namespace P11
theorem unfit_ok (x:G) (w:World):Calls Tryz.prog 77 #[.agg #[.int .i64 x.1,.bool x.2]] w λ e w'=>e=.returned (.bool (!okG x))/\Gr w w':=by
 obtain⟨s,p⟩:=x
 by_cases h0:s<0
 . have HO:=hid (show okG (s,p)=false by simp [okG];omega)
   go_enter Tryz.func77,Tryz.ntmps77
   go_wp2_with fail
   go_ret
   rw [HO.out]
   exact⟨rfl,(Gr.refl w).al _⟩
 . by_cases h2:2<s
   . have HO:=hid (show okG (s,p)=false by simp [okG];omega)
     go_enter Tryz.func77,Tryz.ntmps77
     go_wp2_with fail
     go_ret
     rw [HO.out]
     exact⟨rfl,(Gr.refl w).al _⟩
   . cases p
     . have HO:=hid (show okG (s,false)=true by simp [okG];omega)
       go_enter Tryz.func77,Tryz.ntmps77
       go_wp2_with fail
       go_ret
       rw [HO.out]
       exact⟨rfl,(Gr.refl w).al _⟩
     . have hz:(s==0)=okG (s,true):=by simp only [okG];rw [decide_eq_true (by omega),decide_eq_true (by omega)];simp
       have HZ:=hid hz
       obtain⟨B,hB⟩:∃ B,(s==0)=B:=⟨_,rfl⟩
       have hB':(s != 0)=!B:=by simp [bne,hB]
       rw [hB] at HZ
       clear hz
       go_enter Tryz.func77,Tryz.ntmps77
       go_wp2_with fail
       go_ret
       rw [<- HZ.out]
       exact⟨rfl,(Gr.refl w).al _⟩
def badAt:List G->Nat->Int
 | [],_=>-1
 | x::r,k=>if okG x then badAt r (k+1) else k
theorem unfit_is {x:G} {B:Bool} (h:okG x=B) (w:World):Calls Tryz.prog 77 #[.agg #[.int .i64 x.1,.bool x.2]] w λ e w'=>e=.returned (.bool (!B))/\Gr w w':=h▸unfit_ok x w
theorem IndexFunc_ok (A:Option Addr) (n c:Nat) (l:List G) (w:World) (hm:GMem w A n l) (hn:n<=9223372036854775807) :
 Calls Tryz.prog 115 #[.slice A n c,.func (.func 77) #[] #[]] w λ e w'=>e=.returned (.int .i64 (badAt l 0))/\Gr w w':=by
 go_enter Tryz.func115,Tryz.ntmps115
 go_wp2_with fail
 go_loopw [8] (λ i wr=>∃ k:Nat,k<=n/\i=.int .i64 k/\Hid (badAt (l.drop k) k=badAt l 0)/\Gr w wr) (λ i _=>n-(intOf i).toNat)
 case atStart=>exact⟨0,Nat.zero_le _,rfl,hid rfl,Gr.refl _⟩
 case round =>
  obtain⟨k,hk,rfl,HB,hg⟩:=hrel
  by_cases hlt:k<n
  . obtain⟨b,off,x,rfl,hbl,hx,h1,c0,c1⟩:=(hm.gr hg).at_ hlt
    have hd:l.drop k=x::l.drop (k+1):=by
     obtain⟨hl,rfl⟩:=List.getElem?_eq_some_iff.1 hx
     exact List.drop_eq_getElem_cons hl
    cases hf:okG x
    . have hr:badAt l 0=(k:Int):=by rw [<- HB.out,hd];simp [badAt,hf]
      have cc:=λ w=>hid (unfit_is hf w)
      have HR:=hid hr
      clear hr hd hf hx HB hm
      go_wp2_with fail
      refine (cc _).out.mono ?_
      rintro e w1 ⟨rfl,hb1⟩
      go_wp2_with fail
      go_ret
      rw [HR.out]
      exact⟨rfl,hg.trans hb1⟩
    . have hr:Hid (badAt (l.drop (k+1)) (k+1)=badAt l 0):=hid (by rw [<- HB.out,hd];simp [badAt,hf])
      have cc:=λ w=>hid (unfit_is hf w)
      clear hd hf hx HB hm
      go_wp2_with fail
      refine (cc _).out.mono ?_
      rintro e w1 ⟨rfl,hb1⟩
      go_wp2_with fail
      go_roundw
      case rel=>exact⟨k+1,by omega,by go_num,hr,hg.trans hb1⟩
      case measure=>simp [intOf];omega
  . obtain rfl:k=n:=by omega
    have hr:badAt l 0=-1:=by rw [<- HB.out,List.drop_of_length_le (by have:=hm.1;omega)];rfl
    have HR:=hid hr
    clear hr HB hm
    go_wp2_with fail
    go_ret
    rw [HR.out]
    exact⟨rfl,hg⟩
theorem badAt_is (l:List G):∀ k:Nat,decide (0<=badAt l k)=!l.all okG:=by
 induction l with
 | nil=>intro k;rfl
 | cons x r ih =>
  intro k
  unfold badAt
  cases hx:okG x
  . simp [hx]
  . simp [hx,ih]
theorem ret_bool {a b:Bool} (h:a=b):Ending.returned (.bool a)=.returned (.bool b):=by rw [h]
theorem ContainsFunc_ok (A:Option Addr) (n c:Nat) (l:List G) (w:World) (hm:GMem w A n l) (hn:n<=9223372036854775807) :
 Calls Tryz.prog 76 #[.slice A n c,.func (.func 77) #[] #[]] w λ e w'=>e=.returned (.bool (!l.all okG))/\Gr w w':=by
 have cc:=λ w hm=>hid (IndexFunc_ok A n c l w hm hn)
 have HB:=hid (badAt_is l 0)
 generalize badAt l 0=r at *
 go_enter Tryz.func76,Tryz.ntmps76
 go_wp2_with fail
 refine (cc _ hm).out.mono ?_
 rintro e w1 ⟨rfl,hb1⟩
 go_wp2_with fail
 go_ret
 exact⟨ret_bool HB.out,hb1⟩
theorem Right_ok (A:Option Addr) (n c:Nat) (l:List G) (w:World) (hm:GMem w A n l) (hn:n<=9223372036854775807) :
 Calls Tryz.prog 47 #[.slice A n c] w λ e w'=>e=.returned (.bool (rightB l))/\Gr w w':=by
 by_cases h64:n<=8
 . have hr:rightB l=l.all okG:=by simp [rightB,hm.1,h64]
   have cc:=λ w hm=>hid (ContainsFunc_ok A n c l w hm hn)
   have HR:=hid hr
   clear hr
   generalize l.all okG=B at *
   go_enter Tryz.func47,Tryz.ntmps47
   go_wp2_with fail
   refine (cc _ hm).out.mono ?_
   rintro e w1 ⟨rfl,hb1⟩
   go_wp2_with fail
   go_ret
   rw [HR.out]
   exact⟨ret_bool (by simp),hb1⟩
 . have hr:rightB l=false:=by simp [rightB,hm.1,h64]
   have HR:=hid hr
   have h65:decide (n<=8)=false:=by simpa using h64
   clear hr
   go_enter Tryz.func47,Tryz.ntmps47
   go_wp2_with fail
   go_ret
   rw [HR.out]
   exact⟨rfl,Gr.refl _⟩
theorem Right_is {A:Option Addr} {n c:Nat} {l:List G} {r:Bool} (hr:rightB l=r) (hn:n<=9223372036854775807) (w:World) (hm:GMem w A n l) :
 Calls Tryz.prog 47 #[.slice A n c] w λ e w'=>e=.returned (.bool r)/\Gr w w':=hr▸Right_ok A n c l w hm hn
def Chosen (w:World) (cp g k:Nat) (l:List G):Prop :=
 cp≠g/\Blk w cp #[.slice (some ⟨g,0,none⟩) l.length l.length,.pointer (some ⟨g,k*2,none⟩),.int .i64 0] 178/\∃ vs,Blk w g vs 51/\vs.toList=flat l
def chg (p:G->Int×G) (l:List G) (k:Nat) (x:G):List G:=if (p x).1=0 then l.set k (p x).2 else l
theorem chg_no {p:G->Int×G} {l:List G} {k:Nat} {x:G} {e:Int} {y:G} (h:p x=(e,y)) (he:e≠0):chg p l k x=l:=by simp [chg,h,he]
theorem chg_yes {p:G->Int×G} {l:List G} {k:Nat} {x y:G} (h:p x=(0,y)):chg p l k x=l.set k y:=by simp [chg,h]
def ChgIs (F:Nat) (p:G->Int×G):Prop :=
 ∀ (w:World) (base cp g k:Nat) (l:List G) (x:G),Chosen w cp g k l->l[k]?=some x->base<=g->Calls Tryz.prog F #[.pointer (some ⟨cp,0,none⟩)] w λ e w' =>
  e=.returned (.int .i64 (p x).1)/\Below base w w'/\Chosen w' cp g k (chg p l k x)
section
variable {w:World} {cp g k:Nat} {l:List G} {x:G}
theorem Chosen.facts (h:Chosen w cp g k l) (hx:l[k]?=some x) :
 w.cell? ⟨cp,1,none⟩=some (.pointer (some ⟨g,k*2,none⟩))/\w.cell? ⟨g,k*2,none⟩=some (.int .i64 x.1)/\w.cell? ⟨g,k*2+1,none⟩=some (.bool x.2) /\
 w.frozen? ⟨g,k*2,none⟩=false/\w.frozen? ⟨g,k*2+1,none⟩=false/\cp<w.heap.size/\g<w.heap.size:=by
 obtain⟨hne,hc,vs,hg,hv⟩:=h
 have h0:vs[k*2]?=some (.int .i64 x.1):=by have:=flat_get0 l k x hx;rw [<- hv] at this;simpa using this
 have h1:vs[k*2+1]?=some (.bool x.2):=by have:=flat_get1 l k x hx;rw [<- hv] at this;simpa using this
 exact⟨(hc.at_ rfl).1,(hg.at_ h0).1,(hg.at_ h1).1,(hg.at_ h0).2,(hg.at_ h1).2,hc.lt,hg.lt⟩
theorem Chosen.set1 (h:Chosen w cp g k l) (hx:l[k]?=some x) (v:Int):Chosen (w.setCell ⟨g,k*2,none⟩ (.int .i64 v)) cp g k (l.set k (v,x.2)):=by
 obtain⟨hne,hc,vs,hg,hv⟩:=h
 rw [Chosen,List.length_set]
 exact⟨hne,hc.st (p:=⟨g,k*2,none⟩) (Ne.symm hne) _,_,hg.set (k*2) _,by rw [Array.toList_setIfInBounds,hv,flat_set1 l k x v hx]⟩
theorem Chosen.set2 (h:Chosen w cp g k l) (hx:l[k]?=some x) (v:Bool):Chosen (w.setCell ⟨g,k*2+1,none⟩ (.bool v)) cp g k (l.set k (x.1,v)):=by
 obtain⟨hne,hc,vs,hg,hv⟩:=h
 rw [Chosen,List.length_set]
 exact⟨hne,hc.st (p:=⟨g,k*2+1,none⟩) (Ne.symm hne) _,_,hg.set (k*2+1) _,by rw [Array.toList_setIfInBounds,hv,flat_set2 l k x v hx]⟩
theorem Chosen.drew (h:Chosen w cp g k l):Chosen w.drew cp g k l:=h
end
end P11
end
section
open Go.ChangeShapes Go.WideShapes Go.ChangeAt Go.RowKit
namespace P11
theorem get_set {l:List G} {k:Nat} {x y:G} (h:l[k]?=some x):(l.set k y)[k]?=some y:=by
 obtain⟨hk,_⟩:=List.getElem?_eq_some_iff.1 h
 rw [List.getElem?_set_self hk]
theorem park_is:ChgIs 194 pkG:=by
 intro w base cp g k l x hC hx hb
 obtain⟨c1,q0,q1,f0,f1,hlc,hlg⟩:=hC.facts hx
 obtain⟨s,p⟩:=x
 have HC:=hid hC
 have HX:=hid hx
 clear hC hx
 by_cases hs:s=0
 . subst hs
   cases p
   . have S1:=HC.out.set1 HX.out 1
     have S2:=S1.set2 (get_set HX.out) false
     rw [List.set_set] at S2
     have H2:=hid S2
     clear S1 S2
     go_enter Tryz.func194,Tryz.ntmps194
     go_wp2_with fail
     go_ret
     exact⟨rfl,Below.setCell (Below.setCell (Below.refl _ _) hb _) hb _,H2.out⟩
   . have S2:=hid (HC.out.set2 HX.out false)
     go_enter Tryz.func194,Tryz.ntmps194
     go_wp2_with fail
     go_ret
     exact⟨rfl,Below.setCell (Below.refl _ _) hb _,S2.out⟩
 . have ne:(s==0)=false:=beq_eq_false_iff_ne.2 hs
   have HP:=hid (show pkG (s,p)=(6,(s,p)) by simp [pkG,hs])
   have HL:=hid (chg_no (l:=l) (k:=k) HP.out (by omega))
   go_enter Tryz.func194,Tryz.ntmps194
   go_wp2_with fail
   go_ret
   rw [HL.out,HP.out]
   exact⟨rfl,Below.refl _ _,HC.out⟩
theorem end_is:ChgIs 87 enG:=by
 intro w base cp g k l x hC hx hb
 obtain⟨c1,q0,q1,f0,f1,hlc,hlg⟩:=hC.facts hx
 obtain⟨s,p⟩:=x
 have HC:=hid hC
 have HX:=hid hx
 clear hC hx
 by_cases hs:s=0
 . subst hs
   have S1:=HC.out.set1 HX.out 2
   have S2:=S1.set2 (get_set HX.out) false
   rw [List.set_set] at S2
   have H2:=hid S2
   clear S1 S2
   go_enter Tryz.func87,Tryz.ntmps87
   go_wp2_with fail
   go_ret
   exact⟨rfl,Below.setCell (Below.setCell (Below.refl _ _) hb _) hb _,H2.out⟩
 . have ne:(s==0)=false:=beq_eq_false_iff_ne.2 hs
   have HP:=hid (show enG (s,p)=(6,(s,p)) by simp [enG,hs])
   have HL:=hid (chg_no (l:=l) (k:=k) HP.out (by omega))
   go_enter Tryz.func87,Tryz.ntmps87
   go_wp2_with fail
   go_ret
   rw [HL.out,HP.out]
   exact⟨rfl,Below.refl _ _,HC.out⟩
theorem ready_is:ChgIs 202 rdG:=by
 intro w base cp g k l x hC hx hb
 obtain⟨c1,q0,q1,f0,f1,hlc,hlg⟩:=hC.facts hx
 obtain⟨s,p⟩:=x
 have HC:=hid hC
 have HX:=hid hx
 clear hC hx
 by_cases hs:s=2
 . subst hs
   have HP:=hid (show rdG (2,p)=(6,(2,p)) by simp [rdG])
   have HL:=hid (chg_no (l:=l) (k:=k) HP.out (by omega))
   go_enter Tryz.func202,Tryz.ntmps202
   go_wp2_with fail
   go_ret
   rw [HL.out,HP.out]
   exact⟨rfl,Below.refl _ _,HC.out⟩
 . have ne:(s==2)=false:=beq_eq_false_iff_ne.2 hs
   cases p
   . obtain⟨B,hB⟩:∃ B,(s==0)=B:=⟨_,rfl⟩
     have S1:=(HC.out.set2 HX.out B).drew
     have S2:=S1.set1 (get_set HX.out) 0
     rw [List.set_set] at S2
     have H2:=hid S2
     have HP:=hid (show rdG (s,false)=(0,(0,B)) by simp [rdG,hs,hB])
     have HL:=hid (chg_yes (l:=l) (k:=k) HP.out)
     obtain⟨d1,r0,r1,z0,z1,hld,hle⟩:=S1.facts (get_set HX.out)
     clear S1 S2
     go_enter Tryz.func202,Tryz.ntmps202
     go_wp2_with fail
     go_region
     have G1:=Below.drew (Below.setCell (Below.refl base w) (p:=⟨g,k*2+1,none⟩) hb (.bool B))
     generalize (w.setCell ⟨g,k*2+1,none⟩ (.bool B)).drew=W at *
     go_wp2_with fail
     go_ret
     rw [HL.out,HP.out]
     exact⟨rfl,Below.setCell G1 hb _,H2.out⟩
   . have HP:=hid (show rdG (s,true)=(7,(s,true)) by simp [rdG,hs])
     have HL:=hid (chg_no (l:=l) (k:=k) HP.out (by omega))
     go_enter Tryz.func202,Tryz.ntmps202
     go_wp2_with fail
     go_ret
     rw [HL.out,HP.out]
     exact⟨rfl,Below.refl _ _,HC.out⟩
def Got (w:World) (r:Int×List G) (e:Ending) (w':World):Prop :=
 ∃ B m,e=.returned (.tuple #[.slice B r.2.length m,.int .i64 r.1])/\GMem w' B r.2.length r.2/\Late w.heap.size B/\r.2.length<=m/\Gr w w'
section
variable {A:Option Addr} {n c:Nat} {l:List G} {w:World}
theorem choose_arg {who:Int} (hn:n<=9223372036854775807) (hr:rightB l=false) (hm:GMem w A n l) :
 Calls Tryz.prog 85 #[.slice A n c,.int .i64 who] w λ e w'=>∃ cp,e=.returned (.pointer (some ⟨cp,0,none⟩))/\w.heap.size<=cp/\Blk w' cp #[.slice none 0 0,.pointer none,.int .i64 1] 178/\Gr w w':=by
 have cc:=hid (Right_is (c:=c) hr hn w hm)
 clear hr hm
 go_enter Tryz.func85,Tryz.ntmps85
 go_wp2_with fail
 refine cc.out.mono ?_
 rintro e w1 ⟨rfl,b1⟩
 go_wp2_with fail
 go_ret
 exact⟨_,rfl,b1.size,Blk.new _ _ _,b1.al _⟩
theorem choose_range {who:Int} (hn:n<=9223372036854775807) (hr:rightB l=true) (hw:who<0\/n<=who) (hm:GMem w A n l) :
 Calls Tryz.prog 85 #[.slice A n c,.int .i64 who] w λ e w'=>∃ cp,e=.returned (.pointer (some ⟨cp,0,none⟩))/\w.heap.size<=cp/\Blk w' cp #[.slice none 0 0,.pointer none,.int .i64 3] 178/\Gr w w':=by
 have cc:=hid (Right_is (c:=c) hr hn w hm)
 clear hr hm
 rcases hw with hw | hw
 . go_enter Tryz.func85,Tryz.ntmps85
   go_wp2_with fail
   refine cc.out.mono ?_
   rintro e w1 ⟨rfl,b1⟩
   go_wp2_with fail
   go_ret
   exact⟨_,rfl,b1.size,Blk.new _ _ _,b1.al _⟩
 . have h0:decide (who<0)=false:=by simp;omega
   go_enter Tryz.func85,Tryz.ntmps85
   go_wp2_with fail
   refine cc.out.mono ?_
   rintro e w1 ⟨rfl,b1⟩
   go_wp2_with fail
   go_ret
   exact⟨_,rfl,b1.size,Blk.new _ _ _,b1.al _⟩
theorem choose_ok {k:Nat} (hn:n<=9223372036854775807) (hr:rightB l=true) (hk:k<n) (hm:GMem w A n l) :
 Calls Tryz.prog 85 #[.slice A n c,.int .i64 (k:Int)] w λ e w'=>∃ cp g,e=.returned (.pointer (some ⟨cp,0,none⟩))/\w.heap.size<=cp/\w.heap.size<=g/\Chosen w' cp g k l/\Gr w w':=by
 have h8:n<=8:=by have:=hm.1;simp [rightB] at hr;omega
 have cc:=hid (Right_is (c:=c) hr hn w hm)
 obtain⟨i0,hi0,hz0,hz1,hz2⟩:=info_parts infoGor
 have hmk:=λ w=>run_makeN (P:=Tryz.prog) 70 51 i0 _ Tryz.underlying70 hi0 hz0 n (by rw [hz2];omega) (by omega) w
 rw [hz1] at hmk
 obtain⟨M,hM⟩:∃ M,madeCells (Value.agg #[.int .i64 0,.bool false]).cells (n*2)=M:=⟨_,rfl⟩
 have hMs:M.size=n*2:=by rw [<- hM,size_madeCells]
 rw [hM] at hmk
 have k0:(0:Int)<=(k:Int):=by omega
 have k1:(k:Int)<(n:Int):=by omega
 have k2:decide ((k:Int)<0)=false:=by simp
 have k3:decide (n<=k)=false:=by simp;omega
 have HMs:=hid hMs
 have hsz:=hid (show (Tryz.prog.info? 51).map (·.size)=some 2 by rw [hi0];simp [hz1])
 obtain⟨b,off,rfl,hbl,hcells⟩:=hm.2.2 (by omega)
 have HC:=hid hcells
 have HL:=hid hm.1
 have hfl:=hid (flat_len l)
 clear hr hm hi0 hz0 hz1 hz2 hcells hM hMs
 go_enter Tryz.func85,Tryz.ntmps85
 go_wp2_with fail
 refine cc.out.mono ?_
 rintro e w1 ⟨rfl,b1⟩
 have hz:b<w1.heap.size:=Nat.lt_of_lt_of_le hbl b1.size
 go_wp2_with (with_reducible refine wpList_copyN rfl (.tmp 26) (.tmp 27) 70 70 rfl 51 2 Tryz.underlying70 hsz.out w1.heap.size n n b off c rfl rfl M 51 ?hg (flat l) ?hn ?hs ?hf (flat_one l) ?_)
 case hg=>exact heap_alloc_new w1 _
 case hn=>rw [hfl.out,HL.out]
 case hf=>rw [hfl.out,HL.out,HMs.out]
 case hs =>
  intro j v hv
  exact (((Gr.refl w1).al _).cell (p:=⟨b,off+j,none⟩) hz).trans ((b1.cell (p:=⟨b,off+j,none⟩) hbl).trans (HC.out j v hv))
 intro w2 HG hB2 hS2
 have HS2:=hid (show w2.heap.size=w1.heap.size+1 by simpa using hS2)
 have hG2:Gr w w2:=(b1.al _).trans' (hB2.mono b1.size)
 clear hS2 hB2
 have X:Blk w2 w1.heap.size (flat l).toArray 51:=HG.out
 go_wp2_with fail
 go_ret
 refine⟨_,_,rfl,hG2.size,b1.size,⟨by rw [HS2.out];omega,?_,_,X.al _,by simp⟩,hG2.al _⟩
 rw [HL.out]
 exact Blk.new _ _ _
end
theorem got_err {w w':World} (q:Int) (h:Gr w w'):Got w (q,[]) (.returned (.tuple #[.slice none 0 0,.int .i64 q])) w' :=
 ⟨none,0,rfl,GMem.nil_,(λ k hk=>by cases hk),Nat.le_refl _,h⟩
theorem after_no {w:World} {cp:Nat} {f:Value} {q:Int} (hq:q=1\/q=3) (hc:Blk w cp #[.slice none 0 0,.pointer none,.int .i64 q] 178) :
 Calls Tryz.prog 86 #[.pointer (some ⟨cp,0,none⟩),f] w λ e w'=>e=.returned (.tuple #[.slice none 0 0,.int .i64 q])/\Gr w w':=by
 obtain⟨c2,_⟩:=hc.at_ (k:=2) rfl
 have hl:=hc.lt
 clear hc
 rcases hq with rfl | rfl
 all_goals (
  go_enter Tryz.func86,Tryz.ntmps86
  go_wp2_with fail
  go_quiet (fail)
  go_wp2_with fail
  go_ret2
  exact⟨rfl,(Gr.refl w).drN _⟩)
theorem after_err {w:World} {F cp g k base:Nat} {p:G->Int×G} {l:List G} {x:G} {q:Int} (eg:∀ args w,(callFunc F args).run Tryz.prog w=.ok (.enter F args) w) (hF:ChgIs F p) (hC:Chosen w cp g k l) (hx:l[k]?=some x) (hb:base<=g)
 (hr:(p x).1=q) (hq:q=6\/q=7) :
 Calls Tryz.prog 86 #[.pointer (some ⟨cp,0,none⟩),.func (.func F) #[.pointer (some ⟨cp,0,none⟩)] #[]] w λ e w' =>
  e=.returned (.tuple #[.slice none 0 0,.int .i64 q])/\Below base w w':=by
 have H1:=hid (hF w base cp g k l x hC hx hb)
 rw [hr] at H1
 have c2:=(hC.2.1.at_ (k:=2) rfl).1
 have hl:=hC.2.1.lt
 clear hF hC hx hr
 rcases hq with rfl | rfl
 all_goals (
  go_enter Tryz.func86,Tryz.ntmps86
  go_wp2_with fail
  with_reducible refine H1.out.mono ?_
  rintro ee w1 ⟨rfl,b1,_⟩
  go_wp2_with fail
  go_ret2
  exact⟨rfl,b1⟩)
theorem after_yes {w:World} {F cp g k base:Nat} {p:G->Int×G} {l:List G} {x y:G} (eg:∀ args w,(callFunc F args).run Tryz.prog w=.ok (.enter F args) w) (hF:ChgIs F p) (hC:Chosen w cp g k l) (hx:l[k]?=some x) (hb:base<=g)
 (hr:p x=(0,y)) :
 Calls Tryz.prog 86 #[.pointer (some ⟨cp,0,none⟩),.func (.func F) #[.pointer (some ⟨cp,0,none⟩)] #[]] w λ e w' =>
  e=.returned (.tuple #[.slice (some ⟨g,0,none⟩) l.length l.length,.int .i64 0])/\Below base w w'/\∃ vs,Blk w' g vs 51/\vs.toList=flat (l.set k y):=by
 have H1:=hid (hF w base cp g k l x hC hx hb)
 rw [chg_yes hr,hr] at H1
 have c2:=(hC.2.1.at_ (k:=2) rfl).1
 have hl:=hC.2.1.lt
 clear hF hC hx hr
 go_enter Tryz.func86,Tryz.ntmps86
 go_wp2_with fail
 with_reducible refine H1.out.mono ?_
 rintro ee w1 ⟨rfl,b1,hne,h1,h2⟩
 rw [List.length_set] at h1
 have d0:=(h1.at_ (k:=0) rfl).1
 have hl1:=h1.lt
 have H2:=hid h2
 clear h1 h2
 go_wp2_with fail
 go_ret2
 exact⟨rfl,b1,H2.out⟩
end P11
end
end Go.Proofs.YtainfijdhcehlaaGreatDoor
