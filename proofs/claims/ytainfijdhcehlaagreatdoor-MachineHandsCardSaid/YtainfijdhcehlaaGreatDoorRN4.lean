/-
  MachineHands: for any programs and any numbers, where a mutex starves nobody gets it but whom it is handed to: the law answers true, as long as the array give.states holds what the program's text lays.
-/
import Derived.Test.YtainfijdhcehlaaGreatDoorRN3
import Derived.Laws.StructEq
import Derived.Deep.DeepCutAuto
import Derived.Test.YtainfijdhcehlaaGreatDoorCards
import Derived.Test.YtainfijdhcehlaaGreatDoorTie
set_option linter.unusedVariables false
set_option linter.unusedSimpArgs false
set_option maxRecDepth 100000
set_option maxHeartbeats 8000000
namespace Go.Proofs.YtainfijdhcehlaaGreatDoor
open Lib (hid)
section
open Go.ChangeShapes Go.WideShapes Go.ChangeAt Go.RowKit
namespace P16
open P12 (PV PMem)
abbrev p0:List Ac:=[(0,0),(2,0)]
theorem p0_right:P12.rightB [p0]=true:=by decide
theorem alive_math {ψ ψ':Wv} {ev ev':List T3} {x x':Int} (h1:StepM (newW [p0]) 0 ψ ev x) (h2:StepM ψ 0 ψ' ev' x') :
 x=0/\x'=0/\ev=[(0,0,0)]/\ev'=[(0,3,0)]/\∃ c,ψ'.cl=[c]/\c.gst=2:=by
 have f0:=Fine.new p0_right
 obtain⟨f1,rfl,_,q | ⟨_,_,_,e1,rfl⟩⟩:=StepM.fine f0 h1
 . exact absurd q.1 (by decide)
 obtain⟨f2,rfl,_,q | ⟨_,_,_,e2,rfl⟩⟩:=StepM.fine f1 h2
 . exact absurd q.1 (by decide)
 have s1:stp (mw (newW [p0])) (0:Int).toNat=(W1 p0 1 0 (some 0) 0,some (0,0,0)):=by
  rw [mw_new,new_one]
  exact alone_lock (p:=p0) (a:=0) (n:=0) rfl
 rw [s1] at e1 ⊢
 have s2:stp (mw ψ) (0:Int).toNat=(W1 p0 2 0 none 0,some (0,3,0)):=by
  rw [e1]
  exact alone_give (p:=p0) (a:=1) (n:=0) rfl
 rw [s2] at e2 ⊢
 refine⟨rfl,rfl,rfl,rfl,?_⟩
 have e3:ψ'.cl=(W1 p0 2 0 none 0).cl:=congrArg Mw.cl e2
 exact⟨cAt 2 0 2,e3,by decide⟩
section
variable {w:World}
theorem alive_is (hM:Mach) (hg:P15.Glob w):Calls Tryz.prog 14 #[] w λ e w'=>e=.returned (.bool true)/\Gr w w':=by
 have b0:=Blk.new w #[.int .i64 0,.int .i64 0,.int .i64 2,.int .i64 0] 67
 have b1:=Blk.new (w.alloc (.cells #[.int .i64 0,.int .i64 0,.int .i64 2,.int .i64 0] 67)) #[.slice (some ⟨w.heap.size,0,none⟩) 2 2] 64
 have g1:=((Gr.refl w).al (.cells #[.int .i64 0,.int .i64 0,.int .i64 2,.int .i64 0] 67)).al (.cells #[.slice (some ⟨w.heap.size,0,none⟩) 2 2] 64)
 have hm:=P12.mem_blk (b0.al (.cells #[.slice (some ⟨w.heap.size,0,none⟩) 2 2] 64)) (l:=p0) rfl (by simp [Inb])
 have hP:=P12.pmem_one (x:=⟨some ⟨w.heap.size,0,none⟩,2,2,p0⟩) b1 ⟨hm,Nat.le_refl _,by show (2:Nat)<=9223372036854775807;decide⟩
 rw [World.size_alloc] at hP
 have cN:=hid (hM.new _ _ 1 1 _ (hg.gr g1) hP (by decide))
 have HG1:=hid g1
 clear b0 b1 hm hP g1
 go_enter Tryz.func14,Tryz.ntmps14
 go_wp2_with fail
 with_reducible refine cN.out.mono ?_
 rintro e w1 ⟨⟨s,ψ,x,rfl,hN,hW⟩,g2⟩
 obtain⟨rfl,rfl⟩:ψ=newW [p0]/\x=0:=by
  rcases hN with ⟨_,q⟩ | ⟨q,_⟩
  . exact q
  . exact absurd (show P12.rightB [p0]=false from q) (by decide)
 obtain⟨now,⟨A1,n1,c1⟩,⟨A2,n2,c2⟩,⟨A3,n3,c3⟩,⟨A4,n4,c4⟩,stop⟩:=s
 dsimp only at *
 have B1:=Blk.new w1 #[.int .i64 now,.slice A1 n1 c1,.slice A2 n2 c2,.slice A3 n3 c3,.slice A4 n4 c4,.int .i64 stop] 29
 have WW:=hid (hW.gr ((Gr.refl w1).al (.cells #[.int .i64 now,.slice A1 n1 c1,.slice A2 n2 c2,.slice A3 n3 c3,.slice A4 n4 c4,.int .i64 stop] 29)))
 have G1:=(HG1.out.trans g2).al (.cells #[.int .i64 now,.slice A1 n1 c1,.slice A2 n2 c2,.slice A3 n3 c3,.slice A4 n4 c4,.int .i64 stop] 29)
 have KK:=g2.size
 have hK:w.heap.size<=w1.heap.size:=(HG1.out.trans g2).size
 clear hN hW g2 cN
 go_upto_region 2 with fail
 generalize w1.alloc (.cells #[.int .i64 now,.slice A1 n1 c1,.slice A2 n2 c2,.slice A3 n3 c3,.slice A4 n4 c4,.int .i64 stop] 29)=W1 at B1 WW G1 ⊢
 generalize w1.heap.size=K at B1 KK hK ⊢
 have lt1:=B1.lt
 obtain⟨a0,az0⟩:=B1.at_ (k:=0) (v:=.int .i64 now) rfl
 obtain⟨a1,az1⟩:=B1.at_ (k:=1) (v:=.slice A1 n1 c1) rfl
 obtain⟨a2,az2⟩:=B1.at_ (k:=2) (v:=.slice A2 n2 c2) rfl
 obtain⟨a3,az3⟩:=B1.at_ (k:=3) (v:=.slice A3 n3 c3) rfl
 obtain⟨a4,az4⟩:=B1.at_ (k:=4) (v:=.slice A4 n4 c4) rfl
 obtain⟨a5,az5⟩:=B1.at_ (k:=5) (v:=.int .i64 stop) rfl
 have cS:=hid (hM.step W1 ⟨now,⟨A1,n1,c1⟩,⟨A2,n2,c2⟩,⟨A3,n3,c3⟩,⟨A4,n4,c4⟩,stop⟩ _ 0 (hg.gr G1) WW.out.is ⟨by decide,by decide⟩)
 go_wp2_with fail
 with_reducible refine cS.out.mono ?_
 rintro e w2 ⟨⟨s,ψ,A,n,c,ev,x,rfl,hS,hW,hE,hnc,hcm⟩,g3⟩
 obtain⟨now',⟨A1',n1',c1'⟩,⟨A2',n2',c2'⟩,⟨A3',n3',c3'⟩,⟨A4',n4',c4'⟩,stop'⟩:=s
 dsimp only at *
 have B2:=B1.gr g3
 have G2:=G1.trans g3
 have lt2:=B2.lt
 clear a0 az0 a1 az1 a2 az2 a3 az3 a4 az4 a5 az5
 obtain⟨a0,az0⟩:=B2.at_ (k:=0) (v:=.int .i64 now) rfl
 obtain⟨a1,az1⟩:=B2.at_ (k:=1) (v:=.slice A1 n1 c1) rfl
 obtain⟨a2,az2⟩:=B2.at_ (k:=2) (v:=.slice A2 n2 c2) rfl
 obtain⟨a3,az3⟩:=B2.at_ (k:=3) (v:=.slice A3 n3 c3) rfl
 obtain⟨a4,az4⟩:=B2.at_ (k:=4) (v:=.slice A4 n4 c4) rfl
 obtain⟨a5,az5⟩:=B2.at_ (k:=5) (v:=.int .i64 stop) rfl
 have B3:=put6_blk B2 rfl (.int .i64 now') (.slice A1' n1' c1') (.slice A2' n2' c2') (.slice A3' n3' c3') (.slice A4' n4' c4') (.int .i64 stop')
 have G3:=hid (put6_gr (x0:=.int .i64 now') (x1:=.slice A1' n1' c1') (x2:=.slice A2' n2' c2') (x3:=.slice A3' n3' c3') (x4:=.slice A4' n4' c4') (x5:=.int .i64 stop') (b:=K) G2 hK)
 have W3:=hid (hW.to (FromB.put6 (b:=K) lt1 (.int .i64 now') (.slice A1' n1' c1') (.slice A2' n2' c2') (.slice A3' n3' c3') (.slice A4' n4' c4') (.int .i64 stop')))
 have E3:=hid (hE.to (FromB.put6 (b:=K) lt1 (.int .i64 now') (.slice A1' n1' c1') (.slice A2' n2' c2') (.slice A3' n3' c3') (.slice A4' n4' c4') (.int .i64 stop')))
 clear hW hE g3 cS B1 B2 G1 G2
 go_upto_region 3 with fail
 clear a0 az0 a1 az1 a2 az2 a3 az3 a4 az4 a5 az5
 generalize (((((w2.setCell ⟨K,0,none⟩ (.int .i64 now')).setCell ⟨K,1,none⟩ (.slice A1' n1' c1')).setCell ⟨K,2,none⟩ (.slice A2' n2' c2')).setCell ⟨K,3,none⟩ (.slice A3' n3' c3')).setCell ⟨K,4,none⟩ (.slice A4' n4' c4')).setCell ⟨K,5,none⟩ (.int .i64 stop')=V3 at B3 G3 W3 E3 ⊢
 have lt3:=B3.lt
 clear lt2
 obtain⟨b0,bz0⟩:=B3.at_ (k:=0) (v:=.int .i64 now') rfl
 obtain⟨b1,bz1⟩:=B3.at_ (k:=1) (v:=.slice A1' n1' c1') rfl
 obtain⟨b2,bz2⟩:=B3.at_ (k:=2) (v:=.slice A2' n2' c2') rfl
 obtain⟨b3,bz3⟩:=B3.at_ (k:=3) (v:=.slice A3' n3' c3') rfl
 obtain⟨b4,bz4⟩:=B3.at_ (k:=4) (v:=.slice A4' n4' c4') rfl
 obtain⟨b5,bz5⟩:=B3.at_ (k:=5) (v:=.int .i64 stop') rfl
 have cS:=hid (hM.step V3 _ _ 0 (hg.gr G3.out) W3.out.is ⟨by decide,by decide⟩)
 go_wp2_with fail
 with_reducible refine cS.out.mono ?_
 rintro e w4 ⟨⟨s,ψ',A',n',c',ev',x',rfl,hS',hW,hE,hnc',hcm'⟩,g3⟩
 obtain⟨now'',⟨A1'',n1'',c1''⟩,⟨A2'',n2'',c2''⟩,⟨A3'',n3'',c3''⟩,⟨A4'',n4'',c4''⟩,stop''⟩:=s
 dsimp only at *
 obtain⟨rfl,rfl,rfl,rfl,cc,hcl,hgst⟩:=alive_math hS hS'
 have B2:=B3.gr g3
 have G2:=G3.out.trans g3
 have lt2:=B2.lt
 clear b0 bz0 b1 bz1 b2 bz2 b3 bz3 b4 bz4 b5 bz5
 obtain⟨b0,bz0⟩:=B2.at_ (k:=0) (v:=.int .i64 now') rfl
 obtain⟨b1,bz1⟩:=B2.at_ (k:=1) (v:=.slice A1' n1' c1') rfl
 obtain⟨b2,bz2⟩:=B2.at_ (k:=2) (v:=.slice A2' n2' c2') rfl
 obtain⟨b3,bz3⟩:=B2.at_ (k:=3) (v:=.slice A3' n3' c3') rfl
 obtain⟨b4,bz4⟩:=B2.at_ (k:=4) (v:=.slice A4' n4' c4') rfl
 obtain⟨b5,bz5⟩:=B2.at_ (k:=5) (v:=.int .i64 stop') rfl
 have B5:=put6_blk B2 rfl (.int .i64 now'') (.slice A1'' n1'' c1'') (.slice A2'' n2'' c2'') (.slice A3'' n3'' c3'') (.slice A4'' n4'' c4'') (.int .i64 stop'')
 have G5:=hid (put6_gr (x0:=.int .i64 now'') (x1:=.slice A1'' n1'' c1'') (x2:=.slice A2'' n2'' c2'') (x3:=.slice A3'' n3'' c3'') (x4:=.slice A4'' n4'' c4'') (x5:=.int .i64 stop'') (b:=K) G2 hK)
 have W5:=hid (hW.to (FromB.put6 (b:=K) lt3 (.int .i64 now'') (.slice A1'' n1'' c1'') (.slice A2'' n2'' c2'') (.slice A3'' n3'' c3'') (.slice A4'' n4'' c4'') (.int .i64 stop'')))
 have E5:=hid (hE.to (FromB.put6 (b:=K) lt3 (.int .i64 now'') (.slice A1'' n1'' c1'') (.slice A2'' n2'' c2'') (.slice A3'' n3'' c3'') (.slice A4'' n4'' c4'') (.int .i64 stop'')))
 have E6:=hid ((E3.out.gr g3).to (FromB.put6 (b:=K) lt1 (.int .i64 now'') (.slice A1'' n1'' c1'') (.slice A2'' n2'' c2'') (.slice A3'' n3'' c3'') (.slice A4'' n4'' c4'') (.int .i64 stop'')))
 clear hW hE g3 cS B3 B2 G2 hS hS' E3
 go_upto_region 4 with fail
 clear b0 bz0 b1 bz1 b2 bz2 b3 bz3 b4 bz4 b5 bz5
 generalize (((((w4.setCell ⟨K,0,none⟩ (.int .i64 now'')).setCell ⟨K,1,none⟩ (.slice A1'' n1'' c1'')).setCell ⟨K,2,none⟩ (.slice A2'' n2'' c2'')).setCell ⟨K,3,none⟩ (.slice A3'' n3'' c3'')).setCell ⟨K,4,none⟩ (.slice A4'' n4'' c4'')).setCell ⟨K,5,none⟩ (.int .i64 stop'')=V5 at B5 G5 W5 E5 E6 ⊢
 have lt5:=B5.lt
 clear lt2 lt3
 obtain⟨b0,bz0⟩:=B5.at_ (k:=0) (v:=.int .i64 now'') rfl
 obtain⟨b1,bz1⟩:=B5.at_ (k:=1) (v:=.slice A1'' n1'' c1'') rfl
 obtain⟨b2,bz2⟩:=B5.at_ (k:=2) (v:=.slice A2'' n2'' c2'') rfl
 obtain⟨b3,bz3⟩:=B5.at_ (k:=3) (v:=.slice A3'' n3'' c3'') rfl
 obtain⟨b4,bz4⟩:=B5.at_ (k:=4) (v:=.slice A4'' n4'' c4'') rfl
 obtain⟨b5,bz5⟩:=B5.at_ (k:=5) (v:=.int .i64 stop'') rfl
 obtain rfl:n=1:=(E6.out.is).len.symm
 obtain rfl:n'=1:=(E5.out.is).len.symm
 obtain⟨b,off,y,rfl,hb,hy,-,d0,d1,d2⟩:=T3Mem.cells (k:=0) E6.out.is (by decide)
 cases hy
 obtain⟨b',off',y,rfl,hb',hy,-,f0,f1,f2⟩:=T3Mem.cells (k:=0) E5.out.is (by decide)
 cases hy
 have WI:=W5.out.is
 have hl:=WI.c.len
 rw [hcl] at hl
 have hl:1=n2'':=hl
 subst hl
 have hc0:CMem V5 A2'' 1 _:=WI.c
 obtain⟨b2,off2,z,rfl,hb2,hz,-,h0,-⟩:=CMem.cells (k:=0) hc0 (by decide)
 rw [hcl] at hz
 cases hz
 rw [hgst] at h0
 simp only [Nat.zero_mul,Nat.add_zero] at d0 d1 d2 f0 f1 f2 h0
 clear WI hc0 hcl hgst
 go_wp2_with fail
 go_ret
 exact⟨rfl,G5.out⟩
end
end P16
end
section
open Go.ChangeShapes Go.WideShapes Go.ChangeAt Go.RowKit
namespace P16
def EvR (f f':Nat->Bool) (F:Bool) (e:Int) (n:Nat):Prop :=
 ((e=0\/e=1)/\f n=false/\f' n=true/\(∀ m,m≠n->f' m=f m)/\F=false) \/
 (e=2/\f'=f/\F=false) \/
 (e=3/\f n=true/\f' n=false/\(∀ m,m≠n->f' m=f m)/\F=false) \/
 (e=4/\f n=false/\f'=f/\F=true)
def Kind (ω ψ:Wv) (ev:List T3) (f f':Nat->Bool) (F:Bool):Prop :=
 (ω.stop≠0/\ψ=ω/\ev=[]/\f'=f/\F=false) \/
 (ω.stop=0/\ψ.stop=0/\ev=[]/\f'=f/\F=false) \/
 (ω.stop=0/\∃ (a:Int) (e:Int) (n:Nat),n<4/\ev=[(a,e,(n:Int))]/\EvR f f' F e n/\(ψ.stop≠0↔F=true))
def LK (ω:Wv) (m:Nat):Bool:=if m<4 then Lk (mw ω) m else false
theorem LK_at {ω:Wv} {m:Nat} (h:m<4):LK ω m=Lk (mw ω) m:=by unfold LK;rw [if_pos h]
section
variable {ω ψ:Wv} {v who:Int} {ev:List T3} {b:Bool}
theorem LK_same (h:∀ m,m<4->Lk (mw ψ) m=Lk (mw ω) m):LK ψ=LK ω:=by
 funext m
 unfold LK
 split
 . exact h m (by assumption)
 . rfl
theorem NextM.rnd (h:Fine ω) (hn:NextM ω v ψ ev who b) (hv:B64 v) (hb:ω.now<=4611686018422387904) :
 Fine ψ/\b=true/\ψ.progs=ω.progs/\ψ.now<=ω.now+5000000/\(ψ.stop=0\/ψ.stop=11)/\∃ F,Kind ω ψ ev (LK ω) (LK ψ) F:=by
 unfold B64 at hv
 rcases hn with ⟨h0,x,ht,rfl,rfl,rfl⟩ | ⟨h0,x,hs,rfl,rfl⟩
 . obtain⟨f,rfl,q⟩:=TickM.fine h (by unfold Tim;omega) (by omega) ht
   rcases q with ⟨q,rfl⟩ | ⟨q,rfl⟩
   . exact⟨f,rfl,rfl,by omega,f.inv.st,false,.inl ⟨q,rfl,rfl,rfl,rfl⟩⟩
   . exact⟨f,rfl,rfl,by show ω.now+_<=_;omega,f.inv.st,false,.inr (.inl ⟨q,q,rfl,rfl,rfl⟩)⟩
 . obtain⟨f,rfl,hp,q⟩:=StepM.fine h hs
   refine⟨f,rfl,hp,?_⟩
   rcases q with ⟨q,rfl,rfl⟩ | ⟨q,hr,hst,e1,rfl⟩
   . omega
   . have hnow:ψ.now=ω.now:=hr.nw
     refine⟨by omega,f.inv.st,?_⟩
     by_cases hs0:ω.stop=0
     . rcases hr.kind with ⟨k1,k2,k3⟩ | ⟨n,k1,k2,k3,k4,k5⟩ | ⟨n,e,k1,k2,k3,k4,k5,k6⟩
       . rw [k1]
         have k2:ψ.stop=ω.stop:=k2
         exact⟨false,.inr (.inl ⟨hs0,by omega,rfl,LK_same k3,rfl⟩)⟩
       . rw [k2]
         have k6:ψ.stop=11:=congrArg Mw.stop k4
         refine⟨true,.inr (.inr ⟨hs0,_,4,n,k1,rfl,.inr (.inr (.inr ⟨rfl,by rw [LK_at k1];exact k5,?_,rfl⟩)),by rw [k6];simp⟩)⟩
         refine LK_same λ m _=>?_
         have:(mw ψ).cm=(mw ω).cm:=by rw [k4]
         unfold Lk
         rw [this]
       . rw [k2]
         have k4:ψ.stop=0:=k4
         have far:∀ m,m≠n->LK ψ m=LK ω m:=λ m hm=>by
          unfold LK
          split
          . unfold Lk;rw [k6 m hm]
          . rfl
         refine⟨false,.inr (.inr ⟨hs0,_,e,n,k1,rfl,?_,by rw [k4];simp⟩)⟩
         rcases k5 with ⟨q,_⟩ | ⟨q,l1,l2⟩ | ⟨q,l1,l2⟩ | ⟨q,l1⟩ | ⟨q,l1,l2⟩
         . cases q
         . cases q;exact .inl ⟨.inl rfl,by rw [LK_at k1];exact l1,by rw [LK_at k1];exact l2,far,rfl⟩
         . cases q;exact .inl ⟨.inr rfl,by rw [LK_at k1];exact l1,by rw [LK_at k1];exact l2,far,rfl⟩
         . cases q
           refine .inr (.inl ⟨rfl,?_,rfl⟩)
           funext m
           by_cases e:m=n
           . subst e;rw [LK_at k1,LK_at k1];exact l1
           . exact far m e
         . cases q;exact .inr (.inr (.inl ⟨rfl,by rw [LK_at k1];exact l1,by rw [LK_at k1];exact l2,far,rfl⟩))
     . have e2:=hst hs0
       subst e2
       have e3:=(hr.still hs0).2
       rw [e3]
       exact⟨false,.inl ⟨hs0,rfl,rfl,rfl,rfl⟩⟩
end
end P16
end
section
open Go.ChangeShapes Go.WideShapes Go.ChangeAt Go.RowKit
namespace P16
open P12 (PV PMem POwn pl fewP)
def WAt (S:Nat->Prop) (W:World) (r:WR) (ω:Wv):Prop:=∃ W0 B,WNew B W0 r ω/\FromB B W0 W/\∀ k,S k->k<B\/W0.heap.size<=k
section
variable {S:Nat->Prop} {W W':World} {r:WR} {ω:Wv} {B:Nat}
theorem WAt.is (h:WAt S W r ω):WIs W r ω:=by
 obtain⟨W0,B,h1,h2,_⟩:=h
 exact (h1.to h2).is
theorem WAt.gr (h:WAt S W r ω) (g:Gr W W'):WAt S W' r ω:=by
 obtain⟨W0,B,h1,h2,h3⟩:=h
 exact⟨W0,B,h1,h2.trans (FromB.gr g),h3⟩
theorem WAt.new (h:WNew B W r ω) (hs:∀ k,S k->k<B):WAt S W r ω:=⟨W,B,h,FromB.refl,λ k hk=>.inl (hs k hk)⟩
theorem WAt.late (h:WNew B W r ω) (g:Gr W W') (hs:∀ k,S k->W.heap.size<=k):WAt S W' r ω:=⟨W,B,h,FromB.gr g,λ k hk=>.inr (hs k hk)⟩
end
end P16
end
section
open Go.ChangeShapes Go.WideShapes Go.ChangeAt Go.RowKit
namespace P16
def HandK (ω ψ:Wv) (ev:List T3) (who:Int):Prop :=
 ((∀ m,m<4->(mxAt ψ.mx m).1=(mxAt ω.mx m).1)/\(ev=[]\/∃ a e n,ev=[(a,e,n)]/\e≠0/\e≠1)) \/
 (0<=who/\(ev=[]\/∃ a e n,ev=[(a,e,n)])/\∃ c,ω.cl[who.toNat]?=some c/\∀ m:Nat,m<4 ->
   (Sv (mw ω) m=false->Sv (mw ψ) m=true->c.pc=2/\c.st=true)/\(Sv (mw ω) m=true->Sv (mw ψ) m=false->c.pc=8) /\
   (∀ a e,ev=[(a,e,(m:Int))]->Sv (mw ω) m=true->e≠1/\(e=0->c.pc=8)))
section
variable {ω ψ:Wv} {v who:Int} {ev:List T3} {b:Bool}
theorem NextM.hands (h:Fine ω) (hn:NextM ω v ψ ev who b) (hv:B64 v) (hb:ω.now<=4611686018422387904):HandK ω ψ ev who:=by
 unfold B64 at hv
 rcases hn with ⟨h0,x,ht,rfl,rfl,rfl⟩ | ⟨h0,x,hs,rfl,rfl⟩
 . obtain⟨f,rfl,q⟩:=TickM.fine h (by unfold Tim;omega) (by omega) ht
   rcases q with ⟨q,rfl⟩ | ⟨q,rfl⟩
   . exact .inl ⟨λ _ _=>rfl,.inl rfl⟩
   . exact .inl ⟨λ _ _=>rfl,.inl rfl⟩
 . obtain⟨f,rfl,hp,q⟩:=StepM.fine h hs
   rcases q with ⟨q,rfl,rfl⟩ | ⟨q,hr,hst,e1,rfl⟩
   . exact .inl ⟨λ _ _=>rfl,.inl rfl⟩
   . have hev:((stp (mw ω) (v % 9).toNat).2=none\/∃ e n,n<4/\(stp (mw ω) (v % 9).toNat).2=some (((v % 9).toNat:Int),e,((n:Nat):Int))/\(e=4\/HeldR (some e) (Lk (mw ω) n) (Lk (mw ψ) n))):=by
      rcases hr.kind with ⟨k1,_⟩ | ⟨n,k1,k2,_⟩ | ⟨n,e,k1,k2,_,_,k5,_⟩
      . exact .inl k1
      . exact .inr ⟨4,n,k1,k2,.inl rfl⟩
      . exact .inr ⟨e,n,k1,k2,.inr k5⟩
     rcases hr.hands with q1 | ⟨c,hc,q2⟩
     . left
       refine⟨λ m hm=>congrArg Cm.word (q1 m hm),?_⟩
       rcases hev with k | ⟨e,n,hn4,k,kk⟩
       . rw [k];exact .inl rfl
       . rw [k]
         refine .inr ⟨_,e,_,rfl,?_⟩
         have hL:Lk (mw ψ) n=Lk (mw ω) n:=by unfold Lk;rw [q1 n hn4]
         rcases kk with rfl | kk
         . exact⟨by decide,by decide⟩
         . rw [hL] at kk
           rcases kk with ⟨z,_⟩ | ⟨z,l1,l2⟩ | ⟨z,l1,l2⟩ | ⟨z,_⟩ | ⟨z,l1,l2⟩
           . cases z
           . rw [l1] at l2;cases l2
           . rw [l1] at l2;cases l2
           . cases z;exact⟨by decide,by decide⟩
           . rw [l1] at l2;cases l2
     . right
       refine⟨q,?_,c,hc,λ m hm=>?_⟩
       . rcases hev with k | ⟨e,n,_,k,_⟩
         . rw [k];exact .inl rfl
         . rw [k];exact .inr ⟨_,_,_,rfl⟩
       . obtain⟨z1,z2,z3⟩:=q2 m hm
         refine⟨z1,z2,λ a e he hS=>?_⟩
         rcases hev with k | ⟨e',n,_,k,_⟩
         . rw [k] at he;cases he
         . rw [k] at he
           have he:[(((v % 9).toNat:Int),e',(n:Int))]=[(a,e,(m:Int))]:=he
           injection he with he _
           injection he with ha he
           injection he with he hnm
           subst he
           have:n=m:=by omega
           subst this
           exact z3 e' k hS
end
theorem flags_at {ψ:Wv} (h:Fine ψ) {j:Nat} (hj:j<4) {x:T3} (hx:ψ.mx[j]?=some x):∃ a b c q,x.1=P3.pw a b c q/\(0<=q/\q<268435456)/\Sv (mw ψ) j=c:=by
 have h1:=h.inv.ow j hj
 have e:(mw ψ).cm j=⟨(mxAt ψ.mx j).1,(mxAt ψ.mx j).2.1,(mxAt ψ.mx j).2.2,(gtA ψ.tb j).1,(gtA ψ.tb j).2⟩:=rfl
 rw [mxAt_get hx] at e
 rw [e] at h1
 obtain⟨a,b,c,q,e1,e2⟩:=P3.pw_of h1
 have e1:x.1=P3.pw a b c q:=e1
 refine⟨a,b,c,q,e1,e2,?_⟩
 unfold Sv
 rw [e]
 show (wd x.1).S=c
 rw [e1]
 unfold wd P3.pw P3.b1
 dsimp only
 cases a<;>cases b<;>cases c<;>simp<;>omega
theorem run_flags_neq (a b c:Bool) (n:Int) (a' b' c':Bool) (n':Int) {d:Bool} (hd:d=true↔(a=a'/\b=b'/\c=c'/\n=n')) (w:World) :
 (binOp .neq 42 (.agg #[.bool a,.bool b,.bool c,.int .i64 n]) (.agg #[.bool a',.bool b',.bool c',.int .i64 n'])).run Tryz.prog w=.ok (.bool (!d)) w:=by
 have no:¬ (a=a'/\b=b'/\c=c'/\n=n')->Result.ok (Value.bool true) w=Result.ok (Value.bool (!d)) w:=λ h=>by
  have e:d=false:=by
   cases d with
   | false=>rfl
   | true=>exact absurd (hd.1 rfl) h
  rw [e];rfl
 have yes:(a=a'/\b=b'/\c=c'/\n=n')->Result.ok (Value.bool false) w=Result.ok (Value.bool (!d)) w:=λ h=>by rw [hd.2 h];rfl
 clear hd
 go_simp
 by_cases h0:a=a'
 rotate_left
 . rw [if_neg h0];exact no (λ e=>h0 e.1)
 rw [if_pos h0]
 by_cases h1:b=b'
 rotate_left
 . rw [if_neg h1];exact no (λ e=>h1 e.2.1)
 rw [if_pos h1]
 by_cases h2:c=c'
 rotate_left
 . rw [if_neg h2];exact no (λ e=>h2 e.2.2.1)
 rw [if_pos h2]
 by_cases h3:n=n'
 rotate_left
 . rw [if_neg h3];exact no (λ e=>h3 e.2.2.2)
 rw [if_pos h3]
 exact yes ⟨h0,h1,h2,h3⟩
end P16
end
section
open Go.ChangeShapes Go.WideShapes Go.ChangeAt Go.RowKit
namespace P16
open P12 (PV PMem POwn pl fewP)
theorem HandK.few {ω ψ:Wv} {ev:List T3} {who:Int} (h:HandK ω ψ ev who):ev=[]\/∃ a e n,ev=[(a,e,n)]:=by
 rcases h with ⟨_,q | ⟨a,e,n,q,_⟩⟩ | ⟨_,q,_⟩
 . exact .inl q
 . exact .inr ⟨a,e,n,q⟩
 . exact q
theorem hand_at {ω ψ:Wv} {ev:List T3} {who:Int} {j:Nat} {x y:T3} (hK:HandK ω ψ ev who) (fω:Fine ω) (fψ:Fine ψ) (hj:j<4) (hx:ω.mx[j]?=some x) (hy:ψ.mx[j]?=some y) :
 ∃ a b c q a' b' c' q',x.1=P3.pw a b c q/\(0<=q/\q<268435456)/\y.1=P3.pw a' b' c' q'/\(0<=q'/\q'<268435456) /\
  ((a=a'/\b=b'/\c=c'/\q=q')\/(0<=who/\who<(ω.cl.length:Int))) /\
  (c=c'\/∃ (i:Nat) (z:Cl),who=(i:Int)/\ω.cl[i]?=some z/\((c=false/\c'=true/\z.pc=2/\z.st=true)\/(c=true/\c'=false/\z.pc=8))) /\
  (∀ ea ee en,ev=[(ea,ee,en)]->en≠(j:Int)\/c=false\/(ee≠1/\ee≠0)\/(ee=0/\∃ (i:Nat) (z:Cl),who=(i:Int)/\ω.cl[i]?=some z/\z.pc=8)):=by
 obtain⟨a,b,c,q,e1,e2,e3⟩:=flags_at fω hj hx
 rcases hK with ⟨h1,h2⟩ | ⟨h0,h2,z,hz,h3⟩
 . have hxy:y.1=x.1:=by
    have:=h1 j hj
    rw [mxAt_get hx,mxAt_get hy] at this
    exact this
   refine⟨a,b,c,q,a,b,c,q,e1,e2,by rw [hxy,e1],e2,.inl ⟨rfl,rfl,rfl,rfl⟩,.inl rfl,λ ea ee en he=>?_⟩
   rcases h2 with h2 | ⟨_,_,_,h2,h4,h5⟩
   . rw [h2] at he;cases he
   . rw [h2] at he;cases he;exact .inr (.inr (.inl ⟨h5,h4⟩))
 . obtain⟨a',b',c',q',f1,f2,f3⟩:=flags_at fψ hj hy
   obtain⟨i,rfl⟩:∃ i:Nat,who=(i:Int):=⟨who.toNat,by omega⟩
   rw [Int.toNat_natCast] at hz
   have hlt:=(List.getElem?_eq_some_iff.1 hz).1
   obtain⟨k1,k2,k3⟩:=h3 j hj
   rw [e3,f3] at k1 k2
   rw [e3] at k3
   refine⟨a,b,c,q,a',b',c',q',e1,e2,f1,f2,.inr ⟨by omega,by omega⟩,?_,λ ea ee en he=>?_⟩
   . cases c<;>cases c'
     . exact .inl rfl
     . exact .inr ⟨i,z,rfl,hz,.inl ⟨rfl,rfl,k1 rfl rfl⟩⟩
     . exact .inr ⟨i,z,rfl,hz,.inr ⟨rfl,rfl,k2 rfl rfl⟩⟩
     . exact .inl rfl
   . by_cases hen:en=(j:Int)
     . subst hen
       cases c with
       | false=>exact .inr (.inl rfl)
       | true =>
        obtain⟨m1,m2⟩:=k3 ea ee he rfl
        by_cases h00:ee=0
        . exact .inr (.inr (.inr ⟨h00,i,z,rfl,hz,m2 h00⟩))
        . exact .inr (.inr (.inl ⟨m1,h00⟩))
     . exact .inl hen
section
variable {w:World} {A B:Option Addr} {n c m d:Nat} {R:List PV} {L:List Int}
theorem MachineHands_walk (hM:Mach) (hg:P15.Glob w) (hc:n<=c) (hn:n<=9223372036854775807) (hm:PMem w A n R) (hd:m<=d) (hmm:m<=9223372036854775807) (hL:IMem w B m L) :
 Calls Tryz.prog 5 #[.slice A n c,.slice B m d] w λ e w'=>e=.returned (.bool true)/\Gr w w':=by
 have cF:=hid (few_is hm hc hn)
 obtain⟨N,a5,b5,n5,k5,-⟩:=least m 1500
 have b5:min (m:Int) 1500=(N:Int):=b5
 have a5:(if (1500:Int)<(m:Int) then (1500:Int) else (m:Int))=(N:Int):=a5
 have p5:(0:Int)<=(N:Int):=by omega
 have m5:(N:Int)<=(d:Int):=by omega
 have HL:=hid hL
 clear hm hL
 go_enter Tryz.func5,Tryz.ntmps5
 go_wp2_with fail
 with_reducible refine cF.out.mono ?_
 rintro e w1 ⟨⟨B',m',d',R',rfl,-,hpl,hm10,hown⟩,g1⟩
 have hP:=hown.mem
 have cN:=hid (hM.new w1 B' m' d' R' (hg.gr g1) hP (by omega))
 have HG1:=hid g1
 clear hP hown g1 cF
 go_wp2_with fail
 with_reducible refine cN.out.mono ?_
 rintro e w2 ⟨⟨s,ψ,x,rfl,hN,hW⟩,g2⟩
 obtain⟨now,⟨A1,n1,c1⟩,⟨A2,n2,c2⟩,⟨A3,n3,c3⟩,⟨A4,n4,c4⟩,stop⟩:=s
 have G2:=hid (HG1.out.trans g2)
 rcases hN with ⟨hr,rfl,rfl⟩ | ⟨hr,rfl,rfl⟩
 rotate_left
 . have cA:=hid (alive_is (w:=w2.alloc (.cells #[.int .i64 now,.slice A1 n1 c1,.slice A2 n2 c2,.slice A3 n3 c3,.slice A4 n4 c4,.int .i64 stop] 29)) hM (hg.gr (G2.out.al _)))
   go_wp2_with fail
   with_reducible refine cA.out.mono ?_
   rintro e w9 ⟨rfl,g9⟩
   go_wp2_with fail
   go_ret
   exact⟨rfl,(G2.out.al _).trans g9⟩
 have F0:=hid (Fine.new hr)
 generalize hω:newW (pl R')=ω0 at *
 have now0:=hid (show ω0.now=0 from by rw [<- hω];rfl)
 have BK:=Blk.new w2 #[.int .i64 now,.slice A1 n1 c1,.slice A2 n2 c2,.slice A3 n3 c3,.slice A4 n4 c4,.int .i64 stop] 29
 have G4:=hid (G2.out.al (.cells #[.int .i64 now,.slice A1 n1 c1,.slice A2 n2 c2,.slice A3 n3 c3,.slice A4 n4 c4,.int .i64 stop] 29))
 have W4:=hid (WAt.late (S:=λ k=>k=w2.heap.size) hW ((Gr.refl w2).al (.cells #[.int .i64 now,.slice A1 n1 c1,.slice A2 n2 c2,.slice A3 n3 c3,.slice A4 n4 c4,.int .i64 stop] 29)) (λ k hk=>by omega))
 have hKw:w.heap.size<=w2.heap.size:=G2.out.size
 clear hW g2 cN hr hω hpl HG1 G2
 go_upto_region 4 with fail
 generalize w2.alloc (.cells #[.int .i64 now,.slice A1 n1 c1,.slice A2 n2 c2,.slice A3 n3 c3,.slice A4 n4 c4,.int .i64 stop] 29)=V4 at BK G4 W4 ⊢
 generalize w2.heap.size=K at BK W4 hKw ⊢
 go_wp2_with fail
 clear a5 b5 p5 m5
 go_loopw [39] (λ i wr=>∃ (k:Nat) (ω:Wv) (r:WR),k<=N/\i=.int .i64 (k:Int)/\Hid (Fine ω)/\Hid (ω.now<=(k:Int)*5000000)/\Hid (Blk wr K r.a 29)/\Hid (WAt (λ k=>k=K) wr r ω)/\Hid (Gr w wr)) (λ i _=>N-(intOf i).toNat)
 case atStart=>exact⟨0,ω0,⟨now,⟨A1,n1,c1⟩,⟨A2,n2,c2⟩,⟨A3,n3,c3⟩,⟨A4,n4,c4⟩,stop⟩,Nat.zero_le _,rfl,F0,hid (by rw [now0.out];decide),hid BK,W4,G4⟩
 case round =>
  clear BK W4 G4 F0 now0
  obtain⟨k,ω,r,hk,rfl,HF,HN,HK,HW,HG⟩:=hrel
  obtain⟨nowr,⟨A1r,n1r,c1r⟩,⟨A2r,n2r,c2r⟩,⟨A3r,n3r,c3r⟩,⟨A4r,n4r,c4r⟩,stopr⟩:=r
  by_cases hlt:k<N
  . have hN15:N<=1500:=k5
    obtain⟨bS,oS,v,rfl,hbl,hv,hvb,s0⟩:=(HL.out.gr HG.out).at_ (show k<m by omega)
    have cX:=hid (next_is hM (hg.gr HG.out) HW.out.is hvb)
    have i0:(0:Int)<=(k:Int):=by omega
    have i1:(k:Int)<(N:Int):=by omega
    have kb:=HK.out
    have ltk:=kb.lt
    obtain⟨k0,kz0⟩:=kb.at_ (k:=0) (v:=.int .i64 nowr) rfl
    obtain⟨k1,kz1⟩:=kb.at_ (k:=1) (v:=.slice A1r n1r c1r) rfl
    obtain⟨k2,kz2⟩:=kb.at_ (k:=2) (v:=.slice A2r n2r c2r) rfl
    obtain⟨k3,kz3⟩:=kb.at_ (k:=3) (v:=.slice A3r n3r c3r) rfl
    obtain⟨k4,kz4⟩:=kb.at_ (k:=4) (v:=.slice A4r n4r c4r) rfl
    obtain⟨k5,kz5⟩:=kb.at_ (k:=5) (v:=.int .i64 stopr) rfl
    clear hv kb
    go_upto_region 7 with fail
    clear s0 hbl
    go_wp2_with fail
    with_reducible refine cX.out.mono ?_
    rintro e w3 ⟨⟨s,ψ,A',n',c',ev,who,bb,rfl,hX,hWn,hE,hnc,hcm⟩,g3⟩
    obtain⟨nowN,⟨A1N,n1N,c1N⟩,⟨A2N,n2N,c2N⟩,⟨A3N,n3N,c3N⟩,⟨A4N,n4N,c4N⟩,stopN⟩:=s
    have hnow0:ω.now<=4611686018422387904:=by
     have h1:=HN.out
     have h2:(k:Int)<1500:=by omega
     have h3:(k:Int)*5000000<=1500*5000000:=by omega
     omega
    obtain⟨fψ,rfl,hpr,hnow,hst,F,-⟩:=NextM.rnd HF.out hX hvb hnow0
    have hHK:=NextM.hands HF.out hX hvb hnow0
    have HPF:=hid fψ
    have HFO:=hid HF.out
    have HHK:=hid hHK
    have HPN:=hid (show ψ.now<=((k+1:Nat):Int)*5000000 from by have:=HN.out;omega)
    have hWis:=hWn.is
    have hm4:4=n3N:=fψ.m4.symm.trans hWis.m.len
    subst hm4
    have hm4r:4=n3r:=HF.out.m4.symm.trans HW.out.is.m.len
    subst hm4r
    have HCL:=hid (show ω.cl.length=n2r from HW.out.is.c.len)
    have KB:=hid ((HK.out.gr g3).al (.cells #[.int .i64 nowN,.slice A1N n1N c1N,.slice A2N n2N c2N,.slice A3N 4 c3N,.slice A4N n4N c4N,.int .i64 stopN] 29))
    have NB:=hid (Blk.new w3 #[.int .i64 nowN,.slice A1N n1N c1N,.slice A2N n2N c2N,.slice A3N 4 c3N,.slice A4N n4N c4N,.int .i64 stopN] 29)
    have GV:=hid ((HG.out.trans g3).al (.cells #[.int .i64 nowN,.slice A1N n1N c1N,.slice A2N n2N c2N,.slice A3N 4 c3N,.slice A4N n4N c4N,.int .i64 stopN] 29))
    have WN:=hid (hWn.gr ((Gr.refl w3).al (.cells #[.int .i64 nowN,.slice A1N n1N c1N,.slice A2N n2N c2N,.slice A3N 4 c3N,.slice A4N n4N c4N,.int .i64 stopN] 29)))
    have WR:=hid ((HW.out.gr g3).gr ((Gr.refl w3).al (.cells #[.int .i64 nowN,.slice A1N n1N c1N,.slice A2N n2N c2N,.slice A3N 4 c3N,.slice A4N n4N c4N,.int .i64 stopN] 29)))
    have HEE:=hid (hE.gr ((Gr.refl w3).al (.cells #[.int .i64 nowN,.slice A1N n1N c1N,.slice A2N n2N c2N,.slice A3N 4 c3N,.slice A4N n4N c4N,.int .i64 stopN] 29)))
    have hKB:K<wr.heap.size:=ltk
    clear hWn hE hWis hX HN HF HW HK HG g3 cX fψ hpr hnow hnow0 ltk hst hHK
    go_upto_region 8 with fail
    clear k0 kz0 k1 kz1 k2 kz2 k3 kz3 k4 kz4 k5 kz5
    generalize w3.alloc (.cells #[.int .i64 nowN,.slice A1N n1N c1N,.slice A2N n2N c2N,.slice A3N 4 c3N,.slice A4N n4N c4N,.int .i64 stopN] 29)=V at KB NB GV WN WR HEE ⊢
    generalize w3.heap.size=gN at NB ⊢
    generalize wr.heap.size=Bd at WN HEE hKB
    have kb:=KB.out
    have nb:=NB.out
    have ltk:=kb.lt
    have ltn:=nb.lt
    have k3:=(kb.at_ (k:=3) (v:=.slice A3r 4 c3r) rfl).1
    have q3:=(nb.at_ (k:=3) (v:=.slice A3N 4 c3N) rfl).1
    clear kb nb
    go_upto_region 11 with fail
    clear ltk ltn k3 q3
    go_loopw [68] (λ i wr=>∃ j:Nat,j<=4/\i=.int .i64 (j:Int)/\Hid (Gr V wr)) (λ i _=>4-(intOf i).toNat)
    case atStart=>exact⟨0,by decide,rfl,hid (Gr.refl _)⟩
    case round =>
     obtain⟨j,hj,rfl,HV⟩:=hrel
     have kb:=KB.out.gr HV.out
     have nb:=NB.out.gr HV.out
     have ltk:=kb.lt
     have ltn:=nb.lt
     by_cases hj4:j<4
     . have j0:(0:Int)<=(j:Int):=by omega
       have j1:(j:Int)<4:=by omega
       obtain⟨bm,om,xm,hA3,hbm,hxm,-,e0,-,-⟩:=T3Mem.cells (k:=j) ((WR.out.gr HV.out).is).m hj4
       obtain⟨bn,on,ym,hB3,hbn,hym,-,f0,-,-⟩:=T3Mem.cells (k:=j) ((WN.out.gr HV.out).is).m hj4
       dsimp only at hA3 hB3
       subst hA3 hB3
       obtain⟨a,b,c,q,a',b',c',q',hx1,hq1,hy1,hq2,hin,hz,he⟩:=hand_at HHK.out HFO.out HPF.out hj4 hxm hym
       rw [hx1] at e0
       rw [hy1] at f0
       have cU:=λ W=>hid (P3.Unpack_ok a b c q hq1 W)
       have cV:=λ W=>hid (P3.Unpack_ok a' b' c' q' hq2 W)
       generalize P3.pw a b c q=wd0 at cU e0
       generalize P3.pw a' b' c' q'=wd1 at cV f0
       have k3:=(kb.at_ (k:=3) (v:=.slice (some ⟨bm,om,none⟩) 4 c3r) rfl).1
       have HIN:=hid hin
       have HZ:=hid hz
       have HEV:=hid he
       clear hxm hym hx1 hy1 hq1 hq2 hin hz he
       go_wp2_with fail
       with_reducible refine (cU _).out.mono ?_
       rintro e w8 ⟨rfl,g8⟩
       have nb8:=nb.gr g8
       have q3:=(nb8.at_ (k:=3) (v:=.slice (some ⟨bn,on,none⟩) 4 c3N) rfl).1
       have ltn8:=nb8.lt
       have f0:=(g8.cell (p:=⟨bn,on+j*3,none⟩) hbn).trans f0
       have hbn8:=Nat.lt_of_lt_of_le hbn g8.size
       have BF1:=Blk.new w8 #[.bool a,.bool b,.bool c,.int .i64 q] 42
       have G8:=(HV.out.trans g8).al (.cells #[.bool a,.bool b,.bool c,.int .i64 q] 42)
       clear g8 k3 e0 hbm ltk kb nb ltn
       go_wp2_with fail
       with_reducible refine (cV _).out.mono ?_
       rintro e w9 ⟨rfl,g9⟩
       have B1:=hid ((BF1.gr g9).al (.cells #[.bool a',.bool b',.bool c',.int .i64 q'] 42))
       have B2:=hid (Blk.new w9 #[.bool a',.bool b',.bool c',.int .i64 q'] 42)
       have G9:=hid ((G8.trans g9).al (.cells #[.bool a',.bool b',.bool c',.int .i64 q'] 42))
       clear g9 BF1 G8 cU cV nb8 q3 ltn8 f0 hbn8 hbn
       go_upto_region 15 with fail
       generalize w9.alloc (.cells #[.bool a',.bool b',.bool c',.int .i64 q'] 42)=V9 at B1 B2 G9 ⊢
       generalize w9.heap.size=f2 at B2 ⊢
       generalize w8.heap.size=f1 at B1 ⊢
       have kb:=KB.out.gr G9.out
       have ltk:=kb.lt
       have k2:=(kb.at_ (k:=2) (v:=.slice A2r n2r c2r) rfl).1
       have b1:=B1.out
       have b2:=B2.out
       have lt1:=b1.lt
       have lt2:=b2.lt
       obtain⟨x0,x1,x2,x3⟩:V9.cell? ⟨f1,0,none⟩=some (.bool a)/\V9.cell? ⟨f1,1,none⟩=some (.bool b)/\V9.cell? ⟨f1,2,none⟩=some (.bool c)/\V9.cell? ⟨f1,3,none⟩=some (.int .i64 q):=⟨(b1.at_ (k:=0) rfl).1,(b1.at_ (k:=1) rfl).1,(b1.at_ (k:=2) rfl).1,(b1.at_ (k:=3) rfl).1⟩
       obtain⟨y0,y1,y2,y3⟩:V9.cell? ⟨f2,0,none⟩=some (.bool a')/\V9.cell? ⟨f2,1,none⟩=some (.bool b')/\V9.cell? ⟨f2,2,none⟩=some (.bool c')/\V9.cell? ⟨f2,3,none⟩=some (.int .i64 q'):=⟨(b2.at_ (k:=0) rfl).1,(b2.at_ (k:=1) rfl).1,(b2.at_ (k:=2) rfl).1,(b2.at_ (k:=3) rfl).1⟩
       clear kb b1 b2
       go_cut [112] (λ t wx=>t=.bool false/\wx=V9)
       case first =>
        as_aux_lemma =>
         obtain⟨dd,hdd⟩:=yn (a=a'/\b=b'/\c=c'/\q=q')
         have hne:=λ W=>run_flags_neq a b c q a' b' c' q' hdd W
         cases dd with
         | true =>
          clear hdd
          go_wp2_with fail
          go_meet
          exact⟨rfl,rfl⟩
         | false =>
          obtain⟨hw0,hw1⟩:=HIN.out.resolve_left (λ h=>by have:=hdd.2 h;simp at this)
          rw [HCL.out] at hw1
          have hw2:¬ who<0:=by omega
          have hw3:¬ (n2r:Int)<=who:=by omega
          clear hdd hw0 hw1
          go_wp2_with fail
          go_meet
          exact⟨rfl,rfl⟩
       obtain⟨rfl,hwx⟩:=hcut
       obtain rfl:V9=wc:=hwx.symm
       clear hwx
       go_upto_region 17 with fail
       go_cut [156] (λ t wx=>t=.bool false/\wx=V9)
       case first =>
        as_aux_lemma =>
         rcases HZ.out with rfl | ⟨i,z,rfl,hz,hcc⟩
         . cases c<;>(go_wp2_with fail;go_meet;exact⟨rfl,rfl⟩)
         . have hc0:CMem V9 A2r n2r ω.cl:=((WR.out.gr G9.out).is).c
           have hi:i<n2r:=by have h1:=hc0.len;have h2:=(List.getElem?_eq_some_iff.1 hz).1;omega
           have hi0:(0:Int)<=(i:Int):=by omega
           have hi1:(i:Int)<(n2r:Int):=by omega
           obtain⟨bc,oc,z',hA2,hbc,hz',-,z0,z1,z2,z3,z4,z5,z6,z7,z8,z9,-⟩:=CMem.cells hc0 hi
           rw [hz] at hz'
           cases hz'
           rw [hA2] at k2
           clear hc0 hz hi hA2
           rcases hcc with ⟨rfl,rfl,hpc,hst⟩ | ⟨rfl,rfl,hpc⟩
           . rw [hpc] at z3
             rw [hst] at z9
             go_wp2_with fail
             go_meet
             exact⟨rfl,rfl⟩
           . rw [hpc] at z3
             go_wp2_with fail
             go_meet
             exact⟨rfl,rfl⟩
       obtain⟨rfl,hwx⟩:=hcut
       obtain rfl:V9=wc:=hwx.symm
       clear hwx
       rcases HHK.out.few with rfl | ⟨ea,ee,en,rfl⟩
       . as_aux_lemma =>
          obtain rfl:n'=0:=(HEE.out.is).len.symm
          go_upto_region 20 with fail
          clear k2 ltk lt1 lt2 x0 x1 x2 x3 y0 y1 y2 y3
          go_loopw [159] (λ i wr=>i=.int .i64 0/\Hid (Gr V9 wr)) (λ i _=>1-(intOf i).toNat)
          case atStart=>exact⟨rfl,hid (Gr.refl _)⟩
          case round =>
           obtain⟨rfl,GE⟩:=hrel
           go_wp2_with fail
           go_roundw
           case rel=>exact⟨j+1,by omega,by go_num,hid (G9.out.trans GE.out)⟩
           case measure=>simp [intOf];omega
       . as_aux_lemma =>
          obtain rfl:n'=1:=(HEE.out.is).len.symm
          obtain⟨be,oe,y,hAe,hbe,hy,-,e0,e1,e2⟩:=T3Mem.cells (k:=0) ((HEE.out.gr G9.out).is) (by decide)
          cases hy
          subst hAe
          simp only [Nat.zero_mul,Nat.add_zero] at e0 e1 e2
          have HE2:=hid (HEV.out ea ee en rfl)
          clear x0 x1 x3 y0 y1 y2 y3 lt2
          go_upto_region 20 with fail
          go_loopw [159] (λ i wr=>(i=.int .i64 0/\wr=V9)\/(i=.int .i64 1/\Hid (Gr V9 wr))) (λ i _=>1-(intOf i).toNat)
          case atStart=>exact .inl ⟨rfl,rfl⟩
          case round =>
           rcases hrel with ⟨rfl,hVw⟩ | ⟨rfl,GE⟩
           . subst hVw
             have GX:=hid ((Gr.refl wr).al (.cells #[.int .i64 ea,.int .i64 ee,.int .i64 en] 40))
             obtain⟨BB,hBB⟩:∃ BB,(en==(j:Int))=BB:=⟨_,rfl⟩
             have hb:=hBB
             clear hBB
             cases BB with
             | false =>
              clear HE2 x2 k2
              go_wp2_with fail
              go_roundw
              case rel=>exact .inr ⟨by go_num,GX⟩
              case measure=>simp [intOf]
             | true =>
              have hen:=eq_of_beq hb
              cases c with
              | false =>
               clear HE2 k2 hen
               go_wp2_with fail
               go_roundw
               case rel=>exact .inr ⟨by go_num,GX⟩
               case measure=>simp [intOf]
              | true =>
               rcases HE2.out with hq | hq | ⟨hq1,hq0⟩ | ⟨rfl,i,z,rfl,hz,hpc⟩
               . exact absurd hen hq
               . cases hq
               . have hq1':(ee==1)=false:=by simpa using hq1
                 have hq0':(ee==0)=false:=by simpa using hq0
                 clear hq1 hq0 HE2 k2 hen
                 go_wp2_with fail
                 go_roundw
                 case rel=>exact .inr ⟨by go_num,GX⟩
                 case measure=>simp [intOf]
               . have hc0:CMem wr A2r n2r ω.cl:=((WR.out.gr G9.out).is).c
                 have hi:i<n2r:=by have h1:=hc0.len;have h2:=(List.getElem?_eq_some_iff.1 hz).1;omega
                 have hi0:(0:Int)<=(i:Int):=by omega
                 have hi1:(i:Int)<(n2r:Int):=by omega
                 obtain⟨bc,oc,z',hA2,hbc,hz',-,z0,z1,z2,z3,-⟩:=CMem.cells hc0 hi
                 rw [hz] at hz'
                 cases hz'
                 rw [hA2] at k2
                 rw [hpc] at z3
                 clear hc0 hz hi hA2 z0 z1 z2 HE2 hen
                 go_wp2_with fail
                 go_roundw
                 case rel=>exact .inr ⟨by go_num,GX⟩
                 case measure=>simp [intOf]
           . clear e0 e1 e2 hbe k2 ltk lt1 x2 HE2
             go_wp2_with fail
             go_roundw
             case rel=>exact⟨j+1,by omega,by go_num,hid (G9.out.trans GE.out)⟩
             case measure=>simp [intOf];omega
     . obtain rfl:j=4:=by omega
       have BF:=hid (put6_blk kb rfl (.int .i64 nowN) (.slice A1N n1N c1N) (.slice A2N n2N c2N) (.slice A3N 4 c3N) (.slice A4N n4N c4N) (.int .i64 stopN))
       have GF:=hid (put6_gr (x0:=.int .i64 nowN) (x1:=.slice A1N n1N c1N) (x2:=.slice A2N n2N c2N) (x3:=.slice A3N 4 c3N) (x4:=.slice A4N n4N c4N) (x5:=.int .i64 stopN) (b:=K) (GV.out.trans HV.out) hKw)
       have WF:=hid (WAt.new (S:=λ k=>k=K) ((WN.out.gr HV.out).to (FromB.put6 (b:=K) hKB (.int .i64 nowN) (.slice A1N n1N c1N) (.slice A2N n2N c2N) (.slice A3N 4 c3N) (.slice A4N n4N c4N) (.int .i64 stopN))) (λ k hk=>by omega))
       obtain⟨p0,pz0⟩:=kb.at_ (k:=0) (v:=.int .i64 nowr) rfl
       obtain⟨p1,pz1⟩:=kb.at_ (k:=1) (v:=.slice A1r n1r c1r) rfl
       obtain⟨p2,pz2⟩:=kb.at_ (k:=2) (v:=.slice A2r n2r c2r) rfl
       obtain⟨p3,pz3⟩:=kb.at_ (k:=3) (v:=.slice A3r 4 c3r) rfl
       obtain⟨p4,pz4⟩:=kb.at_ (k:=4) (v:=.slice A4r n4r c4r) rfl
       obtain⟨p5,pz5⟩:=kb.at_ (k:=5) (v:=.int .i64 stopr) rfl
       obtain⟨q0,qz0⟩:=nb.at_ (k:=0) (v:=.int .i64 nowN) rfl
       obtain⟨q1,qz1⟩:=nb.at_ (k:=1) (v:=.slice A1N n1N c1N) rfl
       obtain⟨q2,qz2⟩:=nb.at_ (k:=2) (v:=.slice A2N n2N c2N) rfl
       obtain⟨q3,qz3⟩:=nb.at_ (k:=3) (v:=.slice A3N 4 c3N) rfl
       obtain⟨q4,qz4⟩:=nb.at_ (k:=4) (v:=.slice A4N n4N c4N) rfl
       obtain⟨q5,qz5⟩:=nb.at_ (k:=5) (v:=.int .i64 stopN) rfl
       clear kb nb HV
       go_wp2_with fail
       go_roundw
       case rel=>exact⟨k+1,ψ,⟨nowN,⟨A1N,n1N,c1N⟩,⟨A2N,n2N,c2N⟩,⟨A3N,4,c3N⟩,⟨A4N,n4N,c4N⟩,stopN⟩,by omega,by go_num,HPF,HPN,BF,WF,GF⟩
       case measure=>simp [intOf];omega
  . obtain rfl:k=N:=by omega
    have cA:=hid (alive_is (w:=wr) hM (hg.gr HG.out))
    go_wp2_with fail
    with_reducible refine cA.out.mono ?_
    rintro e w9 ⟨rfl,g9⟩
    go_wp2_with fail
    go_ret
    exact⟨rfl,HG.out.trans g9⟩
end
end P16
end
section
open Go.ChangeShapes Go.WideShapes Go.ChangeAt Go.RowKit Go.Joins
namespace P15
def laidL : List (String × DataW Unit) := [("deadbolt/give.states", Rows.laid_deadbolt_give_states)]
theorem laidL_shaped (os:Os) (args:Array Value):((World.laidAll Tryz.prog os laidL).forCall (λ _ _=>0) ⟨#[],args,[]⟩).Shaped Tryz.prog :=
 World.shaped_of_ZipB (by kernel_rfl) (by kernel_rfl)
theorem laidL_met (os:Os) (args:Array Value):laidMetH Tryz.prog laidL ((World.laidAll Tryz.prog os laidL).forCall (λ _ _=>0) ⟨#[],args,[]⟩).memory:=by
 rw [MakeChecks.laidMetH_plain _ _ _ (by kernel_rfl)]
 exact laidMet_laidAll _ (by kernel_rfl) (by kernel_rfl)
section
variable {W:World}
theorem metL (h:laidMetH Tryz.prog laidL W):laidMet Tryz.prog laidL W:=by
 rwa [MakeChecks.laidMetH_plain _ _ _ (by kernel_rfl)] at h
theorem states_of {rest : List (String × DataW Unit)} (h : laidMet Tryz.prog (("deadbolt/give.states", Rows.laid_deadbolt_give_states) :: rest) W) : Glob W := by
 obtain⟨ps,⟨g,t,cs,fuel,p,q,hg,ht,hv,hd,_,_⟩,_⟩:=h
 obtain rfl := Option.some.inj ((show Tryz.prog.globalNamed "deadbolt/give.states" = some 0 by kernel_rfl).symm.trans hg)
 obtain rfl:=Option.some.inj ((show (Tryz.prog.globals[0]?).map (·.type)=some 263 by kernel_rfl).symm.trans ht)
 obtain⟨xs,m,_,ex,hcl,hl,hel⟩:=DataW.trod_array Tryz.underlying263 hd
 have c1:Tryz.prog.cellsOf 3=1:=by kernel_rfl
 have c8:Tryz.prog.cellsOf 263=8:=by kernel_rfl
 rw [c8] at hcl
 rw [c1] at hel
 have e3:xs.map (·.1)=[.lit (.int .i64 0),.lit (.int .i64 3),.lit (.int .i64 1),.lit (.int .i64 3),.lit (.int .i64 2),.lit (.int .i64 3),.lit (.int .i64 2),.lit (.int .i64 3)]:=(DataW.agg.inj (Prod.mk.inj ex).1).symm
 have each:∀ i (z:Int),i<8->(xs.map (·.1))[i]?=some (.lit (.int .i64 z))->cs.toList[i]?=some (.int .i64 z):=by
  intro i z hi hb
  have hE:=hel i hi
  rw [List.getElem?_eq_getElem (by omega)] at hE
  obtain⟨s,e1,e2,_⟩:=DataW.trod_int Tryz.underlying3 hE
  rw [List.getElem?_map,List.getElem?_eq_getElem (by omega:i<xs.length),e2] at hb
  simp only [Option.map_some,Option.some.injEq,DataW.lit.injEq,Lit.int.injEq,true_and] at hb
  rw [<- hb]
  have h0:((cs.toList.drop (i*1)).take 1)[0]?=some (.int .i64 s):=by rw [e1];rfl
  simpa using h0
 unfold Glob
 rw [hv]
 refine congrArg some (Array.ext' (List.ext_getElem? λ i=>?_))
 match i with
 | 0=>exact each 0 _ (by omega) (by rw [e3];rfl)
 | 1=>exact each 1 _ (by omega) (by rw [e3];rfl)
 | 2=>exact each 2 _ (by omega) (by rw [e3];rfl)
 | 3=>exact each 3 _ (by omega) (by rw [e3];rfl)
 | 4=>exact each 4 _ (by omega) (by rw [e3];rfl)
 | 5=>exact each 5 _ (by omega) (by rw [e3];rfl)
 | 6=>exact each 6 _ (by omega) (by rw [e3];rfl)
 | 7=>exact each 7 _ (by omega) (by rw [e3];rfl)
 | n+8 =>
  rw [List.getElem?_eq_none (by omega),List.getElem?_eq_none (by simp)]
theorem globL (h:laidMetH Tryz.prog laidL W) (hs:W.ShapedOpen Tryz.prog):Glob W:=states_of (metL h)
end
end P15
end
section
open Go.ChangeShapes Go.WideShapes Go.ChangeAt Go.RowKit Go.Joins
namespace P16
abbrev laidL:=P15.laidL
theorem laidL_shaped (os:Os) (args:Array Value):((World.laidAll Tryz.prog os laidL).forCall (λ _ _=>0) ⟨#[],args,[]⟩).Shaped Tryz.prog:=P15.laidL_shaped os args
theorem laidL_met (os:Os) (args:Array Value):laidMetH Tryz.prog laidL ((World.laidAll Tryz.prog os laidL).forCall (λ _ _=>0) ⟨#[],args,[]⟩).memory:=P15.laidL_met os args
theorem globL {W:World} (h:laidMetH Tryz.prog laidL W) (hs:W.ShapedOpen Tryz.prog):P15.Glob W:=P15.globL h hs
end P16
end
section
open Go.ChangeShapes Go.WideShapes Go.ChangeAt Go.RowKit Go.Joins
theorem MachineHands_lifted (os:Os) (started:os.Started) (H:Type) (enc:TypeId×Value->H) :
 ReturnsInHanded {} Tryz.checked os 5 .any (λ w args=>(Rows.machineHandsSpec.pre enc Tryz.prog Tryz.f5 Rows.machineHandsRow.domain false w args/\laidMetH Tryz.prog P16.laidL w)/\sizedMet enc Tryz.prog Tryz.f5 (OpenSpec.ofChange Rows.machineHandsSpec) false w args)
  (Rows.machineHandsSpec.post enc Tryz.prog Tryz.f5 false true false false):=by
 refine LW.returns_laid_shaped (C:=Tryz.checked) (X:=λ w _=>laidMetH Tryz.prog P16.laidL w) (λ _ _ _ hh h=>laidMetH.of_heap hh h) own started (by kernel_rfl) Tryz.func5
  (ChangeSpec.witness_shaped (enc:=enc) (C:=Tryz.checked) (os:=os) (X:=λ w _=>laidMetH Tryz.prog P16.laidL w) false (World.laidAll Tryz.prog os P16.laidL) #[.slice none 0 0,.slice none 0 0] 8 (World.laidAll_os _ _ _) (P16.laidL_shaped os _) (by kernel_rfl) (by kernel_rfl) (by kernel_rfl) (P16.laidL_met os _)) ?_
 intro W base args ds gs before hval0 hW hL hS
 have hval:∀ (j:Nat) t v,Tryz.f5.params[j]?=some t->args[j]?=some v->Value.okWide Tryz.prog W .any base t v:=hval0
 have hW':=hW
 obtain⟨p,q,hA0,hV,rfl,hfz,hnd⟩:=hW
 have hA:DataW.TrodAll enc Tryz.prog W 0 (λ _=>true) true Tryz.f5.params.toList args.toList ds p:=hA0
 rw [Tryz.params5] at hA hval
 have hK:=hA
 obtain⟨v0,vs0,d0,ds0,p0,q0,hargs,rfl,hp,h0,r0⟩:=trodAll_cons hA
 obtain⟨v1,vs1,d1,ds1,p1,q1,rfl,rfl,rfl,h1,r1⟩:=trodAll_cons r0
 obtain⟨rfl,rfl,rfl⟩:=trodAll_nil r1
 obtain rfl:args=#[v0,v1]:=by cases args;simp_all
 obtain⟨rfl,rfl⟩:=trodVars_none hV
 obtain⟨A0,n0,c0,R0,rfl,hc0,hn0,hm0⟩:=P12.open_acts2 (hval 0 22 v0 rfl rfl) h0
 obtain⟨A1,n1,c1,l1,rfl,hc1,hn1,hm1⟩:=open_ints (hval 1 23 v1 rfl rfl) h1
 clear hA0 hval0
 refine (P16.MachineHands_walk P16.mach (P16.globL hL hS) hc0 hn0 hm0 hc1 hn1 hm1).mono λ e W' ⟨he,hg⟩=>?_
 subst he
 exact⟨_,rfl,post_below (pa:=p) (pv:=[]) hW' (λ _ _ _=>(trodAll_cons_mk (shut_bool Tryz.underlying4 _) trodAll_mk0))
  (λ sp hs=>trodAll_stays laidOut hg sp (by kernel_rfl) hK (λ x hx=>hW'.lt x (List.mem_append_left _ hx)) (λ x hx=>hs x (List.mem_append_left _ hx))) (λ _ _=>rfl) rfl
  hg (ok_one (by kernel_rfl) rfl (okWide_bool_mk Tryz.underlying4 _))⟩
theorem MachineHands_closed:joinedFacts Tryz.pinned.checked.prog 5 Tryz.f5 Rows.machineHandsSpec Rows.machineHandsRow=true:=by kernel_rfl
theorem MachineHands_over:Rows.machineHandsRow.holds Tryz.pinned (OpenSpec.ofChange Rows.machineHandsSpec) :=
 OpenClaim.holds_of_wide 5 Tryz.f5 rfl rfl rfl rfl rfl rfl rfl ⟨rfl,rfl,rfl,rfl,rfl⟩ rfl rfl rfl rfl rfl (by kernel_rfl) Tryz.func5 MachineHands_closed
  (of_decide_eq_true (by kernel_rfl)) (by unfold Func.isWrapper;first | (rw [if_pos (by decide +kernel)];kernel_rfl) | (rw [if_neg (by decide +kernel)];exact⟨rfl,rfl⟩))
  (λ os started H enc _=>MachineHands_lifted os started H enc)
theorem MachineHands_card:Rows.MachineHandsCardSaid :=
 Claim7.holds_tied_plain_at .later [] [.data] true _ true
  MachineHands_over (λ _ h=>by cases h) (by kernel_rfl) (λ _ h=>by cases h) machineHands_row_tie rfl ⟨rfl,rfl⟩ (by kernel_rfl) rfl
  (λ f fn hf hfn=>by
    obtain rfl : f = 5 := Option.some.inj ((show Tryz.prog.funcNamed "deadbolt/deadboltlaw16.MachineHands" = some 5 by kernel_rfl).symm.trans hf) |>.symm
    obtain rfl:fn=Tryz.f5:=(Option.some.inj (Tryz.func5.symm.trans hfn)).symm
    exact⟨by kernel_rfl,λ j t ht=>by
     rw [Tryz.params5] at ht
     have hm:t∈[22,23]:=by
      have:=Array.mem_of_getElem? ht
      simpa using this
     have hall:([22,23]:List TypeId).all (λ t=>Tryz.prog.wantsStandIn t==false)=true:=by kernel_rfl
     have hw:=List.all_eq_true.1 hall t hm
     exact beq_iff_eq.1 hw⟩)
  (by kernel_rfl)
#print axioms MachineHands_card
end
end Go.Proofs.YtainfijdhcehlaaGreatDoor
