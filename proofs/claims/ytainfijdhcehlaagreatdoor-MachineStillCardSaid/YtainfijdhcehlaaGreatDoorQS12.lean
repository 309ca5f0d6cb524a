/-
  A part of the proof.
-/
import Derived.Test.YtainfijdhcehlaaGreatDoorQS11
set_option linter.all false
set_option maxRecDepth 100000
set_option maxHeartbeats 8000000
namespace Go.Proofs.YtainfijdhcehlaaGreatDoor
open Lib (hid)
section
open Go.ChangeShapes Go.WideShapes Go.ChangeAt Go.RowKit
namespace P16
open P12 (PV PMem)
abbrev p0:List Ac:=[(0,0),(2,0)]
theorem p0_right:P12.rightB [p0]=true:=by decide
theorem alive_math {ψ ψ':Wv} {ev ev':List T3} {x x':Int} (h1:StepM (newW [p0]) 0 ψ ev x) (h2:StepM ψ 0 ψ' ev' x') :
 x=0/\x'=0/\ev=[(0,0,0)]/\ev'=[(0,3,0)]/\∃ c,ψ'.cl=[c]/\c.gst=2:=by
 have f0:=Fine.new p0_right
 obtain⟨f1,rfl,_,q | ⟨_,_,_,e1,rfl⟩⟩:=StepM.fine f0 h1
 . exact absurd q.1 (by decide)
 obtain⟨f2,rfl,_,q | ⟨_,_,_,e2,rfl⟩⟩:=StepM.fine f1 h2
 . exact absurd q.1 (by decide)
 have s1:stp (mw (newW [p0])) (0:Int).toNat=(W1 p0 1 0 (some 0) 0,some (0,0,0)):=by
  rw [mw_new,new_one]
  exact alone_lock (p:=p0) (a:=0) (n:=0) rfl
 rw [s1] at e1 ⊢
 have s2:stp (mw ψ) (0:Int).toNat=(W1 p0 2 0 none 0,some (0,3,0)):=by
  rw [e1]
  exact alone_give (p:=p0) (a:=1) (n:=0) rfl
 rw [s2] at e2 ⊢
 refine⟨rfl,rfl,rfl,rfl,?_⟩
 have e3:ψ'.cl=(W1 p0 2 0 none 0).cl:=congrArg Mw.cl e2
 exact⟨cAt 2 0 2,e3,by decide⟩
section
variable {w:World}
theorem alive_is (hM:Mach) (hg:P15.Glob w):Calls Tryz.prog 14 #[] w λ e w'=>e=.returned (.bool true)/\Gr w w':=by
 have b0:=Blk.new w #[.int .i64 0,.int .i64 0,.int .i64 2,.int .i64 0] 67
 have b1:=Blk.new (w.alloc (.cells #[.int .i64 0,.int .i64 0,.int .i64 2,.int .i64 0] 67)) #[.slice (some ⟨w.heap.size,0,none⟩) 2 2] 64
 have g1:=((Gr.refl w).al (.cells #[.int .i64 0,.int .i64 0,.int .i64 2,.int .i64 0] 67)).al (.cells #[.slice (some ⟨w.heap.size,0,none⟩) 2 2] 64)
 have hm:=P12.mem_blk (b0.al (.cells #[.slice (some ⟨w.heap.size,0,none⟩) 2 2] 64)) (l:=p0) rfl (by simp [Inb])
 have hP:=P12.pmem_one (x:=⟨some ⟨w.heap.size,0,none⟩,2,2,p0⟩) b1 ⟨hm,Nat.le_refl _,by show (2:Nat)<=9223372036854775807;decide⟩
 rw [World.size_alloc] at hP
 have cN:=hid (hM.new _ _ 1 1 _ (hg.gr g1) hP (by decide))
 have HG1:=hid g1
 clear b0 b1 hm hP g1
 go_enter Tryz.func14,Tryz.ntmps14
 go_wp2_with fail
 with_reducible refine cN.out.mono ?_
 rintro e w1 ⟨⟨s,ψ,x,rfl,hN,hW⟩,g2⟩
 obtain⟨rfl,rfl⟩:ψ=newW [p0]/\x=0:=by
  rcases hN with ⟨_,q⟩ | ⟨q,_⟩
  . exact q
  . exact absurd (show P12.rightB [p0]=false from q) (by decide)
 obtain⟨now,⟨A1,n1,c1⟩,⟨A2,n2,c2⟩,⟨A3,n3,c3⟩,⟨A4,n4,c4⟩,stop⟩:=s
 dsimp only at *
 have B1:=Blk.new w1 #[.int .i64 now,.slice A1 n1 c1,.slice A2 n2 c2,.slice A3 n3 c3,.slice A4 n4 c4,.int .i64 stop] 29
 have WW:=hid (hW.gr ((Gr.refl w1).al (.cells #[.int .i64 now,.slice A1 n1 c1,.slice A2 n2 c2,.slice A3 n3 c3,.slice A4 n4 c4,.int .i64 stop] 29)))
 have G1:=(HG1.out.trans g2).al (.cells #[.int .i64 now,.slice A1 n1 c1,.slice A2 n2 c2,.slice A3 n3 c3,.slice A4 n4 c4,.int .i64 stop] 29)
 have KK:=g2.size
 have hK:w.heap.size<=w1.heap.size:=(HG1.out.trans g2).size
 clear hN hW g2 cN
 go_upto_region 2 with fail
 generalize w1.alloc (.cells #[.int .i64 now,.slice A1 n1 c1,.slice A2 n2 c2,.slice A3 n3 c3,.slice A4 n4 c4,.int .i64 stop] 29)=W1 at B1 WW G1 ⊢
 generalize w1.heap.size=K at B1 KK hK ⊢
 have lt1:=B1.lt
 obtain⟨a0,az0⟩:=B1.at_ (k:=0) (v:=.int .i64 now) rfl
 obtain⟨a1,az1⟩:=B1.at_ (k:=1) (v:=.slice A1 n1 c1) rfl
 obtain⟨a2,az2⟩:=B1.at_ (k:=2) (v:=.slice A2 n2 c2) rfl
 obtain⟨a3,az3⟩:=B1.at_ (k:=3) (v:=.slice A3 n3 c3) rfl
 obtain⟨a4,az4⟩:=B1.at_ (k:=4) (v:=.slice A4 n4 c4) rfl
 obtain⟨a5,az5⟩:=B1.at_ (k:=5) (v:=.int .i64 stop) rfl
 have cS:=hid (hM.step W1 ⟨now,⟨A1,n1,c1⟩,⟨A2,n2,c2⟩,⟨A3,n3,c3⟩,⟨A4,n4,c4⟩,stop⟩ _ 0 (hg.gr G1) WW.out.is ⟨by decide,by decide⟩)
 go_wp2_with fail
 with_reducible refine cS.out.mono ?_
 rintro e w2 ⟨⟨s,ψ,A,n,c,ev,x,rfl,hS,hW,hE,hnc,hcm⟩,g3⟩
 obtain⟨now',⟨A1',n1',c1'⟩,⟨A2',n2',c2'⟩,⟨A3',n3',c3'⟩,⟨A4',n4',c4'⟩,stop'⟩:=s
 dsimp only at *
 have B2:=B1.gr g3
 have G2:=G1.trans g3
 have lt2:=B2.lt
 clear a0 az0 a1 az1 a2 az2 a3 az3 a4 az4 a5 az5
 obtain⟨a0,az0⟩:=B2.at_ (k:=0) (v:=.int .i64 now) rfl
 obtain⟨a1,az1⟩:=B2.at_ (k:=1) (v:=.slice A1 n1 c1) rfl
 obtain⟨a2,az2⟩:=B2.at_ (k:=2) (v:=.slice A2 n2 c2) rfl
 obtain⟨a3,az3⟩:=B2.at_ (k:=3) (v:=.slice A3 n3 c3) rfl
 obtain⟨a4,az4⟩:=B2.at_ (k:=4) (v:=.slice A4 n4 c4) rfl
 obtain⟨a5,az5⟩:=B2.at_ (k:=5) (v:=.int .i64 stop) rfl
 have B3:=put6_blk B2 rfl (.int .i64 now') (.slice A1' n1' c1') (.slice A2' n2' c2') (.slice A3' n3' c3') (.slice A4' n4' c4') (.int .i64 stop')
 have G3:=hid (put6_gr (x0:=.int .i64 now') (x1:=.slice A1' n1' c1') (x2:=.slice A2' n2' c2') (x3:=.slice A3' n3' c3') (x4:=.slice A4' n4' c4') (x5:=.int .i64 stop') (b:=K) G2 hK)
 have W3:=hid (hW.to (FromB.put6 (b:=K) lt1 (.int .i64 now') (.slice A1' n1' c1') (.slice A2' n2' c2') (.slice A3' n3' c3') (.slice A4' n4' c4') (.int .i64 stop')))
 have E3:=hid (hE.to (FromB.put6 (b:=K) lt1 (.int .i64 now') (.slice A1' n1' c1') (.slice A2' n2' c2') (.slice A3' n3' c3') (.slice A4' n4' c4') (.int .i64 stop')))
 clear hW hE g3 cS B1 B2 G1 G2
 go_upto_region 3 with fail
 clear a0 az0 a1 az1 a2 az2 a3 az3 a4 az4 a5 az5
 generalize (((((w2.setCell ⟨K,0,none⟩ (.int .i64 now')).setCell ⟨K,1,none⟩ (.slice A1' n1' c1')).setCell ⟨K,2,none⟩ (.slice A2' n2' c2')).setCell ⟨K,3,none⟩ (.slice A3' n3' c3')).setCell ⟨K,4,none⟩ (.slice A4' n4' c4')).setCell ⟨K,5,none⟩ (.int .i64 stop')=V3 at B3 G3 W3 E3 ⊢
 have lt3:=B3.lt
 clear lt2
 obtain⟨b0,bz0⟩:=B3.at_ (k:=0) (v:=.int .i64 now') rfl
 obtain⟨b1,bz1⟩:=B3.at_ (k:=1) (v:=.slice A1' n1' c1') rfl
 obtain⟨b2,bz2⟩:=B3.at_ (k:=2) (v:=.slice A2' n2' c2') rfl
 obtain⟨b3,bz3⟩:=B3.at_ (k:=3) (v:=.slice A3' n3' c3') rfl
 obtain⟨b4,bz4⟩:=B3.at_ (k:=4) (v:=.slice A4' n4' c4') rfl
 obtain⟨b5,bz5⟩:=B3.at_ (k:=5) (v:=.int .i64 stop') rfl
 have cS:=hid (hM.step V3 _ _ 0 (hg.gr G3.out) W3.out.is ⟨by decide,by decide⟩)
 go_wp2_with fail
 with_reducible refine cS.out.mono ?_
 rintro e w4 ⟨⟨s,ψ',A',n',c',ev',x',rfl,hS',hW,hE,hnc',hcm'⟩,g3⟩
 obtain⟨now'',⟨A1'',n1'',c1''⟩,⟨A2'',n2'',c2''⟩,⟨A3'',n3'',c3''⟩,⟨A4'',n4'',c4''⟩,stop''⟩:=s
 dsimp only at *
 obtain⟨rfl,rfl,rfl,rfl,cc,hcl,hgst⟩:=alive_math hS hS'
 have B2:=B3.gr g3
 have G2:=G3.out.trans g3
 have lt2:=B2.lt
 clear b0 bz0 b1 bz1 b2 bz2 b3 bz3 b4 bz4 b5 bz5
 obtain⟨b0,bz0⟩:=B2.at_ (k:=0) (v:=.int .i64 now') rfl
 obtain⟨b1,bz1⟩:=B2.at_ (k:=1) (v:=.slice A1' n1' c1') rfl
 obtain⟨b2,bz2⟩:=B2.at_ (k:=2) (v:=.slice A2' n2' c2') rfl
 obtain⟨b3,bz3⟩:=B2.at_ (k:=3) (v:=.slice A3' n3' c3') rfl
 obtain⟨b4,bz4⟩:=B2.at_ (k:=4) (v:=.slice A4' n4' c4') rfl
 obtain⟨b5,bz5⟩:=B2.at_ (k:=5) (v:=.int .i64 stop') rfl
 have B5:=put6_blk B2 rfl (.int .i64 now'') (.slice A1'' n1'' c1'') (.slice A2'' n2'' c2'') (.slice A3'' n3'' c3'') (.slice A4'' n4'' c4'') (.int .i64 stop'')
 have G5:=hid (put6_gr (x0:=.int .i64 now'') (x1:=.slice A1'' n1'' c1'') (x2:=.slice A2'' n2'' c2'') (x3:=.slice A3'' n3'' c3'') (x4:=.slice A4'' n4'' c4'') (x5:=.int .i64 stop'') (b:=K) G2 hK)
 have W5:=hid (hW.to (FromB.put6 (b:=K) lt3 (.int .i64 now'') (.slice A1'' n1'' c1'') (.slice A2'' n2'' c2'') (.slice A3'' n3'' c3'') (.slice A4'' n4'' c4'') (.int .i64 stop'')))
 have E5:=hid (hE.to (FromB.put6 (b:=K) lt3 (.int .i64 now'') (.slice A1'' n1'' c1'') (.slice A2'' n2'' c2'') (.slice A3'' n3'' c3'') (.slice A4'' n4'' c4'') (.int .i64 stop'')))
 have E6:=hid ((E3.out.gr g3).to (FromB.put6 (b:=K) lt1 (.int .i64 now'') (.slice A1'' n1'' c1'') (.slice A2'' n2'' c2'') (.slice A3'' n3'' c3'') (.slice A4'' n4'' c4'') (.int .i64 stop'')))
 clear hW hE g3 cS B3 B2 G2 hS hS' E3
 go_upto_region 4 with fail
 clear b0 bz0 b1 bz1 b2 bz2 b3 bz3 b4 bz4 b5 bz5
 generalize (((((w4.setCell ⟨K,0,none⟩ (.int .i64 now'')).setCell ⟨K,1,none⟩ (.slice A1'' n1'' c1'')).setCell ⟨K,2,none⟩ (.slice A2'' n2'' c2'')).setCell ⟨K,3,none⟩ (.slice A3'' n3'' c3'')).setCell ⟨K,4,none⟩ (.slice A4'' n4'' c4'')).setCell ⟨K,5,none⟩ (.int .i64 stop'')=V5 at B5 G5 W5 E5 E6 ⊢
 have lt5:=B5.lt
 clear lt2 lt3
 obtain⟨b0,bz0⟩:=B5.at_ (k:=0) (v:=.int .i64 now'') rfl
 obtain⟨b1,bz1⟩:=B5.at_ (k:=1) (v:=.slice A1'' n1'' c1'') rfl
 obtain⟨b2,bz2⟩:=B5.at_ (k:=2) (v:=.slice A2'' n2'' c2'') rfl
 obtain⟨b3,bz3⟩:=B5.at_ (k:=3) (v:=.slice A3'' n3'' c3'') rfl
 obtain⟨b4,bz4⟩:=B5.at_ (k:=4) (v:=.slice A4'' n4'' c4'') rfl
 obtain⟨b5,bz5⟩:=B5.at_ (k:=5) (v:=.int .i64 stop'') rfl
 obtain rfl:n=1:=(E6.out.is).len.symm
 obtain rfl:n'=1:=(E5.out.is).len.symm
 obtain⟨b,off,y,rfl,hb,hy,-,d0,d1,d2⟩:=T3Mem.cells (k:=0) E6.out.is (by decide)
 cases hy
 obtain⟨b',off',y,rfl,hb',hy,-,f0,f1,f2⟩:=T3Mem.cells (k:=0) E5.out.is (by decide)
 cases hy
 have WI:=W5.out.is
 have hl:=WI.c.len
 rw [hcl] at hl
 have hl:1=n2'':=hl
 subst hl
 have hc0:CMem V5 A2'' 1 _:=WI.c
 obtain⟨b2,off2,z,rfl,hb2,hz,-,h0,-⟩:=CMem.cells (k:=0) hc0 (by decide)
 rw [hcl] at hz
 cases hz
 rw [hgst] at h0
 simp only [Nat.zero_mul,Nat.add_zero] at d0 d1 d2 f0 f1 f2 h0
 clear WI hc0 hcl hgst
 go_wp2_with fail
 go_ret
 exact⟨rfl,G5.out⟩
end
end P16
end
end Go.Proofs.YtainfijdhcehlaaGreatDoor
