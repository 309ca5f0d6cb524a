/-
  A part of the proof.
-/
import Derived.Test.YtainfijdhcehlaaGreatDoorRW3
set_option linter.unusedVariables false
set_option linter.unusedSimpArgs false
set_option maxRecDepth 100000
set_option maxHeartbeats 8000000
namespace Go.Proofs.YtainfijdhcehlaaGreatDoor
open Lib (hid)
section
open Go.ChangeShapes Go.WideShapes Go.ChangeAt Go.RowKit
namespace P16
open P12 (PV PMem)
def NextM (ω:Wv) (v:Int) (ψ:Wv) (ev:List T3) (who:Int) (b:Bool):Prop :=
 (v<0/\∃ x,TickM ω ((-v-1) % 5000000) ψ x/\ev=[]/\who=-1/\b=(x==0)) \/
 (0<=v/\∃ x,StepM ω (v % 9) ψ ev x/\who=v % 9/\b=(x==0))
section
variable {w:World} {r:WR} {ω:Wv} {v:Int}
theorem next_tick (hM:Mach) (hg:P15.Glob w) (h:WIs w r ω) (hv:B64 v) (h0:v<0) :
 Calls Tryz.prog 15 #[r.v,.int .i64 v] w λ e W'=>(∃ (s:WR) (ψ:Wv) (A:Option Addr) (n c:Nat) (ev:List T3) (who:Int) (b:Bool),e=.returned (.tuple #[s.v,.slice A n c,.int .i64 who,.bool b])/\NextM ω v ψ ev who b/\WNew w.heap.size W' s ψ/\ENew w.heap.size W' A n ev/\n<=c/\c<=9223372036854775807)/\Gr w W':=by
 obtain⟨D,hD⟩:∃ D,-v-1=D:=⟨_,rfl⟩
 obtain⟨d,hd⟩:∃ d,D % 5000000=d:=⟨_,rfl⟩
 have hv':=hv
 unfold B64 at hv'
 have e1:wrap64 (v+1)=v+1:=by unfold wrap64;omega
 have e2:wrap64 (-(v+1))=D:=by unfold wrap64;omega
 have e3:D.tmod 5000000=d:=by rw [Int.tmod_eq_emod_of_nonneg (by omega),hd]
 have cT:=λ W (g:Gr w W)=>hid (hM.tick W r ω d (hg.gr g) (h.gr g) ⟨by omega,by omega⟩)
 have HD:=hid (show (-v-1) % 5000000=d from by rw [hD,hd])
 have d0:0<=d:=by omega
 have d1:d<5000000:=by omega
 have D0:0<=D:=by omega
 have D1:D<=9223372036854775807:=by omega
 clear hd hv hv' h hg
 have HDv:=hid hD
 clear hD
 go_enter Tryz.func15,Tryz.ntmps15
 go_wp2_with fail
 with_reducible refine (cT _ (((Gr.refl w).al _).al _)).out.mono ?_
 rintro e w1 ⟨⟨s,ψ,x,rfl,hT,hW⟩,g1⟩
 obtain⟨now,⟨A1,n1,c1⟩,⟨A2,n2,c2⟩,⟨A3,n3,c3⟩,⟨A4,n4,c4⟩,stop⟩:=s
 dsimp only at *
 have K1:=Blk.new (w.alloc (.cells r.a 29)) #[.int .i64 0,.slice none 0 0,.slice none 0 0,.slice none 0 0,.slice none 0 0,.int .i64 0] 29 |>.gr g1
 rw [World.size_alloc] at K1
 have G1:=((((Gr.refl w).al (.cells r.a 29)).al (.cells #[.int .i64 0,.slice none 0 0,.slice none 0 0,.slice none 0 0,.slice none 0 0,.int .i64 0] 29)).trans g1)
 have B1:=Blk.new w1 #[.int .i64 now,.slice A1 n1 c1,.slice A2 n2 c2,.slice A3 n3 c3,.slice A4 n4 c4,.int .i64 stop] 29
 have K2:=K1.al (.cells #[.int .i64 now,.slice A1 n1 c1,.slice A2 n2 c2,.slice A3 n3 c3,.slice A4 n4 c4,.int .i64 stop] 29)
 have G2:=G1.al (.cells #[.int .i64 now,.slice A1 n1 c1,.slice A2 n2 c2,.slice A3 n3 c3,.slice A4 n4 c4,.int .i64 stop] 29)
 have hB:w.heap.size+1<((w.alloc (.cells r.a 29)).alloc (.cells #[.int .i64 0,.slice none 0 0,.slice none 0 0,.slice none 0 0,.slice none 0 0,.int .i64 0] 29)).heap.size:=by rw [World.size_alloc,World.size_alloc];omega
 have hB2:w.heap.size<=((w.alloc (.cells r.a 29)).alloc (.cells #[.int .i64 0,.slice none 0 0,.slice none 0 0,.slice none 0 0,.slice none 0 0,.int .i64 0] 29)).heap.size:=by omega
 have WW:=hid (hW.gr ((Gr.refl w1).al (.cells #[.int .i64 now,.slice A1 n1 c1,.slice A2 n2 c2,.slice A3 n3 c3,.slice A4 n4 c4,.int .i64 stop] 29)))
 have HX:=hid hT
 clear g1 K1 hT hW G1 e1 e2 e3 d0 d1 D0 D1 cT hM
 go_upto_region 3 with fail
 generalize w1.alloc (.cells #[.int .i64 now,.slice A1 n1 c1,.slice A2 n2 c2,.slice A3 n3 c3,.slice A4 n4 c4,.int .i64 stop] 29)=W1 at B1 K2 G2 WW ⊢
 generalize w1.heap.size=g at B1 ⊢
 have lt1:=K2.lt
 have ltg:=B1.lt
 have b0:=(B1.at_ (k:=0) (v:=.int .i64 now) rfl).1
 have b1:=(B1.at_ (k:=1) (v:=.slice A1 n1 c1) rfl).1
 have b2:=(B1.at_ (k:=2) (v:=.slice A2 n2 c2) rfl).1
 have b3:=(B1.at_ (k:=3) (v:=.slice A3 n3 c3) rfl).1
 have b4:=(B1.at_ (k:=4) (v:=.slice A4 n4 c4) rfl).1
 have b5:=(B1.at_ (k:=5) (v:=.int .i64 stop) rfl).1
 obtain⟨v0,x0⟩:=K2.at_ (k:=0) (v:=.int .i64 0) rfl
 obtain⟨v1,x1⟩:=K2.at_ (k:=1) (v:=.slice none 0 0) rfl
 obtain⟨v2,x2⟩:=K2.at_ (k:=2) (v:=.slice none 0 0) rfl
 obtain⟨v3,x3⟩:=K2.at_ (k:=3) (v:=.slice none 0 0) rfl
 obtain⟨v4,x4⟩:=K2.at_ (k:=4) (v:=.slice none 0 0) rfl
 obtain⟨v5,x5⟩:=K2.at_ (k:=5) (v:=.int .i64 0) rfl
 have WF:=hid (put6_blk K2 rfl (.int .i64 now) (.slice A1 n1 c1) (.slice A2 n2 c2) (.slice A3 n3 c3) (.slice A4 n4 c4) (.int .i64 stop))
 have HG:=hid (put6_gr (x0:=.int .i64 now) (x1:=.slice A1 n1 c1) (x2:=.slice A2 n2 c2) (x3:=.slice A3 n3 c3) (x4:=.slice A4 n4 c4) (x5:=.int .i64 stop) (b:=w.heap.size+1) G2 (Nat.le_succ _))
 clear B1 K2 G2
 have WF2:=hid ((WW.out.to (FromB.put6 (b:=w.heap.size+1) hB (.int .i64 now) (.slice A1 n1 c1) (.slice A2 n2 c2) (.slice A3 n3 c3) (.slice A4 n4 c4) (.int .i64 stop))).low hB2)
 go_wp2_with fail
 clear v0 v1 v2 v3 v4 v5 x0 x1 x2 x3 x4 x5 b0 b1 b2 b3 b4 b5 lt1 ltg WW
 generalize (((((W1.setCell ⟨w.heap.size+1,0,none⟩ (.int .i64 now)).setCell ⟨w.heap.size+1,1,none⟩ (.slice A1 n1 c1)).setCell ⟨w.heap.size+1,2,none⟩ (.slice A2 n2 c2)).setCell ⟨w.heap.size+1,3,none⟩ (.slice A3 n3 c3)).setCell ⟨w.heap.size+1,4,none⟩ (.slice A4 n4 c4)).setCell ⟨w.heap.size+1,5,none⟩ (.int .i64 stop)=Wf at WF HG WF2 ⊢
 have F0:=(WF.out.at_ (k:=0) (v:=.int .i64 now) rfl).1
 have F1:=(WF.out.at_ (k:=1) (v:=.slice A1 n1 c1) rfl).1
 have F2:=(WF.out.at_ (k:=2) (v:=.slice A2 n2 c2) rfl).1
 have F3:=(WF.out.at_ (k:=3) (v:=.slice A3 n3 c3) rfl).1
 have F4:=(WF.out.at_ (k:=4) (v:=.slice A4 n4 c4) rfl).1
 have F5:=(WF.out.at_ (k:=5) (v:=.int .i64 stop) rfl).1
 exact bodyPost_ret (v:=.tuple #[WR.v ⟨now,⟨A1,n1,c1⟩,⟨A2,n2,c2⟩,⟨A3,n3,c3⟩,⟨A4,n4,c4⟩,stop⟩,.slice none 0 0,.int .i64 (-1),.bool (x==0)]) (by simp [results,Tryz.results15,go_sem,F0,F1,F2,F3,F4,F5]) rfl
  ⟨⟨⟨now,⟨A1,n1,c1⟩,⟨A2,n2,c2⟩,⟨A3,n3,c3⟩,⟨A4,n4,c4⟩,stop⟩,ψ,none,0,0,[],-1,x==0,rfl,.inl ⟨h0,x,by rw [HD.out];exact HX.out,rfl,rfl,rfl⟩,WF2.out,ENew.nil,Nat.le_refl _,Nat.zero_le _⟩,HG.out⟩
theorem next_step (hM:Mach) (hg:P15.Glob w) (h:WIs w r ω) (hv:B64 v) (h0:0<=v) :
 Calls Tryz.prog 15 #[r.v,.int .i64 v] w λ e W'=>(∃ (s:WR) (ψ:Wv) (A:Option Addr) (n c:Nat) (ev:List T3) (who:Int) (b:Bool),e=.returned (.tuple #[s.v,.slice A n c,.int .i64 who,.bool b])/\NextM ω v ψ ev who b/\WNew w.heap.size W' s ψ/\ENew w.heap.size W' A n ev/\n<=c/\c<=9223372036854775807)/\Gr w W':=by
 obtain⟨d,hd⟩:∃ d,v % 9=d:=⟨_,rfl⟩
 have hv':=hv
 unfold B64 at hv'
 have e3:v.tmod 9=d:=by rw [Int.tmod_eq_emod_of_nonneg (by omega),hd]
 have cS:=λ W (g:Gr w W)=>hid (hM.step W r ω d (hg.gr g) (h.gr g) ⟨by omega,by omega⟩)
 have HD:=hid hd
 have hn:¬ v<0:=by omega
 clear hd hv hv' h hg
 go_enter Tryz.func15,Tryz.ntmps15
 go_wp2_with fail
 with_reducible refine (cS _ (((Gr.refl w).al _).al _)).out.mono ?_
 rintro e w1 ⟨⟨s,ψ,A,n,c,ev,x,rfl,hT,hW,hE,hnc,hcm⟩,g1⟩
 obtain⟨now,⟨A1,n1,c1⟩,⟨A2,n2,c2⟩,⟨A3,n3,c3⟩,⟨A4,n4,c4⟩,stop⟩:=s
 dsimp only at *
 have K1:=Blk.new (w.alloc (.cells r.a 29)) #[.int .i64 0,.slice none 0 0,.slice none 0 0,.slice none 0 0,.slice none 0 0,.int .i64 0] 29 |>.gr g1
 rw [World.size_alloc] at K1
 have G1:=((((Gr.refl w).al (.cells r.a 29)).al (.cells #[.int .i64 0,.slice none 0 0,.slice none 0 0,.slice none 0 0,.slice none 0 0,.int .i64 0] 29)).trans g1)
 have B1:=Blk.new w1 #[.int .i64 now,.slice A1 n1 c1,.slice A2 n2 c2,.slice A3 n3 c3,.slice A4 n4 c4,.int .i64 stop] 29
 have K2:=K1.al (.cells #[.int .i64 now,.slice A1 n1 c1,.slice A2 n2 c2,.slice A3 n3 c3,.slice A4 n4 c4,.int .i64 stop] 29)
 have G2:=G1.al (.cells #[.int .i64 now,.slice A1 n1 c1,.slice A2 n2 c2,.slice A3 n3 c3,.slice A4 n4 c4,.int .i64 stop] 29)
 have hB:w.heap.size+1<((w.alloc (.cells r.a 29)).alloc (.cells #[.int .i64 0,.slice none 0 0,.slice none 0 0,.slice none 0 0,.slice none 0 0,.int .i64 0] 29)).heap.size:=by rw [World.size_alloc,World.size_alloc];omega
 have hB2:w.heap.size<=((w.alloc (.cells r.a 29)).alloc (.cells #[.int .i64 0,.slice none 0 0,.slice none 0 0,.slice none 0 0,.slice none 0 0,.int .i64 0] 29)).heap.size:=by omega
 have WW:=hid (hW.gr ((Gr.refl w1).al (.cells #[.int .i64 now,.slice A1 n1 c1,.slice A2 n2 c2,.slice A3 n3 c3,.slice A4 n4 c4,.int .i64 stop] 29)))
 have HX:=hid hT
 have EE:=hid (hE.gr ((Gr.refl w1).al (.cells #[.int .i64 now,.slice A1 n1 c1,.slice A2 n2 c2,.slice A3 n3 c3,.slice A4 n4 c4,.int .i64 stop] 29)))
 clear g1 K1 hT hW hE G1 e3 cS hM
 go_upto_region 5 with fail
 generalize w1.alloc (.cells #[.int .i64 now,.slice A1 n1 c1,.slice A2 n2 c2,.slice A3 n3 c3,.slice A4 n4 c4,.int .i64 stop] 29)=W1 at B1 K2 G2 WW EE ⊢
 generalize w1.heap.size=g at B1 ⊢
 have lt1:=K2.lt
 have ltg:=B1.lt
 have b0:=(B1.at_ (k:=0) (v:=.int .i64 now) rfl).1
 have b1:=(B1.at_ (k:=1) (v:=.slice A1 n1 c1) rfl).1
 have b2:=(B1.at_ (k:=2) (v:=.slice A2 n2 c2) rfl).1
 have b3:=(B1.at_ (k:=3) (v:=.slice A3 n3 c3) rfl).1
 have b4:=(B1.at_ (k:=4) (v:=.slice A4 n4 c4) rfl).1
 have b5:=(B1.at_ (k:=5) (v:=.int .i64 stop) rfl).1
 obtain⟨v0,x0⟩:=K2.at_ (k:=0) (v:=.int .i64 0) rfl
 obtain⟨v1,x1⟩:=K2.at_ (k:=1) (v:=.slice none 0 0) rfl
 obtain⟨v2,x2⟩:=K2.at_ (k:=2) (v:=.slice none 0 0) rfl
 obtain⟨v3,x3⟩:=K2.at_ (k:=3) (v:=.slice none 0 0) rfl
 obtain⟨v4,x4⟩:=K2.at_ (k:=4) (v:=.slice none 0 0) rfl
 obtain⟨v5,x5⟩:=K2.at_ (k:=5) (v:=.int .i64 0) rfl
 have WF:=hid (put6_blk K2 rfl (.int .i64 now) (.slice A1 n1 c1) (.slice A2 n2 c2) (.slice A3 n3 c3) (.slice A4 n4 c4) (.int .i64 stop))
 have HG:=hid (put6_gr (x0:=.int .i64 now) (x1:=.slice A1 n1 c1) (x2:=.slice A2 n2 c2) (x3:=.slice A3 n3 c3) (x4:=.slice A4 n4 c4) (x5:=.int .i64 stop) (b:=w.heap.size+1) G2 (Nat.le_succ _))
 clear B1 K2 G2
 have WF2:=hid ((WW.out.to (FromB.put6 (b:=w.heap.size+1) hB (.int .i64 now) (.slice A1 n1 c1) (.slice A2 n2 c2) (.slice A3 n3 c3) (.slice A4 n4 c4) (.int .i64 stop))).low hB2)
 have EF2:=hid ((EE.out.to (FromB.put6 (b:=w.heap.size+1) hB (.int .i64 now) (.slice A1 n1 c1) (.slice A2 n2 c2) (.slice A3 n3 c3) (.slice A4 n4 c4) (.int .i64 stop))).low hB2)
 clear EE
 go_wp2_with fail
 clear v0 v1 v2 v3 v4 v5 x0 x1 x2 x3 x4 x5 b0 b1 b2 b3 b4 b5 lt1 ltg WW
 generalize (((((W1.setCell ⟨w.heap.size+1,0,none⟩ (.int .i64 now)).setCell ⟨w.heap.size+1,1,none⟩ (.slice A1 n1 c1)).setCell ⟨w.heap.size+1,2,none⟩ (.slice A2 n2 c2)).setCell ⟨w.heap.size+1,3,none⟩ (.slice A3 n3 c3)).setCell ⟨w.heap.size+1,4,none⟩ (.slice A4 n4 c4)).setCell ⟨w.heap.size+1,5,none⟩ (.int .i64 stop)=Wf at WF HG WF2 EF2 ⊢
 have F0:=(WF.out.at_ (k:=0) (v:=.int .i64 now) rfl).1
 have F1:=(WF.out.at_ (k:=1) (v:=.slice A1 n1 c1) rfl).1
 have F2:=(WF.out.at_ (k:=2) (v:=.slice A2 n2 c2) rfl).1
 have F3:=(WF.out.at_ (k:=3) (v:=.slice A3 n3 c3) rfl).1
 have F4:=(WF.out.at_ (k:=4) (v:=.slice A4 n4 c4) rfl).1
 have F5:=(WF.out.at_ (k:=5) (v:=.int .i64 stop) rfl).1
 exact bodyPost_ret (v:=.tuple #[WR.v ⟨now,⟨A1,n1,c1⟩,⟨A2,n2,c2⟩,⟨A3,n3,c3⟩,⟨A4,n4,c4⟩,stop⟩,.slice A n c,.int .i64 d,.bool (x==0)]) (by simp [results,Tryz.results15,go_sem,F0,F1,F2,F3,F4,F5,HD.out]) rfl
  ⟨⟨⟨now,⟨A1,n1,c1⟩,⟨A2,n2,c2⟩,⟨A3,n3,c3⟩,⟨A4,n4,c4⟩,stop⟩,ψ,A,n,c,ev,d,x==0,rfl,.inr ⟨h0,x,by rw [HD.out];exact HX.out,HD.out.symm,rfl⟩,WF2.out,EF2.out,hnc,hcm⟩,HG.out⟩
theorem next_is (hM:Mach) (hg:P15.Glob w) (h:WIs w r ω) (hv:B64 v) :
 Calls Tryz.prog 15 #[r.v,.int .i64 v] w λ e W'=>(∃ (s:WR) (ψ:Wv) (A:Option Addr) (n c:Nat) (ev:List T3) (who:Int) (b:Bool),e=.returned (.tuple #[s.v,.slice A n c,.int .i64 who,.bool b])/\NextM ω v ψ ev who b/\WNew w.heap.size W' s ψ/\ENew w.heap.size W' A n ev/\n<=c/\c<=9223372036854775807)/\Gr w W':=by
 by_cases h0:v<0
 . exact next_tick hM hg h hv h0
 . exact next_step hM hg h hv (by omega)
end
end P16
end
section
open Go.ChangeShapes Go.WideShapes Go.ChangeAt Go.RowKit
namespace P16
open P12 (PV PMem)
abbrev p0:List Ac:=[(0,0),(2,0)]
theorem p0_right:P12.rightB [p0]=true:=by decide
theorem alive_math {ψ ψ':Wv} {ev ev':List T3} {x x':Int} (h1:StepM (newW [p0]) 0 ψ ev x) (h2:StepM ψ 0 ψ' ev' x') :
 x=0/\x'=0/\ev=[(0,0,0)]/\ev'=[(0,3,0)]/\∃ c,ψ'.cl=[c]/\c.gst=2:=by
 have f0:=Fine.new p0_right
 obtain⟨f1,rfl,_,q | ⟨_,_,_,e1,rfl⟩⟩:=StepM.fine f0 h1
 . exact absurd q.1 (by decide)
 obtain⟨f2,rfl,_,q | ⟨_,_,_,e2,rfl⟩⟩:=StepM.fine f1 h2
 . exact absurd q.1 (by decide)
 have s1:stp (mw (newW [p0])) (0:Int).toNat=(W1 p0 1 0 (some 0) 0,some (0,0,0)):=by
  rw [mw_new,new_one]
  exact alone_lock (p:=p0) (a:=0) (n:=0) rfl
 rw [s1] at e1 ⊢
 have s2:stp (mw ψ) (0:Int).toNat=(W1 p0 2 0 none 0,some (0,3,0)):=by
  rw [e1]
  exact alone_give (p:=p0) (a:=1) (n:=0) rfl
 rw [s2] at e2 ⊢
 refine⟨rfl,rfl,rfl,rfl,?_⟩
 have e3:ψ'.cl=(W1 p0 2 0 none 0).cl:=congrArg Mw.cl e2
 exact⟨cAt 2 0 2,e3,by decide⟩
section
variable {w:World}
theorem alive_is (hM:Mach) (hg:P15.Glob w):Calls Tryz.prog 14 #[] w λ e w'=>e=.returned (.bool true)/\Gr w w':=by
 have b0:=Blk.new w #[.int .i64 0,.int .i64 0,.int .i64 2,.int .i64 0] 67
 have b1:=Blk.new (w.alloc (.cells #[.int .i64 0,.int .i64 0,.int .i64 2,.int .i64 0] 67)) #[.slice (some ⟨w.heap.size,0,none⟩) 2 2] 64
 have g1:=((Gr.refl w).al (.cells #[.int .i64 0,.int .i64 0,.int .i64 2,.int .i64 0] 67)).al (.cells #[.slice (some ⟨w.heap.size,0,none⟩) 2 2] 64)
 have hm:=P12.mem_blk (b0.al (.cells #[.slice (some ⟨w.heap.size,0,none⟩) 2 2] 64)) (l:=p0) rfl (by simp [Inb])
 have hP:=P12.pmem_one (x:=⟨some ⟨w.heap.size,0,none⟩,2,2,p0⟩) b1 ⟨hm,Nat.le_refl _,by show (2:Nat)<=9223372036854775807;decide⟩
 rw [World.size_alloc] at hP
 have cN:=hid (hM.new _ _ 1 1 _ (hg.gr g1) hP (by decide))
 have HG1:=hid g1
 clear b0 b1 hm hP g1
 go_enter Tryz.func14,Tryz.ntmps14
 go_wp2_with fail
 with_reducible refine cN.out.mono ?_
 rintro e w1 ⟨⟨s,ψ,x,rfl,hN,hW⟩,g2⟩
 obtain⟨rfl,rfl⟩:ψ=newW [p0]/\x=0:=by
  rcases hN with ⟨_,q⟩ | ⟨q,_⟩
  . exact q
  . exact absurd (show P12.rightB [p0]=false from q) (by decide)
 obtain⟨now,⟨A1,n1,c1⟩,⟨A2,n2,c2⟩,⟨A3,n3,c3⟩,⟨A4,n4,c4⟩,stop⟩:=s
 dsimp only at *
 have B1:=Blk.new w1 #[.int .i64 now,.slice A1 n1 c1,.slice A2 n2 c2,.slice A3 n3 c3,.slice A4 n4 c4,.int .i64 stop] 29
 have WW:=hid (hW.gr ((Gr.refl w1).al (.cells #[.int .i64 now,.slice A1 n1 c1,.slice A2 n2 c2,.slice A3 n3 c3,.slice A4 n4 c4,.int .i64 stop] 29)))
 have G1:=(HG1.out.trans g2).al (.cells #[.int .i64 now,.slice A1 n1 c1,.slice A2 n2 c2,.slice A3 n3 c3,.slice A4 n4 c4,.int .i64 stop] 29)
 have KK:=g2.size
 have hK:w.heap.size<=w1.heap.size:=(HG1.out.trans g2).size
 clear hN hW g2 cN
 go_upto_region 2 with fail
 generalize w1.alloc (.cells #[.int .i64 now,.slice A1 n1 c1,.slice A2 n2 c2,.slice A3 n3 c3,.slice A4 n4 c4,.int .i64 stop] 29)=W1 at B1 WW G1 ⊢
 generalize w1.heap.size=K at B1 KK hK ⊢
 have lt1:=B1.lt
 obtain⟨a0,az0⟩:=B1.at_ (k:=0) (v:=.int .i64 now) rfl
 obtain⟨a1,az1⟩:=B1.at_ (k:=1) (v:=.slice A1 n1 c1) rfl
 obtain⟨a2,az2⟩:=B1.at_ (k:=2) (v:=.slice A2 n2 c2) rfl
 obtain⟨a3,az3⟩:=B1.at_ (k:=3) (v:=.slice A3 n3 c3) rfl
 obtain⟨a4,az4⟩:=B1.at_ (k:=4) (v:=.slice A4 n4 c4) rfl
 obtain⟨a5,az5⟩:=B1.at_ (k:=5) (v:=.int .i64 stop) rfl
 have cS:=hid (hM.step W1 ⟨now,⟨A1,n1,c1⟩,⟨A2,n2,c2⟩,⟨A3,n3,c3⟩,⟨A4,n4,c4⟩,stop⟩ _ 0 (hg.gr G1) WW.out.is ⟨by decide,by decide⟩)
 go_wp2_with fail
 with_reducible refine cS.out.mono ?_
 rintro e w2 ⟨⟨s,ψ,A,n,c,ev,x,rfl,hS,hW,hE,hnc,hcm⟩,g3⟩
 obtain⟨now',⟨A1',n1',c1'⟩,⟨A2',n2',c2'⟩,⟨A3',n3',c3'⟩,⟨A4',n4',c4'⟩,stop'⟩:=s
 dsimp only at *
 have B2:=B1.gr g3
 have G2:=G1.trans g3
 have lt2:=B2.lt
 clear a0 az0 a1 az1 a2 az2 a3 az3 a4 az4 a5 az5
 obtain⟨a0,az0⟩:=B2.at_ (k:=0) (v:=.int .i64 now) rfl
 obtain⟨a1,az1⟩:=B2.at_ (k:=1) (v:=.slice A1 n1 c1) rfl
 obtain⟨a2,az2⟩:=B2.at_ (k:=2) (v:=.slice A2 n2 c2) rfl
 obtain⟨a3,az3⟩:=B2.at_ (k:=3) (v:=.slice A3 n3 c3) rfl
 obtain⟨a4,az4⟩:=B2.at_ (k:=4) (v:=.slice A4 n4 c4) rfl
 obtain⟨a5,az5⟩:=B2.at_ (k:=5) (v:=.int .i64 stop) rfl
 have B3:=put6_blk B2 rfl (.int .i64 now') (.slice A1' n1' c1') (.slice A2' n2' c2') (.slice A3' n3' c3') (.slice A4' n4' c4') (.int .i64 stop')
 have G3:=hid (put6_gr (x0:=.int .i64 now') (x1:=.slice A1' n1' c1') (x2:=.slice A2' n2' c2') (x3:=.slice A3' n3' c3') (x4:=.slice A4' n4' c4') (x5:=.int .i64 stop') (b:=K) G2 hK)
 have W3:=hid (hW.to (FromB.put6 (b:=K) lt1 (.int .i64 now') (.slice A1' n1' c1') (.slice A2' n2' c2') (.slice A3' n3' c3') (.slice A4' n4' c4') (.int .i64 stop')))
 have E3:=hid (hE.to (FromB.put6 (b:=K) lt1 (.int .i64 now') (.slice A1' n1' c1') (.slice A2' n2' c2') (.slice A3' n3' c3') (.slice A4' n4' c4') (.int .i64 stop')))
 clear hW hE g3 cS B1 B2 G1 G2
 go_upto_region 3 with fail
 clear a0 az0 a1 az1 a2 az2 a3 az3 a4 az4 a5 az5
 generalize (((((w2.setCell ⟨K,0,none⟩ (.int .i64 now')).setCell ⟨K,1,none⟩ (.slice A1' n1' c1')).setCell ⟨K,2,none⟩ (.slice A2' n2' c2')).setCell ⟨K,3,none⟩ (.slice A3' n3' c3')).setCell ⟨K,4,none⟩ (.slice A4' n4' c4')).setCell ⟨K,5,none⟩ (.int .i64 stop')=V3 at B3 G3 W3 E3 ⊢
 have lt3:=B3.lt
 clear lt2
 obtain⟨b0,bz0⟩:=B3.at_ (k:=0) (v:=.int .i64 now') rfl
 obtain⟨b1,bz1⟩:=B3.at_ (k:=1) (v:=.slice A1' n1' c1') rfl
 obtain⟨b2,bz2⟩:=B3.at_ (k:=2) (v:=.slice A2' n2' c2') rfl
 obtain⟨b3,bz3⟩:=B3.at_ (k:=3) (v:=.slice A3' n3' c3') rfl
 obtain⟨b4,bz4⟩:=B3.at_ (k:=4) (v:=.slice A4' n4' c4') rfl
 obtain⟨b5,bz5⟩:=B3.at_ (k:=5) (v:=.int .i64 stop') rfl
 have cS:=hid (hM.step V3 _ _ 0 (hg.gr G3.out) W3.out.is ⟨by decide,by decide⟩)
 go_wp2_with fail
 with_reducible refine cS.out.mono ?_
 rintro e w4 ⟨⟨s,ψ',A',n',c',ev',x',rfl,hS',hW,hE,hnc',hcm'⟩,g3⟩
 obtain⟨now'',⟨A1'',n1'',c1''⟩,⟨A2'',n2'',c2''⟩,⟨A3'',n3'',c3''⟩,⟨A4'',n4'',c4''⟩,stop''⟩:=s
 dsimp only at *
 obtain⟨rfl,rfl,rfl,rfl,cc,hcl,hgst⟩:=alive_math hS hS'
 have B2:=B3.gr g3
 have G2:=G3.out.trans g3
 have lt2:=B2.lt
 clear b0 bz0 b1 bz1 b2 bz2 b3 bz3 b4 bz4 b5 bz5
 obtain⟨b0,bz0⟩:=B2.at_ (k:=0) (v:=.int .i64 now') rfl
 obtain⟨b1,bz1⟩:=B2.at_ (k:=1) (v:=.slice A1' n1' c1') rfl
 obtain⟨b2,bz2⟩:=B2.at_ (k:=2) (v:=.slice A2' n2' c2') rfl
 obtain⟨b3,bz3⟩:=B2.at_ (k:=3) (v:=.slice A3' n3' c3') rfl
 obtain⟨b4,bz4⟩:=B2.at_ (k:=4) (v:=.slice A4' n4' c4') rfl
 obtain⟨b5,bz5⟩:=B2.at_ (k:=5) (v:=.int .i64 stop') rfl
 have B5:=put6_blk B2 rfl (.int .i64 now'') (.slice A1'' n1'' c1'') (.slice A2'' n2'' c2'') (.slice A3'' n3'' c3'') (.slice A4'' n4'' c4'') (.int .i64 stop'')
 have G5:=hid (put6_gr (x0:=.int .i64 now'') (x1:=.slice A1'' n1'' c1'') (x2:=.slice A2'' n2'' c2'') (x3:=.slice A3'' n3'' c3'') (x4:=.slice A4'' n4'' c4'') (x5:=.int .i64 stop'') (b:=K) G2 hK)
 have W5:=hid (hW.to (FromB.put6 (b:=K) lt3 (.int .i64 now'') (.slice A1'' n1'' c1'') (.slice A2'' n2'' c2'') (.slice A3'' n3'' c3'') (.slice A4'' n4'' c4'') (.int .i64 stop'')))
 have E5:=hid (hE.to (FromB.put6 (b:=K) lt3 (.int .i64 now'') (.slice A1'' n1'' c1'') (.slice A2'' n2'' c2'') (.slice A3'' n3'' c3'') (.slice A4'' n4'' c4'') (.int .i64 stop'')))
 have E6:=hid ((E3.out.gr g3).to (FromB.put6 (b:=K) lt1 (.int .i64 now'') (.slice A1'' n1'' c1'') (.slice A2'' n2'' c2'') (.slice A3'' n3'' c3'') (.slice A4'' n4'' c4'') (.int .i64 stop'')))
 clear hW hE g3 cS B3 B2 G2 hS hS' E3
 go_upto_region 4 with fail
 clear b0 bz0 b1 bz1 b2 bz2 b3 bz3 b4 bz4 b5 bz5
 generalize (((((w4.setCell ⟨K,0,none⟩ (.int .i64 now'')).setCell ⟨K,1,none⟩ (.slice A1'' n1'' c1'')).setCell ⟨K,2,none⟩ (.slice A2'' n2'' c2'')).setCell ⟨K,3,none⟩ (.slice A3'' n3'' c3'')).setCell ⟨K,4,none⟩ (.slice A4'' n4'' c4'')).setCell ⟨K,5,none⟩ (.int .i64 stop'')=V5 at B5 G5 W5 E5 E6 ⊢
 have lt5:=B5.lt
 clear lt2 lt3
 obtain⟨b0,bz0⟩:=B5.at_ (k:=0) (v:=.int .i64 now'') rfl
 obtain⟨b1,bz1⟩:=B5.at_ (k:=1) (v:=.slice A1'' n1'' c1'') rfl
 obtain⟨b2,bz2⟩:=B5.at_ (k:=2) (v:=.slice A2'' n2'' c2'') rfl
 obtain⟨b3,bz3⟩:=B5.at_ (k:=3) (v:=.slice A3'' n3'' c3'') rfl
 obtain⟨b4,bz4⟩:=B5.at_ (k:=4) (v:=.slice A4'' n4'' c4'') rfl
 obtain⟨b5,bz5⟩:=B5.at_ (k:=5) (v:=.int .i64 stop'') rfl
 obtain rfl:n=1:=(E6.out.is).len.symm
 obtain rfl:n'=1:=(E5.out.is).len.symm
 obtain⟨b,off,y,rfl,hb,hy,-,d0,d1,d2⟩:=T3Mem.cells (k:=0) E6.out.is (by decide)
 cases hy
 obtain⟨b',off',y,rfl,hb',hy,-,f0,f1,f2⟩:=T3Mem.cells (k:=0) E5.out.is (by decide)
 cases hy
 have WI:=W5.out.is
 have hl:=WI.c.len
 rw [hcl] at hl
 have hl:1=n2'':=hl
 subst hl
 have hc0:CMem V5 A2'' 1 _:=WI.c
 obtain⟨b2,off2,z,rfl,hb2,hz,-,h0,-⟩:=CMem.cells (k:=0) hc0 (by decide)
 rw [hcl] at hz
 cases hz
 rw [hgst] at h0
 simp only [Nat.zero_mul,Nat.add_zero] at d0 d1 d2 f0 f1 f2 h0
 clear WI hc0 hcl hgst
 go_wp2_with fail
 go_ret
 exact⟨rfl,G5.out⟩
end
end P16
end
section
open Go.ChangeShapes Go.WideShapes Go.ChangeAt Go.RowKit
namespace P16
def EvR (f f':Nat->Bool) (F:Bool) (e:Int) (n:Nat):Prop :=
 ((e=0\/e=1)/\f n=false/\f' n=true/\(∀ m,m≠n->f' m=f m)/\F=false) \/
 (e=2/\f'=f/\F=false) \/
 (e=3/\f n=true/\f' n=false/\(∀ m,m≠n->f' m=f m)/\F=false) \/
 (e=4/\f n=false/\f'=f/\F=true)
def Kind (ω ψ:Wv) (ev:List T3) (f f':Nat->Bool) (F:Bool):Prop :=
 (ω.stop≠0/\ψ=ω/\ev=[]/\f'=f/\F=false) \/
 (ω.stop=0/\ψ.stop=0/\ev=[]/\f'=f/\F=false) \/
 (ω.stop=0/\∃ (a:Int) (e:Int) (n:Nat),n<4/\ev=[(a,e,(n:Int))]/\EvR f f' F e n/\(ψ.stop≠0↔F=true))
def LK (ω:Wv) (m:Nat):Bool:=if m<4 then Lk (mw ω) m else false
theorem LK_at {ω:Wv} {m:Nat} (h:m<4):LK ω m=Lk (mw ω) m:=by unfold LK;rw [if_pos h]
section
variable {ω ψ:Wv} {v who:Int} {ev:List T3} {b:Bool}
theorem LK_same (h:∀ m,m<4->Lk (mw ψ) m=Lk (mw ω) m):LK ψ=LK ω:=by
 funext m
 unfold LK
 split
 . exact h m (by assumption)
 . rfl
theorem NextM.rnd (h:Fine ω) (hn:NextM ω v ψ ev who b) (hv:B64 v) (hb:ω.now<=4611686018422387904) :
 Fine ψ/\b=true/\ψ.progs=ω.progs/\ψ.now<=ω.now+5000000/\(ψ.stop=0\/ψ.stop=11)/\∃ F,Kind ω ψ ev (LK ω) (LK ψ) F:=by
 unfold B64 at hv
 rcases hn with ⟨h0,x,ht,rfl,rfl,rfl⟩ | ⟨h0,x,hs,rfl,rfl⟩
 . obtain⟨f,rfl,q⟩:=TickM.fine h (by unfold Tim;omega) (by omega) ht
   rcases q with ⟨q,rfl⟩ | ⟨q,rfl⟩
   . exact⟨f,rfl,rfl,by omega,f.inv.st,false,.inl ⟨q,rfl,rfl,rfl,rfl⟩⟩
   . exact⟨f,rfl,rfl,by show ω.now+_<=_;omega,f.inv.st,false,.inr (.inl ⟨q,q,rfl,rfl,rfl⟩)⟩
 . obtain⟨f,rfl,hp,q⟩:=StepM.fine h hs
   refine⟨f,rfl,hp,?_⟩
   rcases q with ⟨q,rfl,rfl⟩ | ⟨q,hr,hst,e1,rfl⟩
   . omega
   . have hnow:ψ.now=ω.now:=hr.nw
     refine⟨by omega,f.inv.st,?_⟩
     by_cases hs0:ω.stop=0
     . rcases hr.kind with ⟨k1,k2,k3⟩ | ⟨n,k1,k2,k3,k4,k5⟩ | ⟨n,e,k1,k2,k3,k4,k5,k6⟩
       . rw [k1]
         have k2:ψ.stop=ω.stop:=k2
         exact⟨false,.inr (.inl ⟨hs0,by omega,rfl,LK_same k3,rfl⟩)⟩
       . rw [k2]
         have k6:ψ.stop=11:=congrArg Mw.stop k4
         refine⟨true,.inr (.inr ⟨hs0,_,4,n,k1,rfl,.inr (.inr (.inr ⟨rfl,by rw [LK_at k1];exact k5,?_,rfl⟩)),by rw [k6];simp⟩)⟩
         refine LK_same λ m _=>?_
         have:(mw ψ).cm=(mw ω).cm:=by rw [k4]
         unfold Lk
         rw [this]
       . rw [k2]
         have k4:ψ.stop=0:=k4
         have far:∀ m,m≠n->LK ψ m=LK ω m:=λ m hm=>by
          unfold LK
          split
          . unfold Lk;rw [k6 m hm]
          . rfl
         refine⟨false,.inr (.inr ⟨hs0,_,e,n,k1,rfl,?_,by rw [k4];simp⟩)⟩
         rcases k5 with ⟨q,_⟩ | ⟨q,l1,l2⟩ | ⟨q,l1,l2⟩ | ⟨q,l1⟩ | ⟨q,l1,l2⟩
         . cases q
         . cases q;exact .inl ⟨.inl rfl,by rw [LK_at k1];exact l1,by rw [LK_at k1];exact l2,far,rfl⟩
         . cases q;exact .inl ⟨.inr rfl,by rw [LK_at k1];exact l1,by rw [LK_at k1];exact l2,far,rfl⟩
         . cases q
           refine .inr (.inl ⟨rfl,?_,rfl⟩)
           funext m
           by_cases e:m=n
           . subst e;rw [LK_at k1,LK_at k1];exact l1
           . exact far m e
         . cases q;exact .inr (.inr (.inl ⟨rfl,by rw [LK_at k1];exact l1,by rw [LK_at k1];exact l2,far,rfl⟩))
     . have e2:=hst hs0
       subst e2
       have e3:=(hr.still hs0).2
       rw [e3]
       exact⟨false,.inl ⟨hs0,rfl,rfl,rfl,rfl⟩⟩
end
end P16
end
section
open Go.ChangeShapes Go.WideShapes Go.ChangeAt Go.RowKit
namespace P16
open P12 (PV PMem POwn pl fewP)
def WAt (S:Nat->Prop) (W:World) (r:WR) (ω:Wv):Prop:=∃ W0 B,WNew B W0 r ω/\FromB B W0 W/\∀ k,S k->k<B\/W0.heap.size<=k
section
variable {S:Nat->Prop} {W W':World} {r:WR} {ω:Wv} {B:Nat}
theorem WAt.is (h:WAt S W r ω):WIs W r ω:=by
 obtain⟨W0,B,h1,h2,_⟩:=h
 exact (h1.to h2).is
theorem WAt.gr (h:WAt S W r ω) (g:Gr W W'):WAt S W' r ω:=by
 obtain⟨W0,B,h1,h2,h3⟩:=h
 exact⟨W0,B,h1,h2.trans (FromB.gr g),h3⟩
theorem WAt.new (h:WNew B W r ω) (hs:∀ k,S k->k<B):WAt S W r ω:=⟨W,B,h,FromB.refl,λ k hk=>.inl (hs k hk)⟩
theorem WAt.late (h:WNew B W r ω) (g:Gr W W') (hs:∀ k,S k->W.heap.size<=k):WAt S W' r ω:=⟨W,B,h,FromB.gr g,λ k hk=>.inr (hs k hk)⟩
end
theorem word_at {ψ:Wv} (h:Fine ψ) {j:Nat} (hj:j<4) {x:T3} (hx:ψ.mx[j]?=some x):∃ a b c q,x.1=P3.pw a b c q/\(0<=q/\q<268435456)/\LK ψ j=a:=by
 have h1:=h.inv.ow j hj
 have e:(mw ψ).cm j=⟨(mxAt ψ.mx j).1,(mxAt ψ.mx j).2.1,(mxAt ψ.mx j).2.2,(gtA ψ.tb j).1,(gtA ψ.tb j).2⟩:=rfl
 rw [mxAt_get hx] at e
 rw [e] at h1
 obtain⟨a,b,c,q,e1,e2⟩:=P3.pw_of h1
 have e1:x.1=P3.pw a b c q:=e1
 refine⟨a,b,c,q,e1,e2,?_⟩
 rw [LK_at hj]
 unfold Lk
 rw [e]
 show (wd x.1).L=a
 rw [e1]
 unfold wd P3.pw P3.b1
 dsimp only
 cases a<;>cases b<;>cases c<;>simp<;>omega
end P16
end
section
open Go.ChangeShapes Go.WideShapes Go.ChangeAt Go.RowKit
namespace P16
open P12 (PV PMem)
def abt (p:List Ac) (c:Cl) (m:Int):Bool×Int :=
 match p[c.act.toNat]? with
 | some (k,n)=>(k != 3&&n==m&&c.pc != 0,k)
 | none=>(false,0)
section
variable {w:World} {r:WR} {ω:Wv} {j:Nat} {m:Int} {c:Cl} {p:List Ac}
theorem about_is (h:WIs w r ω) (hc:ω.cl[j]?=some c) (hp:ω.progs[j]?=some p) (h0:0<=c.act) :
 Calls Tryz.prog 18 #[r.v,.int .i64 (j:Int),.int .i64 m] w λ e w'=>e=.returned (.tuple #[.bool (abt p c m).1,.int .i64 (abt p c m).2])/\Gr w w':=by
 obtain⟨R,hR,eR⟩:=h.p
 have hjc:j<r.c.n:=by rw [<- h.c.len];exact (List.getElem?_eq_some_iff.1 hc).1
 have hjp:j<r.p.n:=by rw [<- h.lens.1];exact (List.getElem?_eq_some_iff.1 hp).1
 obtain⟨b,off,x,hA,hb,hx,-,f0,f1,f2,f3,f4,f5,f6,f7,f8,f9,f10,f11,f12⟩:=CMem.cells h.c hjc
 rw [hc] at hx
 cases hx
 obtain⟨b',off',y,hA',hb',hy,hok,g0⟩:=hR.at_ hjp
 have hyl:y.l=p:=by
  have:(P12.pl R)[j]?=some y.l:=by unfold P12.pl;rw [List.getElem?_map,hy];rfl
  rw [eR,hp] at this
  exact (Option.some.inj this).symm
 have hyn:y.n=p.length:=by rw [<- hyl];exact hok.1.1.symm
 obtain⟨now,⟨A1,n1,c1⟩,⟨A2,n2,c2⟩,⟨A3,n3,c3⟩,⟨A4,n4,c4⟩,stop⟩:=r
 dsimp only at *
 subst hA hA'
 have j0:(0:Int)<=(j:Int):=by omega
 have j1:(j:Int)<(n2:Int):=by omega
 have j2:(j:Int)<(n1:Int):=by omega
 have t0:¬ c.act<0:=by omega
 obtain⟨a,ha⟩:∃ a:Nat,c.act=(a:Int):=⟨c.act.toNat,by omega⟩
 by_cases hlt:a<p.length
 . have hpa:p[c.act.toNat]?=some p[a]:=by rw [ha,Int.toNat_natCast];exact List.getElem?_eq_getElem hlt
   obtain⟨b2,o2,z,hz1,hb2,hz,-,-,d0,d1⟩:=hok.1.at_ (k:=a) (by omega)
   have hz2:z=p[a]:=by
    rw [hyl] at hz
    rw [List.getElem?_eq_getElem hlt] at hz
    exact (Option.some.inj hz).symm
   have hB:abt p c m=(z.1 != 3&&z.2==m&&c.pc != 0,z.1):=by unfold abt;rw [hpa,hz2]
   rw [hB]
   obtain⟨k,n⟩:=z
   dsimp only at *
   have t1:¬ (y.n:Int)<=c.act:=by omega
   have t2:c.act<(y.n:Int):=by omega
   have t3:0<=c.act:=h0
   rw [hz1] at g0
   have HA:=hid ha
   rw [ha] at f2 t0 t1 t2 t3
   have HB:=hid hB
   clear hB hpa hlt ha hyl hok hy hc hp h hR eR hz hz2 h0 hz1 hyn
   obtain⟨B1,hB1⟩:∃ B1,(k != 3)=B1:=⟨_,rfl⟩
   obtain⟨B2,hB2⟩:∃ B2,(n==m)=B2:=⟨_,rfl⟩
   obtain⟨B3,hB3⟩:∃ B3,(c.pc != 0)=B3:=⟨_,rfl⟩
   rw [hB1,hB2,hB3]
   have HB1:=hid hB1
   have HB2:=hid hB2
   have HB3:=hid hB3
   clear hB1 hB2 hB3
   have BX:=(Blk.new w #[.int .i64 now,.slice (some ⟨b',off',none⟩) n1 c1,.slice (some ⟨b,off,none⟩) n2 c2,.slice A3 n3 c3,.slice A4 n4 c4,.int .i64 stop] 29).al (.cells #[.int .i64 c.gst,.bool c.permit,.int .i64 (a:Int),.int .i64 c.pc,.int .i64 c.worked,.int .i64 c.ticket,.bool c.first,.bool c.told,.int .i64 c.since,.bool c.st,.bool c.aw,.int .i64 c.rounds,.int .i64 c.old] 55)
   have BC:=Blk.new (w.alloc (.cells #[.int .i64 now,.slice (some ⟨b',off',none⟩) n1 c1,.slice (some ⟨b,off,none⟩) n2 c2,.slice A3 n3 c3,.slice A4 n4 c4,.int .i64 stop] 29)) #[.int .i64 c.gst,.bool c.permit,.int .i64 (a:Int),.int .i64 c.pc,.int .i64 c.worked,.int .i64 c.ticket,.bool c.first,.bool c.told,.int .i64 c.since,.bool c.st,.bool c.aw,.int .i64 c.rounds,.int .i64 c.old] 55
   rw [World.size_alloc] at BC
   have GC:=((Gr.refl w).al (.cells #[.int .i64 now,.slice (some ⟨b',off',none⟩) n1 c1,.slice (some ⟨b,off,none⟩) n2 c2,.slice A3 n3 c3,.slice A4 n4 c4,.int .i64 stop] 29)).al (.cells #[.int .i64 c.gst,.bool c.permit,.int .i64 (a:Int),.int .i64 c.pc,.int .i64 c.worked,.int .i64 c.ticket,.bool c.first,.bool c.told,.int .i64 c.since,.bool c.st,.bool c.aw,.int .i64 c.rounds,.int .i64 c.old] 55)
   go_enter Tryz.func18,Tryz.ntmps18
   go_wp2_with fail
   go_quiet (fail)
   go_upto_region 4 with fail
   have BX:=BX.gr ((Gr.refl _).drN nq)
   have BC:=BC.gr ((Gr.refl _).drN nq)
   have GC:=GC.drN nq
   clear f0 f1 f2 f3 f4 f5 f6 f7 f8 f9 f10 f11 f12
   generalize ((w.alloc (.cells #[.int .i64 now,.slice (some ⟨b',off',none⟩) n1 c1,.slice (some ⟨b,off,none⟩) n2 c2,.slice A3 n3 c3,.slice A4 n4 c4,.int .i64 stop] 29)).alloc (.cells #[.int .i64 c.gst,.bool c.permit,.int .i64 (a:Int),.int .i64 c.pc,.int .i64 c.worked,.int .i64 c.ticket,.bool c.first,.bool c.told,.int .i64 c.since,.bool c.st,.bool c.aw,.int .i64 c.rounds,.int .i64 c.old] 55)).drewN nq=W1 at BX BC GC ⊢
   have x1:=(BX.at_ (k:=1) (v:=.slice (some ⟨b',off',none⟩) n1 c1) rfl).1
   have y2:=(BC.at_ (k:=2) (v:=.int .i64 (a:Int)) rfl).1
   have y3:=(BC.at_ (k:=3) (v:=.int .i64 c.pc) rfl).1
   have lx:=BX.lt
   have ly:=BC.lt
   have g0:=(GC.cell (p:=⟨b',off'+j,none⟩) hb').trans g0
   have d0:=(GC.cell (p:=⟨b2,o2+a*2,none⟩) hb2).trans d0
   have d1:=(GC.cell (p:=⟨b2,o2+a*2+1,none⟩) hb2).trans d1
   have lb':=Nat.lt_of_lt_of_le hb' GC.size
   have lb2:=Nat.lt_of_lt_of_le hb2 GC.size
   have GH:=hid GC
   have HY:=hid BC
   clear BX BC GC hb hb' hb2
   go_region
   have GD:=((GH.out.al (.cells #[.int .i64 k,.int .i64 n] 67)).dr)
   have BA:=(Blk.new W1 #[.int .i64 k,.int .i64 n] 67).gr ((Gr.refl _).dr)
   have BC:=(HY.out.al (.cells #[.int .i64 k,.int .i64 n] 67)).gr ((Gr.refl _).dr)
   clear x1 y2 y3 lx ly g0 d0 d1 lb' lb2 GH HY
   generalize (W1.alloc (.cells #[.int .i64 k,.int .i64 n] 67)).drew=W2 at GD BA BC ⊢
   generalize W1.heap.size=ga at BA ⊢
   have y3:=(BC.at_ (k:=3) (v:=.int .i64 c.pc) rfl).1
   have k0:=(BA.at_ (k:=0) (v:=.int .i64 k) rfl).1
   have k1:=(BA.at_ (k:=1) (v:=.int .i64 n) rfl).1
   have ly:=BC.lt
   have la:=BA.lt
   clear BC BA
   have h1:=HB1.out
   have h2:=HB2.out
   have h3:=HB3.out
   clear HB1 HB2 HB3 HB HA
   cases B1<;>cases B2<;>cases B3
   all_goals (
    go_wp2_with fail
    go_quiet (fail)
    go_wp2_with fail
    go_ret2
    exact⟨rfl,GD.drN _⟩)
 . have hpa:p[c.act.toNat]?=none:=by rw [ha,Int.toNat_natCast];exact List.getElem?_eq_none (by omega)
   have hB:abt p c m=(false,0):=by unfold abt;rw [hpa]
   rw [hB]
   have t1:(y.n:Int)<=c.act:=by omega
   clear hB hpa hlt ha hyl hok hy hc hp h hR eR
   go_enter Tryz.func18,Tryz.ntmps18
   go_wp2_with fail
   go_quiet (fail)
   go_wp2_with fail
   go_ret2
   exact⟨rfl,(((Gr.refl w).al _).al _).drN _⟩
end
end P16
end
end Go.Proofs.YtainfijdhcehlaaGreatDoor
