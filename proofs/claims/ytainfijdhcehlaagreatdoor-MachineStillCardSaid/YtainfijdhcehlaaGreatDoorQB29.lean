/-
  A part of the proof.
-/
import Derived.Test.YtainfijdhcehlaaGreatDoorQB28
set_option linter.unusedVariables false
set_option linter.unusedSimpArgs false
set_option maxRecDepth 100000
set_option maxHeartbeats 8000000
namespace Go.Proofs.YtainfijdhcehlaaGreatDoor
open Lib (hid)
section
open Go.ChangeShapes Go.WideShapes Go.ChangeAt Go.RowKit Go.Shelf
namespace P16
open P14 (pan)
open P12 (PV PMem)
section
variable {W:World} {r:WR} {ω:Wv} {who d:Int}
theorem zeroW_is (W:World):WIs W ⟨0,⟨none,0,0⟩,⟨none,0,0⟩,⟨none,0,0⟩,⟨none,0,0⟩,0⟩ zeroW :=
 ⟨rfl,rfl,b64_0,b64_0,⟨[],PMem.nil_,rfl⟩,RMem.nil_,RMem.nil_,⟨[],SMem.nil_,rfl⟩,⟨Nat.le_refl _,Nat.zero_le _⟩,⟨Nat.le_refl _,Nat.zero_le _⟩,⟨Nat.le_refl _,Nat.zero_le _⟩,⟨Nat.le_refl _,Nat.zero_le _⟩⟩
theorem zeroW_new (B:Nat) (W:World):WNew B W ⟨0,⟨none,0,0⟩,⟨none,0,0⟩,⟨none,0,0⟩,⟨none,0,0⟩,0⟩ zeroW:=λ W' _=>zeroW_is W'
abbrev TickQ (W:World) (ω:Wv) (d:Int) (e:Ending) (W':World):Prop:=(∃ (s:WR) (ψ:Wv) (x:Int),e=.returned (.tuple #[s.v,.int .i64 x])/\TickM ω d ψ x/\WNew W.heap.size W' s ψ)/\Gr W W'
theorem tick_wrong (h:WIs W r ω) (hn:¬ RightW ω):Calls Tryz.prog 21 #[r.v,.int .i64 d] W (TickQ W ω d):=by
 have cR:=λ W' (g:Gr W W')=>hid (Right_is (h.gr g) (v:=false) (by simp [hn]))
 have B0:=hid ((Blk.new W r.a 29).al (.cells zeroA 29))
 have Z0:Hid (Blk ((W.alloc (.cells r.a 29)).alloc (.cells zeroA 29)) (W.heap.size+1) zeroA 29):=hid (by have:=Blk.new (W.alloc (.cells r.a 29)) zeroA 29;rwa [World.size_alloc] at this)
 have G0:=hid (((Gr.refl W).al (.cells r.a 29)).al (.cells zeroA 29))
 clear h
 go_enter Tryz.func21,Tryz.ntmps21
 go_upto_region 1 with fail
 generalize (W.alloc (.cells r.a 29)).alloc (.cells zeroA 29)=V at B0 Z0 G0 ⊢
 obtain⟨q0,-⟩:=B0.out.at_ (k:=0) (v:=.int .i64 r.now) rfl
 obtain⟨q1,-⟩:=B0.out.at_ (k:=1) (v:=.slice r.p.A r.p.n r.p.c) rfl
 obtain⟨q2,-⟩:=B0.out.at_ (k:=2) (v:=.slice r.c.A r.c.n r.c.c) rfl
 obtain⟨q3,-⟩:=B0.out.at_ (k:=3) (v:=.slice r.m.A r.m.n r.m.c) rfl
 obtain⟨q4,-⟩:=B0.out.at_ (k:=4) (v:=.slice r.t.A r.t.n r.t.c) rfl
 obtain⟨q5,-⟩:=B0.out.at_ (k:=5) (v:=.int .i64 r.stop) rfl
 go_wp2_with fail
 with_reducible refine (cR _ G0.out).out.mono ?_
 rintro e w1 ⟨rfl,g1⟩
 have Z1:=hid (Z0.out.gr g1)
 have G1:=hid (G0.out.trans g1)
 clear g1 q0 q1 q2 q3 q4 q5
 have WF:=hid (put6_blk Z1.out rfl (.int .i64 0) (.slice none 0 0) (.slice none 0 0) (.slice none 0 0) (.slice none 0 0) (.int .i64 0))
 have GF:=hid (put6_gr (x0:=.int .i64 0) (x1:=.slice none 0 0) (x2:=.slice none 0 0) (x3:=.slice none 0 0) (x4:=.slice none 0 0) (x5:=.int .i64 0) (b:=W.heap.size+1) G1.out (Nat.le_succ _))
 have lt1:=Z1.out.lt
 obtain⟨v0,x0⟩:=Z1.out.at_ (k:=0) (v:=.int .i64 0) rfl
 obtain⟨v1,x1⟩:=Z1.out.at_ (k:=1) (v:=.slice none 0 0) rfl
 obtain⟨v2,x2⟩:=Z1.out.at_ (k:=2) (v:=.slice none 0 0) rfl
 obtain⟨v3,x3⟩:=Z1.out.at_ (k:=3) (v:=.slice none 0 0) rfl
 obtain⟨v4,x4⟩:=Z1.out.at_ (k:=4) (v:=.slice none 0 0) rfl
 obtain⟨v5,x5⟩:=Z1.out.at_ (k:=5) (v:=.int .i64 0) rfl
 go_wp2_with fail
 clear v0 x0 v1 x1 v2 x2 v3 x3 v4 x4 v5 x5 lt1
 generalize ((((((w1.setCell ⟨W.heap.size+1,0,none⟩ (.int .i64 0)).setCell ⟨W.heap.size+1,1,none⟩ (.slice none 0 0)).setCell ⟨W.heap.size+1,2,none⟩ (.slice none 0 0)).setCell ⟨W.heap.size+1,3,none⟩ (.slice none 0 0)).setCell ⟨W.heap.size+1,4,none⟩ (.slice none 0 0)).setCell ⟨W.heap.size+1,5,none⟩ (.int .i64 0))=Wf at WF GF ⊢
 have F0:=(WF.out.at_ (k:=0) (v:=.int .i64 0) rfl).1
 have F1:=(WF.out.at_ (k:=1) (v:=.slice none 0 0) rfl).1
 have F2:=(WF.out.at_ (k:=2) (v:=.slice none 0 0) rfl).1
 have F3:=(WF.out.at_ (k:=3) (v:=.slice none 0 0) rfl).1
 have F4:=(WF.out.at_ (k:=4) (v:=.slice none 0 0) rfl).1
 have F5:=(WF.out.at_ (k:=5) (v:=.int .i64 0) rfl).1
 exact bodyPost_ret (v:=.tuple #[WR.v ⟨0,⟨none,0,0⟩,⟨none,0,0⟩,⟨none,0,0⟩,⟨none,0,0⟩,0⟩,.int .i64 1]) (by simp [results,Tryz.results21,go_sem,F0,F1,F2,F3,F4,F5]) rfl
  ⟨⟨⟨0,⟨none,0,0⟩,⟨none,0,0⟩,⟨none,0,0⟩,⟨none,0,0⟩,0⟩,zeroW,1,rfl,.inl ⟨λ q=>hn q.1,rfl,rfl⟩,zeroW_new _ _⟩,GF.out⟩
theorem tick_notime (h:WIs W r ω) (hr:RightW ω) (hd:¬ Tim d):Calls Tryz.prog 21 #[r.v,.int .i64 d] W (TickQ W ω d):=by
 have cR:=λ W' (g:Gr W W')=>hid (Right_is (h.gr g) (v:=true) (by simp [hr]))
 have cD:=λ W'=>hid (P4.Right_ok d false (P4.near_ne (λ q=>hd q)) W')
 have B0:=hid ((Blk.new W r.a 29).al (.cells zeroA 29))
 have Z0:Hid (Blk ((W.alloc (.cells r.a 29)).alloc (.cells zeroA 29)) (W.heap.size+1) zeroA 29):=hid (by have:=Blk.new (W.alloc (.cells r.a 29)) zeroA 29;rwa [World.size_alloc] at this)
 have G0:=hid (((Gr.refl W).al (.cells r.a 29)).al (.cells zeroA 29))
 clear h
 go_enter Tryz.func21,Tryz.ntmps21
 go_upto_region 1 with fail
 generalize (W.alloc (.cells r.a 29)).alloc (.cells zeroA 29)=V at B0 Z0 G0 ⊢
 obtain⟨q0,-⟩:=B0.out.at_ (k:=0) (v:=.int .i64 r.now) rfl
 obtain⟨q1,-⟩:=B0.out.at_ (k:=1) (v:=.slice r.p.A r.p.n r.p.c) rfl
 obtain⟨q2,-⟩:=B0.out.at_ (k:=2) (v:=.slice r.c.A r.c.n r.c.c) rfl
 obtain⟨q3,-⟩:=B0.out.at_ (k:=3) (v:=.slice r.m.A r.m.n r.m.c) rfl
 obtain⟨q4,-⟩:=B0.out.at_ (k:=4) (v:=.slice r.t.A r.t.n r.t.c) rfl
 obtain⟨q5,-⟩:=B0.out.at_ (k:=5) (v:=.int .i64 r.stop) rfl
 go_wp2_with fail
 with_reducible refine (cR _ G0.out).out.mono ?_
 rintro e w1 ⟨rfl,g1⟩
 have G1:=hid (G0.out.trans g1)
 have Z1:=hid (Z0.out.gr g1)
 clear g1 q0 q1 q2 q3 q4 q5
 go_wp2_with fail
 with_reducible refine (cD _).out.mono ?_
 rintro e w2 ⟨rfl,g2⟩
 have Z2:=hid (Z1.out.gr g2)
 have G2:=hid (G1.out.trans g2)
 clear g2 Z1
 have WF:=hid (put6_blk Z2.out rfl (.int .i64 0) (.slice none 0 0) (.slice none 0 0) (.slice none 0 0) (.slice none 0 0) (.int .i64 0))
 have GF:=hid (put6_gr (x0:=.int .i64 0) (x1:=.slice none 0 0) (x2:=.slice none 0 0) (x3:=.slice none 0 0) (x4:=.slice none 0 0) (x5:=.int .i64 0) (b:=W.heap.size+1) G2.out (Nat.le_succ _))
 have lt1:=Z2.out.lt
 obtain⟨v0,x0⟩:=Z2.out.at_ (k:=0) (v:=.int .i64 0) rfl
 obtain⟨v1,x1⟩:=Z2.out.at_ (k:=1) (v:=.slice none 0 0) rfl
 obtain⟨v2,x2⟩:=Z2.out.at_ (k:=2) (v:=.slice none 0 0) rfl
 obtain⟨v3,x3⟩:=Z2.out.at_ (k:=3) (v:=.slice none 0 0) rfl
 obtain⟨v4,x4⟩:=Z2.out.at_ (k:=4) (v:=.slice none 0 0) rfl
 obtain⟨v5,x5⟩:=Z2.out.at_ (k:=5) (v:=.int .i64 0) rfl
 go_wp2_with fail
 clear v0 x0 v1 x1 v2 x2 v3 x3 v4 x4 v5 x5 lt1
 generalize ((((((w2.setCell ⟨W.heap.size+1,0,none⟩ (.int .i64 0)).setCell ⟨W.heap.size+1,1,none⟩ (.slice none 0 0)).setCell ⟨W.heap.size+1,2,none⟩ (.slice none 0 0)).setCell ⟨W.heap.size+1,3,none⟩ (.slice none 0 0)).setCell ⟨W.heap.size+1,4,none⟩ (.slice none 0 0)).setCell ⟨W.heap.size+1,5,none⟩ (.int .i64 0))=Wf at WF GF ⊢
 have F0:=(WF.out.at_ (k:=0) (v:=.int .i64 0) rfl).1
 have F1:=(WF.out.at_ (k:=1) (v:=.slice none 0 0) rfl).1
 have F2:=(WF.out.at_ (k:=2) (v:=.slice none 0 0) rfl).1
 have F3:=(WF.out.at_ (k:=3) (v:=.slice none 0 0) rfl).1
 have F4:=(WF.out.at_ (k:=4) (v:=.slice none 0 0) rfl).1
 have F5:=(WF.out.at_ (k:=5) (v:=.int .i64 0) rfl).1
 exact bodyPost_ret (v:=.tuple #[WR.v ⟨0,⟨none,0,0⟩,⟨none,0,0⟩,⟨none,0,0⟩,⟨none,0,0⟩,0⟩,.int .i64 1]) (by simp [results,Tryz.results21,go_sem,F0,F1,F2,F3,F4,F5]) rfl
  ⟨⟨⟨0,⟨none,0,0⟩,⟨none,0,0⟩,⟨none,0,0⟩,⟨none,0,0⟩,0⟩,zeroW,1,rfl,.inl ⟨λ q=>hd q.2,rfl,rfl⟩,zeroW_new _ _⟩,GF.out⟩
theorem WNew.at_now {B:Nat} {s:WR} (h:WNew B W s ω) {t:Int} (ht:B64 t):WNew B W { s with now:=t } { ω with now:=t }:=λ W' f =>
 have q:=h W' f
 ⟨rfl,q.stop,ht,q.bs,q.p,q.c,q.m,q.t,q.op,q.oc,q.om,q.ot⟩
theorem tick_stopped (h:WIs W r ω) (hr:RightW ω) (hd:Tim d) (hs:ω.stop≠0):Calls Tryz.prog 21 #[r.v,.int .i64 d] W (TickQ W ω d):=by
 have cR:=λ W' (g:Gr W W')=>hid (Right_is (h.gr g) (v:=true) (by simp [hr]))
 have cD:=λ W'=>hid (P4.Right_ok d true (by rw [P4.near_eq hd];simp) W')
 have cC:=λ W' (g:Gr W W')=>hid (copied_is (h.gr g).rd hr.few)
 have H:=hid h
 have B0:=hid ((Blk.new W r.a 29).al (.cells zeroA 29))
 have Z0:Hid (Blk ((W.alloc (.cells r.a 29)).alloc (.cells zeroA 29)) (W.heap.size+1) zeroA 29):=hid (by have:=Blk.new (W.alloc (.cells r.a 29)) zeroA 29;rwa [World.size_alloc] at this)
 have G0:=hid (((Gr.refl W).al (.cells r.a 29)).al (.cells zeroA 29))
 have S0:((W.alloc (.cells r.a 29)).alloc (.cells zeroA 29)).heap.size=W.heap.size+2:=by rw [World.size_alloc,World.size_alloc]
 clear h
 go_enter Tryz.func21,Tryz.ntmps21
 go_upto_region 1 with fail
 generalize (W.alloc (.cells r.a 29)).alloc (.cells zeroA 29)=V at B0 Z0 G0 S0 ⊢
 obtain⟨q0,-⟩:=B0.out.at_ (k:=0) (v:=.int .i64 r.now) rfl
 obtain⟨q1,-⟩:=B0.out.at_ (k:=1) (v:=.slice r.p.A r.p.n r.p.c) rfl
 obtain⟨q2,-⟩:=B0.out.at_ (k:=2) (v:=.slice r.c.A r.c.n r.c.c) rfl
 obtain⟨q3,-⟩:=B0.out.at_ (k:=3) (v:=.slice r.m.A r.m.n r.m.c) rfl
 obtain⟨q4,-⟩:=B0.out.at_ (k:=4) (v:=.slice r.t.A r.t.n r.t.c) rfl
 obtain⟨q5,-⟩:=B0.out.at_ (k:=5) (v:=.int .i64 r.stop) rfl
 go_wp2_with fail
 with_reducible refine (cR _ G0.out).out.mono ?_
 rintro e w1 ⟨rfl,g1⟩
 have G1:=hid (G0.out.trans g1)
 have Z1:=hid (Z0.out.gr g1)
 have B1:=hid (B0.out.gr g1)
 have s1:=g1.size
 clear g1 q0 q1 q2 q3 q4 q5
 go_wp2_with fail
 with_reducible refine (cD _).out.mono ?_
 rintro e w2 ⟨rfl,g2⟩
 have Z2:=hid (Z1.out.gr g2)
 have G2:=hid (G1.out.trans g2)
 have B2:=hid (B1.out.gr g2)
 have s2:=g2.size
 clear g2 Z1 B1
 obtain⟨q0,-⟩:=B2.out.at_ (k:=0) (v:=.int .i64 r.now) rfl
 obtain⟨q1,-⟩:=B2.out.at_ (k:=1) (v:=.slice r.p.A r.p.n r.p.c) rfl
 obtain⟨q2,-⟩:=B2.out.at_ (k:=2) (v:=.slice r.c.A r.c.n r.c.c) rfl
 obtain⟨q3,-⟩:=B2.out.at_ (k:=3) (v:=.slice r.m.A r.m.n r.m.c) rfl
 obtain⟨q4,-⟩:=B2.out.at_ (k:=4) (v:=.slice r.t.A r.t.n r.t.c) rfl
 obtain⟨q5,-⟩:=B2.out.at_ (k:=5) (v:=.int .i64 r.stop) rfl
 go_wp2_with fail
 with_reducible refine (cC _ G2.out).out.mono ?_
 rintro e w3 ⟨⟨s,b1,b2,b3,rfl,hcp⟩,g3⟩
 have N3:=hid (hcp.new.low (show W.heap.size+2<=_ by omega))
 have E3:=hid hcp.now
 have E3s:=hid hcp.stop
 obtain⟨now,⟨A1,n1,c1⟩,⟨A2,n2,c2⟩,⟨A3,n3,c3⟩,⟨A4,n4,c4⟩,stop⟩:=s
 have Z3:=Z2.out.gr g3
 have B3:=B2.out.gr g3
 have G3:=G2.out.trans g3
 have gA:=(Gr.refl w3).al (.cells (rA now stop ⟨A1,n1,c1⟩ ⟨A2,n2,c2⟩ ⟨A3,n3,c3⟩ ⟨A4,n4,c4⟩) 29)
 have T4:=Blk.new w3 (rA now stop ⟨A1,n1,c1⟩ ⟨A2,n2,c2⟩ ⟨A3,n3,c3⟩ ⟨A4,n4,c4⟩) 29
 have Z4:=hid (Z3.gr gA)
 have B4:=hid (B3.gr gA)
 have G4:=hid (G3.trans gA)
 have N4:=hid (N3.out.gr gA)
 have F4:=hid gA
 have s3:=g3.size
 have hz3:=Z3.lt
 clear hcp g3 Z3 B3 G3 gA Z2 B2 S0 s1 s2 s3 cR cD cC q0 q1 q2 q3 q4 q5
 go_upto_region 4 with fail
 generalize w3.alloc (.cells (rA now stop ⟨A1,n1,c1⟩ ⟨A2,n2,c2⟩ ⟨A3,n3,c3⟩ ⟨A4,n4,c4⟩) 29)=V4 at T4 Z4 B4 G4 N4 F4 ⊢
 have hlt:=T4.lt
 have T5:=hid T4
 clear T4
 generalize hg:w3.heap.size=g at *
 have HGE:=hid hg
 clear hg
 have hq:(r.stop != 0)=true:=by have:=H.out.stop;simp;omega
 obtain⟨q5,-⟩:=B4.out.at_ (k:=5) (v:=.int .i64 r.stop) rfl
 obtain⟨t0,-⟩:=T5.out.at_ (k:=0) (v:=.int .i64 now) rfl
 obtain⟨t1,-⟩:=T5.out.at_ (k:=1) (v:=.slice A1 n1 c1) rfl
 obtain⟨t2,-⟩:=T5.out.at_ (k:=2) (v:=.slice A2 n2 c2) rfl
 obtain⟨t3,-⟩:=T5.out.at_ (k:=3) (v:=.slice A3 n3 c3) rfl
 obtain⟨t4,-⟩:=T5.out.at_ (k:=4) (v:=.slice A4 n4 c4) rfl
 obtain⟨t5,-⟩:=T5.out.at_ (k:=5) (v:=.int .i64 stop) rfl
 have WF:=hid (put6_blk Z4.out rfl (.int .i64 now) (.slice A1 n1 c1) (.slice A2 n2 c2) (.slice A3 n3 c3) (.slice A4 n4 c4) (.int .i64 stop))
 have GF:=hid (put6_gr (x0:=.int .i64 now) (x1:=.slice A1 n1 c1) (x2:=.slice A2 n2 c2) (x3:=.slice A3 n3 c3) (x4:=.slice A4 n4 c4) (x5:=.int .i64 stop) (b:=W.heap.size+1) G4.out (Nat.le_succ _))
 have lt1:=Z4.out.lt
 obtain⟨v0,x0⟩:=Z4.out.at_ (k:=0) (v:=.int .i64 0) rfl
 obtain⟨v1,x1⟩:=Z4.out.at_ (k:=1) (v:=.slice none 0 0) rfl
 obtain⟨v2,x2⟩:=Z4.out.at_ (k:=2) (v:=.slice none 0 0) rfl
 obtain⟨v3,x3⟩:=Z4.out.at_ (k:=3) (v:=.slice none 0 0) rfl
 obtain⟨v4,x4⟩:=Z4.out.at_ (k:=4) (v:=.slice none 0 0) rfl
 obtain⟨v5,x5⟩:=Z4.out.at_ (k:=5) (v:=.int .i64 0) rfl
 have NF:=hid ((N4.out.to (FromB.put6 (b:=W.heap.size+1) (by omega) (.int .i64 now) (.slice A1 n1 c1) (.slice A2 n2 c2) (.slice A3 n3 c3) (.slice A4 n4 c4) (.int .i64 stop))).low (show W.heap.size<=W.heap.size+2 by omega))
 go_wp2_with fail
 clear v0 x0 v1 x1 v2 x2 v3 x3 v4 x4 v5 x5 lt1
 generalize ((((((V4.setCell ⟨W.heap.size+1,0,none⟩ (.int .i64 now)).setCell ⟨W.heap.size+1,1,none⟩ (.slice A1 n1 c1)).setCell ⟨W.heap.size+1,2,none⟩ (.slice A2 n2 c2)).setCell ⟨W.heap.size+1,3,none⟩ (.slice A3 n3 c3)).setCell ⟨W.heap.size+1,4,none⟩ (.slice A4 n4 c4)).setCell ⟨W.heap.size+1,5,none⟩ (.int .i64 stop))=Wf at WF GF NF ⊢
 have F0:=(WF.out.at_ (k:=0) (v:=.int .i64 now) rfl).1
 have F1:=(WF.out.at_ (k:=1) (v:=.slice A1 n1 c1) rfl).1
 have F2:=(WF.out.at_ (k:=2) (v:=.slice A2 n2 c2) rfl).1
 have F3:=(WF.out.at_ (k:=3) (v:=.slice A3 n3 c3) rfl).1
 have F4:=(WF.out.at_ (k:=4) (v:=.slice A4 n4 c4) rfl).1
 have F5:=(WF.out.at_ (k:=5) (v:=.int .i64 stop) rfl).1
 have NF:WNew W.heap.size Wf ⟨now,⟨A1,n1,c1⟩,⟨A2,n2,c2⟩,⟨A3,n3,c3⟩,⟨A4,n4,c4⟩,stop⟩ ω:=NF.out
 exact bodyPost_ret (v:=.tuple #[WR.v ⟨now,⟨A1,n1,c1⟩,⟨A2,n2,c2⟩,⟨A3,n3,c3⟩,⟨A4,n4,c4⟩,stop⟩,.int .i64 0]) (by simp [results,Tryz.results21,go_sem,F0,F1,F2,F3,F4,F5]) rfl
  ⟨⟨⟨now,⟨A1,n1,c1⟩,⟨A2,n2,c2⟩,⟨A3,n3,c3⟩,⟨A4,n4,c4⟩,stop⟩,ω,0,rfl,.inr (.inl ⟨hr,hd,hs,rfl,rfl⟩),NF⟩,GF.out⟩
theorem tick_over (h:WIs W r ω) (hr:RightW ω) (hd:Tim d) (hs:ω.stop=0) (hn:4611686018427387904<ω.now+d):Calls Tryz.prog 21 #[r.v,.int .i64 d] W (TickQ W ω d):=by
 have hno:=h.now
 have hnw:=hr.now
 have cK:=λ W'=>hid (P4.Tick_is (a:=r.now) (b:=d) (r:=0) (s:=10) (.inr (.inl ⟨by rw [hno];exact hnw,hd,by omega,rfl,rfl⟩)) W')
 have HS:=hid hs
 clear hno hnw hs
 have cR:=λ W' (g:Gr W W')=>hid (Right_is (h.gr g) (v:=true) (by simp [hr]))
 have cD:=λ W'=>hid (P4.Right_ok d true (by rw [P4.near_eq hd];simp) W')
 have cC:=λ W' (g:Gr W W')=>hid (copied_is (h.gr g).rd hr.few)
 have H:=hid h
 have B0:=hid ((Blk.new W r.a 29).al (.cells zeroA 29))
 have Z0:Hid (Blk ((W.alloc (.cells r.a 29)).alloc (.cells zeroA 29)) (W.heap.size+1) zeroA 29):=hid (by have:=Blk.new (W.alloc (.cells r.a 29)) zeroA 29;rwa [World.size_alloc] at this)
 have G0:=hid (((Gr.refl W).al (.cells r.a 29)).al (.cells zeroA 29))
 have S0:((W.alloc (.cells r.a 29)).alloc (.cells zeroA 29)).heap.size=W.heap.size+2:=by rw [World.size_alloc,World.size_alloc]
 clear h
 go_enter Tryz.func21,Tryz.ntmps21
 go_upto_region 1 with fail
 generalize (W.alloc (.cells r.a 29)).alloc (.cells zeroA 29)=V at B0 Z0 G0 S0 ⊢
 obtain⟨q0,-⟩:=B0.out.at_ (k:=0) (v:=.int .i64 r.now) rfl
 obtain⟨q1,-⟩:=B0.out.at_ (k:=1) (v:=.slice r.p.A r.p.n r.p.c) rfl
 obtain⟨q2,-⟩:=B0.out.at_ (k:=2) (v:=.slice r.c.A r.c.n r.c.c) rfl
 obtain⟨q3,-⟩:=B0.out.at_ (k:=3) (v:=.slice r.m.A r.m.n r.m.c) rfl
 obtain⟨q4,-⟩:=B0.out.at_ (k:=4) (v:=.slice r.t.A r.t.n r.t.c) rfl
 obtain⟨q5,-⟩:=B0.out.at_ (k:=5) (v:=.int .i64 r.stop) rfl
 go_wp2_with fail
 with_reducible refine (cR _ G0.out).out.mono ?_
 rintro e w1 ⟨rfl,g1⟩
 have G1:=hid (G0.out.trans g1)
 have Z1:=hid (Z0.out.gr g1)
 have B1:=hid (B0.out.gr g1)
 have s1:=g1.size
 clear g1 q0 q1 q2 q3 q4 q5
 go_wp2_with fail
 with_reducible refine (cD _).out.mono ?_
 rintro e w2 ⟨rfl,g2⟩
 have Z2:=hid (Z1.out.gr g2)
 have G2:=hid (G1.out.trans g2)
 have B2:=hid (B1.out.gr g2)
 have s2:=g2.size
 clear g2 Z1 B1
 obtain⟨q0,-⟩:=B2.out.at_ (k:=0) (v:=.int .i64 r.now) rfl
 obtain⟨q1,-⟩:=B2.out.at_ (k:=1) (v:=.slice r.p.A r.p.n r.p.c) rfl
 obtain⟨q2,-⟩:=B2.out.at_ (k:=2) (v:=.slice r.c.A r.c.n r.c.c) rfl
 obtain⟨q3,-⟩:=B2.out.at_ (k:=3) (v:=.slice r.m.A r.m.n r.m.c) rfl
 obtain⟨q4,-⟩:=B2.out.at_ (k:=4) (v:=.slice r.t.A r.t.n r.t.c) rfl
 obtain⟨q5,-⟩:=B2.out.at_ (k:=5) (v:=.int .i64 r.stop) rfl
 go_wp2_with fail
 with_reducible refine (cC _ G2.out).out.mono ?_
 rintro e w3 ⟨⟨s,b1,b2,b3,rfl,hcp⟩,g3⟩
 have N3:=hid (hcp.new.low (show W.heap.size+2<=_ by omega))
 have E3:=hid hcp.now
 have E3s:=hid hcp.stop
 obtain⟨now,⟨A1,n1,c1⟩,⟨A2,n2,c2⟩,⟨A3,n3,c3⟩,⟨A4,n4,c4⟩,stop⟩:=s
 have Z3:=Z2.out.gr g3
 have B3:=B2.out.gr g3
 have G3:=G2.out.trans g3
 have gA:=(Gr.refl w3).al (.cells (rA now stop ⟨A1,n1,c1⟩ ⟨A2,n2,c2⟩ ⟨A3,n3,c3⟩ ⟨A4,n4,c4⟩) 29)
 have T4:=Blk.new w3 (rA now stop ⟨A1,n1,c1⟩ ⟨A2,n2,c2⟩ ⟨A3,n3,c3⟩ ⟨A4,n4,c4⟩) 29
 have Z4:=hid (Z3.gr gA)
 have B4:=hid (B3.gr gA)
 have G4:=hid (G3.trans gA)
 have N4:=hid (N3.out.gr gA)
 have F4:=hid gA
 have s3:=g3.size
 have hz3:=Z3.lt
 clear hcp g3 Z3 B3 G3 gA Z2 B2 S0 s1 s2 s3 cR cD cC q0 q1 q2 q3 q4 q5
 go_upto_region 4 with fail
 generalize w3.alloc (.cells (rA now stop ⟨A1,n1,c1⟩ ⟨A2,n2,c2⟩ ⟨A3,n3,c3⟩ ⟨A4,n4,c4⟩) 29)=V4 at T4 Z4 B4 G4 N4 F4 ⊢
 have hlt:=T4.lt
 have T5:=hid T4
 clear T4
 generalize hg:w3.heap.size=g at *
 have HGE:=hid hg
 clear hg
 have hq:(r.stop != 0)=false:=by have:=H.out.stop;have:=HS.out;simp;omega
 obtain⟨q5,-⟩:=B4.out.at_ (k:=5) (v:=.int .i64 r.stop) rfl
 obtain⟨q0,-⟩:=B4.out.at_ (k:=0) (v:=.int .i64 r.now) rfl
 have HN:=hid hn
 have HD:=hid hd
 clear hn hd
 go_wp2_with fail
 with_reducible refine (cK _).out.mono ?_
 rintro e w5 ⟨rfl,g5⟩
 have Z5:=hid (Z4.out.gr g5)
 have G5:=hid (G4.out.trans g5)
 clear g5 Z4 G4 cK q5 q0
 have WF:=hid (put6_blk Z5.out rfl (.int .i64 0) (.slice none 0 0) (.slice none 0 0) (.slice none 0 0) (.slice none 0 0) (.int .i64 0))
 have GF:=hid (put6_gr (x0:=.int .i64 0) (x1:=.slice none 0 0) (x2:=.slice none 0 0) (x3:=.slice none 0 0) (x4:=.slice none 0 0) (x5:=.int .i64 0) (b:=W.heap.size+1) G5.out (Nat.le_succ _))
 have lt1:=Z5.out.lt
 obtain⟨v0,x0⟩:=Z5.out.at_ (k:=0) (v:=.int .i64 0) rfl
 obtain⟨v1,x1⟩:=Z5.out.at_ (k:=1) (v:=.slice none 0 0) rfl
 obtain⟨v2,x2⟩:=Z5.out.at_ (k:=2) (v:=.slice none 0 0) rfl
 obtain⟨v3,x3⟩:=Z5.out.at_ (k:=3) (v:=.slice none 0 0) rfl
 obtain⟨v4,x4⟩:=Z5.out.at_ (k:=4) (v:=.slice none 0 0) rfl
 obtain⟨v5,x5⟩:=Z5.out.at_ (k:=5) (v:=.int .i64 0) rfl
 go_wp2_with fail
 clear v0 x0 v1 x1 v2 x2 v3 x3 v4 x4 v5 x5 lt1
 generalize ((((((w5.setCell ⟨W.heap.size+1,0,none⟩ (.int .i64 0)).setCell ⟨W.heap.size+1,1,none⟩ (.slice none 0 0)).setCell ⟨W.heap.size+1,2,none⟩ (.slice none 0 0)).setCell ⟨W.heap.size+1,3,none⟩ (.slice none 0 0)).setCell ⟨W.heap.size+1,4,none⟩ (.slice none 0 0)).setCell ⟨W.heap.size+1,5,none⟩ (.int .i64 0))=Wf at WF GF ⊢
 have F0:=(WF.out.at_ (k:=0) (v:=.int .i64 0) rfl).1
 have F1:=(WF.out.at_ (k:=1) (v:=.slice none 0 0) rfl).1
 have F2:=(WF.out.at_ (k:=2) (v:=.slice none 0 0) rfl).1
 have F3:=(WF.out.at_ (k:=3) (v:=.slice none 0 0) rfl).1
 have F4:=(WF.out.at_ (k:=4) (v:=.slice none 0 0) rfl).1
 have F5:=(WF.out.at_ (k:=5) (v:=.int .i64 0) rfl).1
 exact bodyPost_ret (v:=.tuple #[WR.v ⟨0,⟨none,0,0⟩,⟨none,0,0⟩,⟨none,0,0⟩,⟨none,0,0⟩,0⟩,.int .i64 10]) (by simp [results,Tryz.results21,go_sem,F0,F1,F2,F3,F4,F5]) rfl
  ⟨⟨⟨0,⟨none,0,0⟩,⟨none,0,0⟩,⟨none,0,0⟩,⟨none,0,0⟩,0⟩,zeroW,10,rfl,.inr (.inr (.inr ⟨hr,HD.out,HS.out,HN.out,rfl,rfl⟩)),zeroW_new _ _⟩,GF.out⟩
theorem tick_goes (h:WIs W r ω) (hr:RightW ω) (hd:Tim d) (hs:ω.stop=0) (hn:ω.now+d<=4611686018427387904):Calls Tryz.prog 21 #[r.v,.int .i64 d] W (TickQ W ω d):=by
 have hno:=h.now
 have hnw:=hr.now
 have hbt:B64 (ω.now+d):=by unfold Tim at hd;exact⟨by omega,by omega⟩
 obtain⟨tv,htv⟩:∃ tv,ω.now+d=tv:=⟨_,rfl⟩
 have cK:=λ W'=>hid (P4.Tick_is (a:=r.now) (b:=d) (r:=tv) (s:=0) (.inl ⟨by rw [hno];exact hnw,hd,by rw [hno];exact hn,by rw [hno];exact htv.symm,rfl⟩) W')
 rw [htv] at hbt
 have HB:=hid hbt
 have HTV:=hid htv
 have HS:=hid hs
 clear hno hnw hs htv hbt
 have cR:=λ W' (g:Gr W W')=>hid (Right_is (h.gr g) (v:=true) (by simp [hr]))
 have cD:=λ W'=>hid (P4.Right_ok d true (by rw [P4.near_eq hd];simp) W')
 have cC:=λ W' (g:Gr W W')=>hid (copied_is (h.gr g).rd hr.few)
 have H:=hid h
 have B0:=hid ((Blk.new W r.a 29).al (.cells zeroA 29))
 have Z0:Hid (Blk ((W.alloc (.cells r.a 29)).alloc (.cells zeroA 29)) (W.heap.size+1) zeroA 29):=hid (by have:=Blk.new (W.alloc (.cells r.a 29)) zeroA 29;rwa [World.size_alloc] at this)
 have G0:=hid (((Gr.refl W).al (.cells r.a 29)).al (.cells zeroA 29))
 have S0:((W.alloc (.cells r.a 29)).alloc (.cells zeroA 29)).heap.size=W.heap.size+2:=by rw [World.size_alloc,World.size_alloc]
 clear h
 go_enter Tryz.func21,Tryz.ntmps21
 go_upto_region 1 with fail
 generalize (W.alloc (.cells r.a 29)).alloc (.cells zeroA 29)=V at B0 Z0 G0 S0 ⊢
 obtain⟨q0,-⟩:=B0.out.at_ (k:=0) (v:=.int .i64 r.now) rfl
 obtain⟨q1,-⟩:=B0.out.at_ (k:=1) (v:=.slice r.p.A r.p.n r.p.c) rfl
 obtain⟨q2,-⟩:=B0.out.at_ (k:=2) (v:=.slice r.c.A r.c.n r.c.c) rfl
 obtain⟨q3,-⟩:=B0.out.at_ (k:=3) (v:=.slice r.m.A r.m.n r.m.c) rfl
 obtain⟨q4,-⟩:=B0.out.at_ (k:=4) (v:=.slice r.t.A r.t.n r.t.c) rfl
 obtain⟨q5,-⟩:=B0.out.at_ (k:=5) (v:=.int .i64 r.stop) rfl
 go_wp2_with fail
 with_reducible refine (cR _ G0.out).out.mono ?_
 rintro e w1 ⟨rfl,g1⟩
 have G1:=hid (G0.out.trans g1)
 have Z1:=hid (Z0.out.gr g1)
 have B1:=hid (B0.out.gr g1)
 have s1:=g1.size
 clear g1 q0 q1 q2 q3 q4 q5
 go_wp2_with fail
 with_reducible refine (cD _).out.mono ?_
 rintro e w2 ⟨rfl,g2⟩
 have Z2:=hid (Z1.out.gr g2)
 have G2:=hid (G1.out.trans g2)
 have B2:=hid (B1.out.gr g2)
 have s2:=g2.size
 clear g2 Z1 B1
 obtain⟨q0,-⟩:=B2.out.at_ (k:=0) (v:=.int .i64 r.now) rfl
 obtain⟨q1,-⟩:=B2.out.at_ (k:=1) (v:=.slice r.p.A r.p.n r.p.c) rfl
 obtain⟨q2,-⟩:=B2.out.at_ (k:=2) (v:=.slice r.c.A r.c.n r.c.c) rfl
 obtain⟨q3,-⟩:=B2.out.at_ (k:=3) (v:=.slice r.m.A r.m.n r.m.c) rfl
 obtain⟨q4,-⟩:=B2.out.at_ (k:=4) (v:=.slice r.t.A r.t.n r.t.c) rfl
 obtain⟨q5,-⟩:=B2.out.at_ (k:=5) (v:=.int .i64 r.stop) rfl
 go_wp2_with fail
 with_reducible refine (cC _ G2.out).out.mono ?_
 rintro e w3 ⟨⟨s,b1,b2,b3,rfl,hcp⟩,g3⟩
 have N3:=hid (hcp.new.low (show W.heap.size+2<=_ by omega))
 have E3:=hid hcp.now
 have E3s:=hid hcp.stop
 obtain⟨now,⟨A1,n1,c1⟩,⟨A2,n2,c2⟩,⟨A3,n3,c3⟩,⟨A4,n4,c4⟩,stop⟩:=s
 have Z3:=Z2.out.gr g3
 have B3:=B2.out.gr g3
 have G3:=G2.out.trans g3
 have gA:=(Gr.refl w3).al (.cells (rA now stop ⟨A1,n1,c1⟩ ⟨A2,n2,c2⟩ ⟨A3,n3,c3⟩ ⟨A4,n4,c4⟩) 29)
 have T4:=Blk.new w3 (rA now stop ⟨A1,n1,c1⟩ ⟨A2,n2,c2⟩ ⟨A3,n3,c3⟩ ⟨A4,n4,c4⟩) 29
 have Z4:=hid (Z3.gr gA)
 have B4:=hid (B3.gr gA)
 have G4:=hid (G3.trans gA)
 have N4:=hid (N3.out.gr gA)
 have F4:=hid gA
 have s3:=g3.size
 have hz3:=Z3.lt
 clear hcp g3 Z3 B3 G3 gA Z2 B2 S0 s1 s2 s3 cR cD cC q0 q1 q2 q3 q4 q5
 go_upto_region 4 with fail
 generalize w3.alloc (.cells (rA now stop ⟨A1,n1,c1⟩ ⟨A2,n2,c2⟩ ⟨A3,n3,c3⟩ ⟨A4,n4,c4⟩) 29)=V4 at T4 Z4 B4 G4 N4 F4 ⊢
 have hlt:=T4.lt
 have T5:=hid T4
 clear T4
 generalize hg:w3.heap.size=g at *
 have HGE:=hid hg
 clear hg
 have hq:(r.stop != 0)=false:=by have:=H.out.stop;have:=HS.out;simp;omega
 obtain⟨q5,-⟩:=B4.out.at_ (k:=5) (v:=.int .i64 r.stop) rfl
 obtain⟨q0,-⟩:=B4.out.at_ (k:=0) (v:=.int .i64 r.now) rfl
 have HN:=hid hn
 have HD:=hid hd
 clear hn hd
 go_wp2_with fail
 with_reducible refine (cK _).out.mono ?_
 rintro e w5 ⟨rfl,g5⟩
 have T6:=T5.out.gr g5
 obtain⟨t0,y0⟩:=T6.at_ (k:=0) (v:=.int .i64 now) rfl
 have hl6:=T6.lt
 have T7:Hid (Blk (w5.setCell ⟨g,0,none⟩ (.int .i64 tv)) g (rA tv stop ⟨A1,n1,c1⟩ ⟨A2,n2,c2⟩ ⟨A3,n3,c3⟩ ⟨A4,n4,c4⟩) 29):=hid (T6.set 0 _)
 have Z7:=hid ((Z4.out.gr g5).st (p:=⟨g,0,none⟩) (by show g≠W.heap.size+1;omega) (.int .i64 tv))
 have G7:=hid ((G4.out.trans g5).st (p:=⟨g,0,none⟩) (by show W.heap.size<=g;omega) (.int .i64 tv))
 have N7:=hid (N3.out.gr ((F4.out.trans g5).st (p:=⟨g,0,none⟩) (by show w3.heap.size<=g;rw [HGE.out];exact Nat.le_refl _) (.int .i64 tv)))
 clear T6 g5 Z4 G4 cK q5 q0 N4 F4
 go_upto_region 10 with fail
 clear t0 y0 hl6
 generalize w5.setCell ⟨g,0,none⟩ (.int .i64 tv)=V7 at T7 Z7 G7 N7 ⊢
 have hl7:=T7.out.lt
 obtain⟨t0,-⟩:=T7.out.at_ (k:=0) (v:=.int .i64 tv) rfl
 obtain⟨t1,-⟩:=T7.out.at_ (k:=1) (v:=.slice A1 n1 c1) rfl
 obtain⟨t2,-⟩:=T7.out.at_ (k:=2) (v:=.slice A2 n2 c2) rfl
 obtain⟨t3,-⟩:=T7.out.at_ (k:=3) (v:=.slice A3 n3 c3) rfl
 obtain⟨t4,-⟩:=T7.out.at_ (k:=4) (v:=.slice A4 n4 c4) rfl
 obtain⟨t5,-⟩:=T7.out.at_ (k:=5) (v:=.int .i64 stop) rfl
 have WF:=hid (put6_blk Z7.out rfl (.int .i64 tv) (.slice A1 n1 c1) (.slice A2 n2 c2) (.slice A3 n3 c3) (.slice A4 n4 c4) (.int .i64 stop))
 have GF:=hid (put6_gr (x0:=.int .i64 tv) (x1:=.slice A1 n1 c1) (x2:=.slice A2 n2 c2) (x3:=.slice A3 n3 c3) (x4:=.slice A4 n4 c4) (x5:=.int .i64 stop) (b:=W.heap.size+1) G7.out (Nat.le_succ _))
 have lt1:=Z7.out.lt
 obtain⟨v0,x0⟩:=Z7.out.at_ (k:=0) (v:=.int .i64 0) rfl
 obtain⟨v1,x1⟩:=Z7.out.at_ (k:=1) (v:=.slice none 0 0) rfl
 obtain⟨v2,x2⟩:=Z7.out.at_ (k:=2) (v:=.slice none 0 0) rfl
 obtain⟨v3,x3⟩:=Z7.out.at_ (k:=3) (v:=.slice none 0 0) rfl
 obtain⟨v4,x4⟩:=Z7.out.at_ (k:=4) (v:=.slice none 0 0) rfl
 obtain⟨v5,x5⟩:=Z7.out.at_ (k:=5) (v:=.int .i64 0) rfl
 have NF:=hid ((N7.out.to (FromB.put6 (b:=W.heap.size+1) (by omega) (.int .i64 tv) (.slice A1 n1 c1) (.slice A2 n2 c2) (.slice A3 n3 c3) (.slice A4 n4 c4) (.int .i64 stop))).low (show W.heap.size<=W.heap.size+2 by omega))
 go_wp2_with fail
 clear v0 x0 v1 x1 v2 x2 v3 x3 v4 x4 v5 x5 lt1
 generalize ((((((V7.setCell ⟨W.heap.size+1,0,none⟩ (.int .i64 tv)).setCell ⟨W.heap.size+1,1,none⟩ (.slice A1 n1 c1)).setCell ⟨W.heap.size+1,2,none⟩ (.slice A2 n2 c2)).setCell ⟨W.heap.size+1,3,none⟩ (.slice A3 n3 c3)).setCell ⟨W.heap.size+1,4,none⟩ (.slice A4 n4 c4)).setCell ⟨W.heap.size+1,5,none⟩ (.int .i64 stop))=Wf at WF GF NF ⊢
 have F0:=(WF.out.at_ (k:=0) (v:=.int .i64 tv) rfl).1
 have F1:=(WF.out.at_ (k:=1) (v:=.slice A1 n1 c1) rfl).1
 have F2:=(WF.out.at_ (k:=2) (v:=.slice A2 n2 c2) rfl).1
 have F3:=(WF.out.at_ (k:=3) (v:=.slice A3 n3 c3) rfl).1
 have F4:=(WF.out.at_ (k:=4) (v:=.slice A4 n4 c4) rfl).1
 have F5:=(WF.out.at_ (k:=5) (v:=.int .i64 stop) rfl).1
 have NF:WNew W.heap.size Wf ⟨tv,⟨A1,n1,c1⟩,⟨A2,n2,c2⟩,⟨A3,n3,c3⟩,⟨A4,n4,c4⟩,stop⟩ { ω with now:=tv }:=NF.out.at_now HB.out
 exact bodyPost_ret (v:=.tuple #[WR.v ⟨tv,⟨A1,n1,c1⟩,⟨A2,n2,c2⟩,⟨A3,n3,c3⟩,⟨A4,n4,c4⟩,stop⟩,.int .i64 0]) (by simp [results,Tryz.results21,go_sem,F0,F1,F2,F3,F4,F5]) rfl
  ⟨⟨⟨tv,⟨A1,n1,c1⟩,⟨A2,n2,c2⟩,⟨A3,n3,c3⟩,⟨A4,n4,c4⟩,stop⟩,{ ω with now:=tv },0,rfl,.inr (.inr (.inl ⟨hr,HD.out,HS.out,HN.out,by rw [HTV.out],rfl⟩)),NF⟩,GF.out⟩
theorem tick_is (h:WIs W r ω):Calls Tryz.prog 21 #[r.v,.int .i64 d] W (TickQ W ω d):=by
 by_cases hr:RightW ω
 . by_cases hd:Tim d
   . by_cases hs:ω.stop=0
     . by_cases hn:ω.now+d<=4611686018427387904
       . exact tick_goes h hr hd hs hn
       . exact tick_over h hr hd hs (by omega)
     . exact tick_stopped h hr hd hs
   . exact tick_notime h hr hd
 . exact tick_wrong h hr
end
end P16
end
end Go.Proofs.YtainfijdhcehlaaGreatDoor
