/-
  A part of the proof.
-/
import Derived.Test.YtainfijdhcehlaaGreatDoorQB3
import Derived.Test.YtainfijdhcehlaaGreatDoorQB29
set_option linter.unusedVariables false
set_option linter.unusedSimpArgs false
set_option maxRecDepth 100000
set_option maxHeartbeats 8000000
namespace Go.Proofs.YtainfijdhcehlaaGreatDoor
open Lib (hid)
section
open Go.ChangeShapes Go.WideShapes Go.ChangeAt Go.RowKit Go.Shelf
namespace P16
open P14 (pan)
open P12 (PV PMem)
section
variable {W:World} {r:WR} {ω:Wv} {who:Int}
abbrev StepQ (W:World) (ω:Wv) (who:Int) (e:Ending) (W':World):Prop:=(∃ (s:WR) (ψ:Wv) (A:Option Addr) (n c:Nat) (ev:List T3) (x:Int),e=.returned (.tuple #[s.v,.slice A n c,.int .i64 x])/\StepM ω who ψ ev x/\WNew W.heap.size W' s ψ/\ENew W.heap.size W' A n ev/\n<=c/\c<=9223372036854775807)/\Gr W W'
theorem step_wrong (h:WIs W r ω) (hn:¬ RightW ω):Calls Tryz.prog 20 #[r.v,.int .i64 who] W (StepQ W ω who):=by
 have cR:=λ W' (g:Gr W W')=>hid (Right_is (h.gr g) (v:=false) (by simp [hn]))
 have B0:=hid ((Blk.new W r.a 29).al (.cells zeroA 29))
 have Z0:Hid (Blk ((W.alloc (.cells r.a 29)).alloc (.cells zeroA 29)) (W.heap.size+1) zeroA 29):=hid (by have:=Blk.new (W.alloc (.cells r.a 29)) zeroA 29;rwa [World.size_alloc] at this)
 have G0:=hid (((Gr.refl W).al (.cells r.a 29)).al (.cells zeroA 29))
 have S0:((W.alloc (.cells r.a 29)).alloc (.cells zeroA 29)).heap.size=W.heap.size+2:=by rw [World.size_alloc,World.size_alloc]
 clear h
 go_enter Tryz.func20,Tryz.ntmps20
 go_upto_region 1 with fail
 generalize (W.alloc (.cells r.a 29)).alloc (.cells zeroA 29)=V at B0 Z0 G0 S0 ⊢
 obtain⟨q0,-⟩:=B0.out.at_ (k:=0) (v:=.int .i64 r.now) rfl
 obtain⟨q1,-⟩:=B0.out.at_ (k:=1) (v:=.slice r.p.A r.p.n r.p.c) rfl
 obtain⟨q2,-⟩:=B0.out.at_ (k:=2) (v:=.slice r.c.A r.c.n r.c.c) rfl
 obtain⟨q3,-⟩:=B0.out.at_ (k:=3) (v:=.slice r.m.A r.m.n r.m.c) rfl
 obtain⟨q4,-⟩:=B0.out.at_ (k:=4) (v:=.slice r.t.A r.t.n r.t.c) rfl
 obtain⟨q5,-⟩:=B0.out.at_ (k:=5) (v:=.int .i64 r.stop) rfl
 go_wp2_with fail
 with_reducible refine (cR _ G0.out).out.mono ?_
 rintro e w1 ⟨rfl,g1⟩
 have Z1:=hid (Z0.out.gr g1)
 have G1:=hid (G0.out.trans g1)
 clear g1 S0 cR q0 q1 q2 q3 q4 q5
 have WF:=hid (put6_blk Z1.out rfl (.int .i64 0) (.slice none 0 0) (.slice none 0 0) (.slice none 0 0) (.slice none 0 0) (.int .i64 0))
 have GF:=hid (put6_gr (x0:=.int .i64 0) (x1:=.slice none 0 0) (x2:=.slice none 0 0) (x3:=.slice none 0 0) (x4:=.slice none 0 0) (x5:=.int .i64 0) (b:=W.heap.size+1) G1.out (Nat.le_succ _))
 have lt1:=Z1.out.lt
 obtain⟨v0,x0⟩:=Z1.out.at_ (k:=0) (v:=.int .i64 0) rfl
 obtain⟨v1,x1⟩:=Z1.out.at_ (k:=1) (v:=.slice none 0 0) rfl
 obtain⟨v2,x2⟩:=Z1.out.at_ (k:=2) (v:=.slice none 0 0) rfl
 obtain⟨v3,x3⟩:=Z1.out.at_ (k:=3) (v:=.slice none 0 0) rfl
 obtain⟨v4,x4⟩:=Z1.out.at_ (k:=4) (v:=.slice none 0 0) rfl
 obtain⟨v5,x5⟩:=Z1.out.at_ (k:=5) (v:=.int .i64 0) rfl
 go_wp2_with fail
 clear v0 x0 v1 x1 v2 x2 v3 x3 v4 x4 v5 x5 lt1
 generalize ((((((w1.setCell ⟨W.heap.size+1,0,none⟩ (.int .i64 0)).setCell ⟨W.heap.size+1,1,none⟩ (.slice none 0 0)).setCell ⟨W.heap.size+1,2,none⟩ (.slice none 0 0)).setCell ⟨W.heap.size+1,3,none⟩ (.slice none 0 0)).setCell ⟨W.heap.size+1,4,none⟩ (.slice none 0 0)).setCell ⟨W.heap.size+1,5,none⟩ (.int .i64 0))=Wf at WF GF ⊢
 have F0:=(WF.out.at_ (k:=0) (v:=.int .i64 0) rfl).1
 have F1:=(WF.out.at_ (k:=1) (v:=.slice none 0 0) rfl).1
 have F2:=(WF.out.at_ (k:=2) (v:=.slice none 0 0) rfl).1
 have F3:=(WF.out.at_ (k:=3) (v:=.slice none 0 0) rfl).1
 have F4:=(WF.out.at_ (k:=4) (v:=.slice none 0 0) rfl).1
 have F5:=(WF.out.at_ (k:=5) (v:=.int .i64 0) rfl).1
 exact bodyPost_ret (v:=.tuple #[WR.v ⟨0,⟨none,0,0⟩,⟨none,0,0⟩,⟨none,0,0⟩,⟨none,0,0⟩,0⟩,.slice none 0 0,.int .i64 1]) (by simp [results,Tryz.results20,go_sem,F0,F1,F2,F3,F4,F5]) rfl
  ⟨⟨⟨0,⟨none,0,0⟩,⟨none,0,0⟩,⟨none,0,0⟩,⟨none,0,0⟩,0⟩,zeroW,none,0,0,[],1,rfl,.inl ⟨hn,rfl,rfl,rfl⟩,zeroW_new _ _,ENew.nil,Nat.le_refl _,Nat.zero_le _⟩,GF.out⟩
theorem step_still (h:WIs W r ω) (hr:RightW ω) (hs:Still ω who):Calls Tryz.prog 20 #[r.v,.int .i64 who] W (StepQ W ω who):=by
 have cR:=λ W' (g:Gr W W')=>hid (Right_is (h.gr g) (v:=true) (by simp [hr]))
 have cG:=λ W' (g:Gr W W')=>hid (goes_is (who:=who) (h.gr g) (v:=false) (by simp [hs]))
 have cC:=λ W' (g:Gr W W')=>hid (copied_is (h.gr g).rd hr.few)
 have B0:=hid ((Blk.new W r.a 29).al (.cells zeroA 29))
 have Z0:Hid (Blk ((W.alloc (.cells r.a 29)).alloc (.cells zeroA 29)) (W.heap.size+1) zeroA 29):=hid (by have:=Blk.new (W.alloc (.cells r.a 29)) zeroA 29;rwa [World.size_alloc] at this)
 have G0:=hid (((Gr.refl W).al (.cells r.a 29)).al (.cells zeroA 29))
 have S0:((W.alloc (.cells r.a 29)).alloc (.cells zeroA 29)).heap.size=W.heap.size+2:=by rw [World.size_alloc,World.size_alloc]
 clear h
 go_enter Tryz.func20,Tryz.ntmps20
 go_upto_region 1 with fail
 generalize (W.alloc (.cells r.a 29)).alloc (.cells zeroA 29)=V at B0 Z0 G0 S0 ⊢
 obtain⟨q0,-⟩:=B0.out.at_ (k:=0) (v:=.int .i64 r.now) rfl
 obtain⟨q1,-⟩:=B0.out.at_ (k:=1) (v:=.slice r.p.A r.p.n r.p.c) rfl
 obtain⟨q2,-⟩:=B0.out.at_ (k:=2) (v:=.slice r.c.A r.c.n r.c.c) rfl
 obtain⟨q3,-⟩:=B0.out.at_ (k:=3) (v:=.slice r.m.A r.m.n r.m.c) rfl
 obtain⟨q4,-⟩:=B0.out.at_ (k:=4) (v:=.slice r.t.A r.t.n r.t.c) rfl
 obtain⟨q5,-⟩:=B0.out.at_ (k:=5) (v:=.int .i64 r.stop) rfl
 go_wp2_with fail
 with_reducible refine (cR _ G0.out).out.mono ?_
 rintro e w1 ⟨rfl,g1⟩
 have G1:=hid (G0.out.trans g1)
 have Z1:=hid (Z0.out.gr g1)
 have B1:=hid (B0.out.gr g1)
 have s1:=g1.size
 clear g1 Z0 B0 G0 q0 q1 q2 q3 q4 q5
 obtain⟨q0,-⟩:=B1.out.at_ (k:=0) (v:=.int .i64 r.now) rfl
 obtain⟨q1,-⟩:=B1.out.at_ (k:=1) (v:=.slice r.p.A r.p.n r.p.c) rfl
 obtain⟨q2,-⟩:=B1.out.at_ (k:=2) (v:=.slice r.c.A r.c.n r.c.c) rfl
 obtain⟨q3,-⟩:=B1.out.at_ (k:=3) (v:=.slice r.m.A r.m.n r.m.c) rfl
 obtain⟨q4,-⟩:=B1.out.at_ (k:=4) (v:=.slice r.t.A r.t.n r.t.c) rfl
 obtain⟨q5,-⟩:=B1.out.at_ (k:=5) (v:=.int .i64 r.stop) rfl
 go_wp2_with fail
 with_reducible refine (cG _ G1.out).out.mono ?_
 rintro e w2 ⟨rfl,g2⟩
 have Z2:=hid (Z1.out.gr g2)
 have G2:=hid (G1.out.trans g2)
 have B2:=hid (B1.out.gr g2)
 have s2:=g2.size
 clear g2 Z1 B1 G1 cR cG q0 q1 q2 q3 q4 q5
 obtain⟨q0,-⟩:=B2.out.at_ (k:=0) (v:=.int .i64 r.now) rfl
 obtain⟨q1,-⟩:=B2.out.at_ (k:=1) (v:=.slice r.p.A r.p.n r.p.c) rfl
 obtain⟨q2,-⟩:=B2.out.at_ (k:=2) (v:=.slice r.c.A r.c.n r.c.c) rfl
 obtain⟨q3,-⟩:=B2.out.at_ (k:=3) (v:=.slice r.m.A r.m.n r.m.c) rfl
 obtain⟨q4,-⟩:=B2.out.at_ (k:=4) (v:=.slice r.t.A r.t.n r.t.c) rfl
 obtain⟨q5,-⟩:=B2.out.at_ (k:=5) (v:=.int .i64 r.stop) rfl
 go_wp2_with fail
 with_reducible refine (cC _ G2.out).out.mono ?_
 rintro e w3 ⟨⟨s,b1,b2,b3,rfl,hcp⟩,g3⟩
 have N3:=hid (hcp.new.low (show W.heap.size+2<=_ by omega))
 obtain⟨now,⟨A1,n1,c1⟩,⟨A2,n2,c2⟩,⟨A3,n3,c3⟩,⟨A4,n4,c4⟩,stop⟩:=s
 have Z3:=hid (Z2.out.gr g3)
 have G3:=hid (G2.out.trans g3)
 clear hcp g3 Z2 B2 G2 S0 s1 s2 cC q0 q1 q2 q3 q4 q5
 have WF:=hid (put6_blk Z3.out rfl (.int .i64 now) (.slice A1 n1 c1) (.slice A2 n2 c2) (.slice A3 n3 c3) (.slice A4 n4 c4) (.int .i64 stop))
 have GF:=hid (put6_gr (x0:=.int .i64 now) (x1:=.slice A1 n1 c1) (x2:=.slice A2 n2 c2) (x3:=.slice A3 n3 c3) (x4:=.slice A4 n4 c4) (x5:=.int .i64 stop) (b:=W.heap.size+1) G3.out (Nat.le_succ _))
 have lt1:=Z3.out.lt
 obtain⟨v0,x0⟩:=Z3.out.at_ (k:=0) (v:=.int .i64 0) rfl
 obtain⟨v1,x1⟩:=Z3.out.at_ (k:=1) (v:=.slice none 0 0) rfl
 obtain⟨v2,x2⟩:=Z3.out.at_ (k:=2) (v:=.slice none 0 0) rfl
 obtain⟨v3,x3⟩:=Z3.out.at_ (k:=3) (v:=.slice none 0 0) rfl
 obtain⟨v4,x4⟩:=Z3.out.at_ (k:=4) (v:=.slice none 0 0) rfl
 obtain⟨v5,x5⟩:=Z3.out.at_ (k:=5) (v:=.int .i64 0) rfl
 have NF:=hid ((N3.out.to (FromB.put6 (b:=W.heap.size+1) (by omega) (.int .i64 now) (.slice A1 n1 c1) (.slice A2 n2 c2) (.slice A3 n3 c3) (.slice A4 n4 c4) (.int .i64 stop))).low (show W.heap.size<=W.heap.size+2 by omega))
 go_wp2_with fail
 clear v0 x0 v1 x1 v2 x2 v3 x3 v4 x4 v5 x5 lt1
 generalize ((((((w3.setCell ⟨W.heap.size+1,0,none⟩ (.int .i64 now)).setCell ⟨W.heap.size+1,1,none⟩ (.slice A1 n1 c1)).setCell ⟨W.heap.size+1,2,none⟩ (.slice A2 n2 c2)).setCell ⟨W.heap.size+1,3,none⟩ (.slice A3 n3 c3)).setCell ⟨W.heap.size+1,4,none⟩ (.slice A4 n4 c4)).setCell ⟨W.heap.size+1,5,none⟩ (.int .i64 stop))=Wf at WF GF NF ⊢
 have F0:=(WF.out.at_ (k:=0) (v:=.int .i64 now) rfl).1
 have F1:=(WF.out.at_ (k:=1) (v:=.slice A1 n1 c1) rfl).1
 have F2:=(WF.out.at_ (k:=2) (v:=.slice A2 n2 c2) rfl).1
 have F3:=(WF.out.at_ (k:=3) (v:=.slice A3 n3 c3) rfl).1
 have F4:=(WF.out.at_ (k:=4) (v:=.slice A4 n4 c4) rfl).1
 have F5:=(WF.out.at_ (k:=5) (v:=.int .i64 stop) rfl).1
 exact bodyPost_ret (v:=.tuple #[WR.v ⟨now,⟨A1,n1,c1⟩,⟨A2,n2,c2⟩,⟨A3,n3,c3⟩,⟨A4,n4,c4⟩,stop⟩,.slice none 0 0,.int .i64 0]) (by simp [results,Tryz.results20,go_sem,F0,F1,F2,F3,F4,F5]) rfl
  ⟨⟨⟨now,⟨A1,n1,c1⟩,⟨A2,n2,c2⟩,⟨A3,n3,c3⟩,⟨A4,n4,c4⟩,stop⟩,ω,none,0,0,[],0,rfl,.inr (.inl ⟨hr,hs,rfl,rfl,rfl⟩),NF.out,ENew.nil,Nat.le_refl _,Nat.zero_le _⟩,GF.out⟩
theorem step_goes (h:WIs W r ω) (hr:RightW ω) (hs:¬ Still ω who) (gl:P15.Glob W):Calls Tryz.prog 20 #[r.v,.int .i64 who] W (StepQ W ω who):=by
 have cR:=λ W' (g:Gr W W')=>hid (Right_is (h.gr g) (v:=true) (by simp [hr]))
 have cG:=λ W' (g:Gr W W')=>hid (goes_is (who:=who) (h.gr g) (v:=true) (by simp [hs]))
 obtain⟨c,pr,k,n,hc,hp,ha,w0,w1,hg,hst,hcr,ha1⟩:=steps_at hr hs
 have cT:=λ W' (g:Gr W W')=>hid (turnOf_is (h.gr g) hr.few w0 hc hp hcr.a0 ha hr.m4)
 have LN:=hid h.lens
 have HR:=hid hr
 have HSN:=hid hs
 have cY:=hid (λ (x:Cx) (T:Sl) W' (g:Gr W W') (t:TS x W' T ⟨none,0,0⟩ ω.cl ω.mx ω.tb []) (e1:x.now=ω.now) (e2:x.who=who) (e3:x.k=k) (e4:x.n=n) (e5:x.progs=ω.progs) (e6:x.p.n=x.nc)=>hid (try_stp hr t hc hp ha w0 hg hst hcr ha1 e1 e2 e3 e4 e5 e6 (gl.gr g)))
 have HM:=hid hr.len
 have HST:=hid hst
 have HW:=hid h
 have hbs:=hid h.bs
 have B0:=hid ((Blk.new W r.a 29).al (.cells zeroA 29))
 have Z0:Hid (Blk ((W.alloc (.cells r.a 29)).alloc (.cells zeroA 29)) (W.heap.size+1) zeroA 29):=hid (by have:=Blk.new (W.alloc (.cells r.a 29)) zeroA 29;rwa [World.size_alloc] at this)
 have G0:=hid (((Gr.refl W).al (.cells r.a 29)).al (.cells zeroA 29))
 have S0:((W.alloc (.cells r.a 29)).alloc (.cells zeroA 29)).heap.size=W.heap.size+2:=by rw [World.size_alloc,World.size_alloc]
 clear h hc hp ha hg hst hcr ha1 w0 w1 hr hs gl
 go_enter Tryz.func20,Tryz.ntmps20
 go_upto_region 1 with fail
 generalize (W.alloc (.cells r.a 29)).alloc (.cells zeroA 29)=V at B0 Z0 G0 S0 ⊢
 obtain⟨q0,-⟩:=B0.out.at_ (k:=0) (v:=.int .i64 r.now) rfl
 obtain⟨q1,-⟩:=B0.out.at_ (k:=1) (v:=.slice r.p.A r.p.n r.p.c) rfl
 obtain⟨q2,-⟩:=B0.out.at_ (k:=2) (v:=.slice r.c.A r.c.n r.c.c) rfl
 obtain⟨q3,-⟩:=B0.out.at_ (k:=3) (v:=.slice r.m.A r.m.n r.m.c) rfl
 obtain⟨q4,-⟩:=B0.out.at_ (k:=4) (v:=.slice r.t.A r.t.n r.t.c) rfl
 obtain⟨q5,-⟩:=B0.out.at_ (k:=5) (v:=.int .i64 r.stop) rfl
 go_wp2_with fail
 with_reducible refine (cR _ G0.out).out.mono ?_
 rintro e w1 ⟨rfl,g1⟩
 have G1:=hid (G0.out.trans g1)
 have Z1:=hid (Z0.out.gr g1)
 have B1:=hid (B0.out.gr g1)
 have s1:=g1.size
 clear g1 Z0 B0 G0 q0 q1 q2 q3 q4 q5
 obtain⟨q0,-⟩:=B1.out.at_ (k:=0) (v:=.int .i64 r.now) rfl
 obtain⟨q1,-⟩:=B1.out.at_ (k:=1) (v:=.slice r.p.A r.p.n r.p.c) rfl
 obtain⟨q2,-⟩:=B1.out.at_ (k:=2) (v:=.slice r.c.A r.c.n r.c.c) rfl
 obtain⟨q3,-⟩:=B1.out.at_ (k:=3) (v:=.slice r.m.A r.m.n r.m.c) rfl
 obtain⟨q4,-⟩:=B1.out.at_ (k:=4) (v:=.slice r.t.A r.t.n r.t.c) rfl
 obtain⟨q5,-⟩:=B1.out.at_ (k:=5) (v:=.int .i64 r.stop) rfl
 go_wp2_with fail
 with_reducible refine (cG _ G1.out).out.mono ?_
 rintro e w2 ⟨rfl,g2⟩
 have Z2:=hid (Z1.out.gr g2)
 have G2:=hid (G1.out.trans g2)
 have B2:=hid (B1.out.gr g2)
 have s2:=g2.size
 clear g2 Z1 B1 G1 cR cG q0 q1 q2 q3 q4 q5
 obtain⟨q0,-⟩:=B2.out.at_ (k:=0) (v:=.int .i64 r.now) rfl
 obtain⟨q1,-⟩:=B2.out.at_ (k:=1) (v:=.slice r.p.A r.p.n r.p.c) rfl
 obtain⟨q2,-⟩:=B2.out.at_ (k:=2) (v:=.slice r.c.A r.c.n r.c.c) rfl
 obtain⟨q3,-⟩:=B2.out.at_ (k:=3) (v:=.slice r.m.A r.m.n r.m.c) rfl
 obtain⟨q4,-⟩:=B2.out.at_ (k:=4) (v:=.slice r.t.A r.t.n r.t.c) rfl
 obtain⟨q5,-⟩:=B2.out.at_ (k:=5) (v:=.int .i64 r.stop) rfl
 skip
 go_wp2_with fail
 with_reducible refine (cT _ G2.out).out.mono ?_
 rintro e w3 ⟨⟨x,T,rfl,t3,xB,e1,e2,e3,e4,e5,e6,e7,e8⟩,g3⟩
 have hB:W.heap.size+2<=x.B:=by omega
 have Z3:=hid (Z2.out.gr g3)
 have G3:=hid (G2.out.trans g3)
 have B3:=hid (B2.out.gr g3)
 have e9:x.p.n=x.nc:=by have h1:=LN.out;have h2:=HM.out;omega
 have cY2:=cY.out x T w3 G3.out t3 e1 e2 e3 e4 e5 e9
 have X1:=hid e1
 have X2:=hid e2
 have X4:=hid e4
 have X5:=hid e5
 have X6:=hid e6
 have T3_:=hid t3
 have hlb:=hid (show W.heap.size+2<=x.b/\W.heap.size+2<=x.bc/\W.heap.size+2<=x.bm from ⟨Nat.le_trans hB t3.lb,Nat.le_trans hB t3.lc,Nat.le_trans hB t3.lm⟩)
 have XB:=hid hB
 clear g3 t3 e1 e2 e3 e4 e5 e6 e7 e8 e9 xB hB Z2 G2 B2 S0 s1 s2 LN HM cY q0 q1 q2 q3 q4 q5
 go_wp2_with fail
 with_reducible refine cY2.out.mono ?_
 rintro e w4 ⟨k4,q4⟩
 have G4:Hid (Gr W w4):=hid (Kx.old G3.out k4 (by have:=hlb.out;omega) (by have:=hlb.out;omega) (by have:=hlb.out;omega))
 have Z4:Hid (Blk w4 (W.heap.size+1) zeroA 29):=hid (by have:=hlb.out;unfold Blk;rw [k4.block _ Z3.out.lt (by omega) (by omega) (by omega)];exact Z3.out)
 have B4:Hid (Blk w4 W.heap.size r.a 29):=hid (by have:=hlb.out;unfold Blk;rw [k4.block _ B3.out.lt (by omega) (by omega) (by omega)];exact B3.out)
 have s4:W.heap.size+2<=w4.heap.size:=by have h1:=T3_.out.t.lt;have h2:=k4.size;have:=hlb.out;omega
 clear k4 Z3 G3 B3 cY2
 rcases q4 with ⟨rfl,T',E',cl',mx',tb',ev',t4,hT,hm,he⟩ | ⟨rfl,hm⟩ | ⟨rfl,hm⟩
 . clear cT hlb T3_ B4 s4
   have e6:=X6.out
   have hb5:B64 x.st:=by rw [e6];exact hbs.out
   have BT:Hid (Blk w4 x.b #[.int .i64 x.now,.slice x.p.A x.p.n x.p.c,.slice (some ⟨x.bc,x.oc,none⟩) x.nc x.cc,.slice (some ⟨x.bm,x.om,none⟩) 4 x.cm,.slice T'.A T'.n T'.c,.int .i64 x.st,.int .i64 x.who,.pointer (some ⟨x.bc,x.oc+x.who.toNat*13,none⟩),.int .i64 x.k,.int .i64 x.n,.slice E'.A E'.n E'.c] 99):=hid t4.t
   have N:=hid (t4.new hb5)
   have EN:=hid t4.enew
   have hxb:=t4.lb
   have hB0:=Nat.le_trans (Nat.le_add_right _ _) XB.out
   have hB1:=XB.out
   have HO:=hid t4.oe
   have HM4:=hid (show mx'.length=4 from t4.lenm)
   have HTB:=hid hT
   have HEV:=hid he
   have HMW:=hid (show mw ⟨x.now,x.progs,cl',mx',tb',x.st⟩=(stp (mw ω) who.toNat).1 from by rw [X1.out,X5.out,e6];exact hm)
   clear t4 hT hm he e6 hb5
   go_upto_region 12 with fail
   have BD:Blk w4.drew x.b #[.int .i64 x.now,.slice x.p.A x.p.n x.p.c,.slice (some ⟨x.bc,x.oc,none⟩) x.nc x.cc,.slice (some ⟨x.bm,x.om,none⟩) 4 x.cm,.slice T'.A T'.n T'.c,.int .i64 x.st,.int .i64 x.who,.pointer (some ⟨x.bc,x.oc+x.who.toNat*13,none⟩),.int .i64 x.k,.int .i64 x.n,.slice E'.A E'.n E'.c] 99:=BT.out.gr (Gr.refl _).dr
   have ZD:=hid (Z4.out.gr (Gr.refl _).dr)
   have GD:=hid (G4.out.dr)
   have ND:=hid (N.out.gr (Gr.refl _).dr)
   have ED:=hid (EN.out.gr (Gr.refl _).dr)
   obtain⟨d0,-⟩:=BD.at_ (k:=0) (v:=.int .i64 x.now) rfl
   obtain⟨d1,-⟩:=BD.at_ (k:=1) (v:=.slice x.p.A x.p.n x.p.c) rfl
   obtain⟨d2,-⟩:=BD.at_ (k:=2) (v:=.slice (some ⟨x.bc,x.oc,none⟩) x.nc x.cc) rfl
   obtain⟨d3,-⟩:=BD.at_ (k:=3) (v:=.slice (some ⟨x.bm,x.om,none⟩) 4 x.cm) rfl
   obtain⟨d4,-⟩:=BD.at_ (k:=4) (v:=.slice T'.A T'.n T'.c) rfl
   obtain⟨d5,-⟩:=BD.at_ (k:=5) (v:=.int .i64 x.st) rfl
   obtain⟨d10,-⟩:=BD.at_ (k:=10) (v:=.slice E'.A E'.n E'.c) rfl
   have fb:FromB x.B w4.drew ((((((w4.drew.setCell ⟨W.heap.size+1,0,none⟩ (.int .i64 x.now)).setCell ⟨W.heap.size+1,1,none⟩ (.slice x.p.A x.p.n x.p.c)).setCell ⟨W.heap.size+1,2,none⟩ (.slice (some ⟨x.bc,x.oc,none⟩) x.nc x.cc)).setCell ⟨W.heap.size+1,3,none⟩ (.slice (some ⟨x.bm,x.om,none⟩) 4 x.cm)).setCell ⟨W.heap.size+1,4,none⟩ (.slice T'.A T'.n T'.c)).setCell ⟨W.heap.size+1,5,none⟩ (.int .i64 x.st)):=FromB.put6 (b:=W.heap.size+1) (by omega) (.int .i64 x.now) (.slice x.p.A x.p.n x.p.c) (.slice (some ⟨x.bc,x.oc,none⟩) x.nc x.cc) (.slice (some ⟨x.bm,x.om,none⟩) 4 x.cm) (.slice T'.A T'.n T'.c) (.int .i64 x.st)
   have BF:Blk ((((((w4.drew.setCell ⟨W.heap.size+1,0,none⟩ (.int .i64 x.now)).setCell ⟨W.heap.size+1,1,none⟩ (.slice x.p.A x.p.n x.p.c)).setCell ⟨W.heap.size+1,2,none⟩ (.slice (some ⟨x.bc,x.oc,none⟩) x.nc x.cc)).setCell ⟨W.heap.size+1,3,none⟩ (.slice (some ⟨x.bm,x.om,none⟩) 4 x.cm)).setCell ⟨W.heap.size+1,4,none⟩ (.slice T'.A T'.n T'.c)).setCell ⟨W.heap.size+1,5,none⟩ (.int .i64 x.st)) x.b #[.int .i64 x.now,.slice x.p.A x.p.n x.p.c,.slice (some ⟨x.bc,x.oc,none⟩) x.nc x.cc,.slice (some ⟨x.bm,x.om,none⟩) 4 x.cm,.slice T'.A T'.n T'.c,.int .i64 x.st,.int .i64 x.who,.pointer (some ⟨x.bc,x.oc+x.who.toNat*13,none⟩),.int .i64 x.k,.int .i64 x.n,.slice E'.A E'.n E'.c] 99:=by unfold Blk;rw [fb.2 x.b hxb BD.lt];exact BD
   have WF:=hid (put6_blk ZD.out rfl (.int .i64 x.now) (.slice x.p.A x.p.n x.p.c) (.slice (some ⟨x.bc,x.oc,none⟩) x.nc x.cc) (.slice (some ⟨x.bm,x.om,none⟩) 4 x.cm) (.slice T'.A T'.n T'.c) (.int .i64 x.st))
   have GF:=hid (put6_gr (x0:=.int .i64 x.now) (x1:=.slice x.p.A x.p.n x.p.c) (x2:=.slice (some ⟨x.bc,x.oc,none⟩) x.nc x.cc) (x3:=.slice (some ⟨x.bm,x.om,none⟩) 4 x.cm) (x4:=.slice T'.A T'.n T'.c) (x5:=.int .i64 x.st) (b:=W.heap.size+1) GD.out (Nat.le_succ _))
   have NF:=hid ((ND.out.to fb).low hB0)
   have EF:=hid ((ED.out.to fb).low hB0)
   obtain⟨f0,-⟩:=BF.at_ (k:=0) (v:=.int .i64 x.now) rfl
   obtain⟨f1,-⟩:=BF.at_ (k:=1) (v:=.slice x.p.A x.p.n x.p.c) rfl
   obtain⟨f2,-⟩:=BF.at_ (k:=2) (v:=.slice (some ⟨x.bc,x.oc,none⟩) x.nc x.cc) rfl
   obtain⟨f3,-⟩:=BF.at_ (k:=3) (v:=.slice (some ⟨x.bm,x.om,none⟩) 4 x.cm) rfl
   obtain⟨f4,-⟩:=BF.at_ (k:=4) (v:=.slice T'.A T'.n T'.c) rfl
   obtain⟨f5,-⟩:=BF.at_ (k:=5) (v:=.int .i64 x.st) rfl
   obtain⟨f10,-⟩:=BF.at_ (k:=10) (v:=.slice E'.A E'.n E'.c) rfl
   have lt1:=ZD.out.lt
   obtain⟨v0,x0⟩:=ZD.out.at_ (k:=0) (v:=.int .i64 0) rfl
   obtain⟨v1,x1⟩:=ZD.out.at_ (k:=1) (v:=.slice none 0 0) rfl
   obtain⟨v2,x2⟩:=ZD.out.at_ (k:=2) (v:=.slice none 0 0) rfl
   obtain⟨v3,x3⟩:=ZD.out.at_ (k:=3) (v:=.slice none 0 0) rfl
   obtain⟨v4,x4⟩:=ZD.out.at_ (k:=4) (v:=.slice none 0 0) rfl
   obtain⟨v5,x5⟩:=ZD.out.at_ (k:=5) (v:=.int .i64 0) rfl
   have hxl:=BD.lt
   clear BD BF fb BT N EN ND ED ZD GD hxb
   refine wp_region_held_drew (S:=(λ w'=>w'.cell? ⟨x.b,0,none⟩=some (.int .i64 x.now)/\w'.cell? ⟨x.b,1,none⟩=some (.slice x.p.A x.p.n x.p.c)/\w'.cell? ⟨x.b,2,none⟩=some (.slice (some ⟨x.bc,x.oc,none⟩) x.nc x.cc)/\w'.cell? ⟨x.b,3,none⟩=some (.slice (some ⟨x.bm,x.om,none⟩) 4 x.cm)/\w'.cell? ⟨x.b,4,none⟩=some (.slice T'.A T'.n T'.c)/\w'.cell? ⟨x.b,5,none⟩=some (.int .i64 x.st)/\w'.cell? ⟨x.b,10,none⟩=some (.slice E'.A E'.n E'.c))) (by kernel_rfl) ⟨d0,d1,d2,d3,d4,d5,d10⟩ (λ hS=>?_)
   generalize w4.drew=wd at d0 f0 v0 x0 d1 f1 v1 x1 d2 f2 v2 x2 d3 f3 v3 x3 d4 f4 v4 x4 d5 f5 v5 x5 d10 f10 lt1 hxl WF GF NF EF hS ⊢
   refine wG 0 hS ?_
   refine wG 1 hS ?_
   refine wG 2 hS ?_
   refine wG 3 hS ?_
   refine wG 4 hS ?_
   refine wG 5 hS ?_
   refine wG 6 hS ?_
   refine wG 7 hS ?_
   refine wR1 8 (λ K hK=>?_)
   go_simp
   refine hK.out _ _ ⟨f0,f1,f2,f3,f4,f5,f10⟩ (λ hS=>?_)
   clear hK K
   try simp only [pL]
   refine wG 9 hS ?_
   refine wG 10 hS ?_
   refine wpAnyH_done (by kernel_rfl) ?_ _
   clear hS v0 x0 d0 f0 v1 x1 d1 f1 v2 x2 d2 f2 v3 x3 d3 f3 v4 x4 d4 f4 v5 x5 d5 f5 lt1 d10 f10 hxl
   generalize ((((((wd.setCell ⟨W.heap.size+1,0,none⟩ (.int .i64 x.now)).setCell ⟨W.heap.size+1,1,none⟩ (.slice x.p.A x.p.n x.p.c)).setCell ⟨W.heap.size+1,2,none⟩ (.slice (some ⟨x.bc,x.oc,none⟩) x.nc x.cc)).setCell ⟨W.heap.size+1,3,none⟩ (.slice (some ⟨x.bm,x.om,none⟩) 4 x.cm)).setCell ⟨W.heap.size+1,4,none⟩ (.slice T'.A T'.n T'.c)).setCell ⟨W.heap.size+1,5,none⟩ (.int .i64 x.st))=Wf at WF GF NF EF ⊢
   have F0:=(WF.out.at_ (k:=0) (v:=.int .i64 x.now) rfl).1
   have F1:=(WF.out.at_ (k:=1) (v:=.slice x.p.A x.p.n x.p.c) rfl).1
   have F2:=(WF.out.at_ (k:=2) (v:=.slice (some ⟨x.bc,x.oc,none⟩) x.nc x.cc) rfl).1
   have F3:=(WF.out.at_ (k:=3) (v:=.slice (some ⟨x.bm,x.om,none⟩) 4 x.cm) rfl).1
   have F4:=(WF.out.at_ (k:=4) (v:=.slice T'.A T'.n T'.c) rfl).1
   have F5:=(WF.out.at_ (k:=5) (v:=.int .i64 x.st) rfl).1
   go_wp2_with fail
   exact bodyPost_ret (v:=.tuple #[WR.v ⟨x.now,x.p,⟨some ⟨x.bc,x.oc,none⟩,x.nc,x.cc⟩,⟨some ⟨x.bm,x.om,none⟩,4,x.cm⟩,T',x.st⟩,.slice E'.A E'.n E'.c,.int .i64 0]) (by simp [results,Tryz.results20,go_sem,F0,F1,F2,F3,F4,F5]) rfl
    ⟨⟨⟨x.now,x.p,⟨some ⟨x.bc,x.oc,none⟩,x.nc,x.cc⟩,⟨some ⟨x.bm,x.om,none⟩,4,x.cm⟩,T',x.st⟩,⟨x.now,x.progs,cl',mx',tb',x.st⟩,E'.A,E'.n,E'.c,_,0,rfl,.inr (.inr ⟨HR.out,HSN.out,HM4.out,HTB.out,HMW.out,HEV.out,rfl⟩),NF.out,EF.out,HO.out.1,HO.out.2⟩,GF.out⟩
 . skip
   have HMS:=hid hm
   clear hm hlb T3_ X1 X2 X4 X5 X6 XB
   obtain⟨q0,-⟩:=B4.out.at_ (k:=0) (v:=.int .i64 r.now) rfl
   obtain⟨q1,-⟩:=B4.out.at_ (k:=1) (v:=.slice r.p.A r.p.n r.p.c) rfl
   obtain⟨q2,-⟩:=B4.out.at_ (k:=2) (v:=.slice r.c.A r.c.n r.c.c) rfl
   obtain⟨q3,-⟩:=B4.out.at_ (k:=3) (v:=.slice r.m.A r.m.n r.m.c) rfl
   obtain⟨q4,-⟩:=B4.out.at_ (k:=4) (v:=.slice r.t.A r.t.n r.t.c) rfl
   obtain⟨q5,-⟩:=B4.out.at_ (k:=5) (v:=.int .i64 r.stop) rfl
   go_wp2_with fail
   with_reducible refine (cT _ G4.out).out.mono ?_
   rintro e w5 ⟨⟨x,T,rfl,t5,xB,e1,e2,e3,e4,e5,e6,e7,e8⟩,g5⟩
   have hB:W.heap.size+2<=x.B:=by omega
   have XB:=hid hB
   have Z5:=hid (Z4.out.gr g5)
   have G5:=hid (G4.out.trans g5)
   have hlb:=Nat.le_trans hB t5.lb
   have X1:=hid e1
   have X2:=hid e2
   have X4:=hid e4
   have X5:=hid e5
   have hcl:=t5.cells
   obtain⟨-,-,-,-,-,q5,-,-,-,-,-,cz⟩:=hcl
   have z5:=cz 5 (by decide)
   have hxl:=t5.t.lt
   have t6:=t5.putS 12
   have Z6:=hid (Z5.out.st (p:=⟨x.b,5,none⟩) (by show x.b≠W.heap.size+1;omega) (.int .i64 12))
   have G6:=hid (G5.out.st (p:=⟨x.b,5,none⟩) (by show W.heap.size<=x.b;omega) (.int .i64 12))
   have T6:=hid t6
   clear g5 t5 t6 e1 e2 e3 e4 e5 e6 e7 e8 xB hB cz B4 Z4 G4 cT s4 Z5 G5 q0 q1 q2 q3 q4
   go_upto_region 10 with fail
   generalize w5.setCell ⟨x.b,5,none⟩ (.int .i64 12)=w6 at T6 Z6 G6 ⊢
   clear q5 z5 hxl
   have BT:Hid (Blk w6 x.b #[.int .i64 x.now,.slice x.p.A x.p.n x.p.c,.slice (some ⟨x.bc,x.oc,none⟩) x.nc x.cc,.slice (some ⟨x.bm,x.om,none⟩) 4 x.cm,.slice T.A T.n T.c,.int .i64 12,.int .i64 x.who,.pointer (some ⟨x.bc,x.oc+x.who.toNat*13,none⟩),.int .i64 x.k,.int .i64 x.n,.slice none 0 0] 99):=hid T6.out.t
   have N:Hid (WNew x.B w6 ⟨x.now,x.p,⟨some ⟨x.bc,x.oc,none⟩,x.nc,x.cc⟩,⟨some ⟨x.bm,x.om,none⟩,4,x.cm⟩,T,12⟩ ⟨x.now,x.progs,ω.cl,ω.mx,ω.tb,12⟩):=hid (T6.out.new (show B64 12 from ⟨by omega,by omega⟩))
   have EN:Hid (ENew x.B w6 none 0 []):=hid T6.out.enew
   have hxb:x.B<=x.b:=T6.out.lb
   have hB0:=Nat.le_trans (Nat.le_add_right _ _) XB.out
   have hB1:=XB.out
   have HO:Hid ((0:Nat)<=0/\0<=9223372036854775807):=hid T6.out.oe
   have HMW:=hid (show mw ⟨x.now,x.progs,ω.cl,ω.mx,ω.tb,12⟩=(stp (mw ω) who.toNat).1 from by rw [X1.out,X5.out,HMS.out];rfl)
   have HEV:=hid (show []=(stp (mw ω) who.toNat).2.toList from by rw [HMS.out];rfl)
   clear T6 hlb
   go_upto_region 12 with fail
   have BD:Blk w6.drew x.b #[.int .i64 x.now,.slice x.p.A x.p.n x.p.c,.slice (some ⟨x.bc,x.oc,none⟩) x.nc x.cc,.slice (some ⟨x.bm,x.om,none⟩) 4 x.cm,.slice T.A T.n T.c,.int .i64 12,.int .i64 x.who,.pointer (some ⟨x.bc,x.oc+x.who.toNat*13,none⟩),.int .i64 x.k,.int .i64 x.n,.slice none 0 0] 99:=BT.out.gr (Gr.refl _).dr
   have ZD:=hid (Z6.out.gr (Gr.refl _).dr)
   have GD:=hid (G6.out.dr)
   have ND:=hid (N.out.gr (Gr.refl _).dr)
   have ED:=hid (EN.out.gr (Gr.refl _).dr)
   obtain⟨d0,-⟩:=BD.at_ (k:=0) (v:=.int .i64 x.now) rfl
   obtain⟨d1,-⟩:=BD.at_ (k:=1) (v:=.slice x.p.A x.p.n x.p.c) rfl
   obtain⟨d2,-⟩:=BD.at_ (k:=2) (v:=.slice (some ⟨x.bc,x.oc,none⟩) x.nc x.cc) rfl
   obtain⟨d3,-⟩:=BD.at_ (k:=3) (v:=.slice (some ⟨x.bm,x.om,none⟩) 4 x.cm) rfl
   obtain⟨d4,-⟩:=BD.at_ (k:=4) (v:=.slice T.A T.n T.c) rfl
   obtain⟨d5,-⟩:=BD.at_ (k:=5) (v:=.int .i64 12) rfl
   obtain⟨d10,-⟩:=BD.at_ (k:=10) (v:=.slice none 0 0) rfl
   have fb:FromB x.B w6.drew ((((((w6.drew.setCell ⟨W.heap.size+1,0,none⟩ (.int .i64 x.now)).setCell ⟨W.heap.size+1,1,none⟩ (.slice x.p.A x.p.n x.p.c)).setCell ⟨W.heap.size+1,2,none⟩ (.slice (some ⟨x.bc,x.oc,none⟩) x.nc x.cc)).setCell ⟨W.heap.size+1,3,none⟩ (.slice (some ⟨x.bm,x.om,none⟩) 4 x.cm)).setCell ⟨W.heap.size+1,4,none⟩ (.slice T.A T.n T.c)).setCell ⟨W.heap.size+1,5,none⟩ (.int .i64 12)):=FromB.put6 (b:=W.heap.size+1) (by omega) (.int .i64 x.now) (.slice x.p.A x.p.n x.p.c) (.slice (some ⟨x.bc,x.oc,none⟩) x.nc x.cc) (.slice (some ⟨x.bm,x.om,none⟩) 4 x.cm) (.slice T.A T.n T.c) (.int .i64 12)
   have BF:Blk ((((((w6.drew.setCell ⟨W.heap.size+1,0,none⟩ (.int .i64 x.now)).setCell ⟨W.heap.size+1,1,none⟩ (.slice x.p.A x.p.n x.p.c)).setCell ⟨W.heap.size+1,2,none⟩ (.slice (some ⟨x.bc,x.oc,none⟩) x.nc x.cc)).setCell ⟨W.heap.size+1,3,none⟩ (.slice (some ⟨x.bm,x.om,none⟩) 4 x.cm)).setCell ⟨W.heap.size+1,4,none⟩ (.slice T.A T.n T.c)).setCell ⟨W.heap.size+1,5,none⟩ (.int .i64 12)) x.b #[.int .i64 x.now,.slice x.p.A x.p.n x.p.c,.slice (some ⟨x.bc,x.oc,none⟩) x.nc x.cc,.slice (some ⟨x.bm,x.om,none⟩) 4 x.cm,.slice T.A T.n T.c,.int .i64 12,.int .i64 x.who,.pointer (some ⟨x.bc,x.oc+x.who.toNat*13,none⟩),.int .i64 x.k,.int .i64 x.n,.slice none 0 0] 99:=by unfold Blk;rw [fb.2 x.b hxb BD.lt];exact BD
   have WF:=hid (put6_blk ZD.out rfl (.int .i64 x.now) (.slice x.p.A x.p.n x.p.c) (.slice (some ⟨x.bc,x.oc,none⟩) x.nc x.cc) (.slice (some ⟨x.bm,x.om,none⟩) 4 x.cm) (.slice T.A T.n T.c) (.int .i64 12))
   have GF:=hid (put6_gr (x0:=.int .i64 x.now) (x1:=.slice x.p.A x.p.n x.p.c) (x2:=.slice (some ⟨x.bc,x.oc,none⟩) x.nc x.cc) (x3:=.slice (some ⟨x.bm,x.om,none⟩) 4 x.cm) (x4:=.slice T.A T.n T.c) (x5:=.int .i64 12) (b:=W.heap.size+1) GD.out (Nat.le_succ _))
   have NF:=hid ((ND.out.to fb).low hB0)
   have EF:=hid ((ED.out.to fb).low hB0)
   obtain⟨f0,-⟩:=BF.at_ (k:=0) (v:=.int .i64 x.now) rfl
   obtain⟨f1,-⟩:=BF.at_ (k:=1) (v:=.slice x.p.A x.p.n x.p.c) rfl
   obtain⟨f2,-⟩:=BF.at_ (k:=2) (v:=.slice (some ⟨x.bc,x.oc,none⟩) x.nc x.cc) rfl
   obtain⟨f3,-⟩:=BF.at_ (k:=3) (v:=.slice (some ⟨x.bm,x.om,none⟩) 4 x.cm) rfl
   obtain⟨f4,-⟩:=BF.at_ (k:=4) (v:=.slice T.A T.n T.c) rfl
   obtain⟨f5,-⟩:=BF.at_ (k:=5) (v:=.int .i64 12) rfl
   obtain⟨f10,-⟩:=BF.at_ (k:=10) (v:=.slice none 0 0) rfl
   have lt1:=ZD.out.lt
   obtain⟨v0,x0⟩:=ZD.out.at_ (k:=0) (v:=.int .i64 0) rfl
   obtain⟨v1,x1⟩:=ZD.out.at_ (k:=1) (v:=.slice none 0 0) rfl
   obtain⟨v2,x2⟩:=ZD.out.at_ (k:=2) (v:=.slice none 0 0) rfl
   obtain⟨v3,x3⟩:=ZD.out.at_ (k:=3) (v:=.slice none 0 0) rfl
   obtain⟨v4,x4⟩:=ZD.out.at_ (k:=4) (v:=.slice none 0 0) rfl
   obtain⟨v5,x5⟩:=ZD.out.at_ (k:=5) (v:=.int .i64 0) rfl
   have hxl:=BD.lt
   clear BD BF fb BT N EN ND ED ZD GD hxb
   refine wp_region_held_drew (S:=(λ w'=>w'.cell? ⟨x.b,0,none⟩=some (.int .i64 x.now)/\w'.cell? ⟨x.b,1,none⟩=some (.slice x.p.A x.p.n x.p.c)/\w'.cell? ⟨x.b,2,none⟩=some (.slice (some ⟨x.bc,x.oc,none⟩) x.nc x.cc)/\w'.cell? ⟨x.b,3,none⟩=some (.slice (some ⟨x.bm,x.om,none⟩) 4 x.cm)/\w'.cell? ⟨x.b,4,none⟩=some (.slice T.A T.n T.c)/\w'.cell? ⟨x.b,5,none⟩=some (.int .i64 12)/\w'.cell? ⟨x.b,10,none⟩=some (.slice none 0 0))) (by kernel_rfl) ⟨d0,d1,d2,d3,d4,d5,d10⟩ (λ hS=>?_)
   generalize w6.drew=wd at d0 f0 v0 x0 d1 f1 v1 x1 d2 f2 v2 x2 d3 f3 v3 x3 d4 f4 v4 x4 d5 f5 v5 x5 d10 f10 lt1 hxl WF GF NF EF hS ⊢
   refine wG 0 hS ?_
   refine wG 1 hS ?_
   refine wG 2 hS ?_
   refine wG 3 hS ?_
   refine wG 4 hS ?_
   refine wG 5 hS ?_
   refine wG 6 hS ?_
   refine wG 7 hS ?_
   refine wR1 8 (λ K hK=>?_)
   go_simp
   refine hK.out _ _ ⟨f0,f1,f2,f3,f4,f5,f10⟩ (λ hS=>?_)
   clear hK K
   try simp only [pL]
   refine wG 9 hS ?_
   refine wG 10 hS ?_
   refine wpAnyH_done (by kernel_rfl) ?_ _
   clear hS v0 x0 d0 f0 v1 x1 d1 f1 v2 x2 d2 f2 v3 x3 d3 f3 v4 x4 d4 f4 v5 x5 d5 f5 lt1 d10 f10 hxl
   generalize ((((((wd.setCell ⟨W.heap.size+1,0,none⟩ (.int .i64 x.now)).setCell ⟨W.heap.size+1,1,none⟩ (.slice x.p.A x.p.n x.p.c)).setCell ⟨W.heap.size+1,2,none⟩ (.slice (some ⟨x.bc,x.oc,none⟩) x.nc x.cc)).setCell ⟨W.heap.size+1,3,none⟩ (.slice (some ⟨x.bm,x.om,none⟩) 4 x.cm)).setCell ⟨W.heap.size+1,4,none⟩ (.slice T.A T.n T.c)).setCell ⟨W.heap.size+1,5,none⟩ (.int .i64 12))=Wf at WF GF NF EF ⊢
   have F0:=(WF.out.at_ (k:=0) (v:=.int .i64 x.now) rfl).1
   have F1:=(WF.out.at_ (k:=1) (v:=.slice x.p.A x.p.n x.p.c) rfl).1
   have F2:=(WF.out.at_ (k:=2) (v:=.slice (some ⟨x.bc,x.oc,none⟩) x.nc x.cc) rfl).1
   have F3:=(WF.out.at_ (k:=3) (v:=.slice (some ⟨x.bm,x.om,none⟩) 4 x.cm) rfl).1
   have F4:=(WF.out.at_ (k:=4) (v:=.slice T.A T.n T.c) rfl).1
   have F5:=(WF.out.at_ (k:=5) (v:=.int .i64 12) rfl).1
   go_wp2_with fail
   exact bodyPost_ret (v:=.tuple #[WR.v ⟨x.now,x.p,⟨some ⟨x.bc,x.oc,none⟩,x.nc,x.cc⟩,⟨some ⟨x.bm,x.om,none⟩,4,x.cm⟩,T,12⟩,.slice none 0 0,.int .i64 0]) (by simp [results,Tryz.results20,go_sem,F0,F1,F2,F3,F4,F5]) rfl
    ⟨⟨⟨x.now,x.p,⟨some ⟨x.bc,x.oc,none⟩,x.nc,x.cc⟩,⟨some ⟨x.bm,x.om,none⟩,4,x.cm⟩,T,12⟩,⟨x.now,x.progs,ω.cl,ω.mx,ω.tb,12⟩,none,0,0,_,0,rfl,.inr (.inr ⟨HR.out,HSN.out,HR.out.m4,HR.out.tab,HMW.out,HEV.out,rfl⟩),NF.out,EF.out,HO.out.1,HO.out.2⟩,GF.out⟩
 . rw [X4.out] at hm
   have HMS:=hid hm
   clear hm hlb T3_ X1 X2 X4 X5 X6 XB
   obtain⟨q0,-⟩:=B4.out.at_ (k:=0) (v:=.int .i64 r.now) rfl
   obtain⟨q1,-⟩:=B4.out.at_ (k:=1) (v:=.slice r.p.A r.p.n r.p.c) rfl
   obtain⟨q2,-⟩:=B4.out.at_ (k:=2) (v:=.slice r.c.A r.c.n r.c.c) rfl
   obtain⟨q3,-⟩:=B4.out.at_ (k:=3) (v:=.slice r.m.A r.m.n r.m.c) rfl
   obtain⟨q4,-⟩:=B4.out.at_ (k:=4) (v:=.slice r.t.A r.t.n r.t.c) rfl
   obtain⟨q5,-⟩:=B4.out.at_ (k:=5) (v:=.int .i64 r.stop) rfl
   go_wp2_with fail
   with_reducible refine (cT _ G4.out).out.mono ?_
   rintro e w5 ⟨⟨x,T,rfl,t5,xB,e1,e2,e3,e4,e5,e6,e7,e8⟩,g5⟩
   have hB:W.heap.size+2<=x.B:=by omega
   have XB:=hid hB
   have Z5:=hid (Z4.out.gr g5)
   have G5:=hid (G4.out.trans g5)
   have hlb:=Nat.le_trans hB t5.lb
   have X1:=hid e1
   have X2:=hid e2
   have X4:=hid e4
   have X5:=hid e5
   have hcl:=t5.cells
   obtain⟨-,-,-,-,-,q5,-,-,-,-,-,cz⟩:=hcl
   have z5:=cz 5 (by decide)
   have hxl:=t5.t.lt
   have t6:=t5.putS 11
   have Z6:=hid (Z5.out.st (p:=⟨x.b,5,none⟩) (by show x.b≠W.heap.size+1;omega) (.int .i64 11))
   have G6:=hid (G5.out.st (p:=⟨x.b,5,none⟩) (by show W.heap.size<=x.b;omega) (.int .i64 11))
   have T6:=hid t6
   clear g5 t5 t6 e1 e2 e3 e4 e5 e6 e7 e8 xB hB cz B4 Z4 G4 cT s4 Z5 G5 q0 q1 q2 q3 q4
   go_upto_region 10 with fail
   generalize w5.setCell ⟨x.b,5,none⟩ (.int .i64 11)=w6 at T6 Z6 G6 ⊢
   clear q5 z5 hxl
   have cE:=hid (tell_is T6.out 4 ⟨by omega,by omega⟩)
   have hlb2:=hid (show W.heap.size+2<=x.b/\W.heap.size+2<=x.bc/\W.heap.size+2<=x.bm from ⟨hlb,Nat.le_trans XB.out T6.out.lc,Nat.le_trans XB.out T6.out.lm⟩)
   go_wp2_with fail
   with_reducible refine cE.out.mono ?_
   rintro e w7 ⟨rfl,⟨E',t7⟩,k7⟩
   have k7:Kx x w6 w7:=⟨k7.os,k7.tape,k7.output,k7.size,k7.block⟩
   have G7:Hid (Gr W w7):=hid (Kx.old G6.out k7 (by have:=hlb2.out;omega) (by have:=hlb2.out;omega) (by have:=hlb2.out;omega))
   have Z7:Hid (Blk w7 (W.heap.size+1) zeroA 29):=hid (by have:=hlb2.out;unfold Blk;rw [k7.block _ Z6.out.lt (by omega) (by omega) (by omega)];exact Z6.out)
   have T7:=hid t7
   clear t7 k7 cE hlb2 T6 Z6 G6
   have BT:Hid (Blk w7 x.b #[.int .i64 x.now,.slice x.p.A x.p.n x.p.c,.slice (some ⟨x.bc,x.oc,none⟩) x.nc x.cc,.slice (some ⟨x.bm,x.om,none⟩) 4 x.cm,.slice T.A T.n T.c,.int .i64 11,.int .i64 x.who,.pointer (some ⟨x.bc,x.oc+x.who.toNat*13,none⟩),.int .i64 x.k,.int .i64 x.n,.slice E'.A E'.n E'.c] 99):=hid T7.out.t
   have N:Hid (WNew x.B w7 ⟨x.now,x.p,⟨some ⟨x.bc,x.oc,none⟩,x.nc,x.cc⟩,⟨some ⟨x.bm,x.om,none⟩,4,x.cm⟩,T,11⟩ ⟨x.now,x.progs,ω.cl,ω.mx,ω.tb,11⟩):=hid (T7.out.new (show B64 11 from ⟨by omega,by omega⟩))
   have EN:Hid (ENew x.B w7 E'.A E'.n [(x.who,4,x.n)]):=hid T7.out.enew
   have hxb:x.B<=x.b:=T7.out.lb
   have hB0:=Nat.le_trans (Nat.le_add_right _ _) XB.out
   have hB1:=XB.out
   have HO:Hid ((E'.n:Nat)<=E'.c/\E'.c<=9223372036854775807):=hid T7.out.oe
   have HMW:=hid (show mw ⟨x.now,x.progs,ω.cl,ω.mx,ω.tb,11⟩=(stp (mw ω) who.toNat).1 from by rw [X1.out,X5.out,HMS.out];rfl)
   have HEV:=hid (show [(x.who,4,x.n)]=(stp (mw ω) who.toNat).2.toList from by rw [HMS.out];rw [X2.out,X4.out];rfl)
   clear T7 hlb
   go_upto_region 12 with fail
   have BD:Blk w7.drew x.b #[.int .i64 x.now,.slice x.p.A x.p.n x.p.c,.slice (some ⟨x.bc,x.oc,none⟩) x.nc x.cc,.slice (some ⟨x.bm,x.om,none⟩) 4 x.cm,.slice T.A T.n T.c,.int .i64 11,.int .i64 x.who,.pointer (some ⟨x.bc,x.oc+x.who.toNat*13,none⟩),.int .i64 x.k,.int .i64 x.n,.slice E'.A E'.n E'.c] 99:=BT.out.gr (Gr.refl _).dr
   have ZD:=hid (Z7.out.gr (Gr.refl _).dr)
   have GD:=hid (G7.out.dr)
   have ND:=hid (N.out.gr (Gr.refl _).dr)
   have ED:=hid (EN.out.gr (Gr.refl _).dr)
   obtain⟨d0,-⟩:=BD.at_ (k:=0) (v:=.int .i64 x.now) rfl
   obtain⟨d1,-⟩:=BD.at_ (k:=1) (v:=.slice x.p.A x.p.n x.p.c) rfl
   obtain⟨d2,-⟩:=BD.at_ (k:=2) (v:=.slice (some ⟨x.bc,x.oc,none⟩) x.nc x.cc) rfl
   obtain⟨d3,-⟩:=BD.at_ (k:=3) (v:=.slice (some ⟨x.bm,x.om,none⟩) 4 x.cm) rfl
   obtain⟨d4,-⟩:=BD.at_ (k:=4) (v:=.slice T.A T.n T.c) rfl
   obtain⟨d5,-⟩:=BD.at_ (k:=5) (v:=.int .i64 11) rfl
   obtain⟨d10,-⟩:=BD.at_ (k:=10) (v:=.slice E'.A E'.n E'.c) rfl
   have fb:FromB x.B w7.drew ((((((w7.drew.setCell ⟨W.heap.size+1,0,none⟩ (.int .i64 x.now)).setCell ⟨W.heap.size+1,1,none⟩ (.slice x.p.A x.p.n x.p.c)).setCell ⟨W.heap.size+1,2,none⟩ (.slice (some ⟨x.bc,x.oc,none⟩) x.nc x.cc)).setCell ⟨W.heap.size+1,3,none⟩ (.slice (some ⟨x.bm,x.om,none⟩) 4 x.cm)).setCell ⟨W.heap.size+1,4,none⟩ (.slice T.A T.n T.c)).setCell ⟨W.heap.size+1,5,none⟩ (.int .i64 11)):=FromB.put6 (b:=W.heap.size+1) (by omega) (.int .i64 x.now) (.slice x.p.A x.p.n x.p.c) (.slice (some ⟨x.bc,x.oc,none⟩) x.nc x.cc) (.slice (some ⟨x.bm,x.om,none⟩) 4 x.cm) (.slice T.A T.n T.c) (.int .i64 11)
   have BF:Blk ((((((w7.drew.setCell ⟨W.heap.size+1,0,none⟩ (.int .i64 x.now)).setCell ⟨W.heap.size+1,1,none⟩ (.slice x.p.A x.p.n x.p.c)).setCell ⟨W.heap.size+1,2,none⟩ (.slice (some ⟨x.bc,x.oc,none⟩) x.nc x.cc)).setCell ⟨W.heap.size+1,3,none⟩ (.slice (some ⟨x.bm,x.om,none⟩) 4 x.cm)).setCell ⟨W.heap.size+1,4,none⟩ (.slice T.A T.n T.c)).setCell ⟨W.heap.size+1,5,none⟩ (.int .i64 11)) x.b #[.int .i64 x.now,.slice x.p.A x.p.n x.p.c,.slice (some ⟨x.bc,x.oc,none⟩) x.nc x.cc,.slice (some ⟨x.bm,x.om,none⟩) 4 x.cm,.slice T.A T.n T.c,.int .i64 11,.int .i64 x.who,.pointer (some ⟨x.bc,x.oc+x.who.toNat*13,none⟩),.int .i64 x.k,.int .i64 x.n,.slice E'.A E'.n E'.c] 99:=by unfold Blk;rw [fb.2 x.b hxb BD.lt];exact BD
   have WF:=hid (put6_blk ZD.out rfl (.int .i64 x.now) (.slice x.p.A x.p.n x.p.c) (.slice (some ⟨x.bc,x.oc,none⟩) x.nc x.cc) (.slice (some ⟨x.bm,x.om,none⟩) 4 x.cm) (.slice T.A T.n T.c) (.int .i64 11))
   have GF:=hid (put6_gr (x0:=.int .i64 x.now) (x1:=.slice x.p.A x.p.n x.p.c) (x2:=.slice (some ⟨x.bc,x.oc,none⟩) x.nc x.cc) (x3:=.slice (some ⟨x.bm,x.om,none⟩) 4 x.cm) (x4:=.slice T.A T.n T.c) (x5:=.int .i64 11) (b:=W.heap.size+1) GD.out (Nat.le_succ _))
   have NF:=hid ((ND.out.to fb).low hB0)
   have EF:=hid ((ED.out.to fb).low hB0)
   obtain⟨f0,-⟩:=BF.at_ (k:=0) (v:=.int .i64 x.now) rfl
   obtain⟨f1,-⟩:=BF.at_ (k:=1) (v:=.slice x.p.A x.p.n x.p.c) rfl
   obtain⟨f2,-⟩:=BF.at_ (k:=2) (v:=.slice (some ⟨x.bc,x.oc,none⟩) x.nc x.cc) rfl
   obtain⟨f3,-⟩:=BF.at_ (k:=3) (v:=.slice (some ⟨x.bm,x.om,none⟩) 4 x.cm) rfl
   obtain⟨f4,-⟩:=BF.at_ (k:=4) (v:=.slice T.A T.n T.c) rfl
   obtain⟨f5,-⟩:=BF.at_ (k:=5) (v:=.int .i64 11) rfl
   obtain⟨f10,-⟩:=BF.at_ (k:=10) (v:=.slice E'.A E'.n E'.c) rfl
   have lt1:=ZD.out.lt
   obtain⟨v0,x0⟩:=ZD.out.at_ (k:=0) (v:=.int .i64 0) rfl
   obtain⟨v1,x1⟩:=ZD.out.at_ (k:=1) (v:=.slice none 0 0) rfl
   obtain⟨v2,x2⟩:=ZD.out.at_ (k:=2) (v:=.slice none 0 0) rfl
   obtain⟨v3,x3⟩:=ZD.out.at_ (k:=3) (v:=.slice none 0 0) rfl
   obtain⟨v4,x4⟩:=ZD.out.at_ (k:=4) (v:=.slice none 0 0) rfl
   obtain⟨v5,x5⟩:=ZD.out.at_ (k:=5) (v:=.int .i64 0) rfl
   have hxl:=BD.lt
   clear BD BF fb BT N EN ND ED ZD GD hxb
   refine wp_region_held_drew (S:=(λ w'=>w'.cell? ⟨x.b,0,none⟩=some (.int .i64 x.now)/\w'.cell? ⟨x.b,1,none⟩=some (.slice x.p.A x.p.n x.p.c)/\w'.cell? ⟨x.b,2,none⟩=some (.slice (some ⟨x.bc,x.oc,none⟩) x.nc x.cc)/\w'.cell? ⟨x.b,3,none⟩=some (.slice (some ⟨x.bm,x.om,none⟩) 4 x.cm)/\w'.cell? ⟨x.b,4,none⟩=some (.slice T.A T.n T.c)/\w'.cell? ⟨x.b,5,none⟩=some (.int .i64 11)/\w'.cell? ⟨x.b,10,none⟩=some (.slice E'.A E'.n E'.c))) (by kernel_rfl) ⟨d0,d1,d2,d3,d4,d5,d10⟩ (λ hS=>?_)
   generalize w7.drew=wd at d0 f0 v0 x0 d1 f1 v1 x1 d2 f2 v2 x2 d3 f3 v3 x3 d4 f4 v4 x4 d5 f5 v5 x5 d10 f10 lt1 hxl WF GF NF EF hS ⊢
   refine wG 0 hS ?_
   refine wG 1 hS ?_
   refine wG 2 hS ?_
   refine wG 3 hS ?_
   refine wG 4 hS ?_
   refine wG 5 hS ?_
   refine wG 6 hS ?_
   refine wG 7 hS ?_
   refine wR1 8 (λ K hK=>?_)
   go_simp
   refine hK.out _ _ ⟨f0,f1,f2,f3,f4,f5,f10⟩ (λ hS=>?_)
   clear hK K
   try simp only [pL]
   refine wG 9 hS ?_
   refine wG 10 hS ?_
   refine wpAnyH_done (by kernel_rfl) ?_ _
   clear hS v0 x0 d0 f0 v1 x1 d1 f1 v2 x2 d2 f2 v3 x3 d3 f3 v4 x4 d4 f4 v5 x5 d5 f5 lt1 d10 f10 hxl
   generalize ((((((wd.setCell ⟨W.heap.size+1,0,none⟩ (.int .i64 x.now)).setCell ⟨W.heap.size+1,1,none⟩ (.slice x.p.A x.p.n x.p.c)).setCell ⟨W.heap.size+1,2,none⟩ (.slice (some ⟨x.bc,x.oc,none⟩) x.nc x.cc)).setCell ⟨W.heap.size+1,3,none⟩ (.slice (some ⟨x.bm,x.om,none⟩) 4 x.cm)).setCell ⟨W.heap.size+1,4,none⟩ (.slice T.A T.n T.c)).setCell ⟨W.heap.size+1,5,none⟩ (.int .i64 11))=Wf at WF GF NF EF ⊢
   have F0:=(WF.out.at_ (k:=0) (v:=.int .i64 x.now) rfl).1
   have F1:=(WF.out.at_ (k:=1) (v:=.slice x.p.A x.p.n x.p.c) rfl).1
   have F2:=(WF.out.at_ (k:=2) (v:=.slice (some ⟨x.bc,x.oc,none⟩) x.nc x.cc) rfl).1
   have F3:=(WF.out.at_ (k:=3) (v:=.slice (some ⟨x.bm,x.om,none⟩) 4 x.cm) rfl).1
   have F4:=(WF.out.at_ (k:=4) (v:=.slice T.A T.n T.c) rfl).1
   have F5:=(WF.out.at_ (k:=5) (v:=.int .i64 11) rfl).1
   go_wp2_with fail
   exact bodyPost_ret (v:=.tuple #[WR.v ⟨x.now,x.p,⟨some ⟨x.bc,x.oc,none⟩,x.nc,x.cc⟩,⟨some ⟨x.bm,x.om,none⟩,4,x.cm⟩,T,11⟩,.slice E'.A E'.n E'.c,.int .i64 0]) (by simp [results,Tryz.results20,go_sem,F0,F1,F2,F3,F4,F5]) rfl
    ⟨⟨⟨x.now,x.p,⟨some ⟨x.bc,x.oc,none⟩,x.nc,x.cc⟩,⟨some ⟨x.bm,x.om,none⟩,4,x.cm⟩,T,11⟩,⟨x.now,x.progs,ω.cl,ω.mx,ω.tb,11⟩,E'.A,E'.n,E'.c,_,0,rfl,.inr (.inr ⟨HR.out,HSN.out,HR.out.m4,HR.out.tab,HMW.out,HEV.out,rfl⟩),NF.out,EF.out,HO.out.1,HO.out.2⟩,GF.out⟩
theorem step_is (h:WIs W r ω) (gl:P15.Glob W):Calls Tryz.prog 20 #[r.v,.int .i64 who] W (StepQ W ω who):=by
 by_cases hr:RightW ω
 . by_cases hs:Still ω who
   . exact step_still h hr hs
   . exact step_goes h hr hs gl
 . exact step_wrong h hr
end
end P16
end
end Go.Proofs.YtainfijdhcehlaaGreatDoor
