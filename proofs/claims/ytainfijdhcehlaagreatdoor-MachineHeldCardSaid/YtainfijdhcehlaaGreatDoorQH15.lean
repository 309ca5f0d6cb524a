/-
  A part of the proof.
-/
import Derived.Test.YtainfijdhcehlaaGreatDoorQH14
import Derived.Deep.DeepCutAuto
set_option linter.all false
set_option maxRecDepth 100000
set_option maxHeartbeats 8000000
namespace Go.Proofs.YtainfijdhcehlaaGreatDoor
open Lib (hid)
section
open Go.ChangeShapes Go.WideShapes Go.ChangeAt Go.RowKit
namespace P14
open P3 (fl pw)
open P4 (Tm)
abbrev ov (s:Int) (t k:Bool) (r o:Int):Value:=.agg #[.int .i64 s,.bool t,.bool k,.int .i64 r,.int .i64 o]
def OkS (s r:Int):Prop:=(s=-1\/Tm s)/\0<=r/\r<=4
def OkW (o:Int):Prop:=0<=o/\o<2147483648
def OkN (n:Int):Prop:=0<=n/\n<268435456
theorem own_st {W:World} {g:Nat} {v0 v1 v2 v3 v4:Value} {T:TypeId} (B:Blk W g #[v0,v1,v2,v3,v4] T) (s:Int) (t k:Bool) (r o:Int) :
 Blk (((((W.setCell ⟨g,0,none⟩ (.int .i64 s)).setCell ⟨g,1,none⟩ (.bool t)).setCell ⟨g,2,none⟩ (.bool k)).setCell ⟨g,3,none⟩ (.int .i64 r)).setCell ⟨g,4,none⟩ (.int .i64 o)) g #[.int .i64 s,.bool t,.bool k,.int .i64 r,.int .i64 o] T :=
 ((((B.set 0 (.int .i64 s)).set 1 (.bool t)).set 2 (.bool k)).set 3 (.int .i64 r)).set 4 (.int .i64 o)
theorem own_gr {w W:World} {g:Nat} (G:Gr w W) (h:w.heap.size<=g) (s:Int) (t k:Bool) (r o:Int) :
 Gr w (((((W.setCell ⟨g,0,none⟩ (.int .i64 s)).setCell ⟨g,1,none⟩ (.bool t)).setCell ⟨g,2,none⟩ (.bool k)).setCell ⟨g,3,none⟩ (.int .i64 r)).setCell ⟨g,4,none⟩ (.int .i64 o)) :=
 ((((G.st (p:=⟨g,0,none⟩) h _).st (p:=⟨g,1,none⟩) h _).st (p:=⟨g,2,none⟩) h _).st (p:=⟨g,3,none⟩) h _).st (p:=⟨g,4,none⟩) h _
theorem own_cells {W:World} {g:Nat} {v0 v1 v2 v3 v4:Value} {T:TypeId} (B:Blk W g #[v0,v1,v2,v3,v4] T) :
 (W.cell? ⟨g,0,none⟩=some v0/\W.cell? ⟨g,1,none⟩=some v1/\W.cell? ⟨g,2,none⟩=some v2/\W.cell? ⟨g,3,none⟩=some v3/\W.cell? ⟨g,4,none⟩=some v4) /\
 (W.frozen? ⟨g,0,none⟩=false/\W.frozen? ⟨g,1,none⟩=false/\W.frozen? ⟨g,2,none⟩=false/\W.frozen? ⟨g,3,none⟩=false/\W.frozen? ⟨g,4,none⟩=false) :=
 ⟨⟨(B.at_ (k:=0) rfl).1,(B.at_ (k:=1) rfl).1,(B.at_ (k:=2) rfl).1,(B.at_ (k:=3) rfl).1,(B.at_ (k:=4) rfl).1⟩,(B.at_ (k:=0) rfl).2,(B.at_ (k:=1) rfl).2,(B.at_ (k:=2) rfl).2,(B.at_ (k:=3) rfl).2,(B.at_ (k:=4) rfl).2⟩
def hEq (a b c d:Bool):Bool:=decide (a=c/\b=d)
theorem run_hold_eql (a b c d:Bool) (w:World):(binOp .eql 230 (.agg #[.bool a,.bool b]) (.agg #[.bool c,.bool d])).run Tryz.prog w=.ok (.bool (hEq a b c d)) w:=by
 cases a<;>cases b<;>cases c<;>cases d<;>kernel_rfl
theorem run_hold_neq (a b c d:Bool) (w:World):(binOp .neq 230 (.agg #[.bool a,.bool b]) (.agg #[.bool c,.bool d])).run Tryz.prog w=.ok (.bool (!hEq a b c d)) w:=by
 cases a<;>cases b<;>cases c<;>cases d<;>kernel_rfl
theorem held_is (a b c:Bool) (n:Int) (w:World):Calls Tryz.prog 177 #[fl a b c n] w λ e w'=>e=.returned (.agg #[.bool a,.bool c])/\Gr w w':=by
 go_enter Tryz.func177,Tryz.ntmps177
 go_wp2_with fail
 exact bodyPost_ret (v:=.agg #[.bool a,.bool c]) (by simp [results,Tryz.results177,go_sem]) rfl ⟨rfl,(Gr.refl w).al _ |>.al _⟩
section
variable {s r:Int} {t k a b c:Bool} {n:Int} {w:World}
theorem look_ok (h:OkS s r) (hn:OkN n):Calls Tryz.prog 130 #[ov s t k r (pw a b c n)] w λ e w'=>e=.returned (fl a b c n)/\Gr w w':=by
 obtain⟨hs,hr0,hr4⟩:=h
 have U:=λ w=>hid (P3.Unpack_ok a b c n hn w)
 have SF:=λ w=>hid (sureF_yes a b c n w)
 clear hn
 generalize pw a b c n=v at *
 by_cases h1:s=-1
 . subst h1
   clear hs
   go_enter Tryz.func130,Tryz.ntmps130
   go_wp2_with fail
   with_reducible refine (need_yes _ _).mono ?_
   rintro e w1 ⟨rfl,rfl⟩
   go_wp2_with fail
   with_reducible refine (need_yes _ _).mono ?_
   rintro e w1 ⟨rfl,rfl⟩
   go_wp2_with fail
   with_reducible refine (U _).out.mono ?_
   rintro e w1 ⟨rfl,g1⟩
   go_wp2_with fail
   with_reducible refine (SF _).out.mono ?_
   rintro e w2 ⟨rfl,g2⟩
   have B1:=((Blk.new (w.alloc (.cells #[.int .i64 (-1),.bool t,.bool k,.int .i64 r,.int .i64 v] 53)) #[.bool false,.bool false,.bool false,.int .i64 0] 42).gr g1).gr g2
   rw [World.size_alloc] at B1
   have G:=(((Gr.refl w).al (.cells #[.int .i64 (-1),.bool t,.bool k,.int .i64 r,.int .i64 v] 53)).al (.cells #[.bool false,.bool false,.bool false,.int .i64 0] 42)).trans g1 |>.trans g2
   obtain⟨a0,y0⟩:=B1.at_ (k:=0) (v:=.bool false) rfl
   obtain⟨a1,y1⟩:=B1.at_ (k:=1) (v:=.bool false) rfl
   obtain⟨a2,y2⟩:=B1.at_ (k:=2) (v:=.bool false) rfl
   obtain⟨a3,y3⟩:=B1.at_ (k:=3) (v:=.int .i64 0) rfl
   have BF:=(((B1.set 0 (.bool a)).set 1 (.bool b)).set 2 (.bool c)).set 3 (.int .i64 n)
   have GF:=hid ((((G.st (p:=⟨w.heap.size+1,0,none⟩) (Nat.le_succ _) (.bool a)).st (p:=⟨w.heap.size+1,1,none⟩) (Nat.le_succ _) (.bool b)).st (p:=⟨w.heap.size+1,2,none⟩) (Nat.le_succ _) (.bool c)).st (p:=⟨w.heap.size+1,3,none⟩) (Nat.le_succ _) (.int .i64 n))
   obtain⟨c0,x0⟩:=BF.at_ (k:=0) (v:=.bool a) rfl
   obtain⟨c1,x1⟩:=BF.at_ (k:=1) (v:=.bool b) rfl
   obtain⟨c2,x2⟩:=BF.at_ (k:=2) (v:=.bool c) rfl
   obtain⟨c3,x3⟩:=BF.at_ (k:=3) (v:=.int .i64 n) rfl
   clear g1 g2 B1 BF G
   go_wp2_with fail
   exact bodyPost_ret (v:=fl a b c n) (by simp [results,Tryz.results130,go_sem,c0,c1,c2,c3]) rfl ⟨rfl,GF.out⟩
 . have hs':Tm s:=hs.resolve_left h1
   have R:=λ w=>hid (P4.Right_ok s true (by rw [P4.near_eq hs'];simp) w)
   clear hs hs'
   go_enter Tryz.func130,Tryz.ntmps130
   go_wp2_with fail
   with_reducible refine (R _).out.mono ?_
   rintro e w0 ⟨rfl,g0⟩
   have B0:=(((Blk.new w #[.int .i64 s,.bool t,.bool k,.int .i64 r,.int .i64 v] 53).al (.cells #[.bool false,.bool false,.bool false,.int .i64 0] 42)).gr g0)
   obtain⟨q3,z3⟩:=B0.at_ (k:=3) (v:=.int .i64 r) rfl
   obtain⟨q4,z4⟩:=B0.at_ (k:=4) (v:=.int .i64 v) rfl
   go_wp2_with fail
   with_reducible refine (need_yes _ _).mono ?_
   rintro e w1 ⟨rfl,rfl⟩
   go_wp2_with fail
   with_reducible refine (need_yes _ _).mono ?_
   rintro e w1 ⟨rfl,rfl⟩
   go_wp2_with fail
   with_reducible refine (U _).out.mono ?_
   rintro e w1 ⟨rfl,g1⟩
   go_wp2_with fail
   with_reducible refine (SF _).out.mono ?_
   rintro e w2 ⟨rfl,g2⟩
   have B1:=(((Blk.new (w.alloc (.cells #[.int .i64 s,.bool t,.bool k,.int .i64 r,.int .i64 v] 53)) #[.bool false,.bool false,.bool false,.int .i64 0] 42).gr g0).gr g1).gr g2
   rw [World.size_alloc] at B1
   have G:=(((Gr.refl w).al (.cells #[.int .i64 s,.bool t,.bool k,.int .i64 r,.int .i64 v] 53)).al (.cells #[.bool false,.bool false,.bool false,.int .i64 0] 42)).trans g0 |>.trans g1 |>.trans g2
   clear q3 z3 q4 z4 B0
   obtain⟨a0,y0⟩:=B1.at_ (k:=0) (v:=.bool false) rfl
   obtain⟨a1,y1⟩:=B1.at_ (k:=1) (v:=.bool false) rfl
   obtain⟨a2,y2⟩:=B1.at_ (k:=2) (v:=.bool false) rfl
   obtain⟨a3,y3⟩:=B1.at_ (k:=3) (v:=.int .i64 0) rfl
   have BF:=(((B1.set 0 (.bool a)).set 1 (.bool b)).set 2 (.bool c)).set 3 (.int .i64 n)
   have GF:=hid ((((G.st (p:=⟨w.heap.size+1,0,none⟩) (Nat.le_succ _) (.bool a)).st (p:=⟨w.heap.size+1,1,none⟩) (Nat.le_succ _) (.bool b)).st (p:=⟨w.heap.size+1,2,none⟩) (Nat.le_succ _) (.bool c)).st (p:=⟨w.heap.size+1,3,none⟩) (Nat.le_succ _) (.int .i64 n))
   obtain⟨c0,x0⟩:=BF.at_ (k:=0) (v:=.bool a) rfl
   obtain⟨c1,x1⟩:=BF.at_ (k:=1) (v:=.bool b) rfl
   obtain⟨c2,x2⟩:=BF.at_ (k:=2) (v:=.bool c) rfl
   obtain⟨c3,x3⟩:=BF.at_ (k:=3) (v:=.int .i64 n) rfl
   clear g1 g2 B1 BF G
   go_wp2_with fail
   exact bodyPost_ret (v:=fl a b c n) (by simp [results,Tryz.results130,go_sem,c0,c1,c2,c3]) rfl ⟨rfl,GF.out⟩
theorem look_no {o:Int} (h:¬ (OkS s r/\OkW o)):Calls Tryz.prog 130 #[ov s t k r o] w λ e w'=>e=.panicked (pan 1)/\Gr w w':=by
 by_cases h1:s=-1
 . subst h1
   by_cases hr:0<=r/\r<=4
   . have ho:¬ OkW o:=λ q=>h ⟨⟨.inl rfl,hr⟩,q⟩
     have U:=λ w=>hid (P3.Unpack_no o ho w)
     have SF:=λ w=>hid (sureF_no false false false 0 (y:=1) rfl w)
     obtain⟨hr0,hr4⟩:=hr
     clear h ho
     go_enter Tryz.func130,Tryz.ntmps130
     go_wp2_with fail
     with_reducible refine (need_yes _ _).mono ?_
     rintro e w1 ⟨rfl,rfl⟩
     go_wp2_with fail
     with_reducible refine (need_yes _ _).mono ?_
     rintro e w1 ⟨rfl,rfl⟩
     go_wp2_with fail
     with_reducible refine (U _).out.mono ?_
     rintro e w1 ⟨rfl,g1⟩
     go_wp2_with fail
     with_reducible refine (SF _).out.mono ?_
     rintro e w2 ⟨rfl,g2⟩
     have G:=(((Gr.refl w).al (.cells #[.int .i64 (-1),.bool t,.bool k,.int .i64 r,.int .i64 o] 53)).al (.cells #[.bool false,.bool false,.bool false,.int .i64 0] 42)).trans g1 |>.trans g2
     go_wp2_with fail
     exact⟨rfl,rfl,G⟩
   . clear h
     have G:=(((Gr.refl w).al (.cells #[.int .i64 (-1),.bool t,.bool k,.int .i64 r,.int .i64 o] 53)).al (.cells #[.bool false,.bool false,.bool false,.int .i64 0] 42))
     by_cases hr0:0<=r
     . have hr4:decide (r<=4)=false:=decide_eq_false (by omega)
       clear hr
       go_enter Tryz.func130,Tryz.ntmps130
       go_wp2_with fail
       with_reducible refine (need_yes _ _).mono ?_
       rintro e w1 ⟨rfl,rfl⟩
       go_wp2_with fail
       with_reducible refine (need_no _ _).mono ?_
       rintro e w1 ⟨rfl,rfl⟩
       go_wp2_with fail
       exact⟨rfl,rfl,G⟩
     . clear hr
       go_enter Tryz.func130,Tryz.ntmps130
       go_wp2_with fail
       with_reducible refine (need_yes _ _).mono ?_
       rintro e w1 ⟨rfl,rfl⟩
       go_wp2_with fail
       with_reducible refine (need_no _ _).mono ?_
       rintro e w1 ⟨rfl,rfl⟩
       go_wp2_with fail
       exact⟨rfl,rfl,G⟩
 . by_cases hs:Tm s
   . have R:=λ w=>hid (P4.Right_ok s true (by rw [P4.near_eq hs];simp) w)
     have G0:=(((Gr.refl w).al (.cells #[.int .i64 s,.bool t,.bool k,.int .i64 r,.int .i64 o] 53)).al (.cells #[.bool false,.bool false,.bool false,.int .i64 0] 42))
     by_cases hr:0<=r/\r<=4
     . have ho:¬ OkW o:=λ q=>h ⟨⟨.inr hs,hr⟩,q⟩
       have U:=λ w=>hid (P3.Unpack_no o ho w)
       have SF:=λ w=>hid (sureF_no false false false 0 (y:=1) rfl w)
       obtain⟨hr0,hr4⟩:=hr
       clear h ho hs
       go_enter Tryz.func130,Tryz.ntmps130
       go_wp2_with fail
       with_reducible refine (R _).out.mono ?_
       rintro e w0 ⟨rfl,g0⟩
       have B0:=(((Blk.new w #[.int .i64 s,.bool t,.bool k,.int .i64 r,.int .i64 o] 53).al (.cells #[.bool false,.bool false,.bool false,.int .i64 0] 42)).gr g0)
       obtain⟨q3,z3⟩:=B0.at_ (k:=3) (v:=.int .i64 r) rfl
       obtain⟨q4,z4⟩:=B0.at_ (k:=4) (v:=.int .i64 o) rfl
       go_wp2_with fail
       with_reducible refine (need_yes _ _).mono ?_
       rintro e w1 ⟨rfl,rfl⟩
       go_wp2_with fail
       with_reducible refine (need_yes _ _).mono ?_
       rintro e w1 ⟨rfl,rfl⟩
       go_wp2_with fail
       with_reducible refine (U _).out.mono ?_
       rintro e w1 ⟨rfl,g1⟩
       go_wp2_with fail
       with_reducible refine (SF _).out.mono ?_
       rintro e w2 ⟨rfl,g2⟩
       have G:=G0.trans g0 |>.trans g1 |>.trans g2
       go_wp2_with fail
       exact⟨rfl,rfl,G⟩
     . clear h hs
       by_cases hr0:0<=r
       . have hr4:decide (r<=4)=false:=decide_eq_false (by omega)
         clear hr
         go_enter Tryz.func130,Tryz.ntmps130
         go_wp2_with fail
         with_reducible refine (R _).out.mono ?_
         rintro e w0 ⟨rfl,g0⟩
         obtain⟨q3,z3⟩:=(((Blk.new w #[.int .i64 s,.bool t,.bool k,.int .i64 r,.int .i64 o] 53).al (.cells #[.bool false,.bool false,.bool false,.int .i64 0] 42)).gr g0).at_ (k:=3) (v:=.int .i64 r) rfl
         go_wp2_with fail
         with_reducible refine (need_yes _ _).mono ?_
         rintro e w1 ⟨rfl,rfl⟩
         go_wp2_with fail
         with_reducible refine (need_no _ _).mono ?_
         rintro e w1 ⟨rfl,rfl⟩
         go_wp2_with fail
         exact⟨rfl,rfl,G0.trans g0⟩
       . clear hr
         go_enter Tryz.func130,Tryz.ntmps130
         go_wp2_with fail
         with_reducible refine (R _).out.mono ?_
         rintro e w0 ⟨rfl,g0⟩
         obtain⟨q3,z3⟩:=(((Blk.new w #[.int .i64 s,.bool t,.bool k,.int .i64 r,.int .i64 o] 53).al (.cells #[.bool false,.bool false,.bool false,.int .i64 0] 42)).gr g0).at_ (k:=3) (v:=.int .i64 r) rfl
         go_wp2_with fail
         with_reducible refine (need_yes _ _).mono ?_
         rintro e w1 ⟨rfl,rfl⟩
         go_wp2_with fail
         with_reducible refine (need_no _ _).mono ?_
         rintro e w1 ⟨rfl,rfl⟩
         go_wp2_with fail
         exact⟨rfl,rfl,G0.trans g0⟩
   . have hs1:(s==-1)=false:=beq_eq_false_iff_ne.2 h1
     have R:=λ w=>hid (P4.Right_ok s false (P4.near_ne hs) w)
     have G0:=(((Gr.refl w).al (.cells #[.int .i64 s,.bool t,.bool k,.int .i64 r,.int .i64 o] 53)).al (.cells #[.bool false,.bool false,.bool false,.int .i64 0] 42))
     clear h hs
     go_enter Tryz.func130,Tryz.ntmps130
     go_wp2_with fail
     with_reducible refine (R _).out.mono ?_
     rintro e w0 ⟨rfl,g0⟩
     go_wp2_with fail
     with_reducible refine (need_no _ _).mono ?_
     rintro e w1 ⟨rfl,rfl⟩
     go_wp2_with fail
     exact⟨rfl,rfl,G0.trans g0⟩
end
end P14
end
section
open Go.ChangeShapes Go.WideShapes Go.ChangeAt Go.RowKit Go.Shelf
namespace P14
open P3 (fl pw)
open P4 (Tm)
section
variable {s r:Int} {t k a b c:Bool} {n u o x:Int} {w:World}
theorem Right_cl {W:World} {g:Nat} (B:Blk W g #[.int .i64 s,.bool t,.bool k,.int .i64 r,.int .i64 o] 53) (hc:∀ W,Calls Tryz.prog 130 #[ov s t k r o] W λ e w'=>e=.returned (fl a b c n)/\Gr W w') :
 Calls Tryz.prog 129 #[.pointer (some ⟨g,0,none⟩)] W λ e w'=>e=.returned (fl a b c n)/\Gr W w':=by
 have HC:=λ W=>hid (hc W)
 have hlt:=B.lt
 obtain⟨⟨q0,q1,q2,q3,q4⟩,-⟩:=own_cells B
 have N1:=hid (Blk.new W #[.bool false,.bool false,.bool false,.int .i64 0] 42)
 have G0:=hid ((Gr.refl W).al (.cells #[.bool false,.bool false,.bool false,.int .i64 0] 42))
 clear hc B
 go_enter Tryz.func129,Tryz.ntmps129
 go_wp2_with fail
 with_reducible refine (HC _).out.mono ?_
 rintro e w1 ⟨rfl,g1⟩
 have B1:=N1.out.gr g1
 have G:=G0.out.trans g1
 obtain⟨a0,y0⟩:=B1.at_ (k:=0) (v:=.bool false) rfl
 obtain⟨a1,y1⟩:=B1.at_ (k:=1) (v:=.bool false) rfl
 obtain⟨a2,y2⟩:=B1.at_ (k:=2) (v:=.bool false) rfl
 obtain⟨a3,y3⟩:=B1.at_ (k:=3) (v:=.int .i64 0) rfl
 have BF:=(((B1.set 0 (.bool a)).set 1 (.bool b)).set 2 (.bool c)).set 3 (.int .i64 n)
 have GF:=hid ((((G.st (p:=⟨W.heap.size,0,none⟩) (Nat.le_refl _) (.bool a)).st (p:=⟨W.heap.size,1,none⟩) (Nat.le_refl _) (.bool b)).st (p:=⟨W.heap.size,2,none⟩) (Nat.le_refl _) (.bool c)).st (p:=⟨W.heap.size,3,none⟩) (Nat.le_refl _) (.int .i64 n))
 obtain⟨c0,x0⟩:=BF.at_ (k:=0) (v:=.bool a) rfl
 obtain⟨c1,x1⟩:=BF.at_ (k:=1) (v:=.bool b) rfl
 obtain⟨c2,x2⟩:=BF.at_ (k:=2) (v:=.bool c) rfl
 obtain⟨c3,x3⟩:=BF.at_ (k:=3) (v:=.int .i64 n) rfl
 clear g1 B1 BF G
 go_wp2_with fail
 exact bodyPost_ret (v:=fl a b c n) (by simp [results,Tryz.results129,go_sem,c0,c1,c2,c3]) rfl ⟨rfl,GF.out⟩
theorem Right_up {W:World} {g:Nat} {y:Int} (B:Blk W g #[.int .i64 s,.bool t,.bool k,.int .i64 r,.int .i64 o] 53) (hc:∀ W,Calls Tryz.prog 130 #[ov s t k r o] W λ e w'=>e=.panicked (pan y)/\Gr W w') :
 Calls Tryz.prog 129 #[.pointer (some ⟨g,0,none⟩)] W λ e w'=>e=.panicked (pan y)/\Gr W w':=by
 have HC:=λ W=>hid (hc W)
 have hlt:=B.lt
 obtain⟨⟨q0,q1,q2,q3,q4⟩,-⟩:=own_cells B
 have G0:=hid ((Gr.refl W).al (.cells #[.bool false,.bool false,.bool false,.int .i64 0] 42))
 clear hc B
 go_enter Tryz.func129,Tryz.ntmps129
 go_wp2_with fail
 with_reducible refine (HC _).out.mono ?_
 rintro e w1 ⟨rfl,g1⟩
 go_wp2_with fail
 exact⟨rfl,rfl,G0.out.trans g1⟩
theorem Right_yes (hc:∀ W,Calls Tryz.prog 130 #[ov s t k r o] W λ e w'=>e=.returned (fl a b c n)/\Gr W w') :
 Calls Tryz.prog 96 #[ov s t k r o] w λ e w'=>e=.returned (.bool true)/\Gr w w':=by
 have N0:=Blk.new w #[.int .i64 s,.bool t,.bool k,.int .i64 r,.int .i64 o] 53
 have T:=hid (toldF_ok (F:=129) (caps:=#[.pointer (some ⟨w.heap.size,0,none⟩)]) (w:=w.alloc (.cells #[.int .i64 s,.bool t,.bool k,.int .i64 r,.int .i64 o] 53)) (enters_of Tryz.func129 (by kernel_rfl) rfl) a b c n (λ W G=>Right_cl (N0.gr G) hc))
 have G0:=(Gr.refl w).al (.cells #[.int .i64 s,.bool t,.bool k,.int .i64 r,.int .i64 o] 53)
 clear hc N0
 have hmf:=mkF
 go_enter Tryz.func96,Tryz.ntmps96
 go_wp2_with fail
 with_reducible refine T.out.mono ?_
 rintro e w1 ⟨rfl,g1⟩
 go_wp2_with fail
 go_ret
 exact⟨rfl,(G0.trans g1).al _⟩
theorem Right_no {y:Int} (hy:(y==0)=false) (hc:∀ W,Calls Tryz.prog 130 #[ov s t k r o] W λ e w'=>e=.panicked (pan y)/\Gr W w') :
 Calls Tryz.prog 96 #[ov s t k r o] w λ e w'=>e=.returned (.bool false)/\Gr w w':=by
 have N0:=Blk.new w #[.int .i64 s,.bool t,.bool k,.int .i64 r,.int .i64 o] 53
 have T:=hid (toldF_no (F:=129) (caps:=#[.pointer (some ⟨w.heap.size,0,none⟩)]) (w:=w.alloc (.cells #[.int .i64 s,.bool t,.bool k,.int .i64 r,.int .i64 o] 53)) (enters_of Tryz.func129 (by kernel_rfl) rfl) y (λ W G=>Right_up (N0.gr G) hc))
 have G0:=(Gr.refl w).al (.cells #[.int .i64 s,.bool t,.bool k,.int .i64 r,.int .i64 o] 53)
 clear hc N0
 have hmf:=mkF
 go_enter Tryz.func96,Tryz.ntmps96
 go_wp2_with fail
 with_reducible refine T.out.mono ?_
 rintro e w1 ⟨rfl,g1⟩
 go_wp2_with fail
 go_ret
 exact⟨rfl,(G0.trans g1).al _⟩
theorem Fresh_is:Calls Tryz.prog 63 #[] w λ e w'=>e=.returned (ov (-1) false false 0 0)/\Gr w w':=by
 go_enter Tryz.func63,Tryz.ntmps63
 go_wp2_with fail
 exact bodyPost_ret (v:=ov (-1) false false 0 0) (by simp [results,Tryz.results63,go_sem]) rfl ⟨rfl,(Gr.refl w).al _⟩
theorem Spins_no {W:World} {g h:Nat} (B:Blk W g #[.int .i64 s,.bool t,.bool k,.int .i64 r,.int .i64 o] 53) (D:Blk W h #[.int .i64 u] 3) (hc:∀ W,Calls Tryz.prog 130 #[ov s t k r o] W λ e w'=>e=.returned (fl a b c n)/\Gr W w') (hcan:∀ W,Calls Tryz.prog 176 #[.int .i64 r,.int .i64 u] W λ e w'=>e=.returned (.tuple #[.bool false,.int .i64 0])/\w'=W) :
 Calls Tryz.prog 174 #[.pointer (some ⟨g,0,none⟩),.pointer (some ⟨h,0,none⟩)] W λ e w'=>e=.returned (.bool false)/\Gr W w':=by
 have HC:=λ W=>hid (hc W)
 obtain⟨⟨q0,q1,q2,q3,q4⟩,-⟩:=own_cells B
 have HCAN:=λ W=>hid (hcan W)
 clear hc hcan
 go_enter Tryz.func174,Tryz.ntmps174
 go_wp2_with fail
 with_reducible refine (HC _).out.mono ?_
 rintro e w1 ⟨rfl,g1⟩
 have hlt:=(B.gr g1).lt
 have hlt2:=(D.gr g1).lt
 obtain⟨p3,-⟩:=(B.gr g1).at_ (k:=3) rfl
 obtain⟨d0,-⟩:=(D.gr g1).at_ (k:=0) rfl
 clear q0 q1 q2 q3 q4
 go_wp2_with fail
 with_reducible refine (HCAN _).out.mono ?_
 rintro e w2 ⟨rfl,rfl⟩
 go_wp2_with fail
 with_reducible refine (sureB_yes _ _).mono ?_
 rintro e w3 ⟨rfl,rfl⟩
 go_wp2_with fail
 go_ret
 exact⟨rfl,g1.al _⟩
theorem Spins_yes {W:World} {g h:Nat} (B:Blk W g #[.int .i64 s,.bool t,.bool k,.int .i64 r,.int .i64 o] 53) (D:Blk W h #[.int .i64 u] 3) (hc:∀ W,Calls Tryz.prog 130 #[ov s t k r o] W λ e w'=>e=.returned (fl a b c n)/\Gr W w') (hcan:∀ W,Calls Tryz.prog 176 #[.int .i64 r,.int .i64 u] W λ e w'=>e=.returned (.tuple #[.bool true,.int .i64 0])/\w'=W) :
 Calls Tryz.prog 174 #[.pointer (some ⟨g,0,none⟩),.pointer (some ⟨h,0,none⟩)] W λ e w'=>e=.returned (.bool (a&&!c))/\Gr W w':=by
 have HC:=λ W=>hid (hc W)
 obtain⟨⟨q0,q1,q2,q3,q4⟩,-⟩:=own_cells B
 have HCAN:=λ W=>hid (hcan W)
 clear hc hcan
 have HD:=λ w=>hid (held_is a b c n w)
 have hq:hEq a c true false=(a&&!c):=by cases a<;>cases c<;>rfl
 have HE:=λ w=>hq▸run_hold_eql a c true false w
 generalize (a&&!c)=v at *
 clear hq
 go_enter Tryz.func174,Tryz.ntmps174
 go_wp2_with fail
 with_reducible refine (HC _).out.mono ?_
 rintro e w1 ⟨rfl,g1⟩
 have hlt:=(B.gr g1).lt
 have hlt2:=(D.gr g1).lt
 obtain⟨p3,-⟩:=(B.gr g1).at_ (k:=3) rfl
 obtain⟨d0,-⟩:=(D.gr g1).at_ (k:=0) rfl
 clear q0 q1 q2 q3 q4
 go_wp2_with fail
 with_reducible refine (HCAN _).out.mono ?_
 rintro e w2 ⟨rfl,rfl⟩
 go_wp2_with fail
 with_reducible refine (sureB_yes _ _).mono ?_
 rintro e w3 ⟨rfl,rfl⟩
 go_wp2_with fail
 with_reducible refine (HD _).out.mono ?_
 rintro e w4 ⟨rfl,g4⟩
 go_wp2_with fail
 go_ret
 exact⟨rfl,(g1.al _).trans g4⟩
theorem SpinsB {v:Bool} (hq:∀ W g h,Blk W g #[.int .i64 s,.bool t,.bool k,.int .i64 r,.int .i64 o] 53->Blk W h #[.int .i64 u] 3->Calls Tryz.prog 174 #[.pointer (some ⟨g,0,none⟩),.pointer (some ⟨h,0,none⟩)] W λ e w'=>e=.returned (.bool v)/\Gr W w') :
 Calls Tryz.prog 138 #[ov s t k r o,.int .i64 u] w λ e w'=>e=.returned (.tuple #[.bool v,.int .i64 0])/\Gr w w':=by
 have N0:=(Blk.new w #[.int .i64 s,.bool t,.bool k,.int .i64 r,.int .i64 o] 53).al (.cells #[.int .i64 u] 3)
 have N1:=Blk.new (w.alloc (.cells #[.int .i64 s,.bool t,.bool k,.int .i64 r,.int .i64 o] 53)) #[.int .i64 u] 3
 rw [World.size_alloc] at N1
 have T:=hid (toldB_ok (F:=174) (caps:=#[.pointer (some ⟨w.heap.size,0,none⟩),.pointer (some ⟨w.heap.size+1,0,none⟩)]) (w:=(w.alloc (.cells #[.int .i64 s,.bool t,.bool k,.int .i64 r,.int .i64 o] 53)).alloc (.cells #[.int .i64 u] 3)) (enters_of Tryz.func174 (by kernel_rfl) rfl) v (λ W G=>hq W _ _ (N0.gr G) (N1.gr G)))
 have G0:=(((Gr.refl w).al (.cells #[.int .i64 s,.bool t,.bool k,.int .i64 r,.int .i64 o] 53)).al (.cells #[.int .i64 u] 3))
 clear hq N0 N1
 have hmf:=mkF
 go_enter Tryz.func138,Tryz.ntmps138
 go_wp2_with fail
 with_reducible refine T.out.mono ?_
 rintro e w1 ⟨rfl,g1⟩
 go_wp2_with fail
 go_ret2
 exact⟨rfl,G0.trans g1⟩
end
end P14
end
section
open Go.ChangeShapes Go.WideShapes Go.ChangeAt Go.RowKit Go.Shelf
namespace P16
open P14 (pan)
open P12 (PV PMem)
theorem ORow.put13 {W:World} {b o i:Nat} {l:List Cl} {c:Cl} (h:ORow clV 13 W b o l) (hi:l[i]?=some c) (d:Cl) :
 ORow clV 13 (((((((((((((W.setCell ⟨b,o+i*13+0,none⟩ (.int .i64 d.gst)).setCell ⟨b,o+i*13+1,none⟩ (.bool d.permit)).setCell ⟨b,o+i*13+2,none⟩ (.int .i64 d.act)).setCell ⟨b,o+i*13+3,none⟩ (.int .i64 d.pc)).setCell ⟨b,o+i*13+4,none⟩ (.int .i64 d.worked)).setCell ⟨b,o+i*13+5,none⟩ (.int .i64 d.ticket)).setCell ⟨b,o+i*13+6,none⟩ (.bool d.first)).setCell ⟨b,o+i*13+7,none⟩ (.bool d.told)).setCell ⟨b,o+i*13+8,none⟩ (.int .i64 d.since)).setCell ⟨b,o+i*13+9,none⟩ (.bool d.st)).setCell ⟨b,o+i*13+10,none⟩ (.bool d.aw)).setCell ⟨b,o+i*13+11,none⟩ (.int .i64 d.rounds)).setCell ⟨b,o+i*13+12,none⟩ (.int .i64 d.old)) b o (l.set i d):=by
 have hlt:=(List.getElem?_eq_some_iff.1 hi).1
 have h0:=h.put clV_len hi (j:=0) (v:=.int .i64 d.gst) (y:={ c with gst:=d.gst }) (by decide) rfl
 have h1:=h0.put clV_len (i:=i) (x:={ c with gst:=d.gst }) (by rw [List.getElem?_set_self (by simpa using hlt)]) (j:=1) (v:=.bool d.permit) (y:={ c with gst:=d.gst,permit:=d.permit }) (by decide) rfl
 rw [List.set_set] at h1
 have h2:=h1.put clV_len (i:=i) (x:={ c with gst:=d.gst,permit:=d.permit }) (by rw [List.getElem?_set_self (by simpa using hlt)]) (j:=2) (v:=.int .i64 d.act) (y:={ c with gst:=d.gst,permit:=d.permit,act:=d.act }) (by decide) rfl
 rw [List.set_set] at h2
 have h3:=h2.put clV_len (i:=i) (x:={ c with gst:=d.gst,permit:=d.permit,act:=d.act }) (by rw [List.getElem?_set_self (by simpa using hlt)]) (j:=3) (v:=.int .i64 d.pc) (y:={ c with gst:=d.gst,permit:=d.permit,act:=d.act,pc:=d.pc }) (by decide) rfl
 rw [List.set_set] at h3
 have h4:=h3.put clV_len (i:=i) (x:={ c with gst:=d.gst,permit:=d.permit,act:=d.act,pc:=d.pc }) (by rw [List.getElem?_set_self (by simpa using hlt)]) (j:=4) (v:=.int .i64 d.worked) (y:={ c with gst:=d.gst,permit:=d.permit,act:=d.act,pc:=d.pc,worked:=d.worked }) (by decide) rfl
 rw [List.set_set] at h4
 have h5:=h4.put clV_len (i:=i) (x:={ c with gst:=d.gst,permit:=d.permit,act:=d.act,pc:=d.pc,worked:=d.worked }) (by rw [List.getElem?_set_self (by simpa using hlt)]) (j:=5) (v:=.int .i64 d.ticket) (y:={ c with gst:=d.gst,permit:=d.permit,act:=d.act,pc:=d.pc,worked:=d.worked,ticket:=d.ticket }) (by decide) rfl
 rw [List.set_set] at h5
 have h6:=h5.put clV_len (i:=i) (x:={ c with gst:=d.gst,permit:=d.permit,act:=d.act,pc:=d.pc,worked:=d.worked,ticket:=d.ticket }) (by rw [List.getElem?_set_self (by simpa using hlt)]) (j:=6) (v:=.bool d.first) (y:={ c with gst:=d.gst,permit:=d.permit,act:=d.act,pc:=d.pc,worked:=d.worked,ticket:=d.ticket,first:=d.first }) (by decide) rfl
 rw [List.set_set] at h6
 have h7:=h6.put clV_len (i:=i) (x:={ c with gst:=d.gst,permit:=d.permit,act:=d.act,pc:=d.pc,worked:=d.worked,ticket:=d.ticket,first:=d.first }) (by rw [List.getElem?_set_self (by simpa using hlt)]) (j:=7) (v:=.bool d.told) (y:={ c with gst:=d.gst,permit:=d.permit,act:=d.act,pc:=d.pc,worked:=d.worked,ticket:=d.ticket,first:=d.first,told:=d.told }) (by decide) rfl
 rw [List.set_set] at h7
 have h8:=h7.put clV_len (i:=i) (x:={ c with gst:=d.gst,permit:=d.permit,act:=d.act,pc:=d.pc,worked:=d.worked,ticket:=d.ticket,first:=d.first,told:=d.told }) (by rw [List.getElem?_set_self (by simpa using hlt)]) (j:=8) (v:=.int .i64 d.since) (y:={ c with gst:=d.gst,permit:=d.permit,act:=d.act,pc:=d.pc,worked:=d.worked,ticket:=d.ticket,first:=d.first,told:=d.told,since:=d.since }) (by decide) rfl
 rw [List.set_set] at h8
 have h9:=h8.put clV_len (i:=i) (x:={ c with gst:=d.gst,permit:=d.permit,act:=d.act,pc:=d.pc,worked:=d.worked,ticket:=d.ticket,first:=d.first,told:=d.told,since:=d.since }) (by rw [List.getElem?_set_self (by simpa using hlt)]) (j:=9) (v:=.bool d.st) (y:={ c with gst:=d.gst,permit:=d.permit,act:=d.act,pc:=d.pc,worked:=d.worked,ticket:=d.ticket,first:=d.first,told:=d.told,since:=d.since,st:=d.st }) (by decide) rfl
 rw [List.set_set] at h9
 have h10:=h9.put clV_len (i:=i) (x:={ c with gst:=d.gst,permit:=d.permit,act:=d.act,pc:=d.pc,worked:=d.worked,ticket:=d.ticket,first:=d.first,told:=d.told,since:=d.since,st:=d.st }) (by rw [List.getElem?_set_self (by simpa using hlt)]) (j:=10) (v:=.bool d.aw) (y:={ c with gst:=d.gst,permit:=d.permit,act:=d.act,pc:=d.pc,worked:=d.worked,ticket:=d.ticket,first:=d.first,told:=d.told,since:=d.since,st:=d.st,aw:=d.aw }) (by decide) rfl
 rw [List.set_set] at h10
 have h11:=h10.put clV_len (i:=i) (x:={ c with gst:=d.gst,permit:=d.permit,act:=d.act,pc:=d.pc,worked:=d.worked,ticket:=d.ticket,first:=d.first,told:=d.told,since:=d.since,st:=d.st,aw:=d.aw }) (by rw [List.getElem?_set_self (by simpa using hlt)]) (j:=11) (v:=.int .i64 d.rounds) (y:={ c with gst:=d.gst,permit:=d.permit,act:=d.act,pc:=d.pc,worked:=d.worked,ticket:=d.ticket,first:=d.first,told:=d.told,since:=d.since,st:=d.st,aw:=d.aw,rounds:=d.rounds }) (by decide) rfl
 rw [List.set_set] at h11
 have h12:=h11.put clV_len (i:=i) (x:={ c with gst:=d.gst,permit:=d.permit,act:=d.act,pc:=d.pc,worked:=d.worked,ticket:=d.ticket,first:=d.first,told:=d.told,since:=d.since,st:=d.st,aw:=d.aw,rounds:=d.rounds }) (by rw [List.getElem?_set_self (by simpa using hlt)]) (j:=12) (v:=.int .i64 d.old) (y:=d) (by decide) rfl
 rw [List.set_set] at h12
 exact h12
theorem ORow.cmem {W:World} {b o n:Nat} {l:List Cl} (h:ORow clV 13 W b o l) (hl:l.length=n) (hb:∀ c∈l,CB c):CMem W (some ⟨b,o,none⟩) n l :=
 ⟨hl,hb,λ _=>⟨b,o,rfl,h.lt,λ i y hy j v hv=>(h.at_ hy hv).1⟩⟩
theorem okv_len {y:PV} {W:World} (h:y.ok W):y.l.length=y.n:=h.1.1
def anew (c:Cl) (act:Int):Cl:=⟨c.gst,c.permit,act,0,0,0,false,false,-1,false,false,0,0⟩
theorem b64_0:B64 0:=⟨by omega,by omega⟩
theorem anew_cb {c:Cl} {act:Int} (h:CB c) (ha:B64 act):CB (anew c act):=⟨h.gst,ha,b64_0,b64_0,b64_0,(show B64 (-1) from ⟨by omega,by omega⟩),b64_0,b64_0⟩
theorem map_gor_set {cl:List Cl} {i:Nat} {c d:Cl} (hc:cl[i]?=some c) (hd:gor d=gor c):(cl.set i d).map gor=cl.map gor:=by
 rw [List.map_set,hd]
 exact set_same (by rw [List.getElem?_map,hc];rfl)
section
variable {W:World} {b bc oc n cc pn pc:Nat} {pA:Option Addr} {cl:List Cl} {who act:Int} {c:Cl} {progs:List (List Ac)} {pr:List Ac}
theorem pmem_at {A:Option Addr} {n k:Nat} {R:List PV} {W:World} (h:PMem W A n R) (hk:k<n):∃ b off y,A=some ⟨b,off,none⟩/\b<W.heap.size/\R[k]?=some y/\y.ok W/\W.cell? ⟨b,off+k,none⟩=some (.slice y.A y.n y.c):=h.at_ hk
theorem begin_is (c1:W.cell? ⟨b,1,none⟩=some (.slice pA pn pc)) (c2:W.cell? ⟨b,2,none⟩=some (.slice (some ⟨bc,oc,none⟩) n cc)) (hb:b≠bc) (hO:ORow clV 13 W bc oc cl) (hl:cl.length=n) (hn:n<=1000) (hcb:∀ c∈cl,CB c)
 (w0:0<=who) (w1:who<n) (hc:cl[who.toNat]?=some c) (hP:∀ W',Ko bc W W'->∃ R,PMem W' pA pn R/\P12.pl R=progs) (hpn:pn=n) (hp:progs[who.toNat]?=some pr) (hp9:pr.length<=1000) (ha:B64 act) (hg:c.gst=0) (hr:P11.rightB (cl.map gor)=true) :
 Calls Tryz.prog 36 #[.pointer (some ⟨b,0,none⟩),.int .i64 who,.int .i64 act] W λ e W'=>e=.returned (.tuple #[])/\ORow clV 13 W' bc oc (cl.set who.toNat (first c.gst c.permit act pr.length))/\Ko bc W W':=by
 have cf:=λ W=>hid (P14.Fresh_is (w:=W))
 have hbl:=World.block_lt_of_cell? W _ c2
 dsimp only at hbl
 have hbc:=hO.lt
 have HO:=hid hO
 have HL:=hid hl
 have HCB:=hid hcb
 have HC:=hid hc
 have HP:=hid hP
 have HR:=hid hr
 have HPR:=hid hp
 have HG:=hid hg
 obtain⟨e0,f0⟩:=hO.at_ (j:=0) hc rfl
 obtain⟨e1,f1⟩:=hO.at_ (j:=1) hc rfl
 rw [Nat.add_zero] at e0 f0
 have HS:=hid (show (cl.set who.toNat (anew c act))[who.toNat]?=some (anew c act) from by rw [List.getElem?_set_self (List.getElem?_eq_some_iff.1 hc).1])
 have d0:W.drew.cell? ⟨bc,oc+who.toNat*13,none⟩=some (.int .i64 c.gst):=e0
 have d1:W.drew.cell? ⟨bc,oc+who.toNat*13+1,none⟩=some (.bool c.permit):=e1
 clear hO hl hcb hc hP hr hp hg
 go_enter Tryz.func36,Tryz.ntmps36
 go_upto_region 1 with fail
 go_region_held3 (λ w'=>w'.cell? ⟨bc,oc+who.toNat*13,none⟩=some (.int .i64 c.gst)/\w'.cell? ⟨bc,oc+who.toNat*13+1,none⟩=some (.bool c.permit)) (constructor<;>with_reducible assumption) (first | (go_at_call 63;(with_reducible refine (cf _).out.mono ?_);rintro ee w2 ⟨rfl,g2⟩;have O2:=HO.out.gr ((Gr.refl W).dr.trans g2);obtain⟨p0,r0⟩:=O2.at_ (j:=0) HC.out rfl;obtain⟨p1,r1⟩:=O2.at_ (j:=1) HC.out rfl;obtain⟨p2,r2⟩:=O2.at_ (j:=2) HC.out rfl;obtain⟨p3,r3⟩:=O2.at_ (j:=3) HC.out rfl;obtain⟨p4,r4⟩:=O2.at_ (j:=4) HC.out rfl;obtain⟨p5,r5⟩:=O2.at_ (j:=5) HC.out rfl;obtain⟨p6,r6⟩:=O2.at_ (j:=6) HC.out rfl;obtain⟨p7,r7⟩:=O2.at_ (j:=7) HC.out rfl;obtain⟨p8,r8⟩:=O2.at_ (j:=8) HC.out rfl;obtain⟨p9,r9⟩:=O2.at_ (j:=9) HC.out rfl;obtain⟨p10,r10⟩:=O2.at_ (j:=10) HC.out rfl;obtain⟨p11,r11⟩:=O2.at_ (j:=11) HC.out rfl;obtain⟨p12,r12⟩:=O2.at_ (j:=12) HC.out rfl;rw [Nat.add_zero] at p0 r0;have T:ORow clV 13 (((((((((((((w2.setCell ⟨bc,oc+who.toNat*13,none⟩ (.int .i64 c.gst)).setCell ⟨bc,oc+who.toNat*13+1,none⟩ (.bool c.permit)).setCell ⟨bc,oc+who.toNat*13+2,none⟩ (.int .i64 act)).setCell ⟨bc,oc+who.toNat*13+3,none⟩ (.int .i64 0)).setCell ⟨bc,oc+who.toNat*13+4,none⟩ (.int .i64 0)).setCell ⟨bc,oc+who.toNat*13+5,none⟩ (.int .i64 0)).setCell ⟨bc,oc+who.toNat*13+6,none⟩ (.bool false)).setCell ⟨bc,oc+who.toNat*13+7,none⟩ (.bool false)).setCell ⟨bc,oc+who.toNat*13+8,none⟩ (.int .i64 (-1))).setCell ⟨bc,oc+who.toNat*13+9,none⟩ (.bool false)).setCell ⟨bc,oc+who.toNat*13+10,none⟩ (.bool false)).setCell ⟨bc,oc+who.toNat*13+11,none⟩ (.int .i64 0)).setCell ⟨bc,oc+who.toNat*13+12,none⟩ (.int .i64 0)) bc oc (cl.set who.toNat (anew c act)):=O2.put13 HC.out (anew c act);have t0:(((((((((((((w2.setCell ⟨bc,oc+who.toNat*13,none⟩ (.int .i64 c.gst)).setCell ⟨bc,oc+who.toNat*13+1,none⟩ (.bool c.permit)).setCell ⟨bc,oc+who.toNat*13+2,none⟩ (.int .i64 act)).setCell ⟨bc,oc+who.toNat*13+3,none⟩ (.int .i64 0)).setCell ⟨bc,oc+who.toNat*13+4,none⟩ (.int .i64 0)).setCell ⟨bc,oc+who.toNat*13+5,none⟩ (.int .i64 0)).setCell ⟨bc,oc+who.toNat*13+6,none⟩ (.bool false)).setCell ⟨bc,oc+who.toNat*13+7,none⟩ (.bool false)).setCell ⟨bc,oc+who.toNat*13+8,none⟩ (.int .i64 (-1))).setCell ⟨bc,oc+who.toNat*13+9,none⟩ (.bool false)).setCell ⟨bc,oc+who.toNat*13+10,none⟩ (.bool false)).setCell ⟨bc,oc+who.toNat*13+11,none⟩ (.int .i64 0)).setCell ⟨bc,oc+who.toNat*13+12,none⟩ (.int .i64 0)).cell? ⟨bc,oc+who.toNat*13,none⟩=some (.int .i64 c.gst):=(T.at_ (j:=0) HS.out rfl).1;have t1:(((((((((((((w2.setCell ⟨bc,oc+who.toNat*13,none⟩ (.int .i64 c.gst)).setCell ⟨bc,oc+who.toNat*13+1,none⟩ (.bool c.permit)).setCell ⟨bc,oc+who.toNat*13+2,none⟩ (.int .i64 act)).setCell ⟨bc,oc+who.toNat*13+3,none⟩ (.int .i64 0)).setCell ⟨bc,oc+who.toNat*13+4,none⟩ (.int .i64 0)).setCell ⟨bc,oc+who.toNat*13+5,none⟩ (.int .i64 0)).setCell ⟨bc,oc+who.toNat*13+6,none⟩ (.bool false)).setCell ⟨bc,oc+who.toNat*13+7,none⟩ (.bool false)).setCell ⟨bc,oc+who.toNat*13+8,none⟩ (.int .i64 (-1))).setCell ⟨bc,oc+who.toNat*13+9,none⟩ (.bool false)).setCell ⟨bc,oc+who.toNat*13+10,none⟩ (.bool false)).setCell ⟨bc,oc+who.toNat*13+11,none⟩ (.int .i64 0)).setCell ⟨bc,oc+who.toNat*13+12,none⟩ (.int .i64 0)).cell? ⟨bc,oc+who.toNat*13+1,none⟩=some (.bool c.permit):=(T.at_ (j:=1) HS.out rfl).1;have G2:=hid ((Gr.refl W).dr.trans g2);have K3:Hid (Ko bc W (((((((((((((w2.setCell ⟨bc,oc+who.toNat*13,none⟩ (.int .i64 c.gst)).setCell ⟨bc,oc+who.toNat*13+1,none⟩ (.bool c.permit)).setCell ⟨bc,oc+who.toNat*13+2,none⟩ (.int .i64 act)).setCell ⟨bc,oc+who.toNat*13+3,none⟩ (.int .i64 0)).setCell ⟨bc,oc+who.toNat*13+4,none⟩ (.int .i64 0)).setCell ⟨bc,oc+who.toNat*13+5,none⟩ (.int .i64 0)).setCell ⟨bc,oc+who.toNat*13+6,none⟩ (.bool false)).setCell ⟨bc,oc+who.toNat*13+7,none⟩ (.bool false)).setCell ⟨bc,oc+who.toNat*13+8,none⟩ (.int .i64 (-1))).setCell ⟨bc,oc+who.toNat*13+9,none⟩ (.bool false)).setCell ⟨bc,oc+who.toNat*13+10,none⟩ (.bool false)).setCell ⟨bc,oc+who.toNat*13+11,none⟩ (.int .i64 0)).setCell ⟨bc,oc+who.toNat*13+12,none⟩ (.int .i64 0))):=hid ((((((((((((((Ko.gr G2.out).trans (Ko.st (p:=⟨bc,oc+who.toNat*13,none⟩) rfl _)).trans (Ko.st (p:=⟨bc,oc+who.toNat*13+1,none⟩) rfl _)).trans (Ko.st (p:=⟨bc,oc+who.toNat*13+2,none⟩) rfl _)).trans (Ko.st (p:=⟨bc,oc+who.toNat*13+3,none⟩) rfl _)).trans (Ko.st (p:=⟨bc,oc+who.toNat*13+4,none⟩) rfl _)).trans (Ko.st (p:=⟨bc,oc+who.toNat*13+5,none⟩) rfl _)).trans (Ko.st (p:=⟨bc,oc+who.toNat*13+6,none⟩) rfl _)).trans (Ko.st (p:=⟨bc,oc+who.toNat*13+7,none⟩) rfl _)).trans (Ko.st (p:=⟨bc,oc+who.toNat*13+8,none⟩) rfl _)).trans (Ko.st (p:=⟨bc,oc+who.toNat*13+9,none⟩) rfl _)).trans (Ko.st (p:=⟨bc,oc+who.toNat*13+10,none⟩) rfl _)).trans (Ko.st (p:=⟨bc,oc+who.toNat*13+11,none⟩) rfl _)).trans (Ko.st (p:=⟨bc,oc+who.toNat*13+12,none⟩) rfl _));have T2:=hid T;clear T O2 g2))
 clear p0 p1 p2 p3 p4 p5 p6 p7 p8 p9 p10 p11 p12 r0 r1 r2 r3 r4 r5 r6 r7 r8 r9 r10 r11 r12 t0 t1 e0 e1 f0 f1 d0 d1 cf
 rename_i hh
 clear hh
 generalize (((((((((((((w2.setCell ⟨bc,oc+who.toNat*13,none⟩ (.int .i64 c.gst)).setCell ⟨bc,oc+who.toNat*13+1,none⟩ (.bool c.permit)).setCell ⟨bc,oc+who.toNat*13+2,none⟩ (.int .i64 act)).setCell ⟨bc,oc+who.toNat*13+3,none⟩ (.int .i64 0)).setCell ⟨bc,oc+who.toNat*13+4,none⟩ (.int .i64 0)).setCell ⟨bc,oc+who.toNat*13+5,none⟩ (.int .i64 0)).setCell ⟨bc,oc+who.toNat*13+6,none⟩ (.bool false)).setCell ⟨bc,oc+who.toNat*13+7,none⟩ (.bool false)).setCell ⟨bc,oc+who.toNat*13+8,none⟩ (.int .i64 (-1))).setCell ⟨bc,oc+who.toNat*13+9,none⟩ (.bool false)).setCell ⟨bc,oc+who.toNat*13+10,none⟩ (.bool false)).setCell ⟨bc,oc+who.toNat*13+11,none⟩ (.int .i64 0)).setCell ⟨bc,oc+who.toNat*13+12,none⟩ (.int .i64 0))=W3 at T2 K3 ⊢
 have d1':=(K3.out.cell (p:=⟨b,1,none⟩) hbl hb).trans c1
 have d2':=(K3.out.cell (p:=⟨b,2,none⟩) hbl hb).trans c2
 obtain⟨R,hR,eR⟩:=HP.out W3 K3.out
 have hk:who.toNat<pn:=by omega
 obtain⟨b4,o4,y,hA,hb4,hy,oky,ey⟩:=pmem_at hR hk
 have hyl:y.l=pr:=by
  have h1:(P12.pl R)[who.toNat]?=some y.l:=by unfold P12.pl;rw [List.getElem?_map,hy];rfl
  rw [eR,HPR.out] at h1
  cases h1
  rfl
 have hyn:y.n=pr.length:=by rw [<- hyl];exact (okv_len oky).symm
 have hX:=hid hyl
 clear hy oky hR eR hyl
 rw [hyn] at ey
 subst hA
 by_cases hE:act=(pr.length:Int)
 . subst hE
   have E1:(cl.set who.toNat (anew c (pr.length:Int))).length=n:=by rw [List.length_set];exact HL.out
   have E2:(cl.set who.toNat (anew c (pr.length:Int))).map gor=cl.map gor:=map_gor_set HC.out rfl
   have E3:∀ d∈cl.set who.toNat (anew c (pr.length:Int)),CB d:=λ d hd=>(List.mem_or_eq_of_mem_set hd).elim (HCB.out d) (λ e=>e▸anew_cb (HCB.out c (List.mem_of_getElem? HC.out)) ha)
   have E4:P11.outc P11.enG (cl.map gor) who=(0,(cl.map gor).set who.toNat (2,false)):=by
    have q:=P11.outc_at (p:=P11.enG) (k:=who.toNat) (x:=gor c) HR.out (by rw [List.getElem?_map,HC.out];rfl)
    rw [Int.toNat_of_nonneg w0] at q
    have e:P11.enG (gor c)=(0,(2,false)):=if_pos HG.out
    simpa [e] using q
   have E5:ChgG 65 (cl.set who.toNat (anew c (pr.length:Int))) who 0 n (((cl.set who.toNat (anew c (pr.length:Int))).map gor).set who.toNat (2,false)):=λ W A m d hm he=>by
    rw [E2] at hm ⊢
    exact P11.End_at (by omega) E4 (by rw [List.length_set,List.length_map];exact HL.out) W hm
   have hcg:=hid (changeGor_yes (who:=who) (enters_of Tryz.func65 (by kernel_rfl) rfl) (p:=0) d2' hb T2.out E1 hn E3 HS.out E5)
   clear E1 E2 E3 E4 E5
   go_wp2_with fail
   with_reducible refine hcg.out.mono ?_
   rintro e w4 ⟨rfl,o4,k4⟩
   have HO4:=hid o4
   have HK4:=hid k4
   clear o4 k4
   go_wp2_with fail
   go_end0
   have o4:=HO4.out
   rw [List.set_set] at o4
   have e:withG (anew c (pr.length:Int)) (2,false)=first c.gst c.permit (pr.length:Int) pr.length:=by
    unfold first anew withG
    rw [if_pos rfl,if_pos rfl]
   rw [e] at o4
   exact⟨rfl,o4,K3.out.trans HK4.out⟩
 . have hE':(act==(pr.length:Int))=false:=beq_eq_false_iff_ne.2 hE
   have e:anew c act=first c.gst c.permit act pr.length:=by
    unfold first anew
    rw [if_neg hE,if_neg hE]
   have o3:=T2.out
   rw [e] at o3
   have O3:=hid o3
   clear o3 e hE T2 HS
   go_wp2_with fail
   go_end0
   exact⟨rfl,O3.out,K3.out⟩
end
end P16
end
section
open Go.ChangeShapes Go.WideShapes Go.ChangeAt Go.RowKit Go.Shelf
namespace P16
open P14 (pan)
open P12 (PV PMem)
theorem Ko.kx {x:Cx} {W W':World} (h:Ko x.bc W W'):Kx x W W':=⟨h.os,h.tape,h.output,h.size,λ k hk _ h2 _=>h.block k hk h2⟩
theorem first_cb {c:Cl} {act:Int} {n:Nat} (h:CB c) (ha:B64 act):CB (first c.gst c.permit act n):=by
 unfold first
 refine⟨?_,ha,b64_0,b64_0,b64_0,(show B64 (-1) from ⟨by omega,by omega⟩),b64_0,b64_0⟩
 dsimp only
 split
 . exact⟨by omega,by omega⟩
 . exact h.gst
section
variable {x:Cx} {W W':World} {T E:Sl} {cl cl':List Cl} {mx:List T3} {tb:List Sp} {ev:List T3} {c:Cl} {a:T3} {pr:List Ac}
theorem TS.ko (h:TS x W T E cl mx tb ev) (k:Ko x.bc W W') (o:ORow clV 13 W' x.bc x.oc cl') (hl:cl'.length=cl.length) (hb:∀ c∈cl',CB c):TS x W' T E cl' mx tb ev :=
 { h with t:=by unfold Blk;rw [k.block x.b h.t.lt h.n1];exact h.t,c:=o,m:=h.m.kept (k.block x.bm h.m.lt h.n3.symm),cb:=hb,lenc:=hl.trans h.lenc,pr:=λ _ q=>h.pr _ (k.kx.kb.trans q),tb:=λ _ q=>h.tb _ (k.kx.kb.trans q),ev:=λ _ q=>h.ev _ (k.kx.kb.trans q) }
structure Rn (x:Cx) (cl:List Cl) (c:Cl) (pr:List Ac):Prop where
 hc:cl[x.who.toNat]?=some c
 g0:c.gst=0
 rg:P11.rightB (cl.map gor)=true
 hp:x.progs[x.who.toNat]?=some pr
 pl:pr.length<=64
 a0:0<=c.act
 a1:c.act<pr.length
 np:x.p.n=x.nc
 nc:x.nc<=8
theorem Rn.set (h:Rn x cl c pr) {d:Cl} (hg:gor d=gor c) (ha:d.act=c.act):Rn x (cl.set x.who.toNat d) d pr :=
 { h with hc:=by rw [List.getElem?_set_self (List.getElem?_eq_some_iff.1 h.hc).1],g0:=(congrArg Prod.fst hg).trans h.g0,rg:=by rw [map_gor_set h.hc hg];exact h.rg,a0:=by rw [ha];exact h.a0,a1:=by rw [ha];exact h.a1 }
theorem over_is (h:TS x W T E cl mx tb ev) (hR:Rn x cl c pr) :
 Calls Tryz.prog 131 #[.pointer (some ⟨x.b,0,none⟩)] W λ e W'=>e=.returned (.tuple #[])/\TS x W' T E (cl.set x.who.toNat (over c pr.length)) mx tb ev/\Kx x W W':=by
 have hc:=hR.hc
 have h1:=h.gr (Gr.refl W).dr
 obtain⟨A,c1,c2,-⟩:=h1.cells
 have ew:wrap64 (c.act+1)=c.act+1:=by have:=hR.a0;have:=hR.a1;have:=hR.pl;unfold wrap64;omega
 have ew2:IntKind.i64.wrap (c.act+1)=c.act+1:=by rw [IntWalk.i64_left];exact ew
 have hb:=hid (begin_is (who:=x.who) (act:=c.act+1) c1 c2 h1.n1 h1.c h1.lenc (by have:=hR.nc;omega) h1.cb h1.w0 h1.w1 hc (λ W' k=>h1.pr W' k.kx.kb) hR.np hR.hp (by have:=hR.pl;omega) (by have:=hR.a0;have:=hR.a1;have:=hR.pl;exact⟨by omega,by omega⟩) hR.g0 hR.rg)
 have hcb:=hid (show CB (over c pr.length) from first_cb (h.cb c (List.mem_of_getElem? hc)) (by have:=hR.a0;have:=hR.a1;have:=hR.pl;exact⟨by omega,by omega⟩))
 have H:=hid h
 obtain⟨-,-,-,-,-,-,c6,c7,-,-,-,-⟩:=h.cells
 obtain⟨-,-,s2,-⟩:=h.cl_ hc
 clear h h1 A c1 c2
 go_enter Tryz.func131,Tryz.ntmps131
 go_upto_region 0 with fail
 refine wp_region_held_drew (S:=(λ w'=>w'.cell? ⟨x.b,6,none⟩=some (.int .i64 x.who)/\w'.cell? ⟨x.b,7,none⟩=some (.pointer (some ⟨x.bc,x.oc+x.who.toNat*13,none⟩)))) (by kernel_rfl) ⟨c6,c7⟩ (λ hS=>?_)
 refine wG 0 hS ?_
 refine wG 1 hS ?_
 refine wG 2 hS ?_
 refine wG 3 hS ?_
 refine wG 4 hS ?_
 refine wG 5 hS ?_
 refine wG 6 hS ?_
 refine wG 7 hS ?_
 refine wG 8 hS ?_
 refine wG 9 hS ?_
 refine wG 10 hS ?_
 refine wG 11 hS ?_
 refine wG 12 hS ?_
 refine wR1 13 (λ K hK=>?_)
 go_simp
 refine hK.out _ _ ⟨c6,c7⟩ (λ hS=>?_)
 clear hK K
 try simp only [pL]
 refine wG 14 hS ?_
 refine wR1 15 (λ K hK=>?_)
 go_simp;go_at_call 36;with_reducible refine hb.out.mono ?_;rintro ee w2 ⟨rfl,o2,k2⟩;go_wp2_with fail
 have h2:=(H.out.gr (Gr.refl W).dr).ko k2 o2 (List.length_set ..) (λ d hd=>(List.mem_or_eq_of_mem_set hd).elim (H.out.cb d) (λ e=>e▸hcb.out))
 obtain⟨-,-,-,-,-,-,d6,d7,-,-,-,-⟩:=h2.cells
 refine hK.out _ _ ⟨d6,d7⟩ (λ hS=>?_)
 clear hK K
 try simp only [pL]
 refine wpAnyH_done (by kernel_rfl) ?_ _
 go_wp2_with fail
 go_end0
 exact⟨rfl,h2,(Kx.gr (Gr.refl W).dr).trans k2.kx⟩
theorem ends_is (h:TS x W T ⟨none,0,0⟩ cl mx tb []) (hR:Rn x cl c pr) {v:Int} (hv:B64 v) :
 Calls Tryz.prog 134 #[.pointer (some ⟨x.b,0,none⟩),.int .i64 v] W λ e W'=>e=.returned (.tuple #[])/\(∃ E,TS x W' T E (cl.set x.who.toNat (over c pr.length)) mx tb [(x.who,v,x.n)])/\Kx x W W':=by
 have ht:=hid (tell_is h v hv)
 clear h
 go_enter Tryz.func134,Tryz.ntmps134
 go_wp2_with fail
 with_reducible refine ht.out.mono ?_
 rintro e w1 ⟨rfl,⟨E1,h1⟩,k1⟩
 have ho:=hid (over_is h1 hR)
 have K1:=hid k1
 clear h1 k1
 go_wp2_with fail
 with_reducible refine ho.out.mono ?_
 rintro e w2 ⟨rfl,h2,k2⟩
 have H2:=hid h2
 have K2:=hid k2
 clear h2 k2
 go_wp2_with fail
 go_end0
 exact⟨rfl,⟨E1,H2.out⟩,K1.out.trans K2.out⟩
end
end P16
end
section
open Go.ChangeShapes Go.WideShapes Go.ChangeAt Go.RowKit
def wd (k v:Int):Int:=if k=0 then wrap32 v else if k=1 then v % 4294967296 else v
theorem shapeOf_0 (w:World):Calls Tryz.prog 166 #[.int .i64 0] w λ e w'=>e=.returned (.agg #[.int .i64 32,.bool true])/\Gr w w':=by
 go_enter Tryz.func166,Tryz.ntmps166
 go_wp2
 exact bodyPost_ret (v:=.agg #[.int .i64 32,.bool true]) (by simp [results,Tryz.results166,go_sem]) rfl ⟨rfl,((Gr.refl _).al _).al _⟩
theorem shapeOf_1 (w:World):Calls Tryz.prog 166 #[.int .i64 1] w λ e w'=>e=.returned (.agg #[.int .i64 32,.bool false])/\Gr w w':=by
 go_enter Tryz.func166,Tryz.ntmps166
 go_wp2
 exact bodyPost_ret (v:=.agg #[.int .i64 32,.bool false]) (by simp [results,Tryz.results166,go_sem]) rfl ⟨rfl,((Gr.refl _).al _).al _⟩
theorem shapeOf_2 (w:World):Calls Tryz.prog 166 #[.int .i64 2] w λ e w'=>e=.returned (.agg #[.int .i64 64,.bool true])/\Gr w w':=by
 go_enter Tryz.func166,Tryz.ntmps166
 go_wp2
 exact bodyPost_ret (v:=.agg #[.int .i64 64,.bool true]) (by simp [results,Tryz.results166,go_sem]) rfl ⟨rfl,((Gr.refl _).al _).al _⟩
theorem shapeOf_no (k:Int) (w:World) (hk:k<0\/2<k):Calls Tryz.prog 166 #[.int .i64 k] w λ e w'=>e=.returned (.agg #[.int .i64 0,.bool false])/\Gr w w':=by
 have h0:(k==0)=false:=beq_eq_false_iff_ne.2 (by omega)
 have h1:(k==1)=false:=beq_eq_false_iff_ne.2 (by omega)
 have h2:(k==2)=false:=beq_eq_false_iff_ne.2 (by omega)
 clear hk
 go_enter Tryz.func166,Tryz.ntmps166
 go_wp2
 exact bodyPost_ret (v:=.agg #[.int .i64 0,.bool false]) (by simp [results,Tryz.results166,go_sem]) rfl ⟨rfl,((Gr.refl _).al _).al _⟩
theorem wrapA (v:Int):wrap64 (v*4294967296) / 4294967296=wrap32 v:=by unfold wrap64 wrap32;omega
theorem wrapB (v:Int):wrap64 (IntKind.u64.wrap (IntKind.u64.wrap v*4294967296) / 4294967296)=v % 4294967296:=by
 simp only [IntKind.wrap_u64,wrap64];omega
theorem ret_i64 {a b:Int} (h:a=b):Ending.returned (.int .i64 a)=.returned (.int .i64 b):=by rw [h]
theorem swrap_0 (v:Int) (w:World):Calls Tryz.prog 167 #[.agg #[.int .i64 32,.bool true],.int .i64 v] w λ e w'=>e=.returned (.int .i64 (wd 0 v))/\Gr w w':=by
 go_enter Tryz.func167,Tryz.ntmps167
 go_wp2
 go_ret
 exact⟨ret_i64 (wrapA v),(Gr.refl _).al _⟩
theorem swrap_1 (v:Int) (w:World):Calls Tryz.prog 167 #[.agg #[.int .i64 32,.bool false],.int .i64 v] w λ e w'=>e=.returned (.int .i64 (wd 1 v))/\Gr w w':=by
 go_enter Tryz.func167,Tryz.ntmps167
 go_wp2
 go_ret
 exact⟨ret_i64 (wrapB v),(Gr.refl _).al _⟩
theorem swrap_2 (v:Int) (w:World) (h1:-9223372036854775808<=v) (h2:v<=9223372036854775807):Calls Tryz.prog 167 #[.agg #[.int .i64 64,.bool true],.int .i64 v] w λ e w'=>e=.returned (.int .i64 (wd 2 v))/\Gr w w':=by
 go_enter Tryz.func167,Tryz.ntmps167
 go_wp2
 go_ret
 exact⟨ret_i64 (by simp [wd]),(Gr.refl _).al _⟩
theorem Wrap_0 (v:Int) (w:World):Calls Tryz.prog 219 #[.int .i64 0,.int .i64 v] w λ e w'=>e=.returned (.tuple #[.int .i64 (wd 0 v),.int .i64 0])/\Gr w w':=by
 go_enter Tryz.func219,Tryz.ntmps219
 go_wp2_with fail
 refine (shapeOf_0 _).mono ?_
 rintro e w1 ⟨rfl,hb1⟩
 go_wp2_with fail
 refine (swrap_0 v _).mono ?_
 rintro e w2 ⟨rfl,hb2⟩
 go_wp2_with fail
 go_ret2
 exact⟨rfl,(hb1.al _).trans hb2⟩
theorem Wrap_1 (v:Int) (w:World):Calls Tryz.prog 219 #[.int .i64 1,.int .i64 v] w λ e w'=>e=.returned (.tuple #[.int .i64 (wd 1 v),.int .i64 0])/\Gr w w':=by
 go_enter Tryz.func219,Tryz.ntmps219
 go_wp2_with fail
 refine (shapeOf_1 _).mono ?_
 rintro e w1 ⟨rfl,hb1⟩
 go_wp2_with fail
 refine (swrap_1 v _).mono ?_
 rintro e w2 ⟨rfl,hb2⟩
 go_wp2_with fail
 go_ret2
 exact⟨rfl,(hb1.al _).trans hb2⟩
theorem Wrap_2 (v:Int) (w:World) (h1:-9223372036854775808<=v) (h2:v<=9223372036854775807):Calls Tryz.prog 219 #[.int .i64 2,.int .i64 v] w λ e w'=>e=.returned (.tuple #[.int .i64 (wd 2 v),.int .i64 0])/\Gr w w':=by
 go_enter Tryz.func219,Tryz.ntmps219
 go_wp2_with fail
 refine (shapeOf_2 _).mono ?_
 rintro e w1 ⟨rfl,hb1⟩
 go_wp2_with fail
 refine (swrap_2 v _ h1 h2).mono ?_
 rintro e w2 ⟨rfl,hb2⟩
 go_wp2_with fail
 go_ret2
 exact⟨rfl,(hb1.al _).trans hb2⟩
theorem Wrap_ok (k v:Int) (w:World) (hk:0<=k/\k<=2) (hv:-9223372036854775808<=v/\v<=9223372036854775807):Calls Tryz.prog 219 #[.int .i64 k,.int .i64 v] w λ e w'=>e=.returned (.tuple #[.int .i64 (wd k v),.int .i64 0])/\Gr w w':=by
 obtain rfl | rfl | rfl:k=0\/k=1\/k=2:=by omega
 . exact Wrap_0 v w
 . exact Wrap_1 v w
 . exact Wrap_2 v w hv.1 hv.2
theorem wrap64_b (v:Int):-9223372036854775808<=wrap64 v/\wrap64 v<=9223372036854775807:=by unfold wrap64;omega
theorem Add_ok (k a b:Int) (w:World) (hk:0<=k/\k<=2):Calls Tryz.prog 220 #[.int .i64 k,.int .i64 a,.int .i64 b] w λ e w'=>e=.returned (.tuple #[.int .i64 (wd k (wrap64 (a+b))),.int .i64 0])/\Gr w w':=by
 go_enter Tryz.func220,Tryz.ntmps220
 go_wp2_with fail
 refine (Wrap_ok k (wrap64 (a+b)) _ hk (wrap64_b _)).mono ?_
 rintro e w1 ⟨rfl,hb1⟩
 go_wp2_with fail
 go_ret2
 exact⟨rfl,hb1⟩
theorem Fits_0 (v:Int) (w:World):Calls Tryz.prog 122 #[.int .i64 0,.int .i64 v] w λ e w'=>e=.returned (.bool (wd 0 v==v))/\Gr w w':=by
 go_enter Tryz.func122,Tryz.ntmps122
 go_wp2_with fail
 refine (shapeOf_0 _).mono ?_
 rintro e w1 ⟨rfl,hb1⟩
 go_wp2_with fail
 refine (swrap_0 v _).mono ?_
 rintro e w2 ⟨rfl,hb2⟩
 go_wp2_with fail
 go_ret
 exact⟨rfl,(hb1.al _).trans hb2⟩
theorem Fits_1 (v:Int) (w:World):Calls Tryz.prog 122 #[.int .i64 1,.int .i64 v] w λ e w'=>e=.returned (.bool (wd 1 v==v))/\Gr w w':=by
 go_enter Tryz.func122,Tryz.ntmps122
 go_wp2_with fail
 refine (shapeOf_1 _).mono ?_
 rintro e w1 ⟨rfl,hb1⟩
 go_wp2_with fail
 refine (swrap_1 v _).mono ?_
 rintro e w2 ⟨rfl,hb2⟩
 go_wp2_with fail
 go_ret
 exact⟨rfl,(hb1.al _).trans hb2⟩
theorem Fits_2 (v:Int) (w:World) (h1:-9223372036854775808<=v) (h2:v<=9223372036854775807):Calls Tryz.prog 122 #[.int .i64 2,.int .i64 v] w λ e w'=>e=.returned (.bool (wd 2 v==v))/\Gr w w':=by
 go_enter Tryz.func122,Tryz.ntmps122
 go_wp2_with fail
 refine (shapeOf_2 _).mono ?_
 rintro e w1 ⟨rfl,hb1⟩
 go_wp2_with fail
 refine (swrap_2 v _ h1 h2).mono ?_
 rintro e w2 ⟨rfl,hb2⟩
 go_wp2_with fail
 go_ret
 exact⟨rfl,(hb1.al _).trans hb2⟩
theorem Fits_no (k v:Int) (w:World) (hk:k<0\/2<k):Calls Tryz.prog 122 #[.int .i64 k,.int .i64 v] w λ e w'=>e=.returned (.bool false)/\Gr w w':=by
 go_enter Tryz.func122,Tryz.ntmps122
 go_wp2_with fail
 refine (shapeOf_no k _ hk).mono ?_
 rintro e w1 ⟨rfl,hb1⟩
 go_wp2_with fail
 go_ret
 exact⟨rfl,hb1.al _⟩
def fitB (k v:Int):Bool:=decide (0<=k/\k<=2)&&wd k v==v
theorem Fits_ok (k v:Int) (w:World) (hv:-9223372036854775808<=v/\v<=9223372036854775807):Calls Tryz.prog 122 #[.int .i64 k,.int .i64 v] w λ e w'=>e=.returned (.bool (fitB k v))/\Gr w w':=by
 by_cases hk:0<=k/\k<=2
 . have hf:fitB k v=(wd k v==v):=by simp [fitB,hk]
   rw [hf]
   obtain rfl | rfl | rfl:k=0\/k=1\/k=2:=by omega
   . exact Fits_0 v w
   . exact Fits_1 v w
   . exact Fits_2 v w hv.1 hv.2
 . have hf:fitB k v=false:=by simp [fitB,hk]
   rw [hf]
   exact Fits_no k v w (by omega)
end
section
open Go.RowKit
theorem Add_is {k a b r:Int} (hr:wd k (wrap64 (a+b))=r) (hk:0<=k/\k<=2) (w:World):Calls Tryz.prog 220 #[.int .i64 k,.int .i64 a,.int .i64 b] w λ e w'=>e=.returned (.tuple #[.int .i64 r,.int .i64 0])/\Gr w w' :=
 hr▸Add_ok k a b w hk
theorem Wrap_is {k v r:Int} (hr:wd k v=r) (hk:0<=k/\k<=2) (hv:-9223372036854775808<=v/\v<=9223372036854775807) (w:World):Calls Tryz.prog 219 #[.int .i64 k,.int .i64 v] w λ e w'=>e=.returned (.tuple #[.int .i64 r,.int .i64 0])/\Gr w w' :=
 hr▸Wrap_ok k v w hk hv
theorem Fits_is {k v:Int} {r:Bool} (hr:fitB k v=r) (hv:-9223372036854775808<=v/\v<=9223372036854775807) (w:World):Calls Tryz.prog 122 #[.int .i64 k,.int .i64 v] w λ e w'=>e=.returned (.bool r)/\Gr w w' :=
 hr▸Fits_ok k v w hv
end
end Go.Proofs.YtainfijdhcehlaaGreatDoor
