/-
  A part of the proof.
-/
import Derived.Test.YtainfijdhcehlaaGreatDoorQC5
import Derived.Deep.DeepCutAuto
set_option linter.unusedVariables false
set_option linter.unusedSimpArgs false
set_option maxRecDepth 100000
set_option maxHeartbeats 8000000
namespace Go.Proofs.YtainfijdhcehlaaGreatDoor
open Lib (hid)
open Go.Proofs.Tryz
open Go.ChangeAt Go.ChangeShapes Go.RowKit Go.Shelf Go.WideShapes
section
namespace P4
def PrAt (w:World) (k:Nat) (a b:Int):Prop :=
 w.cell? ⟨k,0,none⟩=some (.int .i64 a)/\w.cell? ⟨k,1,none⟩=some (.int .i64 b)/\k<w.heap.size
theorem PrAt.new (w:World) (a b:Int) (t:TypeId):PrAt (w.alloc (.cells #[.int .i64 a,.int .i64 b] t)) w.heap.size a b:=⟨by simp,by simp,by simp⟩
theorem PrAt.gr {w w':World} {k:Nat} {a b:Int} (h:PrAt w k a b) (g:Gr w w'):PrAt w' k a b:=by
 obtain⟨h0,h1,h2⟩:=h;exact⟨(g.cell (p:=⟨k,0,none⟩) h2).trans h0,(g.cell (p:=⟨k,1,none⟩) h2).trans h1,zlt h2 g.size⟩
def gap (a b:Int):Int:=max 0 (b-a)
theorem apart_yes (a b:Int) (ha:Tm a) (hb:Tm b) (w:World):Calls prog 241 #[pr a b] w λ e w'=>e=.returned (.tuple #[.int .i64 (gap a b),.int .i64 0])/\Gr w w':=by
 have c:=λ w=>hid ((both_yes ha hb)▸right_ok a b w)
 obtain⟨x,hx⟩:∃ x,gap a b=x:=⟨_,rfl⟩;have HX:=hid hx;rw [hx];clear hx;unfold Tm at ha hb;go_enter func241,ntmps241;go_wp2_with fail;refine (c _).out.mono ?_;rintro e w1 ⟨rfl,hb1⟩;have F:=(PrAt.new w a b 138).gr hb1;have G:=((zr w).al (.cells #[.int .i64 a,.int .i64 b] 138)).trans hb1;clear hb1;obtain⟨f0,f1,f2⟩:=F;go_wp2_with fail
 all_goals (
  go_ret2;have hx:=HX.out;unfold gap at hx;clear HX
  first
   | (obtain rfl:x=b-a:=by omega
      exact⟨rfl,G⟩)
   | (obtain rfl:x=0:=by omega
      exact⟨rfl,G⟩)
   | (subst hx
      exact⟨rfl,G⟩))
theorem apart_no (a b:Int) (h:¬ (Tm a/\Tm b)) (w:World):Calls prog 241 #[pr a b] w λ e w'=>e=.returned (.tuple #[.int .i64 0,.int .i64 1])/\Gr w w':=by
 have c:=λ w=>hid ((both_no h)▸right_ok a b w)
 clear h;go_enter func241,ntmps241;go_wp2_with fail;refine (c _).out.mono ?_;rintro e w1 ⟨rfl,hb1⟩;go_wp2_with fail;go_ret2;exact⟨rfl,((zr w).al _).trans hb1⟩
section
variable {a b r s:Int}
def Ap (a b r s:Int):Prop:=(Tm a/\Tm b/\r=gap a b/\s=0)\/(¬ (Tm a/\Tm b)/\r=0/\s=1)
theorem Ap.ex (a b:Int):∃ r s,Ap a b r s:=by
 by_cases h:Tm a/\Tm b
 . exact⟨_,_,.inl ⟨h.1,h.2,rfl,rfl⟩⟩
 . exact⟨_,_,.inr ⟨h,rfl,rfl⟩⟩
theorem apart_is (h:Ap a b r s) (w:World):Calls prog 241 #[pr a b] w λ e w'=>e=.returned (.tuple #[.int .i64 r,.int .i64 s])/\Gr w w':=by
 rcases h with ⟨h1,h2,rfl,rfl⟩ | ⟨h1,rfl,rfl⟩
 . exact apart_yes a b h1 h2 w
 . exact apart_no a b h1 w
theorem Since_is (h:Ap a b r s) (w:World):Calls prog 233 #[.int .i64 b,.int .i64 a] w λ e w'=>e=.returned (.tuple #[.int .i64 r,.int .i64 s])/\Gr w w':=by
 have c:=λ w=>hid (apart_is h w)
 clear h;go_enter func233,ntmps233;go_wp2_with fail;refine (c _).out.mono ?_;rintro e w1 ⟨rfl,hb1⟩;go_wp2_with fail;go_ret2;exact⟨rfl,hb1⟩
theorem Late_is (h:Ap a b r s) (B:Bool) (hB:decide (s=0/\1000000<r)=B) (w:World):Calls prog 226 #[.int .i64 b,.int .i64 a] w λ e w'=>e=.returned (.tuple #[.bool B,.int .i64 s])/\Gr w w':=by
 have c:=λ w=>hid (Since_is h w)
 subst hB;rcases h with ⟨_,_,hr,rfl⟩ | ⟨_,hr,rfl⟩
 . clear hr
   rw [show decide ((0:Int)=0/\1000000<r)=decide (1000000<r) by simp];go_enter func226,ntmps226;go_wp2_with fail;refine (c _).out.mono ?_;rintro e w1 ⟨rfl,hb1⟩;go_wp2_with fail;go_ret2;exact⟨rfl,hb1⟩
 . clear hr
   rw [decide_eq_false (λ h=>absurd h.1 (by decide))];go_enter func226,ntmps226;go_wp2_with fail;refine (c _).out.mono ?_;rintro e w1 ⟨rfl,hb1⟩;go_wp2_with fail;go_ret2;exact⟨rfl,hb1⟩
end
end P4
end
namespace P6
theorem Can_few {a b:Int} (h:¬ (a<0\/b<0)) (h4:a<4) {v:Bool} (hv:decide (1<b)=v) (w:World) :
 Calls prog 176 #[.int .i64 a,.int .i64 b] w λ e w'=>e=.returned (.tuple #[.bool v,.int .i64 0])/\w'=w:=by
 obtain⟨M,hM⟩:∃ M,(if b<a then b else a)=M:=⟨_,rfl⟩;have h0:¬ M<0:=by rw [<- hM];split<;>omega
 clear h;go_enter func176,ntmps176;go_wp2_with fail;go_ret2;exact⟨rfl,rfl⟩
theorem Can_many {a b:Int} (h:¬ (a<0\/b<0)) (h4:¬ a<4) (w:World) :
 Calls prog 176 #[.int .i64 a,.int .i64 b] w λ e w'=>e=.returned (.tuple #[.bool false,.int .i64 0])/\w'=w:=by
 obtain⟨M,hM⟩:∃ M,(if b<a then b else a)=M:=⟨_,rfl⟩;have h0:¬ M<0:=by rw [<- hM];split<;>omega
 clear h;go_enter func176,ntmps176;go_wp2_with fail;go_ret2;exact⟨rfl,rfl⟩
end P6
section
namespace P14
open P3 (fl pw)
open P4 (Tm)
abbrev ov (s:Int) (t k:Bool) (r o:Int):Value:=.agg #[.int .i64 s,.bool t,.bool k,.int .i64 r,.int .i64 o]
def OkS (s r:Int):Prop:=(s=-1\/Tm s)/\0<=r/\r<=4
def OkW (o:Int):Prop:=0<=o/\o<2147483648
def OkN (n:Int):Prop:=0<=n/\n<268435456
theorem own_st {W:World} {g:Nat} {v0 v1 v2 v3 v4:Value} {T:TypeId} (B:Blk W g #[v0,v1,v2,v3,v4] T) (s:Int) (t k:Bool) (r o:Int) :
 Blk (((((W.setCell ⟨g,0,none⟩ (.int .i64 s)).setCell ⟨g,1,none⟩ (.bool t)).setCell ⟨g,2,none⟩ (.bool k)).setCell ⟨g,3,none⟩ (.int .i64 r)).setCell ⟨g,4,none⟩ (.int .i64 o)) g #[.int .i64 s,.bool t,.bool k,.int .i64 r,.int .i64 o] T :=
 ((((B.set 0 (.int .i64 s)).set 1 (.bool t)).set 2 (.bool k)).set 3 (.int .i64 r)).set 4 (.int .i64 o)
theorem own_gr {w W:World} {g:Nat} (G:Gr w W) (h:w.heap.size<=g) (s:Int) (t k:Bool) (r o:Int) :
 Gr w (((((W.setCell ⟨g,0,none⟩ (.int .i64 s)).setCell ⟨g,1,none⟩ (.bool t)).setCell ⟨g,2,none⟩ (.bool k)).setCell ⟨g,3,none⟩ (.int .i64 r)).setCell ⟨g,4,none⟩ (.int .i64 o)) :=
 ((((G.st (p:=⟨g,0,none⟩) h _).st (p:=⟨g,1,none⟩) h _).st (p:=⟨g,2,none⟩) h _).st (p:=⟨g,3,none⟩) h _).st (p:=⟨g,4,none⟩) h _
theorem own_cells {W:World} {g:Nat} {v0 v1 v2 v3 v4:Value} {T:TypeId} (B:Blk W g #[v0,v1,v2,v3,v4] T) :
 (W.cell? ⟨g,0,none⟩=some v0/\W.cell? ⟨g,1,none⟩=some v1/\W.cell? ⟨g,2,none⟩=some v2/\W.cell? ⟨g,3,none⟩=some v3/\W.cell? ⟨g,4,none⟩=some v4) /\
 (W.frozen? ⟨g,0,none⟩=false/\W.frozen? ⟨g,1,none⟩=false/\W.frozen? ⟨g,2,none⟩=false/\W.frozen? ⟨g,3,none⟩=false/\W.frozen? ⟨g,4,none⟩=false) :=
 ⟨⟨(B.at_ (k:=0) rfl).1,(B.at_ (k:=1) rfl).1,(B.at_ (k:=2) rfl).1,(B.at_ (k:=3) rfl).1,(B.at_ (k:=4) rfl).1⟩,(B.at_ (k:=0) rfl).2,(B.at_ (k:=1) rfl).2,(B.at_ (k:=2) rfl).2,(B.at_ (k:=3) rfl).2,(B.at_ (k:=4) rfl).2⟩
def hEq (a b c d:Bool):Bool:=decide (a=c/\b=d)
theorem run_hold_eql (a b c d:Bool) (w:World):(binOp .eql 230 (.agg #[.bool a,.bool b]) (.agg #[.bool c,.bool d])).run prog w=.ok (.bool (hEq a b c d)) w:=by
 cases a<;>cases b<;>cases c<;>cases d<;>kernel_rfl
theorem run_hold_neq (a b c d:Bool) (w:World):(binOp .neq 230 (.agg #[.bool a,.bool b]) (.agg #[.bool c,.bool d])).run prog w=.ok (.bool (!hEq a b c d)) w:=by
 cases a<;>cases b<;>cases c<;>cases d<;>kernel_rfl
theorem held_is (a b c:Bool) (n:Int) (w:World):Calls prog 177 #[fl a b c n] w λ e w'=>e=.returned (.agg #[.bool a,.bool c])/\Gr w w':=by
 go_enter func177,ntmps177;go_wp2_with fail;exact bodyPost_ret (v:=.agg #[.bool a,.bool c]) (by simp [results,results177,go_sem]) rfl ⟨rfl,(zr w).al _ |>.al _⟩
section
variable {s r:Int} {t k a b c:Bool} {n:Int} {w:World}
theorem look_ok (h:OkS s r) (hn:OkN n):Calls prog 130 #[ov s t k r (pw a b c n)] w λ e w'=>e=.returned (fl a b c n)/\Gr w w':=by
 obtain⟨hs,hr0,hr4⟩:=h;have U:=λ w=>hid (P3.Unpack_ok a b c n hn w)
 have SF:=λ w=>hid (sureF_yes a b c n w)
 clear hn;generalize pw a b c n=v at *;by_cases h1:s=-1
 . subst h1
   clear hs;go_enter func130,ntmps130;go_wp2_with fail;refine (need_yes _ _).mono ?_;rintro e w1 ⟨rfl,rfl⟩;go_wp2_with fail;refine (need_yes _ _).mono ?_;rintro e w1 ⟨rfl,rfl⟩;go_wp2_with fail;refine (U _).out.mono ?_;rintro e w1 ⟨rfl,g1⟩;go_wp2_with fail;refine (SF _).out.mono ?_;rintro e w2 ⟨rfl,g2⟩;have B1:=((Blk.new (w.alloc (.cells #[.int .i64 (-1),.bool t,.bool k,.int .i64 r,.int .i64 v] 53)) #[.bool false,.bool false,.bool false,.int .i64 0] 42).gr g1).gr g2;rw [zsA] at B1;have G:=(((zr w).al (.cells #[.int .i64 (-1),.bool t,.bool k,.int .i64 r,.int .i64 v] 53)).al (.cells #[.bool false,.bool false,.bool false,.int .i64 0] 42)).trans g1 |>.trans g2
   obtain⟨a0,y0⟩:=B1.at_ (k:=0) (v:=.bool false) rfl;obtain⟨a1,y1⟩:=B1.at_ (k:=1) (v:=.bool false) rfl;obtain⟨a2,y2⟩:=B1.at_ (k:=2) (v:=.bool false) rfl;obtain⟨a3,y3⟩:=B1.at_ (k:=3) (v:=.int .i64 0) rfl;have BF:=(((B1.set 0 (.bool a)).set 1 (.bool b)).set 2 (.bool c)).set 3 (.int .i64 n);have GF:=hid ((((G.st (p:=⟨w.heap.size+1,0,none⟩) (Nat.le_succ _) (.bool a)).st (p:=⟨w.heap.size+1,1,none⟩) (Nat.le_succ _) (.bool b)).st (p:=⟨w.heap.size+1,2,none⟩) (Nat.le_succ _) (.bool c)).st (p:=⟨w.heap.size+1,3,none⟩) (Nat.le_succ _) (.int .i64 n));obtain⟨c0,x0⟩:=BF.at_ (k:=0) (v:=.bool a) rfl;obtain⟨c1,x1⟩:=BF.at_ (k:=1) (v:=.bool b) rfl;obtain⟨c2,x2⟩:=BF.at_ (k:=2) (v:=.bool c) rfl;obtain⟨c3,x3⟩:=BF.at_ (k:=3) (v:=.int .i64 n) rfl;clear g1 g2 B1 BF G;go_wp2_with fail;exact bodyPost_ret (v:=fl a b c n) (by simp [results,results130,go_sem,c0,c1,c2,c3]) rfl ⟨rfl,GF.out⟩
 . have hs':Tm s:=hs.resolve_left h1
   have R:=λ w=>hid (P4.Right_ok s true (by rw [P4.near_eq hs'];simp) w)
   clear hs hs';go_enter func130,ntmps130;go_wp2_with fail;refine (R _).out.mono ?_;rintro e w0 ⟨rfl,g0⟩;have B0:=(((Blk.new w #[.int .i64 s,.bool t,.bool k,.int .i64 r,.int .i64 v] 53).al (.cells #[.bool false,.bool false,.bool false,.int .i64 0] 42)).gr g0);obtain⟨q3,z3⟩:=B0.at_ (k:=3) (v:=.int .i64 r) rfl;obtain⟨q4,z4⟩:=B0.at_ (k:=4) (v:=.int .i64 v) rfl;go_wp2_with fail;refine (need_yes _ _).mono ?_;rintro e w1 ⟨rfl,rfl⟩;go_wp2_with fail;refine (need_yes _ _).mono ?_;rintro e w1 ⟨rfl,rfl⟩;go_wp2_with fail;refine (U _).out.mono ?_;rintro e w1 ⟨rfl,g1⟩;go_wp2_with fail;refine (SF _).out.mono ?_;rintro e w2 ⟨rfl,g2⟩;have B1:=(((Blk.new (w.alloc (.cells #[.int .i64 s,.bool t,.bool k,.int .i64 r,.int .i64 v] 53)) #[.bool false,.bool false,.bool false,.int .i64 0] 42).gr g0).gr g1).gr g2;rw [zsA] at B1;have G:=(((zr w).al (.cells #[.int .i64 s,.bool t,.bool k,.int .i64 r,.int .i64 v] 53)).al (.cells #[.bool false,.bool false,.bool false,.int .i64 0] 42)).trans g0 |>.trans g1 |>.trans g2
   clear q3 z3 q4 z4 B0;obtain⟨a0,y0⟩:=B1.at_ (k:=0) (v:=.bool false) rfl;obtain⟨a1,y1⟩:=B1.at_ (k:=1) (v:=.bool false) rfl;obtain⟨a2,y2⟩:=B1.at_ (k:=2) (v:=.bool false) rfl;obtain⟨a3,y3⟩:=B1.at_ (k:=3) (v:=.int .i64 0) rfl;have BF:=(((B1.set 0 (.bool a)).set 1 (.bool b)).set 2 (.bool c)).set 3 (.int .i64 n);have GF:=hid ((((G.st (p:=⟨w.heap.size+1,0,none⟩) (Nat.le_succ _) (.bool a)).st (p:=⟨w.heap.size+1,1,none⟩) (Nat.le_succ _) (.bool b)).st (p:=⟨w.heap.size+1,2,none⟩) (Nat.le_succ _) (.bool c)).st (p:=⟨w.heap.size+1,3,none⟩) (Nat.le_succ _) (.int .i64 n));obtain⟨c0,x0⟩:=BF.at_ (k:=0) (v:=.bool a) rfl;obtain⟨c1,x1⟩:=BF.at_ (k:=1) (v:=.bool b) rfl;obtain⟨c2,x2⟩:=BF.at_ (k:=2) (v:=.bool c) rfl;obtain⟨c3,x3⟩:=BF.at_ (k:=3) (v:=.int .i64 n) rfl;clear g1 g2 B1 BF G;go_wp2_with fail;exact bodyPost_ret (v:=fl a b c n) (by simp [results,results130,go_sem,c0,c1,c2,c3]) rfl ⟨rfl,GF.out⟩
theorem look_no {o:Int} (h:¬ (OkS s r/\OkW o)):Calls prog 130 #[ov s t k r o] w λ e w'=>e=.panicked (pan 1)/\Gr w w':=by
 by_cases h1:s=-1
 . subst h1
   by_cases hr:0<=r/\r<=4
   . have ho:¬ OkW o:=λ q=>h ⟨⟨.inl rfl,hr⟩,q⟩
     have U:=λ w=>hid (P3.Unpack_no o ho w)
     have SF:=λ w=>hid (sureF_no false false false 0 (y:=1) rfl w)
     obtain⟨hr0,hr4⟩:=hr;clear h ho;go_enter func130,ntmps130;go_wp2_with fail;refine (need_yes _ _).mono ?_;rintro e w1 ⟨rfl,rfl⟩;go_wp2_with fail;refine (need_yes _ _).mono ?_;rintro e w1 ⟨rfl,rfl⟩;go_wp2_with fail;refine (U _).out.mono ?_;rintro e w1 ⟨rfl,g1⟩;go_wp2_with fail;refine (SF _).out.mono ?_;rintro e w2 ⟨rfl,g2⟩;have G:=(((zr w).al (.cells #[.int .i64 (-1),.bool t,.bool k,.int .i64 r,.int .i64 o] 53)).al (.cells #[.bool false,.bool false,.bool false,.int .i64 0] 42)).trans g1 |>.trans g2
     go_wp2_with fail;exact⟨rfl,rfl,G⟩
   . clear h
     have G:=(((zr w).al (.cells #[.int .i64 (-1),.bool t,.bool k,.int .i64 r,.int .i64 o] 53)).al (.cells #[.bool false,.bool false,.bool false,.int .i64 0] 42));by_cases hr0:0<=r
     . have hr4:decide (r<=4)=false:=decide_eq_false (by omega)
       clear hr;go_enter func130,ntmps130;go_wp2_with fail;refine (need_yes _ _).mono ?_;rintro e w1 ⟨rfl,rfl⟩;go_wp2_with fail;refine (need_no _ _).mono ?_;rintro e w1 ⟨rfl,rfl⟩;go_wp2_with fail;exact⟨rfl,rfl,G⟩
     . clear hr
       go_enter func130,ntmps130;go_wp2_with fail;refine (need_yes _ _).mono ?_;rintro e w1 ⟨rfl,rfl⟩;go_wp2_with fail;refine (need_no _ _).mono ?_;rintro e w1 ⟨rfl,rfl⟩;go_wp2_with fail;exact⟨rfl,rfl,G⟩
 . by_cases hs:Tm s
   . have R:=λ w=>hid (P4.Right_ok s true (by rw [P4.near_eq hs];simp) w)
     have G0:=(((zr w).al (.cells #[.int .i64 s,.bool t,.bool k,.int .i64 r,.int .i64 o] 53)).al (.cells #[.bool false,.bool false,.bool false,.int .i64 0] 42));by_cases hr:0<=r/\r<=4
     . have ho:¬ OkW o:=λ q=>h ⟨⟨.inr hs,hr⟩,q⟩
       have U:=λ w=>hid (P3.Unpack_no o ho w)
       have SF:=λ w=>hid (sureF_no false false false 0 (y:=1) rfl w)
       obtain⟨hr0,hr4⟩:=hr;clear h ho hs;go_enter func130,ntmps130;go_wp2_with fail;refine (R _).out.mono ?_;rintro e w0 ⟨rfl,g0⟩;have B0:=(((Blk.new w #[.int .i64 s,.bool t,.bool k,.int .i64 r,.int .i64 o] 53).al (.cells #[.bool false,.bool false,.bool false,.int .i64 0] 42)).gr g0);obtain⟨q3,z3⟩:=B0.at_ (k:=3) (v:=.int .i64 r) rfl;obtain⟨q4,z4⟩:=B0.at_ (k:=4) (v:=.int .i64 o) rfl;go_wp2_with fail;refine (need_yes _ _).mono ?_;rintro e w1 ⟨rfl,rfl⟩;go_wp2_with fail;refine (need_yes _ _).mono ?_;rintro e w1 ⟨rfl,rfl⟩;go_wp2_with fail;refine (U _).out.mono ?_;rintro e w1 ⟨rfl,g1⟩;go_wp2_with fail;refine (SF _).out.mono ?_;rintro e w2 ⟨rfl,g2⟩;have G:=G0.trans g0 |>.trans g1 |>.trans g2
       go_wp2_with fail;exact⟨rfl,rfl,G⟩
     . clear h hs
       by_cases hr0:0<=r
       . have hr4:decide (r<=4)=false:=decide_eq_false (by omega)
         clear hr;go_enter func130,ntmps130;go_wp2_with fail;refine (R _).out.mono ?_;rintro e w0 ⟨rfl,g0⟩;obtain⟨q3,z3⟩:=(((Blk.new w #[.int .i64 s,.bool t,.bool k,.int .i64 r,.int .i64 o] 53).al (.cells #[.bool false,.bool false,.bool false,.int .i64 0] 42)).gr g0).at_ (k:=3) (v:=.int .i64 r) rfl;go_wp2_with fail;refine (need_yes _ _).mono ?_;rintro e w1 ⟨rfl,rfl⟩;go_wp2_with fail;refine (need_no _ _).mono ?_;rintro e w1 ⟨rfl,rfl⟩;go_wp2_with fail;exact⟨rfl,rfl,G0.trans g0⟩
       . clear hr
         go_enter func130,ntmps130;go_wp2_with fail;refine (R _).out.mono ?_;rintro e w0 ⟨rfl,g0⟩;obtain⟨q3,z3⟩:=(((Blk.new w #[.int .i64 s,.bool t,.bool k,.int .i64 r,.int .i64 o] 53).al (.cells #[.bool false,.bool false,.bool false,.int .i64 0] 42)).gr g0).at_ (k:=3) (v:=.int .i64 r) rfl;go_wp2_with fail;refine (need_yes _ _).mono ?_;rintro e w1 ⟨rfl,rfl⟩;go_wp2_with fail;refine (need_no _ _).mono ?_;rintro e w1 ⟨rfl,rfl⟩;go_wp2_with fail;exact⟨rfl,rfl,G0.trans g0⟩
   . have hs1:(s==-1)=false:=beq_eq_false_iff_ne.2 h1
     have R:=λ w=>hid (P4.Right_ok s false (P4.near_ne hs) w)
     have G0:=(((zr w).al (.cells #[.int .i64 s,.bool t,.bool k,.int .i64 r,.int .i64 o] 53)).al (.cells #[.bool false,.bool false,.bool false,.int .i64 0] 42));clear h hs;go_enter func130,ntmps130;go_wp2_with fail;refine (R _).out.mono ?_;rintro e w0 ⟨rfl,g0⟩;go_wp2_with fail;refine (need_no _ _).mono ?_;rintro e w1 ⟨rfl,rfl⟩;go_wp2_with fail;exact⟨rfl,rfl,G0.trans g0⟩
end
end P14
end
section
namespace P14
open P3 (fl pw)
open P4 (Tm)
section
variable {s r:Int} {t k a b c:Bool} {n u o x:Int} {w:World}
theorem Right_cl {W:World} {g:Nat} (B:Blk W g #[.int .i64 s,.bool t,.bool k,.int .i64 r,.int .i64 o] 53) (hc:∀ W,Calls prog 130 #[ov s t k r o] W λ e w'=>e=.returned (fl a b c n)/\Gr W w') :
 Calls prog 129 #[.pointer (some ⟨g,0,none⟩)] W λ e w'=>e=.returned (fl a b c n)/\Gr W w':=by
 have HC:=λ W=>hid (hc W)
 have hlt:=B.lt;obtain⟨⟨q0,q1,q2,q3,q4⟩,-⟩:=own_cells B;have N1:=hid (Blk.new W #[.bool false,.bool false,.bool false,.int .i64 0] 42);have G0:=hid ((zr W).al (.cells #[.bool false,.bool false,.bool false,.int .i64 0] 42));clear hc B;go_enter func129,ntmps129;go_wp2_with fail;refine (HC _).out.mono ?_;rintro e w1 ⟨rfl,g1⟩;have B1:=N1.out.gr g1;have G:=G0.out.trans g1;obtain⟨a0,y0⟩:=B1.at_ (k:=0) (v:=.bool false) rfl;obtain⟨a1,y1⟩:=B1.at_ (k:=1) (v:=.bool false) rfl;obtain⟨a2,y2⟩:=B1.at_ (k:=2) (v:=.bool false) rfl;obtain⟨a3,y3⟩:=B1.at_ (k:=3) (v:=.int .i64 0) rfl;have BF:=(((B1.set 0 (.bool a)).set 1 (.bool b)).set 2 (.bool c)).set 3 (.int .i64 n);have GF:=hid ((((G.st (p:=⟨W.heap.size,0,none⟩) (Nat.le_refl _) (.bool a)).st (p:=⟨W.heap.size,1,none⟩) (Nat.le_refl _) (.bool b)).st (p:=⟨W.heap.size,2,none⟩) (Nat.le_refl _) (.bool c)).st (p:=⟨W.heap.size,3,none⟩) (Nat.le_refl _) (.int .i64 n));obtain⟨c0,x0⟩:=BF.at_ (k:=0) (v:=.bool a) rfl;obtain⟨c1,x1⟩:=BF.at_ (k:=1) (v:=.bool b) rfl;obtain⟨c2,x2⟩:=BF.at_ (k:=2) (v:=.bool c) rfl;obtain⟨c3,x3⟩:=BF.at_ (k:=3) (v:=.int .i64 n) rfl;clear g1 B1 BF G;go_wp2_with fail;exact bodyPost_ret (v:=fl a b c n) (by simp [results,results129,go_sem,c0,c1,c2,c3]) rfl ⟨rfl,GF.out⟩
theorem Right_up {W:World} {g:Nat} {y:Int} (B:Blk W g #[.int .i64 s,.bool t,.bool k,.int .i64 r,.int .i64 o] 53) (hc:∀ W,Calls prog 130 #[ov s t k r o] W λ e w'=>e=.panicked (pan y)/\Gr W w') :
 Calls prog 129 #[.pointer (some ⟨g,0,none⟩)] W λ e w'=>e=.panicked (pan y)/\Gr W w':=by
 have HC:=λ W=>hid (hc W)
 have hlt:=B.lt;obtain⟨⟨q0,q1,q2,q3,q4⟩,-⟩:=own_cells B;have G0:=hid ((zr W).al (.cells #[.bool false,.bool false,.bool false,.int .i64 0] 42));clear hc B;go_enter func129,ntmps129;go_wp2_with fail;refine (HC _).out.mono ?_;rintro e w1 ⟨rfl,g1⟩;go_wp2_with fail;exact⟨rfl,rfl,G0.out.trans g1⟩
theorem Right_yes (hc:∀ W,Calls prog 130 #[ov s t k r o] W λ e w'=>e=.returned (fl a b c n)/\Gr W w') :
 Calls prog 96 #[ov s t k r o] w λ e w'=>e=.returned (.bool true)/\Gr w w':=by
 have N0:=Blk.new w #[.int .i64 s,.bool t,.bool k,.int .i64 r,.int .i64 o] 53;have T:=hid (toldF_ok (F:=129) (caps:=#[.pointer (some ⟨w.heap.size,0,none⟩)]) (w:=w.alloc (.cells #[.int .i64 s,.bool t,.bool k,.int .i64 r,.int .i64 o] 53)) (enters_of func129 (by kernel_rfl) rfl) a b c n (λ W G=>Right_cl (N0.gr G) hc));have G0:=(zr w).al (.cells #[.int .i64 s,.bool t,.bool k,.int .i64 r,.int .i64 o] 53);clear hc N0;have hmf:=mkF;go_enter func96,ntmps96;go_wp2_with fail;refine T.out.mono ?_;rintro e w1 ⟨rfl,g1⟩;go_wp2_with fail;go_ret;exact⟨rfl,(G0.trans g1).al _⟩
theorem Right_no {y:Int} (hy:(y==0)=false) (hc:∀ W,Calls prog 130 #[ov s t k r o] W λ e w'=>e=.panicked (pan y)/\Gr W w') :
 Calls prog 96 #[ov s t k r o] w λ e w'=>e=.returned (.bool false)/\Gr w w':=by
 have N0:=Blk.new w #[.int .i64 s,.bool t,.bool k,.int .i64 r,.int .i64 o] 53;have T:=hid (toldF_no (F:=129) (caps:=#[.pointer (some ⟨w.heap.size,0,none⟩)]) (w:=w.alloc (.cells #[.int .i64 s,.bool t,.bool k,.int .i64 r,.int .i64 o] 53)) (enters_of func129 (by kernel_rfl) rfl) y (λ W G=>Right_up (N0.gr G) hc));have G0:=(zr w).al (.cells #[.int .i64 s,.bool t,.bool k,.int .i64 r,.int .i64 o] 53);clear hc N0;have hmf:=mkF;go_enter func96,ntmps96;go_wp2_with fail;refine T.out.mono ?_;rintro e w1 ⟨rfl,g1⟩;go_wp2_with fail;go_ret;exact⟨rfl,(G0.trans g1).al _⟩
theorem Fresh_is:Calls prog 63 #[] w λ e w'=>e=.returned (ov (-1) false false 0 0)/\Gr w w':=by
 go_enter func63,ntmps63;go_wp2_with fail;exact bodyPost_ret (v:=ov (-1) false false 0 0) (by simp [results,results63,go_sem]) rfl ⟨rfl,(zr w).al _⟩
theorem Spins_no {W:World} {g h:Nat} (B:Blk W g #[.int .i64 s,.bool t,.bool k,.int .i64 r,.int .i64 o] 53) (D:Blk W h #[.int .i64 u] 3) (hc:∀ W,Calls prog 130 #[ov s t k r o] W λ e w'=>e=.returned (fl a b c n)/\Gr W w') (hcan:∀ W,Calls prog 176 #[.int .i64 r,.int .i64 u] W λ e w'=>e=.returned (.tuple #[.bool false,.int .i64 0])/\w'=W) :
 Calls prog 174 #[.pointer (some ⟨g,0,none⟩),.pointer (some ⟨h,0,none⟩)] W λ e w'=>e=.returned (.bool false)/\Gr W w':=by
 have HC:=λ W=>hid (hc W)
 obtain⟨⟨q0,q1,q2,q3,q4⟩,-⟩:=own_cells B;have HCAN:=λ W=>hid (hcan W)
 clear hc hcan;go_enter func174,ntmps174;go_wp2_with fail;refine (HC _).out.mono ?_;rintro e w1 ⟨rfl,g1⟩;have hlt:=(B.gr g1).lt;have hlt2:=(D.gr g1).lt;obtain⟨p3,-⟩:=(B.gr g1).at_ (k:=3) rfl;obtain⟨d0,-⟩:=(D.gr g1).at_ (k:=0) rfl;clear q0 q1 q2 q3 q4;go_wp2_with fail;refine (HCAN _).out.mono ?_;rintro e w2 ⟨rfl,rfl⟩;go_wp2_with fail;refine (sureB_yes _ _).mono ?_;rintro e w3 ⟨rfl,rfl⟩;go_wp2_with fail;go_ret;exact⟨rfl,g1.al _⟩
theorem Spins_yes {W:World} {g h:Nat} (B:Blk W g #[.int .i64 s,.bool t,.bool k,.int .i64 r,.int .i64 o] 53) (D:Blk W h #[.int .i64 u] 3) (hc:∀ W,Calls prog 130 #[ov s t k r o] W λ e w'=>e=.returned (fl a b c n)/\Gr W w') (hcan:∀ W,Calls prog 176 #[.int .i64 r,.int .i64 u] W λ e w'=>e=.returned (.tuple #[.bool true,.int .i64 0])/\w'=W) :
 Calls prog 174 #[.pointer (some ⟨g,0,none⟩),.pointer (some ⟨h,0,none⟩)] W λ e w'=>e=.returned (.bool (a&&!c))/\Gr W w':=by
 have HC:=λ W=>hid (hc W)
 obtain⟨⟨q0,q1,q2,q3,q4⟩,-⟩:=own_cells B;have HCAN:=λ W=>hid (hcan W)
 clear hc hcan;have HD:=λ w=>hid (held_is a b c n w)
 have hq:hEq a c true false=(a&&!c):=by cases a<;>cases c<;>rfl
 have HE:=λ w=>hq▸run_hold_eql a c true false w
 generalize (a&&!c)=v at *;clear hq;go_enter func174,ntmps174;go_wp2_with fail;refine (HC _).out.mono ?_;rintro e w1 ⟨rfl,g1⟩;have hlt:=(B.gr g1).lt;have hlt2:=(D.gr g1).lt;obtain⟨p3,-⟩:=(B.gr g1).at_ (k:=3) rfl;obtain⟨d0,-⟩:=(D.gr g1).at_ (k:=0) rfl;clear q0 q1 q2 q3 q4;go_wp2_with fail;refine (HCAN _).out.mono ?_;rintro e w2 ⟨rfl,rfl⟩;go_wp2_with fail;refine (sureB_yes _ _).mono ?_;rintro e w3 ⟨rfl,rfl⟩;go_wp2_with fail;refine (HD _).out.mono ?_;rintro e w4 ⟨rfl,g4⟩;go_wp2_with fail;go_ret;exact⟨rfl,(g1.al _).trans g4⟩
theorem SpinsB {v:Bool} (hq:∀ W g h,Blk W g #[.int .i64 s,.bool t,.bool k,.int .i64 r,.int .i64 o] 53->Blk W h #[.int .i64 u] 3->Calls prog 174 #[.pointer (some ⟨g,0,none⟩),.pointer (some ⟨h,0,none⟩)] W λ e w'=>e=.returned (.bool v)/\Gr W w') :
 Calls prog 138 #[ov s t k r o,.int .i64 u] w λ e w'=>e=.returned (.tuple #[.bool v,.int .i64 0])/\Gr w w':=by
 have N0:=(Blk.new w #[.int .i64 s,.bool t,.bool k,.int .i64 r,.int .i64 o] 53).al (.cells #[.int .i64 u] 3);have N1:=Blk.new (w.alloc (.cells #[.int .i64 s,.bool t,.bool k,.int .i64 r,.int .i64 o] 53)) #[.int .i64 u] 3;rw [zsA] at N1;have T:=hid (toldB_ok (F:=174) (caps:=#[.pointer (some ⟨w.heap.size,0,none⟩),.pointer (some ⟨w.heap.size+1,0,none⟩)]) (w:=(w.alloc (.cells #[.int .i64 s,.bool t,.bool k,.int .i64 r,.int .i64 o] 53)).alloc (.cells #[.int .i64 u] 3)) (enters_of func174 (by kernel_rfl) rfl) v (λ W G=>hq W _ _ (N0.gr G) (N1.gr G)));have G0:=(((zr w).al (.cells #[.int .i64 s,.bool t,.bool k,.int .i64 r,.int .i64 o] 53)).al (.cells #[.int .i64 u] 3));clear hq N0 N1;have hmf:=mkF;go_enter func138,ntmps138;go_wp2_with fail;refine T.out.mono ?_;rintro e w1 ⟨rfl,g1⟩;go_wp2_with fail;go_ret2;exact⟨rfl,G0.trans g1⟩
end
end P14
end
section
namespace P16
open P14 (pan)
open P12 (PV PMem)
theorem ORow.put13 {W:World} {b o i:Nat} {l:List Cl} {c:Cl} (h:ORow clV 13 W b o l) (hi:l[i]?=some c) (d:Cl) :
 ORow clV 13 (((((((((((((W.setCell ⟨b,o+i*13+0,none⟩ (.int .i64 d.gst)).setCell ⟨b,o+i*13+1,none⟩ (.bool d.permit)).setCell ⟨b,o+i*13+2,none⟩ (.int .i64 d.act)).setCell ⟨b,o+i*13+3,none⟩ (.int .i64 d.pc)).setCell ⟨b,o+i*13+4,none⟩ (.int .i64 d.worked)).setCell ⟨b,o+i*13+5,none⟩ (.int .i64 d.ticket)).setCell ⟨b,o+i*13+6,none⟩ (.bool d.first)).setCell ⟨b,o+i*13+7,none⟩ (.bool d.told)).setCell ⟨b,o+i*13+8,none⟩ (.int .i64 d.since)).setCell ⟨b,o+i*13+9,none⟩ (.bool d.st)).setCell ⟨b,o+i*13+10,none⟩ (.bool d.aw)).setCell ⟨b,o+i*13+11,none⟩ (.int .i64 d.rounds)).setCell ⟨b,o+i*13+12,none⟩ (.int .i64 d.old)) b o (l.set i d):=by
 have hlt:=(zgl hi);have h0:=h.put clV_len hi (j:=0) (v:=.int .i64 d.gst) (y:={ c with gst:=d.gst }) (by decide) rfl;have h1:=h0.put clV_len (i:=i) (x:={ c with gst:=d.gst }) (by rw [zss (by simpa using hlt)]) (j:=1) (v:=.bool d.permit) (y:={ c with gst:=d.gst,permit:=d.permit }) (by decide) rfl;rw [List.set_set] at h1;have h2:=h1.put clV_len (i:=i) (x:={ c with gst:=d.gst,permit:=d.permit }) (by rw [zss (by simpa using hlt)]) (j:=2) (v:=.int .i64 d.act) (y:={ c with gst:=d.gst,permit:=d.permit,act:=d.act }) (by decide) rfl;rw [List.set_set] at h2;have h3:=h2.put clV_len (i:=i) (x:={ c with gst:=d.gst,permit:=d.permit,act:=d.act }) (by rw [zss (by simpa using hlt)]) (j:=3) (v:=.int .i64 d.pc) (y:={ c with gst:=d.gst,permit:=d.permit,act:=d.act,pc:=d.pc }) (by decide) rfl;rw [List.set_set] at h3;have h4:=h3.put clV_len (i:=i) (x:={ c with gst:=d.gst,permit:=d.permit,act:=d.act,pc:=d.pc }) (by rw [zss (by simpa using hlt)]) (j:=4) (v:=.int .i64 d.worked) (y:={ c with gst:=d.gst,permit:=d.permit,act:=d.act,pc:=d.pc,worked:=d.worked }) (by decide) rfl;rw [List.set_set] at h4;have h5:=h4.put clV_len (i:=i) (x:={ c with gst:=d.gst,permit:=d.permit,act:=d.act,pc:=d.pc,worked:=d.worked }) (by rw [zss (by simpa using hlt)]) (j:=5) (v:=.int .i64 d.ticket) (y:={ c with gst:=d.gst,permit:=d.permit,act:=d.act,pc:=d.pc,worked:=d.worked,ticket:=d.ticket }) (by decide) rfl;rw [List.set_set] at h5;have h6:=h5.put clV_len (i:=i) (x:={ c with gst:=d.gst,permit:=d.permit,act:=d.act,pc:=d.pc,worked:=d.worked,ticket:=d.ticket }) (by rw [zss (by simpa using hlt)]) (j:=6) (v:=.bool d.first) (y:={ c with gst:=d.gst,permit:=d.permit,act:=d.act,pc:=d.pc,worked:=d.worked,ticket:=d.ticket,first:=d.first }) (by decide) rfl;rw [List.set_set] at h6;have h7:=h6.put clV_len (i:=i) (x:={ c with gst:=d.gst,permit:=d.permit,act:=d.act,pc:=d.pc,worked:=d.worked,ticket:=d.ticket,first:=d.first }) (by rw [zss (by simpa using hlt)]) (j:=7) (v:=.bool d.told) (y:={ c with gst:=d.gst,permit:=d.permit,act:=d.act,pc:=d.pc,worked:=d.worked,ticket:=d.ticket,first:=d.first,told:=d.told }) (by decide) rfl;rw [List.set_set] at h7;have h8:=h7.put clV_len (i:=i) (x:={ c with gst:=d.gst,permit:=d.permit,act:=d.act,pc:=d.pc,worked:=d.worked,ticket:=d.ticket,first:=d.first,told:=d.told }) (by rw [zss (by simpa using hlt)]) (j:=8) (v:=.int .i64 d.since) (y:={ c with gst:=d.gst,permit:=d.permit,act:=d.act,pc:=d.pc,worked:=d.worked,ticket:=d.ticket,first:=d.first,told:=d.told,since:=d.since }) (by decide) rfl;rw [List.set_set] at h8;have h9:=h8.put clV_len (i:=i) (x:={ c with gst:=d.gst,permit:=d.permit,act:=d.act,pc:=d.pc,worked:=d.worked,ticket:=d.ticket,first:=d.first,told:=d.told,since:=d.since }) (by rw [zss (by simpa using hlt)]) (j:=9) (v:=.bool d.st) (y:={ c with gst:=d.gst,permit:=d.permit,act:=d.act,pc:=d.pc,worked:=d.worked,ticket:=d.ticket,first:=d.first,told:=d.told,since:=d.since,st:=d.st }) (by decide) rfl;rw [List.set_set] at h9;have h10:=h9.put clV_len (i:=i) (x:={ c with gst:=d.gst,permit:=d.permit,act:=d.act,pc:=d.pc,worked:=d.worked,ticket:=d.ticket,first:=d.first,told:=d.told,since:=d.since,st:=d.st }) (by rw [zss (by simpa using hlt)]) (j:=10) (v:=.bool d.aw) (y:={ c with gst:=d.gst,permit:=d.permit,act:=d.act,pc:=d.pc,worked:=d.worked,ticket:=d.ticket,first:=d.first,told:=d.told,since:=d.since,st:=d.st,aw:=d.aw }) (by decide) rfl;rw [List.set_set] at h10
 have h11:=h10.put clV_len (i:=i) (x:={ c with gst:=d.gst,permit:=d.permit,act:=d.act,pc:=d.pc,worked:=d.worked,ticket:=d.ticket,first:=d.first,told:=d.told,since:=d.since,st:=d.st,aw:=d.aw }) (by rw [zss (by simpa using hlt)]) (j:=11) (v:=.int .i64 d.rounds) (y:={ c with gst:=d.gst,permit:=d.permit,act:=d.act,pc:=d.pc,worked:=d.worked,ticket:=d.ticket,first:=d.first,told:=d.told,since:=d.since,st:=d.st,aw:=d.aw,rounds:=d.rounds }) (by decide) rfl;rw [List.set_set] at h11;have h12:=h11.put clV_len (i:=i) (x:={ c with gst:=d.gst,permit:=d.permit,act:=d.act,pc:=d.pc,worked:=d.worked,ticket:=d.ticket,first:=d.first,told:=d.told,since:=d.since,st:=d.st,aw:=d.aw,rounds:=d.rounds }) (by rw [zss (by simpa using hlt)]) (j:=12) (v:=.int .i64 d.old) (y:=d) (by decide) rfl;rw [List.set_set] at h12;exact h12
theorem ORow.cmem {W:World} {b o n:Nat} {l:List Cl} (h:ORow clV 13 W b o l) (hl:l.length=n) (hb:∀ c∈l,CB c):CMem W (some ⟨b,o,none⟩) n l :=
 ⟨hl,hb,λ _=>⟨b,o,rfl,h.lt,λ i y hy j v hv=>(h.at_ hy hv).1⟩⟩
theorem okv_len {y:PV} {W:World} (h:y.ok W):y.l.length=y.n:=h.1.1
def anew (c:Cl) (act:Int):Cl:=⟨c.gst,c.permit,act,0,0,0,false,false,-1,false,false,0,0⟩
theorem b64_0:B64 0:=⟨by omega,by omega⟩
theorem anew_cb {c:Cl} {act:Int} (h:CB c) (ha:B64 act):CB (anew c act):=⟨h.gst,ha,b64_0,b64_0,b64_0,(show B64 (-1) from ⟨by omega,by omega⟩),b64_0,b64_0⟩
theorem map_gor_set {cl:List Cl} {i:Nat} {c d:Cl} (hc:cl[i]?=some c) (hd:gor d=gor c):(cl.set i d).map gor=cl.map gor:=by
 rw [List.map_set,hd];exact set_same (by rw [List.getElem?_map,hc];rfl)
section
variable {W:World} {b bc oc n cc pn pc:Nat} {pA:Option Addr} {cl:List Cl} {who act:Int} {c:Cl} {progs:List (List Ac)} {pr:List Ac}
theorem pmem_at {A:Option Addr} {n k:Nat} {R:List PV} {W:World} (h:PMem W A n R) (hk:k<n):∃ b off y,A=some ⟨b,off,none⟩/\b<W.heap.size/\R[k]?=some y/\y.ok W/\W.cell? ⟨b,off+k,none⟩=some (.slice y.A y.n y.c):=h.at_ hk
theorem begin_is (c1:W.cell? ⟨b,1,none⟩=some (.slice pA pn pc)) (c2:W.cell? ⟨b,2,none⟩=some (.slice (some ⟨bc,oc,none⟩) n cc)) (hb:b≠bc) (hO:ORow clV 13 W bc oc cl) (hl:cl.length=n) (hn:n<=1000) (hcb:∀ c∈cl,CB c)
 (w0:0<=who) (w1:who<n) (hc:cl[who.toNat]?=some c) (hP:∀ W',Ko bc W W'->∃ R,PMem W' pA pn R/\P12.pl R=progs) (hpn:pn=n) (hp:progs[who.toNat]?=some pr) (hp9:pr.length<=1000) (ha:B64 act) (hg:c.gst=0) (hr:P11.rightB (cl.map gor)=true) :
 Calls prog 36 #[.pointer (some ⟨b,0,none⟩),.int .i64 who,.int .i64 act] W λ e W'=>e=.returned (.tuple #[])/\ORow clV 13 W' bc oc (cl.set who.toNat (first c.gst c.permit act pr.length))/\Ko bc W W':=by
 have cf:=λ W=>hid (P14.Fresh_is (w:=W))
 have hbl:=World.block_lt_of_cell? W _ c2;dsimp only at hbl;have hbc:=hO.lt;have HO:=hid hO;have HL:=hid hl;have HCB:=hid hcb;have HC:=hid hc;have HP:=hid hP;have HR:=hid hr;have HPR:=hid hp;have HG:=hid hg;obtain⟨e0,f0⟩:=hO.at_ (j:=0) hc rfl;obtain⟨e1,f1⟩:=hO.at_ (j:=1) hc rfl;rw [Nat.add_zero] at e0 f0;have HS:=hid (show (cl.set who.toNat (anew c act))[who.toNat]?=some (anew c act) from by rw [zss (zgl hc)]);have d0:W.drew.cell? ⟨bc,oc+who.toNat*13,none⟩=some (.int .i64 c.gst):=e0;have d1:W.drew.cell? ⟨bc,oc+who.toNat*13+1,none⟩=some (.bool c.permit):=e1;clear hO hl hcb hc hP hr hp hg;go_enter func36,ntmps36;go_upto_region 1 with fail
 go_region_held3 (λ w'=>w'.cell? ⟨bc,oc+who.toNat*13,none⟩=some (.int .i64 c.gst)/\w'.cell? ⟨bc,oc+who.toNat*13+1,none⟩=some (.bool c.permit)) (constructor<;>with_reducible assumption) (first | (go_at_call 63;(refine (cf _).out.mono ?_);rintro ee w2 ⟨rfl,g2⟩;have O2:=HO.out.gr ((zr W).dr.trans g2);obtain⟨p0,r0⟩:=O2.at_ (j:=0) HC.out rfl;obtain⟨p1,r1⟩:=O2.at_ (j:=1) HC.out rfl;obtain⟨p2,r2⟩:=O2.at_ (j:=2) HC.out rfl;obtain⟨p3,r3⟩:=O2.at_ (j:=3) HC.out rfl;obtain⟨p4,r4⟩:=O2.at_ (j:=4) HC.out rfl;obtain⟨p5,r5⟩:=O2.at_ (j:=5) HC.out rfl;obtain⟨p6,r6⟩:=O2.at_ (j:=6) HC.out rfl;obtain⟨p7,r7⟩:=O2.at_ (j:=7) HC.out rfl;obtain⟨p8,r8⟩:=O2.at_ (j:=8) HC.out rfl;obtain⟨p9,r9⟩:=O2.at_ (j:=9) HC.out rfl;obtain⟨p10,r10⟩:=O2.at_ (j:=10) HC.out rfl;obtain⟨p11,r11⟩:=O2.at_ (j:=11) HC.out rfl;obtain⟨p12,r12⟩:=O2.at_ (j:=12) HC.out rfl;rw [Nat.add_zero] at p0 r0;have T:ORow clV 13 (((((((((((((w2.setCell ⟨bc,oc+who.toNat*13,none⟩ (.int .i64 c.gst)).setCell ⟨bc,oc+who.toNat*13+1,none⟩ (.bool c.permit)).setCell ⟨bc,oc+who.toNat*13+2,none⟩ (.int .i64 act)).setCell ⟨bc,oc+who.toNat*13+3,none⟩ (.int .i64 0)).setCell ⟨bc,oc+who.toNat*13+4,none⟩ (.int .i64 0)).setCell ⟨bc,oc+who.toNat*13+5,none⟩ (.int .i64 0)).setCell ⟨bc,oc+who.toNat*13+6,none⟩ (.bool false)).setCell ⟨bc,oc+who.toNat*13+7,none⟩ (.bool false)).setCell ⟨bc,oc+who.toNat*13+8,none⟩ (.int .i64 (-1))).setCell ⟨bc,oc+who.toNat*13+9,none⟩ (.bool false)).setCell ⟨bc,oc+who.toNat*13+10,none⟩ (.bool false)).setCell ⟨bc,oc+who.toNat*13+11,none⟩ (.int .i64 0)).setCell ⟨bc,oc+who.toNat*13+12,none⟩ (.int .i64 0)) bc oc (cl.set who.toNat (anew c act)):=O2.put13 HC.out (anew c act);have t0:(((((((((((((w2.setCell ⟨bc,oc+who.toNat*13,none⟩ (.int .i64 c.gst)).setCell ⟨bc,oc+who.toNat*13+1,none⟩ (.bool c.permit)).setCell ⟨bc,oc+who.toNat*13+2,none⟩ (.int .i64 act)).setCell ⟨bc,oc+who.toNat*13+3,none⟩ (.int .i64 0)).setCell ⟨bc,oc+who.toNat*13+4,none⟩ (.int .i64 0)).setCell ⟨bc,oc+who.toNat*13+5,none⟩ (.int .i64 0)).setCell ⟨bc,oc+who.toNat*13+6,none⟩ (.bool false)).setCell ⟨bc,oc+who.toNat*13+7,none⟩ (.bool false)).setCell ⟨bc,oc+who.toNat*13+8,none⟩ (.int .i64 (-1))).setCell ⟨bc,oc+who.toNat*13+9,none⟩ (.bool false)).setCell ⟨bc,oc+who.toNat*13+10,none⟩ (.bool false)).setCell ⟨bc,oc+who.toNat*13+11,none⟩ (.int .i64 0)).setCell ⟨bc,oc+who.toNat*13+12,none⟩ (.int .i64 0)).cell? ⟨bc,oc+who.toNat*13,none⟩=some (.int .i64 c.gst):=(T.at_ (j:=0) HS.out rfl).1;have t1:(((((((((((((w2.setCell ⟨bc,oc+who.toNat*13,none⟩ (.int .i64 c.gst)).setCell ⟨bc,oc+who.toNat*13+1,none⟩ (.bool c.permit)).setCell ⟨bc,oc+who.toNat*13+2,none⟩ (.int .i64 act)).setCell ⟨bc,oc+who.toNat*13+3,none⟩ (.int .i64 0)).setCell ⟨bc,oc+who.toNat*13+4,none⟩ (.int .i64 0)).setCell ⟨bc,oc+who.toNat*13+5,none⟩ (.int .i64 0)).setCell ⟨bc,oc+who.toNat*13+6,none⟩ (.bool false)).setCell ⟨bc,oc+who.toNat*13+7,none⟩ (.bool false)).setCell ⟨bc,oc+who.toNat*13+8,none⟩ (.int .i64 (-1))).setCell ⟨bc,oc+who.toNat*13+9,none⟩ (.bool false)).setCell ⟨bc,oc+who.toNat*13+10,none⟩ (.bool false)).setCell ⟨bc,oc+who.toNat*13+11,none⟩ (.int .i64 0)).setCell ⟨bc,oc+who.toNat*13+12,none⟩ (.int .i64 0)).cell? ⟨bc,oc+who.toNat*13+1,none⟩=some (.bool c.permit):=(T.at_ (j:=1) HS.out rfl).1;have G2:=hid ((zr W).dr.trans g2);have K3:Hid (Ko bc W (((((((((((((w2.setCell ⟨bc,oc+who.toNat*13,none⟩ (.int .i64 c.gst)).setCell ⟨bc,oc+who.toNat*13+1,none⟩ (.bool c.permit)).setCell ⟨bc,oc+who.toNat*13+2,none⟩ (.int .i64 act)).setCell ⟨bc,oc+who.toNat*13+3,none⟩ (.int .i64 0)).setCell ⟨bc,oc+who.toNat*13+4,none⟩ (.int .i64 0)).setCell ⟨bc,oc+who.toNat*13+5,none⟩ (.int .i64 0)).setCell ⟨bc,oc+who.toNat*13+6,none⟩ (.bool false)).setCell ⟨bc,oc+who.toNat*13+7,none⟩ (.bool false)).setCell ⟨bc,oc+who.toNat*13+8,none⟩ (.int .i64 (-1))).setCell ⟨bc,oc+who.toNat*13+9,none⟩ (.bool false)).setCell ⟨bc,oc+who.toNat*13+10,none⟩ (.bool false)).setCell ⟨bc,oc+who.toNat*13+11,none⟩ (.int .i64 0)).setCell ⟨bc,oc+who.toNat*13+12,none⟩ (.int .i64 0))):=hid ((((((((((((((Ko.gr G2.out).trans (Ko.st (p:=⟨bc,oc+who.toNat*13,none⟩) rfl _)).trans (Ko.st (p:=⟨bc,oc+who.toNat*13+1,none⟩) rfl _)).trans (Ko.st (p:=⟨bc,oc+who.toNat*13+2,none⟩) rfl _)).trans (Ko.st (p:=⟨bc,oc+who.toNat*13+3,none⟩) rfl _)).trans (Ko.st (p:=⟨bc,oc+who.toNat*13+4,none⟩) rfl _)).trans (Ko.st (p:=⟨bc,oc+who.toNat*13+5,none⟩) rfl _)).trans (Ko.st (p:=⟨bc,oc+who.toNat*13+6,none⟩) rfl _)).trans (Ko.st (p:=⟨bc,oc+who.toNat*13+7,none⟩) rfl _)).trans (Ko.st (p:=⟨bc,oc+who.toNat*13+8,none⟩) rfl _)).trans (Ko.st (p:=⟨bc,oc+who.toNat*13+9,none⟩) rfl _)).trans (Ko.st (p:=⟨bc,oc+who.toNat*13+10,none⟩) rfl _)).trans (Ko.st (p:=⟨bc,oc+who.toNat*13+11,none⟩) rfl _)).trans (Ko.st (p:=⟨bc,oc+who.toNat*13+12,none⟩) rfl _));have T2:=hid T;clear T O2 g2))
 clear p0 p1 p2 p3 p4 p5 p6 p7 p8 p9 p10 p11 p12 r0 r1 r2 r3 r4 r5 r6 r7 r8 r9 r10 r11 r12 t0 t1 e0 e1 f0 f1 d0 d1 cf;rename_i hh;clear hh;generalize (((((((((((((w2.setCell ⟨bc,oc+who.toNat*13,none⟩ (.int .i64 c.gst)).setCell ⟨bc,oc+who.toNat*13+1,none⟩ (.bool c.permit)).setCell ⟨bc,oc+who.toNat*13+2,none⟩ (.int .i64 act)).setCell ⟨bc,oc+who.toNat*13+3,none⟩ (.int .i64 0)).setCell ⟨bc,oc+who.toNat*13+4,none⟩ (.int .i64 0)).setCell ⟨bc,oc+who.toNat*13+5,none⟩ (.int .i64 0)).setCell ⟨bc,oc+who.toNat*13+6,none⟩ (.bool false)).setCell ⟨bc,oc+who.toNat*13+7,none⟩ (.bool false)).setCell ⟨bc,oc+who.toNat*13+8,none⟩ (.int .i64 (-1))).setCell ⟨bc,oc+who.toNat*13+9,none⟩ (.bool false)).setCell ⟨bc,oc+who.toNat*13+10,none⟩ (.bool false)).setCell ⟨bc,oc+who.toNat*13+11,none⟩ (.int .i64 0)).setCell ⟨bc,oc+who.toNat*13+12,none⟩ (.int .i64 0))=W3 at T2 K3 ⊢;have d1':=(K3.out.cell (p:=⟨b,1,none⟩) hbl hb).trans c1;have d2':=(K3.out.cell (p:=⟨b,2,none⟩) hbl hb).trans c2;obtain⟨R,hR,eR⟩:=HP.out W3 K3.out;have hk:who.toNat<pn:=by omega
 obtain⟨b4,o4,y,hA,hb4,hy,oky,ey⟩:=pmem_at hR hk;have hyl:y.l=pr:=by
  have h1:(P12.pl R)[who.toNat]?=some y.l:=by unfold P12.pl;rw [List.getElem?_map,hy];rfl
  rw [eR,HPR.out] at h1;cases h1;rfl
 have hyn:y.n=pr.length:=by rw [<- hyl];exact (okv_len oky).symm
 have hX:=hid hyl;clear hy oky hR eR hyl;rw [hyn] at ey;subst hA;by_cases hE:act=(pr.length:Int)
 . subst hE
   have E1:(cl.set who.toNat (anew c (pr.length:Int))).length=n:=by rw [List.length_set];exact HL.out
   have E2:(cl.set who.toNat (anew c (pr.length:Int))).map gor=cl.map gor:=map_gor_set HC.out rfl;have E3:∀ d∈cl.set who.toNat (anew c (pr.length:Int)),CB d:=λ d hd=>(List.mem_or_eq_of_mem_set hd).elim (HCB.out d) (λ e=>e▸anew_cb (HCB.out c (zmo HC.out)) ha)
   have E4:P11.outc P11.enG (cl.map gor) who=(0,(cl.map gor).set who.toNat (2,false)):=by
    have q:=P11.outc_at (p:=P11.enG) (k:=who.toNat) (x:=gor c) HR.out (by rw [List.getElem?_map,HC.out];rfl);rw [Int.toNat_of_nonneg w0] at q;have e:P11.enG (gor c)=(0,(2,false)):=if_pos HG.out;simpa [e] using q
   have E5:ChgG 65 (cl.set who.toNat (anew c (pr.length:Int))) who 0 n (((cl.set who.toNat (anew c (pr.length:Int))).map gor).set who.toNat (2,false)):=λ W A m d hm he=>by
    rw [E2] at hm ⊢;exact P11.End_at (by omega) E4 (by rw [List.length_set,List.length_map];exact HL.out) W hm
   have hcg:=hid (changeGor_yes (who:=who) (enters_of func65 (by kernel_rfl) rfl) (p:=0) d2' hb T2.out E1 hn E3 HS.out E5);clear E1 E2 E3 E4 E5;go_wp2_with fail;refine hcg.out.mono ?_;rintro e w4 ⟨rfl,o4,k4⟩;have HO4:=hid o4;have HK4:=hid k4;clear o4 k4;go_wp2_with fail
   go_end0
   have o4:=HO4.out;rw [List.set_set] at o4;have e:withG (anew c (pr.length:Int)) (2,false)=first c.gst c.permit (pr.length:Int) pr.length:=by
    unfold first anew withG;rw [if_pos rfl,if_pos rfl]
   rw [e] at o4;exact⟨rfl,o4,K3.out.trans HK4.out⟩
 . have hE':(act==(pr.length:Int))=false:=beq_eq_false_iff_ne.2 hE
   have e:anew c act=first c.gst c.permit act pr.length:=by
    unfold first anew;rw [if_neg hE,if_neg hE]
   have o3:=T2.out;rw [e] at o3;have O3:=hid o3;clear o3 e hE T2 HS;go_wp2_with fail
   go_end0
   exact⟨rfl,O3.out,K3.out⟩
end
end P16
end
section
namespace P16
open P14 (pan)
open P12 (PV PMem)
theorem Ko.kx {x:Cx} {W W':World} (h:Ko x.bc W W'):Kx x W W':=⟨h.os,h.tape,h.output,h.size,λ k hk _ h2 _=>h.block k hk h2⟩
theorem first_cb {c:Cl} {act:Int} {n:Nat} (h:CB c) (ha:B64 act):CB (first c.gst c.permit act n):=by
 unfold first;refine⟨?_,ha,b64_0,b64_0,b64_0,(show B64 (-1) from ⟨by omega,by omega⟩),b64_0,b64_0⟩;dsimp only
 split
 . exact⟨by omega,by omega⟩
 . exact h.gst
section
variable {x:Cx} {W W':World} {T E:Sl} {cl cl':List Cl} {mx:List T3} {tb:List Sp} {ev:List T3} {c:Cl} {a:T3} {pr:List Ac}
theorem TS.ko (h:TS x W T E cl mx tb ev) (k:Ko x.bc W W') (o:ORow clV 13 W' x.bc x.oc cl') (hl:cl'.length=cl.length) (hb:∀ c∈cl',CB c):TS x W' T E cl' mx tb ev :=
 { h with t:=by unfold Blk;rw [k.block x.b h.t.lt h.n1];exact h.t,c:=o,m:=h.m.kept (k.block x.bm h.m.lt h.n3.symm),cb:=hb,lenc:=hl.trans h.lenc,pr:=λ _ q=>h.pr _ (k.kx.kb.trans q),tb:=λ _ q=>h.tb _ (k.kx.kb.trans q),ev:=λ _ q=>h.ev _ (k.kx.kb.trans q) }
structure Rn (x:Cx) (cl:List Cl) (c:Cl) (pr:List Ac):Prop where
 hc:cl[x.who.toNat]?=some c
 g0:c.gst=0
 rg:P11.rightB (cl.map gor)=true
 hp:x.progs[x.who.toNat]?=some pr
 pl:pr.length<=64
 a0:0<=c.act
 a1:c.act<pr.length
 np:x.p.n=x.nc
 nc:x.nc<=8
theorem Rn.set (h:Rn x cl c pr) {d:Cl} (hg:gor d=gor c) (ha:d.act=c.act):Rn x (cl.set x.who.toNat d) d pr :=
 { h with hc:=by rw [zss (List.getElem?_eq_some_iff.1 h.hc).1],g0:=(congrArg Prod.fst hg).trans h.g0,rg:=by rw [map_gor_set h.hc hg];exact h.rg,a0:=by rw [ha];exact h.a0,a1:=by rw [ha];exact h.a1 }
theorem over_is (h:TS x W T E cl mx tb ev) (hR:Rn x cl c pr) :
 Calls prog 131 #[.pointer (some ⟨x.b,0,none⟩)] W λ e W'=>e=.returned (.tuple #[])/\TS x W' T E (cl.set x.who.toNat (over c pr.length)) mx tb ev/\Kx x W W':=by
 have hc:=hR.hc;have h1:=h.gr (zr W).dr;obtain⟨A,c1,c2,-⟩:=h1.cells;have ew:wrap64 (c.act+1)=c.act+1:=by have:=hR.a0;have:=hR.a1;have:=hR.pl;unfold wrap64;omega
 have ew2:IntKind.i64.wrap (c.act+1)=c.act+1:=by rw [IntWalk.i64_left];exact ew
 have hb:=hid (begin_is (who:=x.who) (act:=c.act+1) c1 c2 h1.n1 h1.c h1.lenc (by have:=hR.nc;omega) h1.cb h1.w0 h1.w1 hc (λ W' k=>h1.pr W' k.kx.kb) hR.np hR.hp (by have:=hR.pl;omega) (by have:=hR.a0;have:=hR.a1;have:=hR.pl;exact⟨by omega,by omega⟩) hR.g0 hR.rg);have hcb:=hid (show CB (over c pr.length) from first_cb (h.cb c (zmo hc)) (by have:=hR.a0;have:=hR.a1;have:=hR.pl;exact⟨by omega,by omega⟩));have H:=hid h;obtain⟨-,-,-,-,-,-,c6,c7,-,-,-,-⟩:=h.cells;obtain⟨-,-,s2,-⟩:=h.cl_ hc;clear h h1 A c1 c2;go_enter func131,ntmps131;go_upto_region 0 with fail;refine wp_region_held_drew (S:=(λ w'=>w'.cell? ⟨x.b,6,none⟩=some (.int .i64 x.who)/\w'.cell? ⟨x.b,7,none⟩=some (.pointer (some ⟨x.bc,x.oc+x.who.toNat*13,none⟩)))) (by kernel_rfl) ⟨c6,c7⟩ (λ hS=>?_);refine wG 0 hS ?_;refine wG 1 hS ?_;refine wG 2 hS ?_;refine wG 3 hS ?_;refine wG 4 hS ?_;refine wG 5 hS ?_;refine wG 6 hS ?_;refine wG 7 hS ?_;refine wG 8 hS ?_;refine wG 9 hS ?_;refine wG 10 hS ?_;refine wG 11 hS ?_;refine wG 12 hS ?_;refine wR1 13 (λ K hK=>?_);go_simp;refine hK.out _ _ ⟨c6,c7⟩ (λ hS=>?_);clear hK K
 try simp only [pL]
 refine wG 14 hS ?_;refine wR1 15 (λ K hK=>?_);go_simp;go_at_call 36;refine hb.out.mono ?_;rintro ee w2 ⟨rfl,o2,k2⟩;go_wp2_with fail;have h2:=(H.out.gr (zr W).dr).ko k2 o2 (List.length_set ..) (λ d hd=>(List.mem_or_eq_of_mem_set hd).elim (H.out.cb d) (λ e=>e▸hcb.out));obtain⟨-,-,-,-,-,-,d6,d7,-,-,-,-⟩:=h2.cells;refine hK.out _ _ ⟨d6,d7⟩ (λ hS=>?_);clear hK K
 try simp only [pL]
 refine wpAnyH_done (by kernel_rfl) ?_ _;go_wp2_with fail
 go_end0
 exact⟨rfl,h2,(Kx.gr (zr W).dr).trans k2.kx⟩
theorem ends_is (h:TS x W T ⟨none,0,0⟩ cl mx tb []) (hR:Rn x cl c pr) {v:Int} (hv:B64 v) :
 Calls prog 134 #[.pointer (some ⟨x.b,0,none⟩),.int .i64 v] W λ e W'=>e=.returned (.tuple #[])/\(∃ E,TS x W' T E (cl.set x.who.toNat (over c pr.length)) mx tb [(x.who,v,x.n)])/\Kx x W W':=by
 have ht:=hid (tell_is h v hv);clear h;go_enter func134,ntmps134;go_wp2_with fail;refine ht.out.mono ?_;rintro e w1 ⟨rfl,⟨E1,h1⟩,k1⟩;have ho:=hid (over_is h1 hR);have K1:=hid k1;clear h1 k1;go_wp2_with fail;refine ho.out.mono ?_;rintro e w2 ⟨rfl,h2,k2⟩;have H2:=hid h2;have K2:=hid k2;clear h2 k2;go_wp2_with fail
 go_end0
 exact⟨rfl,⟨E1,H2.out⟩,K1.out.trans K2.out⟩
end
end P16
end
def wd (k v:Int):Int:=if k=0 then wrap32 v else if k=1 then v % 4294967296 else v
theorem shapeOf_0 (w:World):Calls prog 166 #[.int .i64 0] w λ e w'=>e=.returned (.agg #[.int .i64 32,.bool true])/\Gr w w':=by
 go_enter func166,ntmps166;go_wp2;exact bodyPost_ret (v:=.agg #[.int .i64 32,.bool true]) (by simp [results,results166,go_sem]) rfl ⟨rfl,((zr _).al _).al _⟩
theorem shapeOf_1 (w:World):Calls prog 166 #[.int .i64 1] w λ e w'=>e=.returned (.agg #[.int .i64 32,.bool false])/\Gr w w':=by
 go_enter func166,ntmps166;go_wp2;exact bodyPost_ret (v:=.agg #[.int .i64 32,.bool false]) (by simp [results,results166,go_sem]) rfl ⟨rfl,((zr _).al _).al _⟩
theorem shapeOf_2 (w:World):Calls prog 166 #[.int .i64 2] w λ e w'=>e=.returned (.agg #[.int .i64 64,.bool true])/\Gr w w':=by
 go_enter func166,ntmps166;go_wp2;exact bodyPost_ret (v:=.agg #[.int .i64 64,.bool true]) (by simp [results,results166,go_sem]) rfl ⟨rfl,((zr _).al _).al _⟩
theorem shapeOf_no (k:Int) (w:World) (hk:k<0\/2<k):Calls prog 166 #[.int .i64 k] w λ e w'=>e=.returned (.agg #[.int .i64 0,.bool false])/\Gr w w':=by
 have h0:(k==0)=false:=beq_eq_false_iff_ne.2 (by omega);have h1:(k==1)=false:=beq_eq_false_iff_ne.2 (by omega);have h2:(k==2)=false:=beq_eq_false_iff_ne.2 (by omega);clear hk;go_enter func166,ntmps166;go_wp2;exact bodyPost_ret (v:=.agg #[.int .i64 0,.bool false]) (by simp [results,results166,go_sem]) rfl ⟨rfl,((zr _).al _).al _⟩
theorem wrapA (v:Int):wrap64 (v*4294967296) / 4294967296=wrap32 v:=by unfold wrap64 wrap32;omega
theorem wrapB (v:Int):wrap64 (IntKind.u64.wrap (IntKind.u64.wrap v*4294967296) / 4294967296)=v % 4294967296:=by
 simp only [IntKind.wrap_u64,wrap64];omega
theorem ret_i64 {a b:Int} (h:a=b):Ending.returned (.int .i64 a)=.returned (.int .i64 b):=by rw [h]
theorem swrap_0 (v:Int) (w:World):Calls prog 167 #[.agg #[.int .i64 32,.bool true],.int .i64 v] w λ e w'=>e=.returned (.int .i64 (wd 0 v))/\Gr w w':=by
 go_enter func167,ntmps167;go_wp2;go_ret;exact⟨ret_i64 (wrapA v),(zr _).al _⟩
theorem swrap_1 (v:Int) (w:World):Calls prog 167 #[.agg #[.int .i64 32,.bool false],.int .i64 v] w λ e w'=>e=.returned (.int .i64 (wd 1 v))/\Gr w w':=by
 go_enter func167,ntmps167;go_wp2;go_ret;exact⟨ret_i64 (wrapB v),(zr _).al _⟩
theorem swrap_2 (v:Int) (w:World) (h1:-9223372036854775808<=v) (h2:v<=9223372036854775807):Calls prog 167 #[.agg #[.int .i64 64,.bool true],.int .i64 v] w λ e w'=>e=.returned (.int .i64 (wd 2 v))/\Gr w w':=by
 go_enter func167,ntmps167;go_wp2;go_ret;exact⟨ret_i64 (by simp [wd]),(zr _).al _⟩
theorem Wrap_0 (v:Int) (w:World):Calls prog 219 #[.int .i64 0,.int .i64 v] w λ e w'=>e=.returned (.tuple #[.int .i64 (wd 0 v),.int .i64 0])/\Gr w w':=by
 go_enter func219,ntmps219;go_wp2_with fail;refine (shapeOf_0 _).mono ?_;rintro e w1 ⟨rfl,hb1⟩;go_wp2_with fail;refine (swrap_0 v _).mono ?_;rintro e w2 ⟨rfl,hb2⟩;go_wp2_with fail;go_ret2;exact⟨rfl,(hb1.al _).trans hb2⟩
theorem Wrap_1 (v:Int) (w:World):Calls prog 219 #[.int .i64 1,.int .i64 v] w λ e w'=>e=.returned (.tuple #[.int .i64 (wd 1 v),.int .i64 0])/\Gr w w':=by
 go_enter func219,ntmps219;go_wp2_with fail;refine (shapeOf_1 _).mono ?_;rintro e w1 ⟨rfl,hb1⟩;go_wp2_with fail;refine (swrap_1 v _).mono ?_;rintro e w2 ⟨rfl,hb2⟩;go_wp2_with fail;go_ret2;exact⟨rfl,(hb1.al _).trans hb2⟩
theorem Wrap_2 (v:Int) (w:World) (h1:-9223372036854775808<=v) (h2:v<=9223372036854775807):Calls prog 219 #[.int .i64 2,.int .i64 v] w λ e w'=>e=.returned (.tuple #[.int .i64 (wd 2 v),.int .i64 0])/\Gr w w':=by
 go_enter func219,ntmps219;go_wp2_with fail;refine (shapeOf_2 _).mono ?_;rintro e w1 ⟨rfl,hb1⟩;go_wp2_with fail;refine (swrap_2 v _ h1 h2).mono ?_;rintro e w2 ⟨rfl,hb2⟩;go_wp2_with fail;go_ret2;exact⟨rfl,(hb1.al _).trans hb2⟩
theorem Wrap_ok (k v:Int) (w:World) (hk:0<=k/\k<=2) (hv:-9223372036854775808<=v/\v<=9223372036854775807):Calls prog 219 #[.int .i64 k,.int .i64 v] w λ e w'=>e=.returned (.tuple #[.int .i64 (wd k v),.int .i64 0])/\Gr w w':=by
 obtain rfl | rfl | rfl:k=0\/k=1\/k=2:=by omega
 . exact Wrap_0 v w
 . exact Wrap_1 v w
 . exact Wrap_2 v w hv.1 hv.2
theorem wrap64_b (v:Int):-9223372036854775808<=wrap64 v/\wrap64 v<=9223372036854775807:=by unfold wrap64;omega
theorem Add_ok (k a b:Int) (w:World) (hk:0<=k/\k<=2):Calls prog 220 #[.int .i64 k,.int .i64 a,.int .i64 b] w λ e w'=>e=.returned (.tuple #[.int .i64 (wd k (wrap64 (a+b))),.int .i64 0])/\Gr w w':=by
 go_enter func220,ntmps220;go_wp2_with fail;refine (Wrap_ok k (wrap64 (a+b)) _ hk (wrap64_b _)).mono ?_;rintro e w1 ⟨rfl,hb1⟩;go_wp2_with fail;go_ret2;exact⟨rfl,hb1⟩
theorem Fits_0 (v:Int) (w:World):Calls prog 122 #[.int .i64 0,.int .i64 v] w λ e w'=>e=.returned (.bool (wd 0 v==v))/\Gr w w':=by
 go_enter func122,ntmps122;go_wp2_with fail;refine (shapeOf_0 _).mono ?_;rintro e w1 ⟨rfl,hb1⟩;go_wp2_with fail;refine (swrap_0 v _).mono ?_;rintro e w2 ⟨rfl,hb2⟩;go_wp2_with fail;go_ret;exact⟨rfl,(hb1.al _).trans hb2⟩
theorem Fits_1 (v:Int) (w:World):Calls prog 122 #[.int .i64 1,.int .i64 v] w λ e w'=>e=.returned (.bool (wd 1 v==v))/\Gr w w':=by
 go_enter func122,ntmps122;go_wp2_with fail;refine (shapeOf_1 _).mono ?_;rintro e w1 ⟨rfl,hb1⟩;go_wp2_with fail;refine (swrap_1 v _).mono ?_;rintro e w2 ⟨rfl,hb2⟩;go_wp2_with fail;go_ret;exact⟨rfl,(hb1.al _).trans hb2⟩
theorem Fits_2 (v:Int) (w:World) (h1:-9223372036854775808<=v) (h2:v<=9223372036854775807):Calls prog 122 #[.int .i64 2,.int .i64 v] w λ e w'=>e=.returned (.bool (wd 2 v==v))/\Gr w w':=by
 go_enter func122,ntmps122;go_wp2_with fail;refine (shapeOf_2 _).mono ?_;rintro e w1 ⟨rfl,hb1⟩;go_wp2_with fail;refine (swrap_2 v _ h1 h2).mono ?_;rintro e w2 ⟨rfl,hb2⟩;go_wp2_with fail;go_ret;exact⟨rfl,(hb1.al _).trans hb2⟩
theorem Fits_no (k v:Int) (w:World) (hk:k<0\/2<k):Calls prog 122 #[.int .i64 k,.int .i64 v] w λ e w'=>e=.returned (.bool false)/\Gr w w':=by
 go_enter func122,ntmps122;go_wp2_with fail;refine (shapeOf_no k _ hk).mono ?_;rintro e w1 ⟨rfl,hb1⟩;go_wp2_with fail;go_ret;exact⟨rfl,hb1.al _⟩
def fitB (k v:Int):Bool:=decide (0<=k/\k<=2)&&wd k v==v
theorem Fits_ok (k v:Int) (w:World) (hv:-9223372036854775808<=v/\v<=9223372036854775807):Calls prog 122 #[.int .i64 k,.int .i64 v] w λ e w'=>e=.returned (.bool (fitB k v))/\Gr w w':=by
 by_cases hk:0<=k/\k<=2
 . have hf:fitB k v=(wd k v==v):=by simp [fitB,hk]
   rw [hf];obtain rfl | rfl | rfl:k=0\/k=1\/k=2:=by omega
   . exact Fits_0 v w
   . exact Fits_1 v w
   . exact Fits_2 v w hv.1 hv.2
 . have hf:fitB k v=false:=by simp [fitB,hk]
   rw [hf];exact Fits_no k v w (by omega)
section
open Go.RowKit
theorem Add_is {k a b r:Int} (hr:wd k (wrap64 (a+b))=r) (hk:0<=k/\k<=2) (w:World):Calls prog 220 #[.int .i64 k,.int .i64 a,.int .i64 b] w λ e w'=>e=.returned (.tuple #[.int .i64 r,.int .i64 0])/\Gr w w' :=
 hr▸Add_ok k a b w hk
theorem Wrap_is {k v r:Int} (hr:wd k v=r) (hk:0<=k/\k<=2) (hv:-9223372036854775808<=v/\v<=9223372036854775807) (w:World):Calls prog 219 #[.int .i64 k,.int .i64 v] w λ e w'=>e=.returned (.tuple #[.int .i64 r,.int .i64 0])/\Gr w w' :=
 hr▸Wrap_ok k v w hk hv
theorem Fits_is {k v:Int} {r:Bool} (hr:fitB k v=r) (hv:-9223372036854775808<=v/\v<=9223372036854775807) (w:World):Calls prog 122 #[.int .i64 k,.int .i64 v] w λ e w'=>e=.returned (.bool r)/\Gr w w' :=
 hr▸Fits_ok k v w hv
end
section
namespace P6
def outT (n s:Int):Int:=wd 1 (wrap64 (n-s))
def up1 (v:Int):Int:=wd 1 (wrap64 (v+1))
def tkB (n s:Int):Bool:=fitB 1 n&&fitB 1 s
def B64 (v:Int):Prop:=-9223372036854775808<=v/\v<=9223372036854775807
def Two (w:World) (g:Nat) (n s:Int):Prop:=w.heap[g]?=some (.cells #[.int .i64 n,.int .i64 s] 46 (0,0))
section
variable {w w':World} {g:Nat} {n s:Int}
theorem Two.lt (h:Two w g n s):g<w.heap.size:=(zal h)
theorem Two.new (w:World) (n s:Int):Two (w.alloc (.cells #[.int .i64 n,.int .i64 s] 46)) w.heap.size n s:=heap_alloc_new w _
theorem Two.gr (h:Two w g n s) (G:Gr w w'):Two w' g n s:=(G.block g h.lt).trans h
theorem Two.cells (h:Two w g n s):w.cell? ⟨g,0,none⟩=some (.int .i64 n)/\w.cell? ⟨g,1,none⟩=some (.int .i64 s) :=
 ⟨by rw [cell_of_row w g 0 _ _ (0,0) h];rfl,by rw [cell_of_row w g 1 _ _ (0,0) h];rfl⟩
theorem Two.frozen (h:Two w g n s) (i:Nat):w.frozen? ⟨g,i,none⟩=false:=by
 unfold Two at h;simp [World.frozen?,h]
theorem Two.far (h:Two w g n s) {p:Addr} (hp:g≠p.block) (u:Value):Two (w.setCell p u) g n s:=(Below.heap_setCell w p u g hp).trans h
theorem Two.set0 (h:Two w g n s) (x:Int):Two (w.setCell ⟨g,0,none⟩ (.int .i64 x)) g x s:=by
 unfold Two at h ⊢;simp [World.setCell,Array.getElem?_modify,h]
theorem Two.set1 (h:Two w g n s) (x:Int):Two (w.setCell ⟨g,1,none⟩ (.int .i64 x)) g n x:=by
 unfold Two at h ⊢;simp [World.setCell,Array.getElem?_modify,h]
end
theorem Right_is {n s:Int} {r:Bool} (hr:tkB n s=r) (hn:B64 n) (hs:B64 s) (w:World) :
 Calls prog 90 #[.agg #[.int .i64 n,.int .i64 s]] w λ e w'=>e=.returned (.bool r)/\Gr w w':=by
 obtain⟨a,ha⟩:∃ a,fitB 1 n=a:=⟨_,rfl⟩;obtain⟨b,hb⟩:∃ b,fitB 1 s=b:=⟨_,rfl⟩;unfold tkB at hr;rw [ha,hb] at hr;subst hr;have c1:=λ w=>hid (Fits_is ha hn w)
 have c2:=λ w=>hid (Fits_is hb hs w)
 clear ha hb;cases a
 . go_enter func90,ntmps90
   go_wp2_with fail;refine (c1 _).out.mono ?_;rintro e w1 ⟨rfl,hb1⟩;go_wp2_with fail;go_ret;exact⟨rfl,((zr w).al _).trans hb1⟩
 . go_enter func90,ntmps90
   go_wp2_with fail;refine (c1 _).out.mono ?_;rintro e w1 ⟨rfl,hb1⟩;have X:=(Two.new w n s).gr hb1;obtain⟨q0,q1⟩:=X.cells;go_wp2_with fail;refine (c2 _).out.mono ?_;rintro e w2 ⟨rfl,hb2⟩;go_wp2_with fail;go_ret;exact⟨rfl,(((zr w).al _).trans hb1).trans hb2⟩
theorem out_is {n s r:Int} (hr:outT n s=r) (w:World) :
 Calls prog 210 #[.agg #[.int .i64 n,.int .i64 s]] w λ e w'=>e=.returned (.int .i64 r)/\Gr w w':=by
 have c1:=λ w=>hid (Wrap_is (k:=1) (v:=wrap64 (n-s)) hr (by omega) (wrap64_b _) w)
 clear hr;go_enter func210,ntmps210;go_wp2_with fail;refine (c1 _).out.mono ?_;rintro e w1 ⟨rfl,hb1⟩;go_wp2_with fail;go_ret;exact⟨rfl,((zr w).al _).trans hb1⟩
theorem served_is {n s m:Int} {r:Bool} (hr:(m==s)=r) (w:World) :
 Calls prog 189 #[.agg #[.int .i64 n,.int .i64 s,.int .i64 m]] w λ e w'=>e=.returned (.bool r)/\Gr w w':=by
 go_enter func189,ntmps189;go_wp2_with fail;go_ret;exact⟨rfl,(zr w).al _⟩
theorem toldI_yes {n s r:Int} (hr:tkB n s=true) (ho:outT n s=r) (hn:B64 n) (hs:B64 s) (w:World) :
 Calls prog 209 #[.agg #[.int .i64 n,.int .i64 s],.func (.func 210) #[.agg #[.int .i64 n,.int .i64 s]] #[]] w λ e w'=>e=.returned (.tuple #[.int .i64 r,.int .i64 0])/\Gr w w':=by
 have c1:=λ w=>hid (Right_is hr hn hs w)
 have c2:=λ w=>hid (out_is ho w)
 clear hr ho;go_enter func209,ntmps209;go_wp2_with fail;refine (c1 _).out.mono ?_;rintro e w1 ⟨rfl,hb1⟩;go_wp2_with fail;refine (c2 _).out.mono ?_;rintro e w2 ⟨rfl,hb2⟩;go_wp2_with fail;go_ret2;exact⟨rfl,(((zr w).al _).trans hb1).trans hb2⟩
theorem toldI_no {n s:Int} (hr:tkB n s=false) (hn:B64 n) (hs:B64 s) (f:Value) (w:World) :
 Calls prog 209 #[.agg #[.int .i64 n,.int .i64 s],f] w λ e w'=>e=.returned (.tuple #[.int .i64 0,.int .i64 1])/\Gr w w':=by
 have c1:=λ w=>hid (Right_is hr hn hs w)
 clear hr;go_enter func209,ntmps209;go_wp2_with fail;refine (c1 _).out.mono ?_;rintro e w1 ⟨rfl,hb1⟩;go_wp2_with fail;go_ret2;exact⟨rfl,((zr w).al _).trans hb1⟩
theorem toldB_yes {n s m:Int} {r:Bool} (hr:tkB n s=true) (ho:(m==s)=r) (hn:B64 n) (hs:B64 s) (w:World) :
 Calls prog 188 #[.agg #[.int .i64 n,.int .i64 s],.func (.func 189) #[.agg #[.int .i64 n,.int .i64 s,.int .i64 m]] #[]] w λ e w'=>e=.returned (.tuple #[.bool r,.int .i64 0])/\Gr w w':=by
 have c1:=λ w=>hid (Right_is hr hn hs w)
 have c2:=λ w=>hid (served_is (n:=n) ho w)
 clear hr ho;go_enter func188,ntmps188;go_wp2_with fail;refine (c1 _).out.mono ?_;rintro e w1 ⟨rfl,hb1⟩;go_wp2_with fail;refine (c2 _).out.mono ?_;rintro e w2 ⟨rfl,hb2⟩;go_wp2_with fail;go_ret2;exact⟨rfl,(((zr w).al _).trans hb1).trans hb2⟩
theorem toldB_no {n s:Int} (hr:tkB n s=false) (hn:B64 n) (hs:B64 s) (f:Value) (w:World) :
 Calls prog 188 #[.agg #[.int .i64 n,.int .i64 s],f] w λ e w'=>e=.returned (.tuple #[.bool false,.int .i64 1])/\Gr w w':=by
 have c1:=λ w=>hid (Right_is hr hn hs w)
 clear hr;go_enter func188,ntmps188;go_wp2_with fail;refine (c1 _).out.mono ?_;rintro e w1 ⟨rfl,hb1⟩;go_wp2_with fail;go_ret2;exact⟨rfl,((zr w).al _).trans hb1⟩
def OutIs (n s v q:Int):Prop:=(tkB n s=true/\outT n s=v/\q=0)\/(tkB n s=false/\v=0/\q=1)
def TurnIs (n s m:Int) (v:Bool) (q:Int):Prop:=(tkB n s=true/\(m==s)=v/\q=0)\/(tkB n s=false/\v=false/\q=1)
theorem Out_is {n s v q:Int} (h:OutIs n s v q) (hn:B64 n) (hs:B64 s) (w:World) :
 Calls prog 186 #[.agg #[.int .i64 n,.int .i64 s]] w λ e w'=>e=.returned (.tuple #[.int .i64 v,.int .i64 q])/\Gr w w':=by
 have hmf:=mkF;have c:∀ w,Hid (Calls prog 209 #[.agg #[.int .i64 n,.int .i64 s],.func (.func 210) #[.agg #[.int .i64 n,.int .i64 s]] #[]] w λ e w'=>e=.returned (.tuple #[.int .i64 v,.int .i64 q])/\Gr w w'):=λ w=>by
  rcases h with ⟨h1,h2,rfl⟩ | ⟨h1,rfl,rfl⟩
  . exact hid (toldI_yes h1 h2 hn hs w)
  . exact hid (toldI_no h1 hn hs _ w)
 clear h;go_enter func186,ntmps186;go_wp2_with fail;refine (c _).out.mono ?_;rintro e w1 ⟨rfl,hb1⟩;go_wp2_with fail;go_ret2;exact⟨rfl,((zr w).al _).trans hb1⟩
theorem Turn_is {n s m:Int} {v:Bool} {q:Int} (h:TurnIs n s m v q) (hn:B64 n) (hs:B64 s) (w:World) :
 Calls prog 148 #[.agg #[.int .i64 n,.int .i64 s],.int .i64 m] w λ e w'=>e=.returned (.tuple #[.bool v,.int .i64 q])/\Gr w w':=by
 have hmf:=mkF;have c:∀ w,Hid (Calls prog 188 #[.agg #[.int .i64 n,.int .i64 s],.func (.func 189) #[.agg #[.int .i64 n,.int .i64 s,.int .i64 m]] #[]] w λ e w'=>e=.returned (.tuple #[.bool v,.int .i64 q])/\Gr w w'):=λ w=>by
  rcases h with ⟨h1,h2,rfl⟩ | ⟨h1,rfl,rfl⟩
  . exact hid (toldB_yes h1 h2 hn hs w)
  . exact hid (toldB_no h1 hn hs _ w)
 clear h;go_enter func148,ntmps148;go_wp2_with fail;refine (c _).out.mono ?_;rintro e w1 ⟨rfl,hb1⟩;go_wp2_with fail;go_ret2;exact⟨rfl,((zr w).al _).trans hb1⟩
theorem advance_is {v x:Int} (hx:up1 v=x) (b o:Nat) (w:World) (hc:w.cell? ⟨b,o,none⟩=some (.int .i64 v)) (hz:w.frozen? ⟨b,o,none⟩=false) (hl:b<w.heap.size) :
 Calls prog 211 #[.pointer (some ⟨b,o,none⟩)] w λ e w'=>e=.returned (.tuple #[])/\∃ w1,Gr w w1/\w'=w1.setCell ⟨b,o,none⟩ (.int .i64 x):=by
 have c1:=λ w=>hid (Add_is (k:=1) (a:=v) (b:=1) hx (by omega) w)
 clear hx;go_enter func211,ntmps211;go_wp2_with fail;refine (c1 _).out.mono ?_;rintro e w1 ⟨rfl,hb1⟩;have hc1:=(hb1.cell (p:=⟨b,o,none⟩) hl).trans hc;have hz1:=(hb1.frozen (p:=⟨b,o,none⟩) hl).trans hz;go_wp2_with fail
 go_end0
 exact⟨rfl,w1,hb1,rfl⟩
theorem advance_d {v x:Int} (hx:up1 v=x) (b o:Nat) (u:FrameMode) (w:World) (hc:w.cell? ⟨b,o,none⟩=some (.int .i64 v)) (hz:w.frozen? ⟨b,o,none⟩=false) (hl:b<w.heap.size) :
 CallsD prog 211 #[.pointer (some ⟨b,o,none⟩)] u w λ e u' w'=>u'=u/\(e=.returned (.tuple #[])/\∃ w1,Gr w w1/\w'=w1.setCell ⟨b,o,none⟩ (.int .i64 x)):=by
 have c1:=λ w=>hid (Add_is (k:=1) (a:=v) (b:=1) hx (by omega) w)
 clear hx
 go_enter_d func211,ntmps211
 go_wp2_with fail;refine (c1 _).out.mono ?_;rintro e w1 ⟨rfl,hb1⟩;have hc1:=(hb1.cell (p:=⟨b,o,none⟩) hl).trans hc;have hz1:=(hb1.frozen (p:=⟨b,o,none⟩) hl).trans hz;go_wp2_with fail
 go_end0
 exact⟨rfl,w1,hb1,rfl⟩
theorem take_is {v x:Int} (hx:up1 v=x) (b o:Nat) (w:World) (hc:w.cell? ⟨b,o,none⟩=some (.int .i64 v)) (hz:w.frozen? ⟨b,o,none⟩=false) (hl:b<w.heap.size) :
 Calls prog 187 #[.pointer (some ⟨b,o,none⟩)] w λ e w'=>e=.returned (.int .i64 v)/\∃ w1,Gr w w1/\w'=w1.setCell ⟨b,o,none⟩ (.int .i64 x):=by
 go_enter_defers func187,ntmps187
 go_wp2;refine leaves_cons (f:=211) (args:=#[.pointer (some ⟨b,o,none⟩)]) (by simp) (by simp [go_sem]) ?_;refine (advance_d hx b o .returning _ (by simpa using hc) (by simpa using hz) (by simpa using hl)).mono ?_;rintro e u' w'' ⟨rfl,rfl,w1,hg,rfl⟩;exact⟨_,results_tmp rfl _ _ _,rfl,w1,hg,rfl⟩
theorem Draw_no {n s:Int} (h:tkB n s=false) (hn:B64 n) (hs:B64 s) (w:World) :
 Calls prog 147 #[.agg #[.int .i64 n,.int .i64 s]] w λ e w'=>e=.returned (.tuple #[.agg #[.int .i64 0,.int .i64 0],.int .i64 0,.int .i64 1])/\Gr w w':=by
 have c1:=λ w=>hid (Out_is (.inr ⟨h,rfl,rfl⟩) hn hs w)
 go_enter func147,ntmps147;go_wp2_with fail;refine (c1 _).out.mono ?_;rintro e w1 ⟨rfl,hb1⟩;have X:=(Two.new (w.alloc (.cells #[.int .i64 n,.int .i64 s] 46)) 0 0).gr hb1;have G:=(((zr w).al _).al _).trans hb1;obtain⟨q0,q1⟩:=X.cells;have f0:=X.frozen 0;have f1:=X.frozen 1;simp at q0 q1 f0 f1;go_wp2_with fail;refine bodyPost_ret (v:=.tuple #[.agg #[.int .i64 0,.int .i64 0],.int .i64 0,.int .i64 1]) (by simp [results,results147,go_sem,q0,q1]) rfl ⟨rfl,?_⟩;exact (G.st (by simp) _).st (by simp) _
theorem Draw_full {n s:Int} (h:tkB n s=true) (ho:outT n s=4294967295) (hn:B64 n) (hs:B64 s) (w:World) :
 Calls prog 147 #[.agg #[.int .i64 n,.int .i64 s]] w λ e w'=>e=.returned (.tuple #[.agg #[.int .i64 0,.int .i64 0],.int .i64 0,.int .i64 5])/\Gr w w':=by
 have c1:=λ w=>hid (Out_is (.inl ⟨h,ho,rfl⟩) hn hs w)
 clear ho;go_enter func147,ntmps147;go_wp2_with fail;refine (c1 _).out.mono ?_;rintro e w1 ⟨rfl,hb1⟩;have X:=(Two.new (w.alloc (.cells #[.int .i64 n,.int .i64 s] 46)) 0 0).gr hb1;have G:=(((zr w).al _).al _).trans hb1;obtain⟨q0,q1⟩:=X.cells;have f0:=X.frozen 0;have f1:=X.frozen 1;simp at q0 q1 f0 f1;go_wp2_with fail;refine bodyPost_ret (v:=.tuple #[.agg #[.int .i64 0,.int .i64 0],.int .i64 0,.int .i64 5]) (by simp [results,results147,go_sem,q0,q1]) rfl ⟨rfl,?_⟩;exact (G.st (by simp) _).st (by simp) _
theorem Draw_yes {n s x:Int} (h:tkB n s=true) (ho:outT n s≠4294967295) (hx:up1 n=x) (hn:B64 n) (hs:B64 s) (w:World) :
 Calls prog 147 #[.agg #[.int .i64 n,.int .i64 s]] w λ e w'=>e=.returned (.tuple #[.agg #[.int .i64 x,.int .i64 s],.int .i64 n,.int .i64 0])/\Gr w w':=by
 obtain⟨v,hv⟩:∃ v,outT n s=v:=⟨_,rfl⟩;rw [hv] at ho;have hne:(v==4294967295)=false:=beq_eq_false_iff_ne.2 ho;have c1:=λ w=>hid (Out_is (.inl ⟨h,hv,rfl⟩) hn hs w)
 have HX:=hid hx;clear ho hv hx;go_enter func147,ntmps147;go_wp2_with fail;refine (c1 _).out.mono ?_;rintro e w1 ⟨rfl,hb1⟩;have X:=(Two.new (w.alloc (.cells #[.int .i64 n,.int .i64 s] 46)) 0 0).gr hb1;have Y:=((Two.new w n s).gr ((zr _).al (.cells #[.int .i64 0,.int .i64 0] 46))).gr hb1;have G:=(((zr w).al _).al _).trans hb1;rw [show (w.alloc (.cells #[.int .i64 n,.int .i64 s] 46)).heap.size=w.heap.size+1 from by simp] at X;go_wp2_with fail;refine (take_is HX.out w.heap.size 0 _ Y.cells.1 (Y.frozen 0) Y.lt).mono ?_;rintro e w2 ⟨rfl,w3,hb3,rfl⟩;replace Y:=(Y.gr hb3).set0 x;replace X:=(X.gr hb3).far (p:=⟨w.heap.size,0,none⟩) (by simp) (.int .i64 x);replace G:=(G.trans hb3).st (p:=⟨w.heap.size,0,none⟩) (Nat.le_refl _) (.int .i64 x);generalize hW:w3.setCell ⟨w.heap.size,0,none⟩ (.int .i64 x)=W at *;obtain⟨y0,y1⟩:=Y.cells;obtain⟨q0,q1⟩:=X.cells;have f0:=X.frozen 0;have f1:=X.frozen 1;have e1:w.heap.size+1≠w.heap.size:=by omega
 clear hW;go_wp2_with fail;refine bodyPost_ret (v:=.tuple #[.agg #[.int .i64 x,.int .i64 s],.int .i64 n,.int .i64 0]) (by simp [results,results147,go_sem,q0,q1]) rfl ⟨rfl,?_⟩;exact (G.st (by simp) _).st (by simp) _
theorem Done_none {n s:Int} (h:tkB n s=true) (ho:outT n s=0) (hn:B64 n) (hs:B64 s) (w:World) :
 Calls prog 193 #[.agg #[.int .i64 n,.int .i64 s]] w λ e w'=>e=.returned (.tuple #[.agg #[.int .i64 0,.int .i64 0],.int .i64 6])/\Gr w w':=by
 have c1:=λ w=>hid (Out_is (.inl ⟨h,ho,rfl⟩) hn hs w)
 clear ho;go_enter func193,ntmps193;go_wp2_with fail;refine (c1 _).out.mono ?_;rintro e w1 ⟨rfl,hb1⟩;have X:=(Two.new (w.alloc (.cells #[.int .i64 n,.int .i64 s] 46)) 0 0).gr hb1;have G:=(((zr w).al _).al _).trans hb1;obtain⟨q0,q1⟩:=X.cells;have f0:=X.frozen 0;have f1:=X.frozen 1;simp at q0 q1 f0 f1;go_wp2_with fail;refine bodyPost_ret (v:=.tuple #[.agg #[.int .i64 0,.int .i64 0],.int .i64 6]) (by simp [results,results193,go_sem,q0,q1]) rfl ⟨rfl,?_⟩;exact (G.st (by simp) _).st (by simp) _
theorem Done_yes {n s x:Int} (h:tkB n s=true) (ho:outT n s≠0) (hx:up1 s=x) (hn:B64 n) (hs:B64 s) (w:World) :
 Calls prog 193 #[.agg #[.int .i64 n,.int .i64 s]] w λ e w'=>e=.returned (.tuple #[.agg #[.int .i64 n,.int .i64 x],.int .i64 0])/\Gr w w':=by
 obtain⟨v,hv⟩:∃ v,outT n s=v:=⟨_,rfl⟩;rw [hv] at ho;have hne:(v==0)=false:=beq_eq_false_iff_ne.2 ho;have c1:=λ w=>hid (Out_is (.inl ⟨h,hv,rfl⟩) hn hs w)
 have HX:=hid hx;clear ho hv hx;go_enter func193,ntmps193;go_wp2_with fail;refine (c1 _).out.mono ?_;rintro e w1 ⟨rfl,hb1⟩;have X:=(Two.new (w.alloc (.cells #[.int .i64 n,.int .i64 s] 46)) 0 0).gr hb1;have Y:=((Two.new w n s).gr ((zr _).al (.cells #[.int .i64 0,.int .i64 0] 46))).gr hb1;have G:=(((zr w).al _).al _).trans hb1;rw [show (w.alloc (.cells #[.int .i64 n,.int .i64 s] 46)).heap.size=w.heap.size+1 from by simp] at X;go_wp2_with fail;refine (advance_is HX.out w.heap.size 1 _ Y.cells.2 (Y.frozen 1) Y.lt).mono ?_;rintro e w2 ⟨rfl,w3,hb3,rfl⟩;replace Y:=(Y.gr hb3).set1 x;replace X:=(X.gr hb3).far (p:=⟨w.heap.size,1,none⟩) (by simp) (.int .i64 x);replace G:=(G.trans hb3).st (p:=⟨w.heap.size,1,none⟩) (Nat.le_refl _) (.int .i64 x);generalize hW:w3.setCell ⟨w.heap.size,1,none⟩ (.int .i64 x)=W at *;obtain⟨y0,y1⟩:=Y.cells;obtain⟨q0,q1⟩:=X.cells;have f0:=X.frozen 0;have f1:=X.frozen 1;have e1:w.heap.size+1≠w.heap.size:=by omega
 clear hW;go_wp2_with fail;refine bodyPost_ret (v:=.tuple #[.agg #[.int .i64 n,.int .i64 x],.int .i64 0]) (by simp [results,results193,go_sem,q0,q1]) rfl ⟨rfl,?_⟩;exact (G.st (by simp) _).st (by simp) _
end P6
end
section
namespace P16
open P14 (pan)
open P12 (PV PMem)
section
variable {x:Cx} {W:World} {T E:Sl} {cl:List Cl} {mx:List T3} {tb:List Sp} {ev:List T3} {c:Cl} {a:T3} {pr:List Ac}
theorem TS.putPc (h:TS x W T E cl mx tb ev) (hc:cl[x.who.toNat]?=some c) {v:Int} (hv:B64 v):TS x (W.setCell ⟨x.bc,x.oc+x.who.toNat*13+3,none⟩ (.int .i64 v)) T E (cl.set x.who.toNat { c with pc:=v }) mx tb ev :=
 h.putC hc 3 _ { c with pc:=v } rfl (by decide) { h.cb c (zmo hc) with pc:=hv }
theorem work_is (h:TS x W T E cl mx tb ev) (hR:Rn x cl c pr) (hw:c.worked=0\/(0<c.worked/\c.worked<x.n)) (hn0:0<=x.n) (hn:x.n<=1000) :
 Calls prog 98 #[.pointer (some ⟨x.b,0,none⟩)] W λ e W'=>e=.returned (.tuple #[])/\TS x W' T E (cl.set x.who.toNat (work x.n pr.length c)) mx tb ev/\Kx x W W':=by
 have hc:=hR.hc;have H:=hid h;have CBc:=h.cb c (zmo hc);obtain⟨-,-,-,-,-,-,-,c7,-,c9,-,-⟩:=h.cells;obtain⟨-,-,-,-,s4,-,-,-,-,-,-,-,-,sz⟩:=h.cl_ hc;have y4:=sz 4 (by decide);clear sz;have l0:0<=c.worked:=by omega
 have l1:c.worked<=1000:=by omega
 have hb1:B64 (c.worked+1):=⟨by omega,by omega⟩;have h1:=h.putC hc 4 (.int .i64 (c.worked+1)) { c with worked:=c.worked+1 } rfl (by decide) { CBc with worked:=hb1 };have k1:Kx x W _:=Kx.st (p:=⟨x.bc,x.oc+x.who.toNat*13+4,none⟩) (.inr (.inl rfl)) (.int .i64 (c.worked+1));have hR2:Rn x (cl.set x.who.toNat { c with worked:=c.worked+1 }) { c with worked:=c.worked+1 } pr:=hR.set rfl rfl;clear h;go_enter func98,ntmps98;go_upto_region 1 with fail;generalize W.setCell ⟨x.bc,x.oc+x.who.toNat*13+4,none⟩ (.int .i64 (c.worked+1))=W1 at h1 k1 ⊢;clear c7 c9 s4 y4;have H1:=hid h1;have K1:=hid k1;obtain⟨-,-,-,-,-,-,-,c7,-,c9,-,-⟩:=h1.cells;obtain⟨-,-,-,-,t4,-⟩:=h1.cl_ hR2.hc;dsimp only at t4;have HW:=hid hw;clear h1 k1 hw;by_cases hge:c.worked+1 ≥ x.n
 . have K:work x.n pr.length c=over { c with worked:=c.worked+1 } pr.length:=by have:=HW.out;unfold work;rw [if_pos (by omega)]
   go_quiet (fail)
   go_wp2_with fail;refine (over_is (H1.out.gr ((zr _).drN _)) hR2).mono ?_;rintro e w2 ⟨rfl,h2,k2⟩;have H2:=hid h2;have K2:=hid k2;clear h2 k2;go_wp2_with fail
   go_end0
   have h2:=H2.out;rw [List.set_set,<- K] at h2;exact⟨rfl,h2,(K1.out.trans (Kx.gr ((zr _).drN _))).trans K2.out⟩
 . have K:work x.n pr.length c={ c with worked:=c.worked+1 }:=by have:=HW.out;unfold work;rw [if_neg (by omega)]
   go_quiet (fail)
   go_wp2_with fail
   go_end0
   exact⟨rfl,H1.out.gr ((zr _).drN _),K1.out.trans (Kx.gr ((zr _).drN _))⟩
theorem lock_no (h:TS x W T E cl mx tb ev) (hR:Rn x cl c pr) (h0:0<=x.n) (h4:x.n<4) (ha:mx[x.n.toNat]?=some a) (hne:(a.1==0)=false) :
 Calls prog 99 #[.pointer (some ⟨x.b,0,none⟩)] W λ e W'=>e=.returned (.tuple #[])/\TS x W' T E (cl.set x.who.toNat { c with pc:=1 }) mx tb ev/\Kx x W W':=by
 have hc:=hR.hc;go_enter func99,ntmps99;go_wp2_with fail;refine (mutex_is h h0 h4).mono ?_;rintro e w1 ⟨rfl,d,rfl⟩;have h1:=h.gr ((zr W).drN d);have H1:=hid h1;obtain⟨-,-,-,-,-,-,-,c7,-,-,-,-⟩:=h1.cells;obtain⟨-,-,-,s3,-,-,-,-,-,-,-,-,-,sz⟩:=h1.cl_ hc;have y3:=sz 3 (by decide);clear sz;obtain⟨m0,-,-,-⟩:=h1.mx_ ha;clear h h1;go_wp2_with fail
 (try simp only [Exit.inBlock,Exit.then])
 refine bodyPost_ret (results_none rfl _ _ _) rfl ?_;exact⟨rfl,H1.out.putPc hc ⟨by omega,by omega⟩,(Kx.gr ((zr W).drN d)).trans (Kx.st (.inr (.inl rfl)) _)⟩
theorem lock_yes (h:TS x W T ⟨none,0,0⟩ cl mx tb []) (hR:Rn x cl c pr) (h0:0<=x.n) (h4:x.n<4) (ha:mx[x.n.toNat]?=some a) (hne:(a.1==0)=true) :
 Calls prog 99 #[.pointer (some ⟨x.b,0,none⟩)] W λ e W'=>e=.returned (.tuple #[])/\(∃ E,TS x W' T E (cl.set x.who.toNat (over c pr.length)) (mx.set x.n.toNat (1,a.2)) tb [(x.who,0,x.n)])/\Kx x W W':=by
 have hc:=hR.hc;go_enter func99,ntmps99;go_wp2_with fail;refine (mutex_is h h0 h4).mono ?_;rintro e w1 ⟨rfl,d,rfl⟩;have h1:=h.gr ((zr W).drN d);have H1:=hid h1;obtain⟨m0,-,-,-⟩:=h1.mx_ ha;have hp:=hid (put_yes h1 h0 h4 ha (v:=1) ⟨by omega,by omega⟩);clear h h1;go_wp2_with fail;refine hp.out.mono ?_;rintro e w2 ⟨rfl,h2,k2⟩;have K2:=hid k2;have he:=hid (ends_is h2 hR (v:=0) b64_0);clear h2 k2;go_wp2_with fail;refine he.out.mono ?_;rintro e w3 ⟨rfl,h3,k3⟩;have H3:=hid h3;have K3:=hid k3;clear h3 k3;go_wp2_with fail
 go_end0
 exact⟨rfl,H3.out,((Kx.gr ((zr W).drN d)).trans K2.out).trans K3.out⟩
theorem load_is (h:TS x W T E cl mx tb ev) (hR:Rn x cl c pr) (h0:0<=x.n) (h4:x.n<4) (ha:mx[x.n.toNat]?=some a) :
 Calls prog 100 #[.pointer (some ⟨x.b,0,none⟩)] W λ e W'=>e=.returned (.tuple #[])/\TS x W' T E (cl.set x.who.toNat { c with old:=a.1,pc:=2 }) mx tb ev/\Kx x W W':=by
 have hr:=hid (remember_is h h0 h4 ha hR.hc (v:=2) ⟨by omega,by omega⟩);clear h;go_enter func100,ntmps100;go_wp2_with fail;refine hr.out.mono ?_;rintro e w1 ⟨rfl,h1,k1⟩;have H1:=hid h1;have K1:=hid k1;clear h1 k1;go_wp2_with fail
 go_end0
 exact⟨rfl,H1.out,K1.out⟩
theorem see_is (h:TS x W T E cl mx tb ev) (hR:Rn x cl c pr) (h0:0<=x.n) (h4:x.n<4) (ha:mx[x.n.toNat]?=some a) :
 Calls prog 112 #[.pointer (some ⟨x.b,0,none⟩)] W λ e W'=>e=.returned (.tuple #[])/\TS x W' T E (cl.set x.who.toNat { c with old:=a.1,pc:=10 }) mx tb ev/\Kx x W W':=by
 have hr:=hid (remember_is h h0 h4 ha hR.hc (v:=10) ⟨by omega,by omega⟩);clear h;go_enter func112,ntmps112;go_wp2_with fail;refine hr.out.mono ?_;rintro e w1 ⟨rfl,h1,k1⟩;have H1:=hid h1;have K1:=hid k1;clear h1 k1;go_wp2_with fail
 go_end0
 exact⟨rfl,H1.out,K1.out⟩
end
end P16
namespace P6
theorem tk_up {s:Int} (h:0<=s/\s<4294967296):up1 s=(s+1) % 4294967296:=by unfold up1 wrap64;simp [wd];omega
theorem tk_out {n s:Int} (hn:0<=n/\n<4294967296) (hs:0<=s/\s<4294967296):outT n s=(n-s) % 4294967296:=by unfold outT wrap64;simp [wd];omega
theorem tk_ok {n s:Int} (hn:0<=n/\n<4294967296) (hs:0<=s/\s<4294967296):tkB n s=true:=by unfold tkB;simp [fitB,wd];omega
end P6
namespace P16
open P14 (pan)
open P12 (PV PMem)
section
variable {x:Cx} {W:World} {T E:Sl} {cl:List Cl} {mx:List T3} {tb:List Sp} {ev:List T3} {c:Cl} {a:T3} {pr:List Ac}
theorem TS.putL (h:TS x W T E cl mx tb ev) {i:Nat} (ha:mx[i]?=some a) {u v:Int} (hu:B64 u) (hv:B64 v):TS x ((W.setCell ⟨x.bm,x.om+i*3+1,none⟩ (.int .i64 u)).setCell ⟨x.bm,x.om+i*3+2,none⟩ (.int .i64 v)) T E cl (mx.set i (a.1,u,v)) tb ev:=by
 have A:=h.mb a (zmo ha);have h1:=h.putM (a:=a) ha 1 (.int .i64 u) (a.1,u,a.2.2) rfl (by decide) ⟨A.1,hu,A.2.2⟩;have h2:=h1.putM (a:=(a.1,u,a.2.2)) (i:=i) (by rw [zss (zgl ha)]) 2 (.int .i64 v) (a.1,u,v) rfl (by decide) ⟨A.1,hu,hv⟩;rwa [List.set_set] at h2
theorem serve_yes (h:TS x W T E cl mx tb ev) (h0:0<=x.n) (h4:x.n<4) (ha:mx[x.n.toNat]?=some a) (hn:0<=a.2.1/\a.2.1<4294967296) (hs:0<=a.2.2/\a.2.2<4294967296) (ho:(a.2.1-a.2.2) % 4294967296≠0) :
 Calls prog 152 #[.pointer (some ⟨x.b,0,none⟩)] W λ e W'=>e=.returned (.tuple #[])/\TS x W' T E cl (mx.set x.n.toNat (a.1,a.2.1,(a.2.2+1) % 4294967296)) tb ev/\Kx x W W':=by
 have cd:=λ W=>hid (P6.Done_yes (P6.tk_ok hn hs) (by rw [P6.tk_out hn hs];exact ho) (P6.tk_up hs) ⟨by omega,by omega⟩ ⟨by omega,by omega⟩ W)
 have bu:B64 a.2.1:=⟨by omega,by omega⟩;have bv:B64 ((a.2.2+1) % 4294967296):=⟨by omega,by omega⟩;obtain⟨v,hv⟩:∃ v,(a.2.2+1) % 4294967296=v:=⟨_,rfl⟩;rw [hv] at cd bv ⊢;clear hv ho hn hs;go_enter func152,ntmps152;go_wp2_with fail;refine (mutex_is h h0 h4).mono ?_;rintro e w1 ⟨rfl,d,rfl⟩;have h1:=h.gr ((zr W).drN d);obtain⟨-,m1,m2,-⟩:=h1.mx_ ha;have H1:=hid h1;clear h h1;go_wp2_with fail;refine (cd _).out.mono ?_;rintro e w2 ⟨rfl,g2⟩;have G2:=hid g2;clear g2;go_wp2_with fail;refine (sureT_yes _ _ _).mono ?_;rintro e w3 ⟨rfl,g3⟩;have h3:=H1.out.gr (G2.out.trans g3);have H3:=hid h3;have G3:=hid (G2.out.trans g3);clear m1 m2;obtain⟨-,m1,m2,mz⟩:=h3.mx_ ha;have x1:=mz 1 (by decide);have x2:=mz 2 (by decide);clear mz;clear h3 g3;go_wp2_with fail
 go_end0
 exact⟨rfl,H3.out.putL ha bu bv,(((Kx.gr ((zr W).drN d)).trans (Kx.gr G3.out)).trans (Kx.st (.inr (.inr rfl)) _)).trans (Kx.st (.inr (.inr rfl)) _)⟩
theorem serve_no (h:TS x W T E cl mx tb ev) (h0:0<=x.n) (h4:x.n<4) (ha:mx[x.n.toNat]?=some a) (hn:0<=a.2.1/\a.2.1<4294967296) (hs:0<=a.2.2/\a.2.2<4294967296) (ho:(a.2.1-a.2.2) % 4294967296=0) :
 Calls prog 152 #[.pointer (some ⟨x.b,0,none⟩)] W λ e W'=>e=.panicked (pan 12)/\Kx x W W':=by
 have cd:=λ W=>hid (P6.Done_none (P6.tk_ok hn hs) (by rw [P6.tk_out hn hs];exact ho) ⟨by omega,by omega⟩ ⟨by omega,by omega⟩ W)
 clear ho hn hs;go_enter func152,ntmps152;go_wp2_with fail;refine (mutex_is h h0 h4).mono ?_;rintro e w1 ⟨rfl,d,rfl⟩;have h1:=h.gr ((zr W).drN d);obtain⟨-,m1,m2,-⟩:=h1.mx_ ha;clear h h1;go_wp2_with fail;refine (cd _).out.mono ?_;rintro e w2 ⟨rfl,g2⟩;have G2:=hid g2;clear g2;go_wp2_with fail;refine (sureT_no _ _ (by decide) _).mono ?_;rintro e w3 ⟨rfl,g3⟩;go_wp2_with fail;exact bodyPost_pan rfl ⟨rfl,Kx.gr (((zr W).drN d).trans (G2.out.trans g3))⟩
theorem leave_yes (h:TS x W T E cl mx tb ev) (hR:Rn x cl c pr) (h0:0<=x.n) (h4:x.n<4) (ha:mx[x.n.toNat]?=some a) (hn:0<=a.2.1/\a.2.1<4294967296) (hs:0<=a.2.2/\a.2.2<4294967296) (ho:(a.2.1-a.2.2) % 4294967296≠0) :
 Calls prog 114 #[.pointer (some ⟨x.b,0,none⟩)] W λ e W'=>e=.returned (.tuple #[])/\TS x W' T E (cl.set x.who.toNat (over c pr.length)) (mx.set x.n.toNat (a.1,a.2.1,(a.2.2+1) % 4294967296)) tb ev/\Kx x W W':=by
 have cs:=hid (serve_yes h h0 h4 ha hn hs ho);clear h ho hn hs;go_enter func114,ntmps114;go_wp2_with fail;refine cs.out.mono ?_;rintro e w1 ⟨rfl,h1,k1⟩;have co:=hid (over_is h1 hR);have K1:=hid k1;clear h1 k1;go_wp2_with fail;refine co.out.mono ?_;rintro e w2 ⟨rfl,h2,k2⟩;have H2:=hid h2;have K2:=hid k2;clear h2 k2;go_wp2_with fail
 go_end0
 exact⟨rfl,H2.out,K1.out.trans K2.out⟩
theorem leave_no (h:TS x W T E cl mx tb ev) (h0:0<=x.n) (h4:x.n<4) (ha:mx[x.n.toNat]?=some a) (hn:0<=a.2.1/\a.2.1<4294967296) (hs:0<=a.2.2/\a.2.2<4294967296) (ho:(a.2.1-a.2.2) % 4294967296=0) :
 Calls prog 114 #[.pointer (some ⟨x.b,0,none⟩)] W λ e W'=>e=.panicked (pan 12)/\Kx x W W':=by
 have cs:=hid (serve_no h h0 h4 ha hn hs ho);clear h ho hn hs;go_enter func114,ntmps114;go_wp2_with fail;refine cs.out.mono ?_;rintro e w1 ⟨rfl,k1⟩;go_wp2_with fail;exact bodyPost_pan rfl ⟨rfl,k1⟩
end
end P16
end
section
namespace P15
open P3 (fl pw lowI)
def OkN (n:Int):Prop:=0<=n/\n<268435456
section
variable {a b c:Bool} {n v:Int} {w:World}
theorem state_is (hg:Glob w) (hn:OkN n):Calls prog 199 #[.int .i64 (pw a b c n)] w λ e w'=>e=.returned (.int .i64 (st a b c))/\w'=w :=
 state_of hg (P3.and7 (by unfold OkN at hn;omega))
theorem state_neg (hg:Glob w):Calls prog 199 #[.int .i64 (-1)] w λ e w'=>e=.returned (.int .i64 3)/\w'=w :=
 state_of (a:=true) (b:=true) (c:=true) hg (by decide)
theorem Left_neg (hg:Glob w):Calls prog 157 #[.int .i64 (-1)] w λ e w'=>e=.returned (.tuple #[.bool false,.bool false,.int .i64 11])/\Gr w w':=by
 have U:=λ w=>hid (P3.Unpack_no (-1) (by decide) w)
 have SS:=λ W (g:Gr w W)=>hid (state_neg (hg.gr g))
 go_enter func157,ntmps157;go_wp2_with fail;refine (U _).out.mono ?_;rintro e w1 ⟨rfl,g1⟩;go_wp2_with fail;refine (SS _ (g1.al _)).out.mono ?_;rintro e w2 ⟨rfl,rfl⟩;go_wp2_with fail;go_ret3;exact⟨rfl,g1.al _⟩
theorem Left_held (hg:Glob w) (hn:OkN n):Calls prog 157 #[.int .i64 (pw true b c n)] w λ e w'=>e=.returned (.tuple #[.bool false,.bool false,.int .i64 11])/\Gr w w':=by
 have U:=λ w=>hid (P3.Unpack_ok true b c n hn w)
 have SS:=λ W (g:Gr w W)=>hid (state_is (a:=true) (b:=b) (c:=c) (hg.gr g) hn)
 simp only [st,if_true] at SS;clear hn;generalize pw true b c n=v at *;go_enter func157,ntmps157;go_wp2_with fail;refine (U _).out.mono ?_;rintro e w1 ⟨rfl,g1⟩;go_wp2_with fail;refine (SS _ (g1.al _)).out.mono ?_;rintro e w2 ⟨rfl,rfl⟩;go_wp2_with fail;go_ret3;exact⟨rfl,g1.al _⟩
theorem Left_free (hg:Glob w) (hn:OkN n) {z:Bool} (hz:(pw false b c n==0)=z):Calls prog 157 #[.int .i64 (pw false b c n)] w λ e w'=>e=.returned (.tuple #[.bool z,.bool c,.int .i64 0])/\Gr w w':=by
 have U:=λ w=>hid (P3.Unpack_ok false b c n hn w)
 have SS:=λ W (g:Gr w W)=>hid (state_is (a:=false) (b:=b) (c:=c) (hg.gr g) hn)
 obtain⟨k,hk,h3,h2⟩:∃ k,st false b c=k/\(k==3)=false/\(k==2)=c:=⟨_,rfl,by cases b<;>cases c<;>rfl,by cases b<;>cases c<;>rfl⟩;rw [hk] at SS;clear hn hk;generalize pw false b c n=v at *;go_enter func157,ntmps157;go_wp2_with fail;refine (U _).out.mono ?_;rintro e w1 ⟨rfl,g1⟩;go_wp2_with fail;refine (SS _ (g1.al _)).out.mono ?_;rintro e w2 ⟨rfl,rfl⟩;go_wp2_with fail;go_ret3;exact⟨rfl,g1.al _⟩
theorem Wakes_none (hg:Glob w) (hn:OkN n) (h:n=0\/st a b c≠0):Calls prog 159 #[.int .i64 (pw a b c n)] w λ e w'=>e=.returned (.tuple #[.bool false,.int .i64 0,.int .i64 0])/\Gr w w':=by
 have U:=λ w=>hid (P3.Unpack_ok a b c n hn w)
 have SS:=λ W (g:Gr w W)=>hid (state_is (a:=a) (b:=b) (c:=c) (hg.gr g) hn)
 generalize st a b c=k at *;generalize pw a b c n=v at *;clear hn;by_cases h0:n=0
 . subst h0
   clear h;go_enter func159,ntmps159;go_wp2_with fail;refine (U _).out.mono ?_;rintro e w1 ⟨rfl,g1⟩;go_wp2_with fail;go_ret3;exact⟨rfl,g1.al _⟩
 . have hk:(k != 0)=true:=by simpa using h.resolve_left h0
   have hn0:(n==0)=false:=by simpa using h0
   clear h h0;go_enter func159,ntmps159;go_wp2_with fail;refine (U _).out.mono ?_;rintro e w1 ⟨rfl,g1⟩;go_wp2_with fail;refine (SS _ (g1.al _)).out.mono ?_;rintro e w2 ⟨rfl,rfl⟩;go_wp2_with fail;go_ret3;exact⟨rfl,g1.al _⟩
theorem Wakes_yes (hg:Glob w) (hn:OkN n) (h0:0<n) {m:Int} (hm:n-1=m):Calls prog 159 #[.int .i64 (pw false false false n)] w λ e w'=>e=.returned (.tuple #[.bool true,.int .i64 (pw false true false m),.int .i64 0])/\Gr w w':=by
 have U:=λ w=>hid (P3.Unpack_ok false false false n hn w)
 have SS:=λ W (g:Gr w W)=>hid (state_is (a:=false) (b:=false) (c:=false) (hg.gr g) hn)
 have WW:=λ w=>hid (P3.Waits_ok false false false n (-1) m hn (by unfold OkN at hn;unfold wrap64;omega) (by unfold OkN at hn;omega) w)
 have HO:=hid (P3.or_2 (a:=false) (b:=false) (c:=false) (n:=m) (by unfold OkN at hn;omega));have hne:n≠0:=by omega
 simp only [show st false false false=0 from rfl] at SS;clear hn hm h0;generalize pw false false false n=v at *;generalize pw false false false m=x at *;generalize pw false true false m=y at *;go_enter func159,ntmps159;go_wp2_with fail;refine (U _).out.mono ?_;rintro e w1 ⟨rfl,g1⟩;go_wp2_with fail;refine (SS _ (g1.al _)).out.mono ?_;rintro e w2 ⟨rfl,rfl⟩;go_wp2_with fail;refine (WW _).out.mono ?_;rintro e w3 ⟨rfl,g3⟩;go_wp2_with fail;go_ret3;exact⟨by rw [HO.out];rfl,(g1.al _).trans g3⟩
end
end P15
end
section
namespace P16
open P14 (pan)
open P12 (PV PMem)
theorem pw_un {v:Int} (h:OkW v):v=P3.pw (wd v).L (wd v).K (wd v).S (wd v).n:=by
 unfold OkW at h;unfold P3.pw wd P3.b1;dsimp only;by_cases h1:v % 2=1<;>by_cases h2:v / 2 % 2=1<;>by_cases h3:v / 4 % 2=1<;>simp [h1,h2,h3]<;>omega
theorem un_pw (w:Wd):P3.pw w.L w.K w.S w.n=un w:=rfl
theorem or_un1 {v:Int} (h:OkW v):bits .or .i64 v 1=un { wd v with L:=true }:=by
 have hn:=h.n;have e:=P3.or_1 (a:=(wd v).L) (b:=(wd v).K) (c:=(wd v).S) (n:=(wd v).n) ⟨hn.1,by omega⟩;rw [<- pw_un h] at e;exact e
theorem or_un2 {v:Int} (h:OkW v):bits .or .i64 v 2=un { wd v with K:=true }:=by
 have hn:=h.n;have e:=P3.or_2 (a:=(wd v).L) (b:=(wd v).K) (c:=(wd v).S) (n:=(wd v).n) ⟨hn.1,by omega⟩;rw [<- pw_un h] at e;exact e
theorem OkW.L {v:Int} (h:OkW v) (b:Bool):OkW (un { wd v with L:=b }):=okW_un h.n.1 h.n.2
theorem OkW.K {v:Int} (h:OkW v) (b:Bool):OkW (un { wd v with K:=b }):=okW_un h.n.1 h.n.2
theorem less_yes {v:Int} (h:OkW v) (hL:(wd v).L=true):v-1=P3.pw false (wd v).K (wd v).S (wd v).n/\OkW (v-1)/\(wd (v-1)).S=(wd v).S:=by
 unfold OkW at *;unfold wd at *;dsimp only at *;have h1:v % 2=1:=of_decide_eq_true hL;refine⟨?_,by omega,?_⟩
 . unfold P3.pw P3.b1
   by_cases h2:v / 2 % 2=1<;>by_cases h3:v / 4 % 2=1<;>simp [h2,h3]<;>omega
 . congr 1
   rw [show (v-1) / 4=v / 4 from by omega]
theorem less_no {v:Int} (h:OkW v) (hL:(wd v).L=false):v-1=-1\/∃ b c n,v-1=P3.pw true b c n/\P15.OkN n:=by
 unfold OkW at h;have h1:¬ v % 2=1:=of_decide_eq_false hL;by_cases h0:v=0
 . exact .inl (by omega)
 . right
   obtain⟨a,b,c,n,e,hn⟩:=P3.pw_of (v:=v-1) ⟨by omega,by omega⟩;have ha:a=true:=by
    cases a
    . exfalso
      have:(v-1) % 2=1:=by omega
      rw [e] at this;unfold P3.pw P3.b1 at this;cases b<;>cases c<;>simp at this<;>omega
    . rfl
   subst ha;exact⟨b,c,n,e,hn⟩
section
variable {x:Cx} {W:World} {T E:Sl} {cl:List Cl} {mx:List T3} {tb:List Sp} {ev:List T3} {c:Cl} {a:T3} {pr:List Ac}
theorem grasp_no (h:TS x W T ⟨none,0,0⟩ cl mx tb []) (hR:Rn x cl c pr) (h0:0<=x.n) (h4:x.n<4) (ha:mx[x.n.toNat]?=some a) (hne:(a.1==c.old)=false) (hk:OkW c.old) :
 Calls prog 109 #[.pointer (some ⟨x.b,0,none⟩)] W λ e W'=>e=.returned (.tuple #[])/\(∃ E,TS x W' T E (cl.set x.who.toNat (over c pr.length)) mx tb [(x.who,2,x.n)])/\Kx x W W':=by
 have hc:=hR.hc;have eo:=or_un1 hk;have cs:=hid (swaps_no h h0 h4 ha hR.hc hne (un { wd c.old with L:=true }));obtain⟨-,-,-,-,-,-,-,c7,-,-,-,-⟩:=h.cells;obtain⟨-,-,-,-,-,-,-,-,-,-,-,-,s12,-⟩:=h.cl_ hc;have H:=hid h;generalize un { wd c.old with L:=true }=v at eo cs ⊢;clear h hk hne;go_enter func109,ntmps109;go_wp2_with fail;refine cs.out.mono ?_;rintro e w1 ⟨rfl,d,rfl⟩;have h1:=H.out.gr ((zr W).drN d);have k1:Kx x W _:=Kx.gr ((zr W).drN d);have K1:=hid k1;have he:=hid (ends_is h1 hR (v:=2) ⟨by omega,by omega⟩);clear h1 k1;go_wp2_with fail;refine he.out.mono ?_;rintro e w3 ⟨rfl,h3,k3⟩;have H3:=hid h3;have K3:=hid k3;clear h3 k3;go_wp2_with fail
 (first | go_end0 | ((try simp only [Exit.inBlock,Exit.then]);refine bodyPost_ret (results_none rfl _ _ _) rfl ?_))
 exact⟨rfl,H3.out,K1.out.trans K3.out⟩
theorem grasp_yes (h:TS x W T ⟨none,0,0⟩ cl mx tb []) (hR:Rn x cl c pr) (h0:0<=x.n) (h4:x.n<4) (ha:mx[x.n.toNat]?=some a) (hne:(a.1==c.old)=true) (hk:OkW c.old) :
 Calls prog 109 #[.pointer (some ⟨x.b,0,none⟩)] W λ e W'=>e=.returned (.tuple #[])/\(∃ E,TS x W' T E (cl.set x.who.toNat (over c pr.length)) (mx.set x.n.toNat (un { wd c.old with L:=true },a.2)) tb [(x.who,1,x.n)])/\Kx x W W':=by
 have hc:=hR.hc;have eo:=or_un1 hk;have cs:=hid (swaps_yes h h0 h4 ha hR.hc hne (hk.L true));obtain⟨-,-,-,-,-,-,-,c7,-,-,-,-⟩:=h.cells;obtain⟨-,-,-,-,-,-,-,-,-,-,-,-,s12,-⟩:=h.cl_ hc;have H:=hid h;generalize un { wd c.old with L:=true }=v at eo cs ⊢;clear h hk hne;go_enter func109,ntmps109;go_wp2_with fail;refine cs.out.mono ?_;rintro e w1 ⟨rfl,h1,k1⟩;have K1:=hid k1;have he:=hid (ends_is h1 hR (v:=1) ⟨by omega,by omega⟩);clear h1 k1;go_wp2_with fail;refine he.out.mono ?_;rintro e w3 ⟨rfl,h3,k3⟩;have H3:=hid h3;have K3:=hid k3;clear h3 k3;go_wp2_with fail
 (first | go_end0 | ((try simp only [Exit.inBlock,Exit.then]);refine bodyPost_ret (results_none rfl _ _ _) rfl ?_))
 exact⟨rfl,H3.out,K1.out.trans K3.out⟩
theorem look_no (h:TS x W T ⟨none,0,0⟩ cl mx tb []) (hR:Rn x cl c pr) (h0:0<=x.n) (h4:x.n<4) (ha:mx[x.n.toNat]?=some a) (hk:OkW a.1) (hl:(wd a.1).L=true\/(wd a.1).S=true) :
 Calls prog 108 #[.pointer (some ⟨x.b,0,none⟩)] W λ e W'=>e=.returned (.tuple #[])/\(∃ E,TS x W' T E (cl.set x.who.toNat (over c pr.length)) mx tb [(x.who,2,x.n)])/\Kx x W W':=by
 have hn:=hk.n;have cu:=λ W=>hid (P3.Unpack_ok (wd a.1).L (wd a.1).K (wd a.1).S (wd a.1).n hn W)
 rw [<- pw_un hk] at cu;obtain⟨n,hnn⟩:∃ n,(wd a.1).n=n:=⟨_,rfl⟩;obtain⟨K,hK⟩:∃ K,(wd a.1).K=K:=⟨_,rfl⟩;obtain⟨l,hL⟩:∃ l,(wd a.1).L=l:=⟨_,rfl⟩;obtain⟨s,hS⟩:∃ s,(wd a.1).S=s:=⟨_,rfl⟩;rw [hnn,hK,hL,hS] at cu;rw [hL,hS] at hl;clear hnn hK hL hS hn;have hl2:l=true\/(l=false/\s=true):=by cases l<;>simp_all
 clear hl;rcases hl2 with rfl | ⟨rfl,rfl⟩
 . skip
   go_enter func108,ntmps108;go_wp2_with fail;refine (mutex_is h h0 h4).mono ?_;rintro e w1 ⟨rfl,d,rfl⟩;have h1:=h.gr ((zr W).drN d);obtain⟨m0,-,-,-⟩:=h1.mx_ ha;have H1:=hid h1;clear h1;go_wp2_with fail;refine (cu _).out.mono ?_;rintro e w2 ⟨rfl,g2⟩;have G2:=hid g2;clear g2;go_wp2_with fail;refine (sureF_yes _ _ _ _ _).mono ?_;rintro e w3 ⟨rfl,g3⟩;have h3:=(H1.out.gr (G2.out.trans g3)).gr ((zr w3).al (.cells #[.bool true,.bool K,.bool s,.int .i64 n] 42));have K3:Hid (Kx x W _):=hid (Kx.gr (((((zr W).drN d).trans (G2.out.trans g3)).al (.cells #[.bool true,.bool K,.bool s,.int .i64 n] 42))));have he:=hid (ends_is h3 hR (v:=2) ⟨by omega,by omega⟩);clear h3 g3;go_wp2_with fail;refine he.out.mono ?_;rintro e w4 ⟨rfl,h4',k4⟩;have H4:=hid h4';have K4:=hid k4;clear h4' k4;go_wp2_with fail
   (first | go_end0 | ((try simp only [Exit.inBlock,Exit.then]);refine bodyPost_ret (results_none rfl _ _ _) rfl ?_))
   exact⟨rfl,H4.out,K3.out.trans K4.out⟩
 . skip
   go_enter func108,ntmps108;go_wp2_with fail;refine (mutex_is h h0 h4).mono ?_;rintro e w1 ⟨rfl,d,rfl⟩;have h1:=h.gr ((zr W).drN d);obtain⟨m0,-,-,-⟩:=h1.mx_ ha;have H1:=hid h1;clear h1;go_wp2_with fail;refine (cu _).out.mono ?_;rintro e w2 ⟨rfl,g2⟩;have G2:=hid g2;clear g2;go_wp2_with fail;refine (sureF_yes _ _ _ _ _).mono ?_;rintro e w3 ⟨rfl,g3⟩;have h3:=(H1.out.gr (G2.out.trans g3)).gr ((zr w3).al (.cells #[.bool false,.bool K,.bool true,.int .i64 n] 42));have K3:Hid (Kx x W _):=hid (Kx.gr (((((zr W).drN d).trans (G2.out.trans g3)).al (.cells #[.bool false,.bool K,.bool true,.int .i64 n] 42))));have he:=hid (ends_is h3 hR (v:=2) ⟨by omega,by omega⟩);clear h3 g3;go_wp2_with fail;refine he.out.mono ?_;rintro e w4 ⟨rfl,h4',k4⟩;have H4:=hid h4';have K4:=hid k4;clear h4' k4;go_wp2_with fail
   (first | go_end0 | ((try simp only [Exit.inBlock,Exit.then]);refine bodyPost_ret (results_none rfl _ _ _) rfl ?_))
   exact⟨rfl,H4.out,K3.out.trans K4.out⟩
theorem look_yes (h:TS x W T ⟨none,0,0⟩ cl mx tb []) (hR:Rn x cl c pr) (h0:0<=x.n) (h4:x.n<4) (ha:mx[x.n.toNat]?=some a) (hk:OkW a.1) (hl:(wd a.1).L=false) (hs:(wd a.1).S=false) :
 Calls prog 108 #[.pointer (some ⟨x.b,0,none⟩)] W λ e W'=>e=.returned (.tuple #[])/\TS x W' T ⟨none,0,0⟩ (cl.set x.who.toNat { c with old:=a.1,pc:=9 }) mx tb []/\Kx x W W':=by
 have hn:=hk.n;have cu:=λ W=>hid (P3.Unpack_ok (wd a.1).L (wd a.1).K (wd a.1).S (wd a.1).n hn W)
 rw [<- pw_un hk] at cu;obtain⟨n,hnn⟩:∃ n,(wd a.1).n=n:=⟨_,rfl⟩;obtain⟨K,hK⟩:∃ K,(wd a.1).K=K:=⟨_,rfl⟩;obtain⟨l,hL⟩:∃ l,(wd a.1).L=l:=⟨_,rfl⟩;obtain⟨s,hS⟩:∃ s,(wd a.1).S=s:=⟨_,rfl⟩;rw [hnn,hK,hL,hS] at cu;rw [hL] at hl;rw [hS] at hs;subst hl hs;clear hnn hK hL hS hn;go_enter func108,ntmps108;go_wp2_with fail;refine (mutex_is h h0 h4).mono ?_;rintro e w1 ⟨rfl,d,rfl⟩;have h1:=h.gr ((zr W).drN d);obtain⟨m0,-,-,-⟩:=h1.mx_ ha;have H1:=hid h1;clear h1;go_wp2_with fail;refine (cu _).out.mono ?_;rintro e w2 ⟨rfl,g2⟩;have G2:=hid g2;clear g2;go_wp2_with fail;refine (sureF_yes _ _ _ _ _).mono ?_;rintro e w3 ⟨rfl,g3⟩;have h3:=(H1.out.gr (G2.out.trans g3)).gr ((zr w3).al (.cells #[.bool false,.bool K,.bool false,.int .i64 n] 42));have K3:Hid (Kx x W _):=hid (Kx.gr (((((zr W).drN d).trans (G2.out.trans g3)).al (.cells #[.bool false,.bool K,.bool false,.int .i64 n] 42))));have he:=hid (remember_is h3 h0 h4 ha hR.hc (v:=9) ⟨by omega,by omega⟩);clear h3 g3;go_wp2_with fail;refine he.out.mono ?_;rintro e w4 ⟨rfl,h4',k4⟩;have H4:=hid h4';have K4:=hid k4;clear h4' k4;go_wp2_with fail
 (first | go_end0 | ((try simp only [Exit.inBlock,Exit.then]);refine bodyPost_ret (results_none rfl _ _ _) rfl ?_))
 exact⟨rfl,H4.out,K3.out.trans K4.out⟩
theorem unlock_fault (h:TS x W T E cl mx tb ev) (hg:P15.Glob W) (h0:0<=x.n) (h4:x.n<4) (ha:mx[x.n.toNat]?=some a) (hk:OkW a.1) (hl:(wd a.1).L=false) :
 Calls prog 110 #[.pointer (some ⟨x.b,0,none⟩)] W λ e W'=>e=.panicked (pan 11)/\Kx x W W':=by
 have hl2:=less_no hk hl;have hb:0<=a.1/\a.1<2147483648:=hk;obtain⟨v,hv⟩:∃ v,a.1-1=v:=⟨_,rfl⟩;have ew:wrap64 (a.1-1)=v:=by unfold wrap64;omega
 rw [hv] at hl2;have cl_:∀ W,P15.Glob W->Calls prog 157 #[.int .i64 v] W λ e w'=>e=.returned (.tuple #[.bool false,.bool false,.int .i64 11])/\Gr W w':=λ W hg=>by
  rcases hl2 with rfl | ⟨b,c,n,rfl,hn⟩
  . exact P15.Left_neg hg
  . exact P15.Left_held hg hn
 have C:=hid cl_;clear hl2 hv cl_ hk hl hb;go_enter func110,ntmps110;go_wp2_with fail;refine (mutex_is h h0 h4).mono ?_;rintro e w1 ⟨rfl,d,rfl⟩;have h1:=h.gr ((zr W).drN d);have hg1:=hg.gr ((zr W).drN d);obtain⟨m0,-,-,-⟩:=h1.mx_ ha;clear h h1;go_wp2_with fail;refine (C.out _ hg1).mono ?_;rintro e w2 ⟨rfl,g2⟩;have G2:=hid g2;clear g2;go_wp2_with fail;refine (need_no _ _).mono ?_;rintro e w3 ⟨rfl,rfl⟩;go_wp2_with fail;exact bodyPost_pan rfl ⟨rfl,Kx.gr (((zr W).drN d).trans G2.out)⟩
theorem unlock_over (h:TS x W T ⟨none,0,0⟩ cl mx tb []) (hg:P15.Glob W) (hR:Rn x cl c pr) (h0:0<=x.n) (h4:x.n<4) (ha:mx[x.n.toNat]?=some a) (hk:OkW a.1) (hl:(wd a.1).L=true) (hz:a.1-1=0) :
 Calls prog 110 #[.pointer (some ⟨x.b,0,none⟩)] W λ e W'=>e=.returned (.tuple #[])/\(∃ E,TS x W' T E (cl.set x.who.toNat (over c pr.length)) (mx.set x.n.toNat (a.1-1,a.2)) tb [(x.who,3,x.n)])/\Kx x W W':=by
 have hc:=hR.hc;obtain⟨e1,hkl,e2⟩:=less_yes hk hl;have hb:0<=a.1/\a.1<2147483648:=hk;obtain⟨v,hv⟩:∃ v,a.1-1=v:=⟨_,rfl⟩;have ew:wrap64 (a.1-1)=v:=by unfold wrap64;omega
 obtain⟨K,hK⟩:∃ K,(wd a.1).K=K:=⟨_,rfl⟩;obtain⟨s,hS⟩:∃ s,(wd a.1).S=s:=⟨_,rfl⟩;obtain⟨n,hnn⟩:∃ n,(wd a.1).n=n:=⟨_,rfl⟩;have hn:P15.OkN n:=by rw [<- hnn];exact hk.n
 rw [hK,hS,hnn] at e1;rw [hv] at e1 hkl hz e2 ⊢;have hz2:(P3.pw false K s n==0)=true:=by rw [<- e1];simp [hz]
 have C:=λ W (hg:P15.Glob W)=>hid (P15.Left_free (w:=W) hg hn hz2)
 rw [<- e1] at C;clear e1 e2 hK hS hnn hn hz2 hk hl hz hv hb;go_enter func110,ntmps110;go_wp2_with fail;refine (mutex_is h h0 h4).mono ?_;rintro e w1 ⟨rfl,d,rfl⟩;have h1:=h.gr ((zr W).drN d);have hg1:=hg.gr ((zr W).drN d);obtain⟨m0,-,-,-⟩:=h1.mx_ ha;have H1:=hid h1;clear h h1;go_wp2_with fail;refine (C _ hg1).out.mono ?_;rintro e w2 ⟨rfl,g2⟩;have G2:=hid (((zr W).drN d).trans g2);have hp:=hid (put_yes (H1.out.gr g2) h0 h4 ha hkl);clear g2 m0;go_wp2_with fail;refine (need_yes _ _).mono ?_;rintro e w3 ⟨rfl,rfl⟩;go_wp2_with fail;refine (need_yes _ _).mono ?_;rintro e w4 ⟨rfl,rfl⟩;go_wp2_with fail;refine hp.out.mono ?_;rintro e w5 ⟨rfl,h5,k5⟩;have K5:=hid ((Kx.gr G2.out).trans k5);have ht:=hid (tell_is h5 3 ⟨by omega,by omega⟩);clear h5 k5;go_wp2_with fail;refine ht.out.mono ?_;rintro e w6 ⟨rfl,⟨E6,h6⟩,k6⟩;have K6:=hid (K5.out.trans k6);have ho:=hid (over_is h6 hR);clear h6 k6;go_wp2_with fail;refine ho.out.mono ?_;rintro e w7 ⟨rfl,h7,k7⟩;have H7:=hid h7;have K7:=hid k7;clear h7 k7;go_wp2_with fail
 (first | go_end0 | ((try simp only [Exit.inBlock,Exit.then]);refine bodyPost_ret (results_none rfl _ _ _) rfl ?_))
 exact⟨rfl,⟨_,H7.out⟩,K6.out.trans K7.out⟩
theorem unlock_hand (h:TS x W T ⟨none,0,0⟩ cl mx tb []) (hg:P15.Glob W) (hR:Rn x cl c pr) (h0:0<=x.n) (h4:x.n<4) (ha:mx[x.n.toNat]?=some a) (hk:OkW a.1) (hl:(wd a.1).L=true) (hz:a.1-1≠0) (hs:(wd (a.1-1)).S=true) :
 Calls prog 110 #[.pointer (some ⟨x.b,0,none⟩)] W λ e W'=>e=.returned (.tuple #[])/\(∃ E,TS x W' T E (cl.set x.who.toNat ({ c with pc:=12 })) (mx.set x.n.toNat (a.1-1,a.2)) tb [(x.who,3,x.n)])/\Kx x W W':=by
 have hc:=hR.hc;obtain⟨e1,hkl,e2⟩:=less_yes hk hl;have hb:0<=a.1/\a.1<2147483648:=hk;obtain⟨v,hv⟩:∃ v,a.1-1=v:=⟨_,rfl⟩;have ew:wrap64 (a.1-1)=v:=by unfold wrap64;omega
 obtain⟨K,hK⟩:∃ K,(wd a.1).K=K:=⟨_,rfl⟩;obtain⟨s,hS⟩:∃ s,(wd a.1).S=s:=⟨_,rfl⟩;obtain⟨n,hnn⟩:∃ n,(wd a.1).n=n:=⟨_,rfl⟩;have hn:P15.OkN n:=by rw [<- hnn];exact hk.n
 rw [hK,hS,hnn] at e1;rw [hv] at e1 hkl hz e2 ⊢;rw [hv,e2,hS] at hs;subst hs;have hz2:(P3.pw false K true n==0)=false:=by rw [<- e1];simp [hz]
 have C:=λ W (hg:P15.Glob W)=>hid (P15.Left_free (w:=W) hg hn hz2)
 rw [<- e1] at C;clear e1 e2 hK hS hnn hn hz2 hk hl hz hv hb;go_enter func110,ntmps110;go_wp2_with fail;refine (mutex_is h h0 h4).mono ?_;rintro e w1 ⟨rfl,d,rfl⟩;have h1:=h.gr ((zr W).drN d);have hg1:=hg.gr ((zr W).drN d);obtain⟨m0,-,-,-⟩:=h1.mx_ ha;have H1:=hid h1;clear h h1;go_wp2_with fail;refine (C _ hg1).out.mono ?_;rintro e w2 ⟨rfl,g2⟩;have G2:=hid (((zr W).drN d).trans g2);have hp:=hid (put_yes (H1.out.gr g2) h0 h4 ha hkl);clear g2 m0;go_wp2_with fail;refine (need_yes _ _).mono ?_;rintro e w3 ⟨rfl,rfl⟩;go_wp2_with fail;refine (need_yes _ _).mono ?_;rintro e w4 ⟨rfl,rfl⟩;go_wp2_with fail;refine hp.out.mono ?_;rintro e w5 ⟨rfl,h5,k5⟩;have K5:=hid ((Kx.gr G2.out).trans k5);have ht:=hid (tell_is h5 3 ⟨by omega,by omega⟩);clear h5 k5;go_wp2_with fail;refine ht.out.mono ?_;rintro e w6 ⟨rfl,⟨E6,h6⟩,k6⟩;have K6:=hid (K5.out.trans k6);have H6:=hid h6;obtain⟨-,-,-,-,-,-,-,c7,-,-,-,-⟩:=h6.cells;obtain⟨-,-,-,s3,-,-,-,-,-,-,-,-,-,sz⟩:=h6.cl_ hc;have y3:=sz 3 (by decide);clear sz;clear h6 k6;go_wp2_with fail
 (first | go_end0 | ((try simp only [Exit.inBlock,Exit.then]);refine bodyPost_ret (results_none rfl _ _ _) rfl ?_))
 exact⟨rfl,⟨_,H6.out.putPc hc ⟨by omega,by omega⟩⟩,K6.out.trans (Kx.st (.inr (.inl rfl)) _)⟩
theorem unlock_wake (h:TS x W T ⟨none,0,0⟩ cl mx tb []) (hg:P15.Glob W) (hR:Rn x cl c pr) (h0:0<=x.n) (h4:x.n<4) (ha:mx[x.n.toNat]?=some a) (hk:OkW a.1) (hl:(wd a.1).L=true) (hz:a.1-1≠0) (hs:(wd (a.1-1)).S=false) :
 Calls prog 110 #[.pointer (some ⟨x.b,0,none⟩)] W λ e W'=>e=.returned (.tuple #[])/\(∃ E,TS x W' T E (cl.set x.who.toNat ({ c with old:=a.1-1,pc:=10 })) (mx.set x.n.toNat (a.1-1,a.2)) tb [(x.who,3,x.n)])/\Kx x W W':=by
 have hc:=hR.hc;obtain⟨e1,hkl,e2⟩:=less_yes hk hl;have hb:0<=a.1/\a.1<2147483648:=hk;obtain⟨v,hv⟩:∃ v,a.1-1=v:=⟨_,rfl⟩;have ew:wrap64 (a.1-1)=v:=by unfold wrap64;omega
 obtain⟨K,hK⟩:∃ K,(wd a.1).K=K:=⟨_,rfl⟩;obtain⟨s,hS⟩:∃ s,(wd a.1).S=s:=⟨_,rfl⟩;obtain⟨n,hnn⟩:∃ n,(wd a.1).n=n:=⟨_,rfl⟩;have hn:P15.OkN n:=by rw [<- hnn];exact hk.n
 rw [hK,hS,hnn] at e1;rw [hv] at e1 hkl hz e2 ⊢;rw [hv,e2,hS] at hs;subst hs;have hz2:(P3.pw false K false n==0)=false:=by rw [<- e1];simp [hz]
 have C:=λ W (hg:P15.Glob W)=>hid (P15.Left_free (w:=W) hg hn hz2)
 rw [<- e1] at C;clear e1 e2 hK hS hnn hn hz2 hk hl hz hv hb;go_enter func110,ntmps110;go_wp2_with fail;refine (mutex_is h h0 h4).mono ?_;rintro e w1 ⟨rfl,d,rfl⟩;have h1:=h.gr ((zr W).drN d);have hg1:=hg.gr ((zr W).drN d);obtain⟨m0,-,-,-⟩:=h1.mx_ ha;have H1:=hid h1;clear h h1;go_wp2_with fail;refine (C _ hg1).out.mono ?_;rintro e w2 ⟨rfl,g2⟩;have G2:=hid (((zr W).drN d).trans g2);have hp:=hid (put_yes (H1.out.gr g2) h0 h4 ha hkl);clear g2 m0;go_wp2_with fail;refine (need_yes _ _).mono ?_;rintro e w3 ⟨rfl,rfl⟩;go_wp2_with fail;refine (need_yes _ _).mono ?_;rintro e w4 ⟨rfl,rfl⟩;go_wp2_with fail;refine hp.out.mono ?_;rintro e w5 ⟨rfl,h5,k5⟩;have K5:=hid ((Kx.gr G2.out).trans k5);have ht:=hid (tell_is h5 3 ⟨by omega,by omega⟩);clear h5 k5;go_wp2_with fail;refine ht.out.mono ?_;rintro e w6 ⟨rfl,⟨E6,h6⟩,k6⟩;have K6:=hid (K5.out.trans k6);have ho:=hid (remember_is h6 h0 h4 (a:=(v,a.2)) (by rw [zss (zgl ha)]) hc (v:=10) ⟨by omega,by omega⟩);clear h6 k6;go_wp2_with fail;refine ho.out.mono ?_;rintro e w7 ⟨rfl,h7,k7⟩;have H7:=hid h7;have K7:=hid k7;clear h7 k7;go_wp2_with fail
 (first | go_end0 | ((try simp only [Exit.inBlock,Exit.then]);refine bodyPost_ret (results_none rfl _ _ _) rfl ?_))
 exact⟨rfl,⟨_,H7.out⟩,K6.out.trans K7.out⟩
end
end P16
end
end Go.Proofs.YtainfijdhcehlaaGreatDoor
