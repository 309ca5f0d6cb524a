/-
  A part of the proof.
-/
import Derived.Test.YtainfijdhcehlaaGreatDoorQB3
import Derived.Test.YtainfijdhcehlaaGreatDoorQB8
import Derived.Test.YtainfijdhcehlaaGreatDoorQB13
import Derived.Test.YtainfijdhcehlaaGreatDoorQB15
import Derived.Test.YtainfijdhcehlaaGreatDoorQB16
import Derived.RegionTactic
import Derived.Deep.DeepCutAuto
set_option linter.unusedVariables false
set_option linter.unusedSimpArgs false
set_option maxRecDepth 100000
set_option maxHeartbeats 8000000
namespace Go.Proofs.YtainfijdhcehlaaGreatDoor
open Lib (hid)
section
open Go.ChangeShapes Go.WideShapes Go.ChangeAt Go.RowKit Go.Shelf
namespace P14
open P3 (fl pw)
open P4 (Tm)
structure But (h:Nat) (w w':World):Prop where
 os:w'.os=w.os
 tape:w'.tape=w.tape
 output:w'.output=w.output
 size:w.heap.size<=w'.heap.size
 block:∀ b,b<w.heap.size->b≠h->w'.heap[b]?=w.heap[b]?
section
variable {h:Nat} {a w w' w'':World}
theorem But.of (g:Gr w w'):But h w w':=⟨g.os,g.tape,g.output,g.size,λ b hb _=>g.block b hb⟩
theorem But.set (g:But h w w') (i:Nat) (v:Value):But h w (w'.setCell ⟨h,i,none⟩ v) :=
 ⟨g.os,g.tape,g.output,by simpa using g.size,λ b hb hn=>(Below.heap_setCell w' ⟨h,i,none⟩ v b hn).trans (g.block b hb hn)⟩
theorem But.st (g:But h w w') {p:Addr} (hp:w.heap.size<=p.block) (v:Value):But h w (w'.setCell p v) :=
 ⟨g.os,g.tape,g.output,by simpa using g.size,λ b hb hn=>(Below.heap_setCell w' p v b (Nat.ne_of_lt (Nat.lt_of_lt_of_le hb hp))).trans (g.block b hb hn)⟩
theorem But.trans (g:But h a w) (g':But h w w'):But h a w' :=
 ⟨g'.os.trans g.os,g'.tape.trans g.tape,g'.output.trans g.output,Nat.le_trans g.size g'.size,λ b hb hn=>(g'.block b (Nat.lt_of_lt_of_le hb g.size) hn).trans (g.block b hb hn)⟩
theorem But.gr (g:Gr a w) (g':But h w w') (hh:a.heap.size<=h):Gr a w' :=
 ⟨g'.os.trans g.os,g'.tape.trans g.tape,g'.output.trans g.output,Nat.le_trans g.size g'.size,λ b hb=>(g'.block b (Nat.lt_of_lt_of_le hb g.size) (Nat.ne_of_lt (Nat.lt_of_lt_of_le hb hh))).trans (g.block b hb)⟩
theorem But.blk {b:Nat} {vs:Array Value} {t:TypeId} (g:But h w w') (B:Blk w b vs t) (hn:b≠h):Blk w' b vs t:=by
 unfold Blk;rw [g.block b B.lt hn];exact B
theorem But.own {g:Nat} (G:But h w w') (hg:w.heap.size<=g) (s:Int) (t k:Bool) (r o:Int) :
 But h w (((((w'.setCell ⟨g,0,none⟩ (.int .i64 s)).setCell ⟨g,1,none⟩ (.bool t)).setCell ⟨g,2,none⟩ (.bool k)).setCell ⟨g,3,none⟩ (.int .i64 r)).setCell ⟨g,4,none⟩ (.int .i64 o)) :=
 ((((G.st (p:=⟨g,0,none⟩) hg _).st (p:=⟨g,1,none⟩) hg _).st (p:=⟨g,2,none⟩) hg _).st (p:=⟨g,3,none⟩) hg _).st (p:=⟨g,4,none⟩) hg _
theorem own_far {W:World} {g b:Nat} {vs:Array Value} {T:TypeId} (B:Blk W b vs T) (hn:g≠b) (s:Int) (t k:Bool) (r o:Int) :
 Blk (((((W.setCell ⟨g,0,none⟩ (.int .i64 s)).setCell ⟨g,1,none⟩ (.bool t)).setCell ⟨g,2,none⟩ (.bool k)).setCell ⟨g,3,none⟩ (.int .i64 r)).setCell ⟨g,4,none⟩ (.int .i64 o)) b vs T :=
 ((((B.st (p:=⟨g,0,none⟩) hn _).st (p:=⟨g,1,none⟩) hn _).st (p:=⟨g,2,none⟩) hn _).st (p:=⟨g,3,none⟩) hn _).st (p:=⟨g,4,none⟩) hn _
end
section
variable {F:Nat} {caps:Array Value} {w:World}
theorem toldX_ok (eg:∀ args w,(callFunc F args).run Tryz.prog w=.ok (.enter F args) w) (s:Int) (t k:Bool) (r o:Int) {h:Nat} (hh:h<w.heap.size) {vs:Array Value} {Th:TypeId}
 (hq:∀ W,Gr w W->Calls Tryz.prog F caps W λ e w'=>e=.returned (.agg #[.int .i64 s,.bool t,.bool k,.int .i64 r,.int .i64 o])/\But h W w'/\Blk w' h vs Th) :
 Calls Tryz.prog 183 #[.func (.func F) #[] caps] w λ e w'=>e=.returned (.tuple #[.agg #[.int .i64 s,.bool t,.bool k,.int .i64 r,.int .i64 o],.int .i64 0])/\But h w w'/\Blk w' h vs Th:=by
 have hmf:=mkF
 have HQ:=hid hq
 clear hq
 have h1:w.heap.size≠h:=by omega
 have h2:w.heap.size+1≠h:=by omega
 go_enter_defers Tryz.func183,Tryz.ntmps183
 go_wp2_with fail
 with_reducible refine (HQ.out _ (((Gr.refl w).al _).al _)).mono ?_
 rintro e w1 ⟨rfl,g1,X1⟩
 have B0:=g1.blk ((Blk.new w #[.int .i64 0,.bool false,.bool false,.int .i64 0,.int .i64 0] 53).al (.cells #[.int .i64 0] 27)) h1
 have B1:=Blk.new (w.alloc (.cells #[.int .i64 0,.bool false,.bool false,.int .i64 0,.int .i64 0] 53)) #[.int .i64 0] 27
 rw [World.size_alloc] at B1
 replace B1:=g1.blk B1 h2
 have G0:=(But.of (h:=h) (((Gr.refl w).al (.cells #[.int .i64 0,.bool false,.bool false,.int .i64 0,.int .i64 0] 53)).al (.cells #[.int .i64 0] 27))).trans g1
 have hne:w.heap.size+1≠w.heap.size:=by omega
 obtain⟨⟨a0,a1,a2,a3,a4⟩,y0,y1,y2,y3,y4⟩:=own_cells B0
 obtain⟨q0,z0⟩:=B1.at_ (k:=0) rfl
 have BF:=(own_st B0 s t k r o).st (p:=⟨w.heap.size+1,0,none⟩) hne (.int .i64 0)
 have BG:=(own_far B1 hne.symm s t k r o).set 0 (.int .i64 0)
 have XF:=hid ((own_far X1 h1 s t k r o).st (p:=⟨w.heap.size+1,0,none⟩) h2 (.int .i64 0))
 obtain⟨⟨c0,c1,c2,c3,c4⟩,-⟩:=own_cells BF
 obtain⟨q1,z1⟩:=BG.at_ (k:=0) (v:=.int .i64 0) rfl
 have G:=hid ((G0.own (g:=w.heap.size) (Nat.le_refl _) s t k r o).st (p:=⟨w.heap.size+1,0,none⟩) (Nat.le_succ _) (.int .i64 0))
 clear B0 B1 BF BG g1 G0 X1
 go_wp2_with fail
 refine leaves_cons (f:=208) (args:=#[.pointer (some ⟨w.heap.size+1,0,none⟩)]) (by simp) (by simp [go_sem]) ?_
 refine (catchO_idle ⟨w.heap.size+1,0,none⟩ _).mono ?_
 rintro e u' w'' ⟨rfl,rfl,rfl⟩
 simp [Leaves,settle,results,Tryz.results183,go_sem,q1,c0,c1,c2,c3,c4]
 exact⟨G.out,XF.out⟩
end
section
variable {s r:Int} {t k a b c:Bool} {n u o x S R X:Int} {T K v:Bool} {w:World}
theorem Wake_cl {W:World} {g i j h:Nat} (B:Blk W g #[.int .i64 s,.bool t,.bool k,.int .i64 r,.int .i64 o] 53) (D:Blk W i #[.int .i64 u] 3) (E:Blk W j #[.int .i64 x] 3) (H:Blk W h #[.bool false] 4)
 (hc:∀ W,Calls Tryz.prog 196 #[ov s t k r o,.int .i64 u,.int .i64 x] W λ e w'=>e=.returned (.tuple #[ov S T K R X,.bool v])/\Gr W w') :
 Calls Tryz.prog 195 #[.pointer (some ⟨g,0,none⟩),.pointer (some ⟨i,0,none⟩),.pointer (some ⟨j,0,none⟩),.pointer (some ⟨h,0,none⟩)] W λ e w' =>
  e=.returned (ov S T K R X)/\But h W w'/\Blk w' h #[.bool v] 4:=by
 have HC:=λ W=>hid (hc W)
 have hlt:=B.lt
 have hlt2:=D.lt
 have hlt3:=E.lt
 have hlt4:=H.lt
 have hne:W.heap.size≠h:=by omega
 obtain⟨⟨q0,q1,q2,q3,q4⟩,-⟩:=own_cells B
 obtain⟨d0,-⟩:=D.at_ (k:=0) rfl
 obtain⟨f0,-⟩:=E.at_ (k:=0) rfl
 have N1:=hid (Blk.new W #[.int .i64 0,.bool false,.bool false,.int .i64 0,.int .i64 0] 53)
 have NH:=hid (H.al (.cells #[.int .i64 0,.bool false,.bool false,.int .i64 0,.int .i64 0] 53))
 have G0:=hid ((Gr.refl W).al (.cells #[.int .i64 0,.bool false,.bool false,.int .i64 0,.int .i64 0] 53))
 clear hc B D E H
 go_enter Tryz.func195,Tryz.ntmps195
 go_wp2_with fail
 with_reducible refine (HC _).out.mono ?_
 rintro e w1 ⟨rfl,g1⟩
 have B1:=N1.out.gr g1
 have H1:=NH.out.gr g1
 obtain⟨⟨e0,e1,e2,e3,e4⟩,y0,y1,y2,y3,y4⟩:=own_cells B1
 obtain⟨p0,z0⟩:=H1.at_ (k:=0) rfl
 have C1:=(own_st B1 S T K R X).st (p:=⟨h,0,none⟩) (Ne.symm hne) (.bool v)
 have H2:=(own_far H1 hne S T K R X).set 0 (.bool v)
 have G2:=(((But.of (h:=h) (G0.out.trans g1)).own (g:=W.heap.size) (Nat.le_refl _) S T K R X).set 0 (.bool v))
 have C1:=hid C1
 have H2:=hid H2
 have G2:=hid G2
 clear g1 B1 H1
 go_upto_region 2 with fail
 clear e0 e1 e2 e3 e4 y0 y1 y2 y3 y4 p0 z0 q0 q1 q2 q3 q4 d0 f0
 generalize ((((((w1.setCell ⟨W.heap.size,0,none⟩ (.int .i64 S)).setCell ⟨W.heap.size,1,none⟩ (.bool T)).setCell ⟨W.heap.size,2,none⟩ (.bool K)).setCell ⟨W.heap.size,3,none⟩ (.int .i64 R)).setCell ⟨W.heap.size,4,none⟩ (.int .i64 X)).setCell ⟨h,0,none⟩ (.bool v))=W2 at C1 H2 G2 ⊢
 obtain⟨⟨j0,j1,j2,j3,j4⟩,z0,z1,z2,z3,z4⟩:=own_cells C1.out
 have C2:=own_st C1.out S T K R X
 have HF:=hid (own_far H2.out hne S T K R X)
 have GF:=hid (G2.out.own (g:=W.heap.size) (Nat.le_refl _) S T K R X)
 obtain⟨⟨c0,c1,c2,c3,c4⟩,-⟩:=own_cells C2
 clear C2
 go_wp2_with fail
 exact bodyPost_ret (v:=ov S T K R X) (by simp [results,Tryz.results195,go_sem,c0,c1,c2,c3,c4]) rfl ⟨rfl,GF.out,HF.out⟩
def Laid (w W:World) (s:Int) (t k:Bool) (r o u x:Int):Prop :=
 Blk W w.heap.size #[.int .i64 s,.bool t,.bool k,.int .i64 r,.int .i64 o] 53/\Blk W (w.heap.size+1) #[.int .i64 u] 3/\Blk W (w.heap.size+1+1) #[.int .i64 x] 3 /\
 Blk W (w.heap.size+1+1+1) #[.int .i64 0,.bool false,.bool false,.int .i64 0,.int .i64 0] 53/\Blk W (w.heap.size+1+1+1+1) #[.bool false] 4/\Gr w W
theorem Laid.gr {W W':World} (h:Laid w W s t k r o u x) (g:Gr W W'):Laid w W' s t k r o u x :=
 ⟨h.1.gr g,h.2.1.gr g,h.2.2.1.gr g,h.2.2.2.1.gr g,h.2.2.2.2.1.gr g,h.2.2.2.2.2.trans g⟩
theorem Laid.mk (w:World) (s:Int) (t k:Bool) (r o u x:Int) :
 Laid w (((((w.alloc (.cells #[.int .i64 s,.bool t,.bool k,.int .i64 r,.int .i64 o] 53)).alloc (.cells #[.int .i64 u] 3)).alloc (.cells #[.int .i64 x] 3)).alloc (.cells #[.int .i64 0,.bool false,.bool false,.int .i64 0,.int .i64 0] 53)).alloc (.cells #[.bool false] 4)) s t k r o u x:=by
 have b0:=(((Blk.new w #[.int .i64 s,.bool t,.bool k,.int .i64 r,.int .i64 o] 53).al (.cells #[.int .i64 u] 3)).al (.cells #[.int .i64 x] 3)).al (.cells #[.int .i64 0,.bool false,.bool false,.int .i64 0,.int .i64 0] 53) |>.al (.cells #[.bool false] 4)
 have b1:=((Blk.new (w.alloc (.cells #[.int .i64 s,.bool t,.bool k,.int .i64 r,.int .i64 o] 53)) #[.int .i64 u] 3).al (.cells #[.int .i64 x] 3)).al (.cells #[.int .i64 0,.bool false,.bool false,.int .i64 0,.int .i64 0] 53) |>.al (.cells #[.bool false] 4)
 have b2:=(Blk.new ((w.alloc (.cells #[.int .i64 s,.bool t,.bool k,.int .i64 r,.int .i64 o] 53)).alloc (.cells #[.int .i64 u] 3)) #[.int .i64 x] 3).al (.cells #[.int .i64 0,.bool false,.bool false,.int .i64 0,.int .i64 0] 53) |>.al (.cells #[.bool false] 4)
 have b3:=(Blk.new (((w.alloc (.cells #[.int .i64 s,.bool t,.bool k,.int .i64 r,.int .i64 o] 53)).alloc (.cells #[.int .i64 u] 3)).alloc (.cells #[.int .i64 x] 3)) #[.int .i64 0,.bool false,.bool false,.int .i64 0,.int .i64 0] 53).al (.cells #[.bool false] 4)
 have b4:=Blk.new ((((w.alloc (.cells #[.int .i64 s,.bool t,.bool k,.int .i64 r,.int .i64 o] 53)).alloc (.cells #[.int .i64 u] 3)).alloc (.cells #[.int .i64 x] 3)).alloc (.cells #[.int .i64 0,.bool false,.bool false,.int .i64 0,.int .i64 0] 53)) #[.bool false] 4
 rw [World.size_alloc] at b1
 rw [World.size_alloc,World.size_alloc] at b2
 rw [World.size_alloc,World.size_alloc,World.size_alloc] at b3
 rw [World.size_alloc,World.size_alloc,World.size_alloc,World.size_alloc] at b4
 exact⟨b0,b1,b2,b3,b4,(((((Gr.refl w).al _).al _).al _).al _).al _⟩
theorem Wake_ok (hc:∀ W,Calls Tryz.prog 196 #[ov s t k r o,.int .i64 u,.int .i64 x] W λ e w'=>e=.returned (.tuple #[ov S T K R X,.bool v])/\Gr W w') :
 Calls Tryz.prog 154 #[ov s t k r o,.int .i64 u,.int .i64 x] w λ e w'=>e=.returned (.tuple #[ov S T K R X,.bool v,.int .i64 0])/\Gr w w':=by
 have L0:=Laid.mk w s t k r o u x
 have TT:=hid (toldX_ok (F:=195) (caps:=#[.pointer (some ⟨w.heap.size,0,none⟩),.pointer (some ⟨w.heap.size+1,0,none⟩),.pointer (some ⟨w.heap.size+1+1,0,none⟩),.pointer (some ⟨w.heap.size+1+1+1+1,0,none⟩)]) (w:=(((((w.alloc (.cells #[.int .i64 s,.bool t,.bool k,.int .i64 r,.int .i64 o] 53)).alloc (.cells #[.int .i64 u] 3)).alloc (.cells #[.int .i64 x] 3)).alloc (.cells #[.int .i64 0,.bool false,.bool false,.int .i64 0,.int .i64 0] 53)).alloc (.cells #[.bool false] 4))) (enters_of Tryz.func195 (by kernel_rfl) rfl) S T K R X (h:=w.heap.size+1+1+1+1) L0.2.2.2.2.1.lt (λ W G=>Wake_cl (L0.gr G).1 (L0.gr G).2.1 (L0.gr G).2.2.1 (L0.gr G).2.2.2.2.1 hc))
 clear hc
 have L0:=hid L0
 have hmf:=mkF
 go_enter Tryz.func154,Tryz.ntmps154
 go_wp2_with fail
 with_reducible refine TT.out.mono ?_
 rintro e w1 ⟨rfl,g1,H1⟩
 have B3:=g1.blk L0.out.2.2.2.1 (by omega)
 have G:=hid (But.gr L0.out.2.2.2.2.2 g1 (by omega))
 have l3:=B3.lt
 have l4:=H1.lt
 obtain⟨⟨e0,e1,e2,e3,e4⟩,y0,y1,y2,y3,y4⟩:=own_cells B3
 obtain⟨p0,-⟩:=H1.at_ (k:=0) rfl
 have BF:=((own_st B3 S T K R X).al (.cells #[.int .i64 S,.bool T,.bool K,.int .i64 R,.int .i64 X] 53)).gr ((Gr.refl _).dr)
 have GF:=hid (((own_gr (g:=w.heap.size+1+1+1) G.out (by omega) S T K R X).al (.cells #[.int .i64 S,.bool T,.bool K,.int .i64 R,.int .i64 X] 53)).dr)
 obtain⟨⟨c0,c1,c2,c3,c4⟩,-⟩:=own_cells BF
 clear BF B3 H1 g1 TT
 go_wp2_with fail
 go_region
 go_wp2_with fail
 exact bodyPost_ret (v:=.tuple #[ov S T K R X,.bool v,.int .i64 0]) (by simp [results,Tryz.results154,go_sem,c0,c1,c2,c3,c4]) rfl ⟨rfl,GF.out⟩
end
end P14
end
section
open Go.ChangeShapes Go.WideShapes Go.ChangeAt Go.RowKit Go.Shelf
namespace P16
open P14 (pan ov)
structure OwnR (c:Cl):Prop where
 sc:c.since=-1\/P4.Tm c.since
 rd:0<=c.rounds/\c.rounds<=4
 ol:OkW c.old
abbrev ovc (c:Cl):Value:=ov c.since c.st c.aw c.rounds c.old
section
variable {c:Cl} {now x u:Int} {W:World}
theorem OwnR.s (h:OwnR c):P14.OkS c.since c.rounds:=⟨h.sc,h.rd⟩
theorem OwnR.n (h:OwnR c):P14.OkN (wd c.old).n:=h.ol.n
theorem OwnR.o (h:OwnR c):c.old=P3.pw (wd c.old).L (wd c.old).K (wd c.old).S (wd c.old).n:=pw_un h.ol
theorem look_cl (h:OwnR c) (W:World):Calls Tryz.prog 130 #[ovc c] W λ e w'=>e=.returned (P3.fl (wd c.old).L (wd c.old).K (wd c.old).S (wd c.old).n)/\Gr W w':=by
 have q:=P14.look_ok (s:=c.since) (r:=c.rounds) (t:=c.st) (k:=c.aw) (a:=(wd c.old).L) (b:=(wd c.old).K) (c:=(wd c.old).S) (n:=(wd c.old).n) (w:=W) h.s h.n
 rw [<- h.o] at q
 exact q
theorem Wakes_c (h:OwnR c) (W:World):Calls Tryz.prog 178 #[ovc c] W λ e w'=>e=.returned (.tuple #[.bool (!c.aw&&!(wd c.old).K&&decide (0<(wd c.old).n)),.int .i64 0])/\Gr W w' :=
 P14.Wakes_ok (look_cl h)
theorem Got_c (h:OwnR c) (W:World):Calls Tryz.prog 143 #[ovc c] W λ e w'=>e=.returned (.tuple #[.bool (!(wd c.old).L&&!(wd c.old).S),.int .i64 0])/\Gr W w' :=
 P14.Got_ok (look_cl h)
def goes (c:Cl) (u:Int):Bool:=decide ((wd c.old).L=true/\(wd c.old).S=false/\c.rounds<4/\1<u)
theorem Spins_c (h:OwnR c) (hu:0<=u) (W:World):Calls Tryz.prog 138 #[ovc c,.int .i64 u] W λ e w'=>e=.returned (.tuple #[.bool (goes c u),.int .i64 0])/\Gr W w':=by
 have hr:=h.rd
 have hng:¬ (c.rounds<0\/u<0):=by omega
 by_cases h4:c.rounds<4/\1<u
 . have e:goes c u=((wd c.old).L&&!(wd c.old).S):=by
    unfold goes
    cases (wd c.old).L<;>cases (wd c.old).S<;>simp [h4.1,h4.2]
   rw [e]
   exact P14.SpinsB λ W g k B D=>P14.Spins_yes B D (look_cl h) λ W=>P6.Can_few hng h4.1 (by simp [h4.2]) W
 . have e:goes c u=false:=by
    unfold goes
    exact decide_eq_false λ q=>h4 ⟨q.2.2.1,q.2.2.2⟩
   rw [e]
   refine P14.SpinsB λ W g k B D=>P14.Spins_no B D (look_cl h) λ W=>?_
   by_cases h5:c.rounds<4
   . exact P6.Can_few hng h5 (decide_eq_false λ q=>h4 ⟨h5,q⟩) W
   . exact P6.Can_many hng h5 W
theorem wanted_c (h:OwnR c) (hw:wants c=some x) (W:World):Calls Tryz.prog 181 #[ovc c] W λ e w'=>e=.returned (.int .i64 x)/\Gr W w':=by
 have hn:=h.n
 have ho:=h.o
 unfold P14.OkN at hn
 unfold wants at hw
 dsimp only at hw
 generalize wd c.old=o at *
 obtain⟨L,K,S,n⟩:=o
 dsimp only at *
 have e:c.aw=true->K=true:=λ q=>by
  cases K
  . rw [if_pos ⟨q,rfl⟩] at hw;cases hw
  . rfl
 rw [if_neg (by rintro⟨q1,q2⟩;rw [e q1] at q2;cases q2)] at hw
 have hm:P14.OkN (n+P14.more L S):=by
  unfold P14.OkN P14.more
  by_cases hLS:(L||S)=true
  . rw [if_pos hLS]
    by_cases hb:268435456<=n+1
    . rw [if_pos ⟨by simpa using hLS,hb⟩] at hw;cases hw
    . omega
  . rw [if_neg hLS];omega
 rw [if_neg (by
  rintro⟨q1,q2⟩
  unfold P14.OkN P14.more at hm
  rw [if_pos (by simpa using q1)] at hm
  omega)] at hw
 cases hw
 have q:=P14.wanted_ok (s:=c.since) (t:=c.st) (k:=c.aw) (r:=c.rounds) (a:=L) (b:=K) (c:=S) (n:=n) (w:=W) h.s hn (by
  cases hk:c.aw
  . exact .inr rfl
  . exact .inl (e hk)) hm
 rw [<- ho] at q
 have ex:P3.pw (L||!S) (K&&!c.aw) (S||(c.st&&L)) (n+P14.more L S)=un { L:=L||!S,K:=K&&!c.aw,S:=S||(c.st&&L),n:=if L=true\/S=true then n+1 else n }:=by
  rw [<- un_pw]
  congr 1
  unfold P14.more
  by_cases hLS:(L||S)=true
  . rw [if_pos hLS,if_pos (by simpa using hLS)]
  . rw [if_neg hLS,if_neg (by simpa using hLS)];exact Int.add_zero _
 rw [ex] at q
 simpa using q
theorem Wants_c (h:OwnR c) (hw:wants c=some x) (W:World):Calls Tryz.prog 142 #[ovc c] W λ e w'=>e=.returned (.tuple #[.int .i64 x,.int .i64 0])/\Gr W w' :=
 P14.Wants_ok (wanted_c h hw)
theorem wants_ok (h:OwnR c) (hw:wants c=some x):OkW x:=by
 have hn:=h.n
 unfold P14.OkN at hn
 unfold wants at hw
 dsimp only at hw
 split at hw
 . cases hw
 split at hw
 . cases hw
 rename_i h1 h2
 cases hw
 by_cases hLS:((wd c.old).L||(wd c.old).S)=true
 . have hb:¬ 268435456<=(wd c.old).n+1:=λ q=>h2 ⟨by simpa using hLS,q⟩
   exact okW_un (by dsimp only;rw [if_pos hLS];omega) (by dsimp only;rw [if_pos hLS];omega)
 . exact okW_un (by dsimp only;rw [if_neg hLS];omega) (by dsimp only;rw [if_neg hLS];omega)
theorem Wants_x (h:OwnR c) (hw:wants c=none):∃ y:Int,(y==0)=false/\∀ W,Calls Tryz.prog 142 #[ovc c] W λ e w'=>e=.returned (.tuple #[.int .i64 0,.int .i64 y])/\Gr W w':=by
 have hn:=h.n
 have ho:=h.o
 have hs:=h.s
 unfold wants at hw
 dsimp only at hw
 generalize wd c.old=o at *
 obtain⟨L,K,S,n⟩:=o
 dsimp only at *
 by_cases h1:c.aw=true/\K=false
 . obtain⟨q1,rfl⟩:=h1
   refine⟨12,by decide,λ W=>P14.Wants_no λ W=>?_⟩
   have q:=P14.wanted_broken (s:=c.since) (t:=c.st) (r:=c.rounds) (a:=L) (c:=S) (n:=n) (w:=W) hs hn
   rw [<- ho] at q
   show Calls Tryz.prog 181 #[ov c.since c.st c.aw c.rounds c.old] W _
   rw [q1]
   exact q
 . rw [if_neg h1] at hw
   by_cases h2:(L=true\/S=true)/\268435456<=n+1
   . refine⟨10,by decide,λ W=>P14.Wants_no λ W=>?_⟩
     have q:=P14.wanted_over (s:=c.since) (t:=c.st) (k:=c.aw) (r:=c.rounds) (a:=L) (b:=K) (c:=S) (n:=n) (w:=W) hs hn (by
      cases hk:c.aw
      . exact .inr rfl
      . left
        cases K
        . exact absurd ⟨hk,rfl⟩ h1
        . rfl) (by simpa using h2.1) (by have:=h2.2;unfold P14.OkN;omega)
     rw [<- ho] at q
     exact q
   . rw [if_neg h2] at hw
     cases hw
theorem Sleep_c (h:OwnR c) (hu:P4.Tm now) (W:World):Calls Tryz.prog 145 #[ovc c,.int .i64 now] W λ e w'=>e=.returned (.tuple #[ov (if c.since=-1 then now else c.since) c.st c.aw c.rounds c.old,.bool (!decide (c.since=-1)),.int .i64 0])/\Gr W w':=by
 have q:=P14.Sleep_ok (s:=c.since) (t:=c.st) (k:=c.aw) (r:=c.rounds) (o:=c.old) (u:=now) (S:=P14.snc c.since now) (w:=W) λ W=>by
  have q:=P14.asleep_ok (s:=c.since) (t:=c.st) (k:=c.aw) (r:=c.rounds) (u:=now) (a:=(wd c.old).L) (b:=(wd c.old).K) (c:=(wd c.old).S) (n:=(wd c.old).n) (w:=W) h.s h.n hu
  rw [<- h.o] at q
  exact q
 have e:decide (P14.snc c.since now=c.since)=!decide (c.since=-1):=by
  unfold P14.snc
  unfold P4.Tm at hu
  by_cases hs:c.since=-1
  . rw [if_pos hs];simp [hs];omega
  . rw [if_neg hs];simp [hs]
 rw [e] at q
 exact q
theorem Wake_h (h:OwnR c) (hu:P4.Tm now) (hx:OkW x) (hS:(wd x).S=true) (W:World):Calls Tryz.prog 154 #[ovc c,.int .i64 now,.int .i64 x] W λ e w'=>e=.returned (.tuple #[ov c.since (c.st||late c.since now) c.aw c.rounds x,.bool true,.int .i64 0])/\Gr W w' :=
 P14.Wake_ok λ W=>by
  have e:=pw_un hx
  rw [hS] at e
  have q:=P14.woken_handed (s:=c.since) (t:=c.st) (k:=c.aw) (r:=c.rounds) (o:=c.old) (u:=now) (a:=(wd x).L) (b:=(wd x).K) (n:=(wd x).n) (w:=W) h.s h.ol hu hx.n (T:=c.st||late c.since now) rfl
  rw [<- e] at q
  exact q
theorem Wake_b (h:OwnR c) (hu:P4.Tm now) (hx:OkW x) (hS:(wd x).S=false) (W:World):Calls Tryz.prog 154 #[ovc c,.int .i64 now,.int .i64 x] W λ e w'=>e=.returned (.tuple #[ov c.since (c.st||late c.since now) true 0 x,.bool false,.int .i64 0])/\Gr W w' :=
 P14.Wake_ok λ W=>by
  have e:=pw_un hx
  rw [hS] at e
  have q:=P14.woken_back (s:=c.since) (t:=c.st) (k:=c.aw) (r:=c.rounds) (o:=c.old) (u:=now) (a:=(wd x).L) (b:=(wd x).K) (n:=(wd x).n) (w:=W) h.s h.ol hu hx.n (T:=c.st||late c.since now) rfl
  rw [<- e] at q
  exact q
theorem Handed_c (h:OwnR c) (hd:hands c=some x) (W:World):Calls Tryz.prog 155 #[ovc c] W λ e w'=>e=.returned (.tuple #[.int .i64 x,.int .i64 0])/\Gr W w' :=
 P14.Handed_ok λ W=>by
  have hn:=h.n
  have ho:=h.o
  unfold hands at hd
  dsimp only at hd
  generalize wd c.old=o at *
  obtain⟨L,K,S,n⟩:=o
  dsimp only at *
  split at hd
  . cases hd
  . rename_i hb
    have hL:L=false:=by cases L;rfl;exact absurd (.inl rfl) hb
    have hK:K=false:=by cases K;rfl;exact absurd (.inr (.inl rfl)) hb
    have h0:0<n:=by
     have:n≠0:=λ q=>hb (.inr (.inr q))
     have:=hn.1
     omega
    subst hL hK
    cases hd
    have q:=P14.taken_ok (s:=c.since) (t:=c.st) (k:=c.aw) (r:=c.rounds) (c:=S) (n:=n) (w:=W) h.s hn h0
    rw [<- ho] at q
    exact q
theorem Handed_x (h:OwnR c) (hd:hands c=none) (W:World):Calls Tryz.prog 155 #[ovc c] W λ e w'=>e=.returned (.tuple #[.int .i64 0,.int .i64 12])/\Gr W w' :=
 P14.Handed_no λ W=>by
  have hn:=h.n
  have ho:=h.o
  unfold hands at hd
  dsimp only at hd
  generalize wd c.old=o at *
  obtain⟨L,K,S,n⟩:=o
  dsimp only at *
  split at hd
  . rename_i hb
    have q:=P14.taken_broken (s:=c.since) (t:=c.st) (k:=c.aw) (r:=c.rounds) (a:=L) (b:=K) (c:=S) (n:=n) (w:=W) h.s hn (by
     rintro⟨rfl,rfl,q⟩
     rcases hb with q1 | q1 | q1
     . cases q1
     . cases q1
     . omega)
    rw [<- ho] at q
    exact q
  . cases hd
end
end P16
end
section
open Go.ChangeShapes Go.WideShapes Go.ChangeAt Go.RowKit Go.Shelf
namespace P16
open P14 (pan)
open P12 (PV PMem)
section
variable {x:Cx} {W:World} {T E:Sl} {cl:List Cl} {mx:List T3} {tb:List Sp} {ev:List T3} {c:Cl} {a:T3} {pr:List Ac}
theorem gives_none {v:Int} {W:World} (hk:OkW v) (hg:P15.Glob W) (hn:¬ ((wd v).L=false/\(wd v).K=false/\(wd v).S=false/\(wd v).n≠0)):Calls Tryz.prog 159 #[.int .i64 v] W λ e w'=>e=.returned (.tuple #[.bool false,.int .i64 0,.int .i64 0])/\Gr W w':=by
 have q:=P15.Wakes_none (a:=(wd v).L) (b:=(wd v).K) (c:=(wd v).S) (n:=(wd v).n) (w:=W) hg hk.n (by
  by_cases h:(wd v).n=0
  . exact .inl h
  . right
    unfold P15.st
    cases hL:(wd v).L
    . cases hS:(wd v).S
      . cases hK:(wd v).K
        . exact absurd ⟨hL,hK,hS,h⟩ hn
        . simp
      . simp
    . simp)
 rw [<- pw_un hk] at q
 exact q
theorem gives_yes {v:Int} {W:World} (hk:OkW v) (hg:P15.Glob W) (h1:(wd v).L=false) (h2:(wd v).K=false) (h3:(wd v).S=false) (hn:(wd v).n≠0):Calls Tryz.prog 159 #[.int .i64 v] W λ e w'=>e=.returned (.tuple #[.bool true,.int .i64 (un { L:=false,K:=true,S:=false,n:=(wd v).n-1 }),.int .i64 0])/\Gr W w':=by
 have e:=pw_un hk
 rw [h1,h2,h3] at e
 have:=hk.n
 have q:=P15.Wakes_yes (n:=(wd v).n) (w:=W) hg hk.n (by omega) (m:=(wd v).n-1) rfl
 rw [<- e] at q
 exact q
theorem give_none (h:TS x W T E cl mx tb ev) (hg:P15.Glob W) (hR:Rn x cl c pr) (hk:OkW c.old) (hn:¬ ((wd c.old).L=false/\(wd c.old).K=false/\(wd c.old).S=false/\(wd c.old).n≠0)) :
 Calls Tryz.prog 111 #[.pointer (some ⟨x.b,0,none⟩)] W λ e W'=>e=.returned (.tuple #[])/\TS x W' T E (cl.set x.who.toNat (over c pr.length)) mx tb ev/\Kx x W W':=by
 have hc:=hR.hc
 have C:=hid (gives_none hk hg hn)
 have H:=hid h
 obtain⟨-,-,-,-,-,-,-,c7,-,-,-,-⟩:=h.cells
 obtain⟨-,-,-,-,-,-,-,-,-,-,-,-,s12,-⟩:=h.cl_ hc
 clear h hk hn
 go_enter Tryz.func111,Tryz.ntmps111
 go_wp2_with fail
 with_reducible refine C.out.mono ?_
 rintro e w2 ⟨rfl,g2⟩
 have G2:=hid g2
 have ho:=hid (over_is (H.out.gr g2) hR)
 clear g2
 go_wp2_with fail
 with_reducible refine (bothBI_yes _ _ _).mono ?_
 rintro e w3 ⟨rfl,rfl⟩
 go_wp2_with fail
 with_reducible refine ho.out.mono ?_
 rintro e w4 ⟨rfl,h4,k4⟩
 have H4:=hid h4
 have K4:=hid k4
 clear h4 k4
 go_wp2_with fail
 (first | go_end0 | ((try simp only [Exit.inBlock,Exit.then]);refine bodyPost_ret (results_none rfl _ _ _) rfl ?_))
 exact⟨rfl,H4.out,(Kx.gr G2.out).trans K4.out⟩
theorem give_yes (h:TS x W T E cl mx tb ev) (hg:P15.Glob W) (hR:Rn x cl c pr) (h0:0<=x.n) (h4:x.n<4) (ha:mx[x.n.toNat]?=some a) (hk:OkW c.old) (k1:(wd c.old).L=false) (k2:(wd c.old).K=false) (k3:(wd c.old).S=false) (kn:(wd c.old).n≠0) (hne:(a.1==c.old)=true) :
 Calls Tryz.prog 111 #[.pointer (some ⟨x.b,0,none⟩)] W λ e W'=>e=.returned (.tuple #[])/\TS x W' T E (cl.set x.who.toNat { c with pc:=12 }) (mx.set x.n.toNat (un { L:=false,K:=true,S:=false,n:=(wd c.old).n-1 },a.2)) tb ev/\Kx x W W':=by
 have hc:=hR.hc
 have hn:=hk.n
 have C:=hid (gives_yes hk hg k1 k2 k3 kn)
 have hw:OkW (un { L:=false,K:=true,S:=false,n:=(wd c.old).n-1 }):=okW_un (by dsimp only;omega) (by dsimp only;omega)
 generalize un { L:=false,K:=true,S:=false,n:=(wd c.old).n-1 }=v at C hw ⊢
 have H:=hid h
 obtain⟨-,-,-,-,-,-,-,c7,-,-,-,-⟩:=h.cells
 obtain⟨-,-,-,-,-,-,-,-,-,-,-,-,s12,-⟩:=h.cl_ hc
 clear h k1 k2 k3 kn hn hk
 go_enter Tryz.func111,Tryz.ntmps111
 go_wp2_with fail
 with_reducible refine C.out.mono ?_
 rintro e w2 ⟨rfl,g2⟩
 have G2:=hid g2
 have hs:=hid (swaps_yes (H.out.gr g2) h0 h4 ha hc hne hw)
 clear g2 c7 s12
 go_wp2_with fail
 with_reducible refine (bothBI_yes _ _ _).mono ?_
 rintro e w3 ⟨rfl,rfl⟩
 go_wp2_with fail
 with_reducible refine hs.out.mono ?_
 rintro e w4 ⟨rfl,h9,k9⟩
 have K9:=hid k9
 clear k9
 have hc9:=hc
 have H9:=hid h9
 obtain⟨-,-,-,-,-,-,-,q7,-,-,-,-⟩:=h9.cells
 obtain⟨-,-,-,r3,-,-,-,-,-,-,-,-,-,sz⟩:=h9.cl_ hc9
 have y3:=sz 3 (by decide)
 clear sz
 clear h9
 go_wp2_with fail
 (first | go_end0 | ((try simp only [Exit.inBlock,Exit.then]);refine bodyPost_ret (results_none rfl _ _ _) rfl ?_))
 exact⟨rfl,H9.out.putPc hc ⟨by omega,by omega⟩,((Kx.gr G2.out).trans K9.out).trans (Kx.st (.inr (.inl rfl)) _)⟩
theorem give_no (h:TS x W T E cl mx tb ev) (hg:P15.Glob W) (hR:Rn x cl c pr) (h0:0<=x.n) (h4:x.n<4) (ha:mx[x.n.toNat]?=some a) (hk:OkW c.old) (k1:(wd c.old).L=false) (k2:(wd c.old).K=false) (k3:(wd c.old).S=false) (kn:(wd c.old).n≠0) (hne:(a.1==c.old)=false) :
 Calls Tryz.prog 111 #[.pointer (some ⟨x.b,0,none⟩)] W λ e W'=>e=.returned (.tuple #[])/\TS x W' T E (cl.set x.who.toNat { c with pc:=11 }) mx tb ev/\Kx x W W':=by
 have hc:=hR.hc
 have hn:=hk.n
 have C:=hid (gives_yes hk hg k1 k2 k3 kn)
 have hw:OkW (un { L:=false,K:=true,S:=false,n:=(wd c.old).n-1 }):=okW_un (by dsimp only;omega) (by dsimp only;omega)
 generalize un { L:=false,K:=true,S:=false,n:=(wd c.old).n-1 }=v at C hw ⊢
 have H:=hid h
 obtain⟨-,-,-,-,-,-,-,c7,-,-,-,-⟩:=h.cells
 obtain⟨-,-,-,-,-,-,-,-,-,-,-,-,s12,-⟩:=h.cl_ hc
 clear h k1 k2 k3 kn hn hk
 go_enter Tryz.func111,Tryz.ntmps111
 go_wp2_with fail
 with_reducible refine C.out.mono ?_
 rintro e w2 ⟨rfl,g2⟩
 have G2:=hid g2
 have hs:=hid (swaps_no (H.out.gr g2) h0 h4 ha hc hne v)
 clear g2 c7 s12
 go_wp2_with fail
 with_reducible refine (bothBI_yes _ _ _).mono ?_
 rintro e w3 ⟨rfl,rfl⟩
 go_wp2_with fail
 with_reducible refine hs.out.mono ?_
 rintro e w4 ⟨rfl,d,rfl⟩
 have h9:=(H.out.gr G2.out).gr ((Gr.refl _).drN d)
 have k9:Kx x _ _:=Kx.gr ((Gr.refl w3).drN d)
 have K9:=hid k9
 clear k9
 have hc9:=hc
 have H9:=hid h9
 obtain⟨-,-,-,-,-,-,-,q7,-,-,-,-⟩:=h9.cells
 obtain⟨-,-,-,r3,-,-,-,-,-,-,-,-,-,sz⟩:=h9.cl_ hc9
 have y3:=sz 3 (by decide)
 clear sz
 clear h9
 go_wp2_with fail
 (first | go_end0 | ((try simp only [Exit.inBlock,Exit.then]);refine bodyPost_ret (results_none rfl _ _ _) rfl ?_))
 exact⟨rfl,H9.out.putPc hc ⟨by omega,by omega⟩,((Kx.gr G2.out).trans K9.out).trans (Kx.st (.inr (.inl rfl)) _)⟩
theorem await_yes (h:TS x W T E cl mx tb ev) (hR:Rn x cl c pr) (h0:0<=x.n) (h4:x.n<4) (ha:mx[x.n.toNat]?=some a) (hn:0<=a.2.1/\a.2.1<4294967296) (hs:0<=a.2.2/\a.2.2<4294967296) (ht:(c.ticket==a.2.2)=true) (hp:0<=c.pc/\c.pc<=100) :
 Calls Tryz.prog 103 #[.pointer (some ⟨x.b,0,none⟩)] W λ e W'=>e=.returned (.tuple #[])/\TS x W' T E (cl.set x.who.toNat { c with pc:=c.pc+1 }) mx tb ev/\Kx x W W':=by
 have hc:=hR.hc
 have cm:=λ W' (g:Gr W W')=>hid (mutex_is (h.gr g) h0 h4)
 have ct:=λ W=>hid (P6.Turn_is (n:=a.2.1) (s:=a.2.2) (m:=c.ticket) (v:=true) (q:=0) (.inl ⟨P6.tk_ok hn hs,ht,rfl⟩) ⟨by omega,by omega⟩ ⟨by omega,by omega⟩ W)
 have H:=hid h
 obtain⟨-,-,-,-,-,-,-,c7,-,-,-,-⟩:=h.cells
 obtain⟨-,-,-,-,-,s5,-,-,-,-,-,-,-,-⟩:=h.cl_ hc
 obtain⟨-,m1,m2,-⟩:=h.mx_ ha
 clear h hn hs ht
 go_enter Tryz.func103,Tryz.ntmps103
 go_upto_region 0 with fail
 go_region_held3 (λ w'=>w'.cell? ⟨x.b,7,none⟩=some (.pointer (some ⟨x.bc,x.oc+x.who.toNat*13,none⟩))/\w'.cell? ⟨x.bc,x.oc+x.who.toNat*13+5,none⟩=some (.int .i64 c.ticket)/\w'.cell? ⟨x.bm,x.om+x.n.toNat*3+1,none⟩=some (.int .i64 a.2.1)/\w'.cell? ⟨x.bm,x.om+x.n.toNat*3+2,none⟩=some (.int .i64 a.2.2)) (first | exact⟨c7,s5,m1,m2⟩ | exact⟨q7,r5,u1,u2⟩) (first | (go_at_call 132;(with_reducible refine (cm _ ((Gr.refl W).dr)).out.mono ?_);rintro ee w2 ⟨rfl,d,rfl⟩) | (go_at_call 148;(with_reducible refine (ct _).out.mono ?_);rintro ee w3 ⟨rfl,g3⟩;have G3:=hid (((Gr.refl W).drN (1+d)).trans g3);have h3:=H.out.gr G3.out;obtain⟨-,-,-,-,-,-,-,q7,-,-,-,-⟩:=h3.cells;obtain⟨-,-,-,-,-,r5,-,-,-,-,-,-,-,-⟩:=h3.cl_ hc;obtain⟨-,u1,u2,-⟩:=h3.mx_ ha;clear g3 h3) | (go_at_call 137;(with_reducible refine (sureB_yes _ _).mono ?_);rintro ee w4 ⟨rfl,rfl⟩))
 rename_i hh
 clear hh c7 s5 m1 m2 q7 r5 u1 u2
 have h9:=H.out.gr G3.out
 have hc9:=hc
 have H9:=hid h9
 obtain⟨-,-,-,-,-,-,-,q7,-,-,-,-⟩:=h9.cells
 obtain⟨-,-,-,r3,-,-,-,-,-,-,-,-,-,sz⟩:=h9.cl_ hc9
 have y3:=sz 3 (by decide)
 clear sz
 clear h9
 go_wp2_with fail
 (first | go_end0 | ((try simp only [Exit.inBlock,Exit.then]);refine bodyPost_ret (results_none rfl _ _ _) rfl ?_))
 exact⟨rfl,H9.out.putPc hc ⟨by omega,by omega⟩,(Kx.gr G3.out).trans (Kx.st (.inr (.inl rfl)) _)⟩
theorem await_no (h:TS x W T E cl mx tb ev) (hR:Rn x cl c pr) (h0:0<=x.n) (h4:x.n<4) (ha:mx[x.n.toNat]?=some a) (hn:0<=a.2.1/\a.2.1<4294967296) (hs:0<=a.2.2/\a.2.2<4294967296) (ht:(c.ticket==a.2.2)=false) (hp:0<=c.pc/\c.pc<=100) :
 Calls Tryz.prog 103 #[.pointer (some ⟨x.b,0,none⟩)] W λ e W'=>e=.returned (.tuple #[])/\TS x W' T E cl mx tb ev/\Kx x W W':=by
 have hc:=hR.hc
 have cm:=λ W' (g:Gr W W')=>hid (mutex_is (h.gr g) h0 h4)
 have ct:=λ W=>hid (P6.Turn_is (n:=a.2.1) (s:=a.2.2) (m:=c.ticket) (v:=false) (q:=0) (.inl ⟨P6.tk_ok hn hs,ht,rfl⟩) ⟨by omega,by omega⟩ ⟨by omega,by omega⟩ W)
 have H:=hid h
 obtain⟨-,-,-,-,-,-,-,c7,-,-,-,-⟩:=h.cells
 obtain⟨-,-,-,-,-,s5,-,-,-,-,-,-,-,-⟩:=h.cl_ hc
 obtain⟨-,m1,m2,-⟩:=h.mx_ ha
 clear h hn hs ht
 go_enter Tryz.func103,Tryz.ntmps103
 go_upto_region 0 with fail
 go_region_held3 (λ w'=>w'.cell? ⟨x.b,7,none⟩=some (.pointer (some ⟨x.bc,x.oc+x.who.toNat*13,none⟩))/\w'.cell? ⟨x.bc,x.oc+x.who.toNat*13+5,none⟩=some (.int .i64 c.ticket)/\w'.cell? ⟨x.bm,x.om+x.n.toNat*3+1,none⟩=some (.int .i64 a.2.1)/\w'.cell? ⟨x.bm,x.om+x.n.toNat*3+2,none⟩=some (.int .i64 a.2.2)) (first | exact⟨c7,s5,m1,m2⟩ | exact⟨q7,r5,u1,u2⟩) (first | (go_at_call 132;(with_reducible refine (cm _ ((Gr.refl W).dr)).out.mono ?_);rintro ee w2 ⟨rfl,d,rfl⟩) | (go_at_call 148;(with_reducible refine (ct _).out.mono ?_);rintro ee w3 ⟨rfl,g3⟩;have G3:=hid (((Gr.refl W).drN (1+d)).trans g3);have h3:=H.out.gr G3.out;obtain⟨-,-,-,-,-,-,-,q7,-,-,-,-⟩:=h3.cells;obtain⟨-,-,-,-,-,r5,-,-,-,-,-,-,-,-⟩:=h3.cl_ hc;obtain⟨-,u1,u2,-⟩:=h3.mx_ ha;clear g3 h3) | (go_at_call 137;(with_reducible refine (sureB_yes _ _).mono ?_);rintro ee w4 ⟨rfl,rfl⟩))
 rename_i hh
 clear hh c7 s5 m1 m2 q7 r5 u1 u2
 go_wp2_with fail
 (first | go_end0 | ((try simp only [Exit.inBlock,Exit.then]);refine bodyPost_ret (results_none rfl _ _ _) rfl ?_))
 exact⟨rfl,H.out.gr G3.out,Kx.gr G3.out⟩
theorem withG_rn (h:Rn x cl c pr) (g:P11.G):(cl.set x.who.toNat (withG c g))[x.who.toNat]?=some (withG c g):=by rw [List.getElem?_set_self (List.getElem?_eq_some_iff.1 h.hc).1]
theorem sleep_bad (h:TS x W T E cl mx tb ev) (h0:0<=x.n) (h4:x.n<4) (ha:mx[x.n.toNat]?=some a) (hn:0<=a.2.1/\a.2.1<4294967296) (hs:0<=a.2.2/\a.2.2<4294967296) (ho:(a.2.1-a.2.2) % 4294967296=0) :
 Calls Tryz.prog 105 #[.pointer (some ⟨x.b,0,none⟩)] W λ e W'=>e=.panicked (pan 12)/\Kx x W W':=by
 have cs:=hid (serve_no h h0 h4 ha hn hs ho)
 clear h ho hn hs
 go_enter Tryz.func105,Tryz.ntmps105
 go_wp2_with fail
 with_reducible refine cs.out.mono ?_
 rintro e w1 ⟨rfl,k1⟩
 go_wp2_with fail
 exact bodyPost_pan rfl ⟨rfl,k1⟩
theorem sleep_told (h:TS x W T E cl mx tb ev) (hR:Rn x cl c pr) (h0:0<=x.n) (h4:x.n<4) (ha:mx[x.n.toNat]?=some a) (hn:0<=a.2.1/\a.2.1<4294967296) (hs:0<=a.2.2/\a.2.2<4294967296) (ho:(a.2.1-a.2.2) % 4294967296≠0) (ht:c.told=true) :
 Calls Tryz.prog 105 #[.pointer (some ⟨x.b,0,none⟩)] W λ e W'=>e=.returned (.tuple #[])/\TS x W' T E (cl.set x.who.toNat { c with pc:=7 }) (mx.set x.n.toNat (a.1,a.2.1,(a.2.2+1) % 4294967296)) tb ev/\Kx x W W':=by
 have hc:=hR.hc
 have cs:=hid (serve_yes h h0 h4 ha hn hs ho)
 clear h ho hn hs
 go_enter Tryz.func105,Tryz.ntmps105
 go_wp2_with fail
 with_reducible refine cs.out.mono ?_
 rintro e w1 ⟨rfl,h1,k1⟩
 have K1:=hid k1
 have H1:=hid h1
 obtain⟨-,-,-,-,-,-,-,c7,-,-,-,-⟩:=h1.cells
 obtain⟨-,-,-,s3,-,-,-,s7,-,-,-,-,-,sz⟩:=h1.cl_ hc
 have y3:=sz 3 (by decide)
 clear sz
 rw [ht] at s7
 clear h1 k1
 go_wp2_with fail
 (first | go_end0 | ((try simp only [Exit.inBlock,Exit.then]);refine bodyPost_ret (results_none rfl _ _ _) rfl ?_))
 exact⟨rfl,H1.out.putPc hc ⟨by omega,by omega⟩,K1.out.trans (Kx.st (.inr (.inl rfl)) _)⟩
theorem sleep_park (h:TS x W T E cl mx tb ev) (hR:Rn x cl c pr) (h0:0<=x.n) (h4:x.n<4) (ha:mx[x.n.toNat]?=some a) (hn:0<=a.2.1/\a.2.1<4294967296) (hs:0<=a.2.2/\a.2.2<4294967296) (ho:(a.2.1-a.2.2) % 4294967296≠0) (ht:c.told=false) :
 Calls Tryz.prog 105 #[.pointer (some ⟨x.b,0,none⟩)] W λ e W'=>e=.returned (.tuple #[])/\TS x W' T E (cl.set x.who.toNat { withG c (if c.permit then 0 else 1,false) with pc:=7 }) (mx.set x.n.toNat (a.1,a.2.1,(a.2.2+1) % 4294967296)) tb ev/\Kx x W W':=by
 have hc:=hR.hc
 have cs:=hid (serve_yes h h0 h4 ha hn hs ho)
 clear h ho hn hs
 obtain⟨g,hg⟩:∃ g:P11.G,(if c.permit then (0:Int) else 1,false)=g:=⟨_,rfl⟩
 rw [hg]
 have bg:B64 g.1:=by rw [<- hg];dsimp only;split<;>exact⟨by omega,by omega⟩
 go_enter Tryz.func105,Tryz.ntmps105
 go_wp2_with fail
 with_reducible refine cs.out.mono ?_
 rintro e w1 ⟨rfl,h1,k1⟩
 have K1:=hid k1
 have H1:=hid h1
 obtain⟨-,-,c2,-,-,-,c6,c7,-,-,-,-⟩:=h1.cells
 obtain⟨-,-,-,-,-,-,-,s7,-,-,-,-,-,-⟩:=h1.cl_ hc
 rw [ht] at s7
 have E4:P11.outc P11.pkG (cl.map gor) x.who=(0,(cl.map gor).set x.who.toNat g):=by
  have q:=P11.outc_at (p:=P11.pkG) (k:=x.who.toNat) (x:=gor c) hR.rg (by rw [List.getElem?_map,hc];rfl)
  rw [Int.toNat_of_nonneg h1.w0] at q
  have e:P11.pkG (gor c)=(0,g):=by unfold P11.pkG;rw [if_pos (show (gor c).1=0 from hR.g0),<- hg];rfl
  simpa [e] using q
 have hcg:=λ W' (g':Gr w1 W')=>hid (changeGor_yes (W:=W') (who:=x.who) (enters_of Tryz.func153 (by kernel_rfl) rfl) (p:=0) (h1.gr g').cells.2.2.1 h1.n1 (h1.gr g').c h1.lenc (by have:=hR.nc;omega) h1.cb hc (λ W A m d hm he=>P11.Park_at (by have:=hR.nc;have:=h1.lenc;omega) E4 (by rw [List.length_set,List.length_map];exact h1.lenc) W hm))
 clear h1 k1 E4 hg
 go_upto_region 2 with fail
 refine wp_region_held_drew (S:=(λ w'=>w'.cell? ⟨x.b,6,none⟩=some (.int .i64 x.who))) (by kernel_rfl) c6 (λ hS=>?_)
 refine wG 0 hS ?_
 refine wG 1 hS ?_
 refine wG 2 hS ?_
 refine wG 3 hS ?_
 refine wG 4 hS ?_
 refine wG 5 hS ?_
 refine wG 6 hS ?_
 refine wR1 7 (λ K hK=>?_)
 go_simp;go_at_call 64;with_reducible refine (hcg _ (Gr.refl w1).dr).out.mono ?_;rintro ee w2 ⟨rfl,o2,k2⟩;go_wp2_with fail
 have h2:=(H1.out.gr (Gr.refl w1).dr).ko k2 o2 (List.length_set ..) (λ d hd=>(List.mem_or_eq_of_mem_set hd).elim (H1.out.cb d) (λ e=>e▸{ H1.out.cb c (List.mem_of_getElem? hc) with gst:=bg }))
 have d6:=h2.cells.2.2.2.2.2.2.1
 refine hK.out _ _ d6 (λ hS=>?_)
 clear hK K
 try simp only [pL]
 refine wpAnyH_done (by kernel_rfl) ?_ _
 have K2:=hid (((K1.out).trans (Kx.gr (Gr.refl w1).dr)).trans k2.kx)
 clear hS d6 o2 k2 c2 c6 c7 s7
 have h9:=h2
 clear h2
 have hc9:=withG_rn hR g
 have H9:=hid h9
 obtain⟨-,-,-,-,-,-,-,q7,-,-,-,-⟩:=h9.cells
 obtain⟨-,-,-,r3,-,-,-,-,-,-,-,-,-,sz⟩:=h9.cl_ hc9
 have y3:=sz 3 (by decide)
 clear sz
 clear h9
 go_wp2_with fail
 (first | go_end0 | ((try simp only [Exit.inBlock,Exit.then]);refine bodyPost_ret (results_none rfl _ _ _) rfl ?_))
 have h3:=H9.out.putPc hc9 (v:=7) ⟨by omega,by omega⟩
 rw [List.set_set] at h3
 exact⟨rfl,h3,K2.out.trans (Kx.st (.inr (.inl rfl)) _)⟩
end
end P16
end
section
open Go.ChangeShapes Go.WideShapes Go.ChangeAt Go.RowKit Go.Shelf
namespace P16
open P14 (pan)
open P12 (PV PMem)
section
variable {x:Cx} {W:World} {T E:Sl} {cl:List Cl} {mx:List T3} {tb:List Sp} {ev:List T3} {c:Cl} {a:T3} {pr:List Ac}
theorem draw_yes (h:TS x W T E cl mx tb ev) (hR:Rn x cl c pr) (h0:0<=x.n) (h4:x.n<4) (ha:mx[x.n.toNat]?=some a) (hn:0<=a.2.1/\a.2.1<4294967296) (hs:0<=a.2.2/\a.2.2<4294967296) (ho:(a.2.1-a.2.2) % 4294967296≠4294967295) (hp:0<=c.pc/\c.pc<=100) :
 Calls Tryz.prog 102 #[.pointer (some ⟨x.b,0,none⟩)] W λ e W'=>e=.returned (.tuple #[])/\TS x W' T E (cl.set x.who.toNat { c with ticket:=a.2.1,pc:=c.pc+1 }) (mx.set x.n.toNat (a.1,(a.2.1+1) % 4294967296,a.2.2)) tb ev/\Kx x W W':=by
 have hc:=hR.hc
 have cd:=λ W=>hid (P6.Draw_yes (P6.tk_ok hn hs) (by rw [P6.tk_out hn hs];exact ho) (P6.tk_up hn) ⟨by omega,by omega⟩ ⟨by omega,by omega⟩ W)
 have bt:B64 a.2.1:=⟨by omega,by omega⟩
 have bs:B64 a.2.2:=⟨by omega,by omega⟩
 have bu:B64 ((a.2.1+1) % 4294967296):=⟨by omega,by omega⟩
 obtain⟨u,hu⟩:∃ u,(a.2.1+1) % 4294967296=u:=⟨_,rfl⟩
 rw [hu] at cd bu ⊢
 have CBc:=h.cb c (List.mem_of_getElem? hc)
 have bp:B64 (c.pc+1):=⟨by omega,by omega⟩
 clear hu ho hn hs
 go_enter Tryz.func102,Tryz.ntmps102
 go_wp2_with fail
 with_reducible refine (mutex_is h h0 h4).mono ?_
 rintro e w1 ⟨rfl,d,rfl⟩
 have H1:=hid (h.gr ((Gr.refl W).drN d))
 have K1:Hid (Kx x W _):=hid (Kx.gr ((Gr.refl W).drN d))
 generalize W.drewN d=w1 at H1 K1 ⊢
 have h1:=H1.out
 obtain⟨-,-,-,-,-,-,-,c7,-,-,-,-⟩:=h1.cells
 obtain⟨-,m1,m2,-⟩:=h1.mx_ ha
 clear h h1
 go_upto_region 1 with fail
 refine wp_region_held_drew (S:=(λ w'=>w'.cell? ⟨x.b,7,none⟩=some (.pointer (some ⟨x.bc,x.oc+x.who.toNat*13,none⟩)))) (by kernel_rfl) c7 (λ hS=>?_)
 refine wG 0 hS ?_
 refine wG 1 hS ?_
 refine wG 2 hS ?_
 refine wG 3 hS ?_
 refine wG 4 hS ?_
 refine wG 5 hS ?_
 refine wG 6 hS ?_
 refine wG 7 hS ?_
 refine wR1 8 (λ K hK=>?_)
 go_simp
 refine hK.out _ _ c7 (λ hS=>?_)
 clear hK K
 try simp only [pL]
 refine wR1 9 (λ K hK=>?_)
 go_simp;go_at_call 147;with_reducible refine (cd _).out.mono ?_;rintro ee w2 ⟨rfl,g2⟩;go_wp2_with fail
 have G2:=hid ((Gr.refl w1).dr.trans g2)
 have d7:=(H1.out.gr G2.out).cells.2.2.2.2.2.2.2.1
 clear g2
 refine hK.out _ _ d7 (λ hS=>?_)
 clear hK K
 try simp only [pL]
 refine wG 10 hS ?_
 refine wG 11 hS ?_
 refine wG 12 hS ?_
 refine wR1 13 (λ K hK=>?_)
 go_simp;go_at_call 146;with_reducible refine (bothTI_yes _ _ _ _).mono ?_;rintro ee w3 ⟨rfl,g3⟩;go_wp2_with fail
 have G3:=hid (G2.out.trans g3)
 have h3:=H1.out.gr G3.out
 obtain⟨-,-,-,-,-,-,-,e7,-,-,-,-⟩:=h3.cells
 obtain⟨-,f1,f2,mz⟩:=h3.mx_ ha
 have x1:=mz 1 (by decide)
 have x2:=mz 2 (by decide)
 clear mz
 obtain⟨-,-,-,s3,-,s5,-,-,-,-,-,-,-,sz⟩:=h3.cl_ hc
 have y5:=sz 5 (by decide)
 have y3:=sz 3 (by decide)
 clear sz
 clear g3 h3 d7
 refine hK.out _ _ e7 (λ hS=>?_)
 clear hK K
 try simp only [pL]
 refine wG 14 hS ?_
 refine wG 15 hS ?_
 refine wG 16 hS ?_
 refine wG 17 hS ?_
 refine wG 18 hS ?_
 refine wR1 19 (λ K hK=>?_)
 go_simp
 have h4':=(H1.out.gr G3.out).putL ha (u:=u) (v:=a.2.2) bu bs
 have i7:=h4'.cells.2.2.2.2.2.2.2.1
 have H4:=hid h4'
 have n3:=h4'.n3
 have n3':=h4'.n3.symm
 clear h4'
 refine hK.out _ _ i7 (λ hS=>?_)
 clear hK K
 try simp only [pL]
 refine wG 20 hS ?_
 refine wG 21 hS ?_
 refine wR1 22 (λ K hK=>?_)
 go_simp
 have h5:=H4.out.putC hc 5 (.int .i64 a.2.1) { c with ticket:=a.2.1 } rfl (by decide) { CBc with ticket:=bt }
 have j7:=h5.cells.2.2.2.2.2.2.2.1
 have H5:=hid h5
 clear h5
 refine hK.out _ _ j7 (λ hS=>?_)
 clear hK K
 try simp only [pL]
 refine wpAnyH_done (by kernel_rfl) ?_ _
 have H6:Hid (TS x (((w3.setCell ⟨x.bm,x.om+x.n.toNat*3+1,none⟩ (.int .i64 u)).setCell ⟨x.bm,x.om+x.n.toNat*3+1+1,none⟩ (.int .i64 a.2.2)).setCell ⟨x.bc,x.oc+x.who.toNat*13+5,none⟩ (.int .i64 a.2.1)) T E (cl.set x.who.toNat { c with ticket:=a.2.1 }) (mx.set x.n.toNat (a.1,u,a.2.2)) tb ev):=H5
 have K6:Hid (Kx x w1 (((w3.setCell ⟨x.bm,x.om+x.n.toNat*3+1,none⟩ (.int .i64 u)).setCell ⟨x.bm,x.om+x.n.toNat*3+1+1,none⟩ (.int .i64 a.2.2)).setCell ⟨x.bc,x.oc+x.who.toNat*13+5,none⟩ (.int .i64 a.2.1))):=hid ((((Kx.gr G3.out).trans (Kx.st (.inr (.inr rfl)) _)).trans (Kx.st (.inr (.inr rfl)) _)).trans (Kx.st (.inr (.inl rfl)) _))
 clear hS e7 f1 f2 x1 x2 s3 s5 y5 y3 i7 j7 H5 H4 c7 m1 m2
 generalize ((w3.setCell ⟨x.bm,x.om+x.n.toNat*3+1,none⟩ (.int .i64 u)).setCell ⟨x.bm,x.om+x.n.toNat*3+1+1,none⟩ (.int .i64 a.2.2)).setCell ⟨x.bc,x.oc+x.who.toNat*13+5,none⟩ (.int .i64 a.2.1)=w6 at H6 K6 ⊢
 have hc6:(cl.set x.who.toNat { c with ticket:=a.2.1 })[x.who.toNat]?=some { c with ticket:=a.2.1 }:=by rw [List.getElem?_set_self (List.getElem?_eq_some_iff.1 hc).1]
 have h6:=H6.out
 obtain⟨-,-,-,-,-,-,-,c7,-,-,-,-⟩:=h6.cells
 obtain⟨-,-,-,s3,-,-,-,-,-,-,-,-,-,sz⟩:=h6.cl_ hc6
 have y3:=sz 3 (by decide)
 clear sz
 dsimp only at s3
 clear h6
 rename_i hh
 clear hh
 go_wp2_with fail
 (first | go_end0 | ((try simp only [Exit.inBlock,Exit.then]);refine bodyPost_ret (results_none rfl _ _ _) rfl ?_))
 have h7:=H6.out.putC2 hc 3 (.int .i64 (c.pc+1)) { c with ticket:=a.2.1,pc:=c.pc+1 } rfl (by decide) { CBc with ticket:=bt,pc:=bp }
 exact⟨rfl,h7,(K1.out.trans K6.out).trans (Kx.st (.inr (.inl rfl)) _)⟩
theorem draw_no (h:TS x W T E cl mx tb ev) (h0:0<=x.n) (h4:x.n<4) (ha:mx[x.n.toNat]?=some a) (hn:0<=a.2.1/\a.2.1<4294967296) (hs:0<=a.2.2/\a.2.2<4294967296) (ho:(a.2.1-a.2.2) % 4294967296=4294967295) :
 Calls Tryz.prog 102 #[.pointer (some ⟨x.b,0,none⟩)] W λ e W'=>e=.panicked (pan 12)/\Kx x W W':=by
 have cd:=λ W=>hid (P6.Draw_full (P6.tk_ok hn hs) (by rw [P6.tk_out hn hs];exact ho) ⟨by omega,by omega⟩ ⟨by omega,by omega⟩ W)
 clear ho hn hs
 go_enter Tryz.func102,Tryz.ntmps102
 go_wp2_with fail
 with_reducible refine (mutex_is h h0 h4).mono ?_
 rintro e w1 ⟨rfl,d,rfl⟩
 have H1:=hid (h.gr ((Gr.refl W).drN d))
 have K1:Hid (Gr W _):=hid ((Gr.refl W).drN d)
 generalize W.drewN d=w1 at H1 K1 ⊢
 have h1:=H1.out
 obtain⟨-,-,-,-,-,-,-,c7,-,-,-,-⟩:=h1.cells
 obtain⟨-,m1,m2,-⟩:=h1.mx_ ha
 clear h h1
 go_upto_region 1 with fail
 refine wp_region_held_drew (S:=(λ w'=>w'.cell? ⟨x.b,7,none⟩=some (.pointer (some ⟨x.bc,x.oc+x.who.toNat*13,none⟩)))) (by kernel_rfl) c7 (λ hS=>?_)
 refine wG 0 hS ?_
 refine wG 1 hS ?_
 refine wG 2 hS ?_
 refine wG 3 hS ?_
 refine wG 4 hS ?_
 refine wG 5 hS ?_
 refine wG 6 hS ?_
 refine wG 7 hS ?_
 refine wR1 8 (λ K hK=>?_)
 go_simp
 refine hK.out _ _ c7 (λ hS=>?_)
 clear hK K
 try simp only [pL]
 refine wR1 9 (λ K hK=>?_)
 go_simp;go_at_call 147;with_reducible refine (cd _).out.mono ?_;rintro ee w2 ⟨rfl,g2⟩;go_wp2_with fail
 have G2:=hid ((Gr.refl w1).dr.trans g2)
 have d7:=(H1.out.gr G2.out).cells.2.2.2.2.2.2.2.1
 clear g2
 refine hK.out _ _ d7 (λ hS=>?_)
 clear hK K
 try simp only [pL]
 refine wG 10 hS ?_
 refine wG 11 hS ?_
 refine wG 12 hS ?_
 refine wR1 13 (λ K hK=>?_)
 go_simp;go_at_call 146;with_reducible refine (bothTI_no _ _ _ (by decide) _).mono ?_;rintro ee w3 ⟨rfl,g3⟩
 exact bodyPost_pan rfl ⟨rfl,Kx.gr (K1.out.trans (G2.out.trans g3))⟩
end
end P16
end
section
open Go.ChangeShapes Go.WideShapes Go.ChangeAt Go.RowKit
section
variable {w W w':World} {base:Nat} {v:Value} {R:List SV} {y:SV} {g cap:Nat}
theorem Appended.row (h:Appended W base v R y g cap w'):SRow w' base (.slice (some ⟨g,0,none⟩) (R.length+1) cap) (R++[y]).length (R++[y]):=by
 rw [List.length_append]
 exact h.1
end
end
section
open Go.ChangeShapes Go.WideShapes Go.ChangeAt Go.RowKit
theorem grownBy_cell (W:World) (b o:Nat) (v:Value):W.grownBy (W.setCell ⟨b,o,none⟩ v) (some b) :=
 ⟨rfl,rfl,rfl,by simp [World.setCell],λ k _ hk=>Below.heap_setCell _ _ _ k (λ e=>hk (by rw [e]))⟩
theorem spot_stored {W:World} {b:Nat} {vs:Array Value} {t:TypeId} (h:Blk W b vs t) (h3:vs.size=3) (x y z:Value) :
 Blk (((W.setCell ⟨b,0,none⟩ x).setCell ⟨b,1,none⟩ y).setCell ⟨b,2,none⟩ z) b #[x,y,z] t:=by
 have h2:=((h.set 0 x).set 1 y).set 2 z
 have e:((vs.setIfInBounds 0 x).setIfInBounds 1 y).setIfInBounds 2 z=#[x,y,z]:=by
  match vs,h3 with
  | ⟨[p,q,r]⟩,_=>rfl
 rw [e] at h2
 exact h2
end
end Go.Proofs.YtainfijdhcehlaaGreatDoor
