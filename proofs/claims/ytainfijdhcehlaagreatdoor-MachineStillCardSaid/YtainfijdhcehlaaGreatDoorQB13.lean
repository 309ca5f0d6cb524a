/-
  A part of the proof.
-/
import Derived.Test.YtainfijdhcehlaaGreatDoorQB1
import Derived.Test.YtainfijdhcehlaaGreatDoorQB3
import Derived.Test.YtainfijdhcehlaaGreatDoorQB9
import Derived.Test.YtainfijdhcehlaaGreatDoorQB12
import Derived.Deep.QuietTactic
import Derived.BigQuiet
import Derived.Outline
import Derived.Laws.StructEq
import Derived.ChangeKeysEq
import Derived.Deep.RegionHeld3
import Derived.RegionTactic
set_option linter.unusedVariables false
set_option linter.unusedSimpArgs false
set_option maxRecDepth 100000
set_option maxHeartbeats 8000000
namespace Go.Proofs.YtainfijdhcehlaaGreatDoor
open Lib (hid)
section
open Go.ChangeShapes Go.WideShapes Go.ChangeAt Go.RowKit Go.Shelf
namespace P16
open P14 (pan)
theorem infoEvent:(Tryz.prog.info? 40).map (λ i=>(i.zero,i.size,i.bytes))=some (some (.agg #[.int .i64 0,.int .i64 0,.int .i64 0]),3,24):=by kernel_rfl
theorem ev_of {x:Cx} {w1:World} {g cap:Nat} {y:T3} {base:Nat} (h:w1.ownsRow base 40 3 (.slice (some ⟨g,0,none⟩) (0+1) cap) (0+1) ([]++t3V y)) (hy:TB3 y) (hb:x.B<=base) (h1:x.b<base) (h2:x.bc<base) (h3:x.bm<base) :
 (∀ W',Kb x w1 W'->T3Mem W' (some ⟨g,0,none⟩) 1 [y])/\(Sl.mk (some ⟨g,0,none⟩) 1 cap).ok:=by
 rcases h.2 with ⟨e,_⟩ | ⟨g',cap',cur,e,hbg,hg,hnc,hcm,hs,ht⟩
 . cases e
 . injection e with e1 e2 e3
   injection e1 with e1
   injection e1 with e1
   subst e1 e3
   refine⟨λ W' k=>⟨rfl,λ z hz=>?_,λ _=>?_⟩,hnc,by unfold maxLen at hcm;omega⟩
   . rw [List.mem_singleton.1 hz];exact hy
   . have hgl:=(Array.getElem?_eq_some_iff.1 hg).1
     have hg':=(k.2 g (by omega) hgl (by omega) (by omega) (by omega)).trans hg
     refine⟨g,0,rfl,(Array.getElem?_eq_some_iff.1 hg').1,λ i z hz j v hv=>?_⟩
     have hi:i=0:=by
      have:=(List.getElem?_eq_some_iff.1 hz).1
      simpa using this
     subst hi
     have hzy:z=y:=by simpa using hz.symm
     subst hzy
     rw [cell_of_row W' g _ cur _ (0,0) hg']
     have h0:(cur.toList.take ((0+1)*3))[j]?=some v:=by rw [ht];exact hv
     rw [List.getElem?_take] at h0
     split at h0
     . simpa using h0
     . cases h0
section
variable {x:Cx} {W:World} {T E:Sl} {cl:List Cl} {mx:List T3} {tb:List Sp} {ev:List T3} {c:Cl} {a:T3}
theorem tell_is (h:TS x W T ⟨none,0,0⟩ cl mx tb []) (v:Int) (hv:B64 v) :
 Calls Tryz.prog 43 #[.pointer (some ⟨x.b,0,none⟩),.int .i64 v] W λ e W'=>e=.returned (.tuple #[])/\(∃ E,TS x W' T E cl mx tb [(x.who,v,x.n)])/\Kx x W W':=by
 obtain⟨i,hi,hz,hs,hb⟩:=P12.info_parts infoEvent
 have K0:=hid h
 obtain⟨-,-,-,-,-,-,c6,-,-,c9,c10,cz⟩:=h.cells
 have z10:=cz 10 (by decide)
 have hlt:=h.t.lt
 dsimp only at c10
 obtain⟨-,-,-,-,-,-,a6,-,-,a9,a10,-⟩:=(h.gr ((Gr.refl W).dr.al (.cells #[.int .i64 x.who,.int .i64 v,.int .i64 x.n] 40))).cells
 clear h cz
 go_enter Tryz.func43,Tryz.ntmps43
 go_wp2_with fail
 refine wp_region_held_drew (S:=(λ w'=>w'.cell? ⟨x.b,6,none⟩=some (.int .i64 x.who)/\w'.cell? ⟨x.b,9,none⟩=some (.int .i64 x.n))) (by kernel_rfl) ⟨c6,c9⟩ (λ hS=>?_)
 refine wG 0 hS ?_
 refine wG 1 hS ?_
 refine wG 2 hS ?_
 refine wG 3 hS ?_
 refine wG 5 hS ?_
 refine wG 6 hS ?_
 refine wG 7 hS ?_
 refine wG 8 hS ?_
 refine wG 9 hS ?_
 refine wG 10 hS ?_
 refine wG 11 hS ?_
 refine wG 12 hS ?_
 refine wG 13 hS ?_
 refine wG 14 hS ?_
 refine wG 15 hS ?_
 refine wR2 4 16 (λ K hK=>?_) (λ K hK=>?_)
 . skip
   go_simp
   refine hK.out _ _ ⟨c6,c9⟩ (λ hS=>?_)
   clear hK K
   try simp only [pL]
   refine wR1 16 (λ K hK=>?_)
   go_simp
   refine hK.out _ _ ⟨a6,a9⟩ (λ hS=>?_)
   clear hK K
   try simp only [pL]
   refine wR1 17 (λ K hK=>?_)
   refine step_append_lies _ rfl (.tmp 8) (.tmp 20) 35 rfl W.heap.size 40 i _ 3 24 Tryz.underlying35 hi hz hs hb rfl (by decide) (.slice none 0 0) 0 [] rfl (World.ownsRow_nil _ _ _ _) ⟨W.heap.size,0,none⟩ 1 1 [.int .i64 x.who,.int .i64 v,.int .i64 x.n] rfl rfl (World.news_of_block (heap_alloc_new W.drew _)) (λ u hu=>by simp at hu;rcases hu with rfl | rfl | rfl<;>rfl) (by decide) (by decide) (by decide) (Gr.al (Gr.refl W).dr _).size _ rfl ?_
   intro g cap w1 hown hgrow hat hlt1
   have h1:=((K0.out.gr ((Gr.refl W).dr.al (.cells #[.int .i64 x.who,.int .i64 v,.int .i64 x.n] 40))).gr (Gr.gb (Gr.refl _) hgrow (λ k hk=>by cases hk)))
   have G1:=hid (Gr.gb ((Gr.refl W).dr.al (.cells #[.int .i64 x.who,.int .i64 v,.int .i64 x.n] 40)) hgrow (λ k hk=>by cases hk))
   obtain⟨-,-,-,-,-,-,e6,-,-,e9,e10,ez⟩:=h1.cells
   have y10:=ez 10 (by decide)
   have H1:=hid h1
   have HO:=hid hown
   clear h1 hgrow hat hown ez
   refine hK.out _ _ ⟨e6,e9⟩ (λ hS=>?_)
   clear hK K
   try simp only [pL]
   refine wG 18 hS ?_
   refine wG 19 hS ?_
   refine wR1 20 (λ K hK=>?_)
   go_simp
   refine hK.out _ _ ⟨(World.cell?_setCell_other _ _ _ _ (by simp)).trans e6,(World.cell?_setCell_other _ _ _ _ (by simp)).trans e9⟩ (λ hS=>?_)
   clear hK K
   refine wpAnyH_done (by kernel_rfl) ?_ _
   go_wp2_with fail
   go_end0
   obtain⟨q1,q2⟩:=ev_of (x:=x) (y:=(x.who,v,x.n)) HO.out ⟨K0.out.wi,hv,K0.out.ni⟩ (Nat.le_trans K0.out.lb (Nat.le_of_lt hlt)) hlt K0.out.c.lt K0.out.m.lt
   exact⟨rfl,⟨_,H1.out.putE q1 q2⟩,(Kx.gr G1.out).trans (Kx.st (.inl rfl) _)⟩
 . skip
   go_simp
   refine hK.out _ _ ⟨a6,a9⟩ (λ hS=>?_)
   clear hK K
   try simp only [pL]
   refine wR1 4 (λ K hK=>?_)
   go_simp
   refine hK.out _ _ ⟨a6,a9⟩ (λ hS=>?_)
   clear hK K
   try simp only [pL]
   refine wR1 17 (λ K hK=>?_)
   refine step_append_lies _ rfl (.tmp 8) (.tmp 20) 35 rfl W.heap.size 40 i _ 3 24 Tryz.underlying35 hi hz hs hb rfl (by decide) (.slice none 0 0) 0 [] rfl (World.ownsRow_nil _ _ _ _) ⟨W.heap.size,0,none⟩ 1 1 [.int .i64 x.who,.int .i64 v,.int .i64 x.n] rfl rfl (World.news_of_block (heap_alloc_new W.drew _)) (λ u hu=>by simp at hu;rcases hu with rfl | rfl | rfl<;>rfl) (by decide) (by decide) (by decide) (Gr.al (Gr.refl W).dr _).size _ rfl ?_
   intro g cap w1 hown hgrow hat hlt1
   have h1:=((K0.out.gr ((Gr.refl W).dr.al (.cells #[.int .i64 x.who,.int .i64 v,.int .i64 x.n] 40))).gr (Gr.gb (Gr.refl _) hgrow (λ k hk=>by cases hk)))
   have G1:=hid (Gr.gb ((Gr.refl W).dr.al (.cells #[.int .i64 x.who,.int .i64 v,.int .i64 x.n] 40)) hgrow (λ k hk=>by cases hk))
   obtain⟨-,-,-,-,-,-,e6,-,-,e9,e10,ez⟩:=h1.cells
   have y10:=ez 10 (by decide)
   have H1:=hid h1
   have HO:=hid hown
   clear h1 hgrow hat hown ez
   refine hK.out _ _ ⟨e6,e9⟩ (λ hS=>?_)
   clear hK K
   try simp only [pL]
   refine wG 18 hS ?_
   refine wG 19 hS ?_
   refine wR1 20 (λ K hK=>?_)
   go_simp
   refine hK.out _ _ ⟨(World.cell?_setCell_other _ _ _ _ (by simp)).trans e6,(World.cell?_setCell_other _ _ _ _ (by simp)).trans e9⟩ (λ hS=>?_)
   clear hK K
   refine wpAnyH_done (by kernel_rfl) ?_ _
   go_wp2_with fail
   go_end0
   obtain⟨q1,q2⟩:=ev_of (x:=x) (y:=(x.who,v,x.n)) HO.out ⟨K0.out.wi,hv,K0.out.ni⟩ (Nat.le_trans K0.out.lb (Nat.le_of_lt hlt)) hlt K0.out.c.lt K0.out.m.lt
   exact⟨rfl,⟨_,H1.out.putE q1 q2⟩,(Kx.gr G1.out).trans (Kx.st (.inl rfl) _)⟩
end
end P16
end
section
open Go.ChangeShapes Go.WideShapes Go.ChangeAt Go.RowKit
namespace P4
abbrev pr (a b:Int):Value:=.agg #[.int .i64 a,.int .i64 b]
def near (t:Int):Int:=max 0 (min t 4611686018427387904)
def Tm (t:Int):Prop:=0<=t/\t<=4611686018427387904
theorem near_eq {t:Int} (h:Tm t):near t=t:=by unfold Tm at h;unfold near;omega
theorem near_ne {t:Int} (h:¬ Tm t):(t==near t)=false:=by unfold Tm at h;rw [beq_eq_false_iff_ne];unfold near;omega
theorem nearest_ok (t:Int) (w:World):Calls Tryz.prog 74 #[.int .i64 t] w λ e w'=>e=.returned (.int .i64 (near t))/\w'=w:=by
 obtain⟨x,hx⟩:∃ x,near t=x:=⟨_,rfl⟩
 have HX:=hid hx
 rw [hx]
 clear hx
 go_enter Tryz.func74,Tryz.ntmps74
 go_wp2_with fail
 all_goals (
  go_ret
  refine⟨?_,rfl⟩
  show Ending.returned (Value.int .i64 _)=Ending.returned (Value.int .i64 x)
  refine congrArg _ (congrArg _ ?_)
  have hx:=HX.out
  unfold near at hx
  omega)
def prEq (a b a' b':Int):Bool:=decide (a=a'/\b=b')
theorem cellsOfInt:Tryz.prog.cellsOf 3=1:=by kernel_rfl
theorem plainInt:Tryz.prog.plainKey 3=true:=by kernel_rfl
theorem infoInt:∃ i,Tryz.prog.info? 3=some i:=Option.isSome_iff_exists.1 (by kernel_rfl)
theorem run_pair_eql (a b a' b':Int) (w:World) :
 (binOp .eql 138 (.agg #[.int .i64 a,.int .i64 b]) (.agg #[.int .i64 a',.int .i64 b'])).run Tryz.prog w=.ok (.bool (prEq a b a' b')) w:=by
 obtain⟨i,hi⟩:=infoInt
 have e1:(part 3 #[.int .i64 a,.int .i64 b] (0*1)).run Tryz.prog w=.ok (.int .i64 a) w:=run_part_plain w plainInt rfl
 have e2:(part 3 #[.int .i64 a,.int .i64 b] (1*1)).run Tryz.prog w=.ok (.int .i64 b) w:=run_part_plain w plainInt rfl
 have e3:(part 3 #[.int .i64 a',.int .i64 b'] (0*1)).run Tryz.prog w=.ok (.int .i64 a') w:=run_part_plain w plainInt rfl
 have e4:(part 3 #[.int .i64 a',.int .i64 b'] (1*1)).run Tryz.prog w=.ok (.int .i64 b') w:=run_part_plain w plainInt rfl
 have e5:(Op.equalIn 9999 3 (.int .i64 a) (.int .i64 a')).run Tryz.prog w=.ok (a==a') w:=run_equalIn_int w 9998 3 .i64 .i64 a a' Tryz.underlying3
 have e6:(Op.equalIn 9999 3 (.int .i64 b) (.int .i64 b')).run Tryz.prog w=.ok (b==b') w:=run_equalIn_int w 9998 3 .i64 .i64 b b' Tryz.underlying3
 rw [run_eql_struct,run_equalIn_array w 9999 _ _ Tryz.underlying138 hi,cellsOfInt]
 show ((Op.eqItems 9999 3 1 _ _ [0,1]).run Tryz.prog w).andThen _=_
 rw [Op.eqItems,Sem.run_bind,e1,Result.andThen_ok,Sem.run_bind,e3,Result.andThen_ok,Sem.run_bind,e5,Result.andThen_ok]
 by_cases h1:a=a'
 . rw [if_neg (by simp [h1]),Op.eqItems,Sem.run_bind,e2,Result.andThen_ok,Sem.run_bind,e4,Result.andThen_ok,Sem.run_bind,e6,Result.andThen_ok]
   by_cases h2:b=b'
   . rw [if_neg (by simp [h2])]
     simp [prEq,h1,h2,Op.eqItems]
   . rw [if_pos (by simp [h2])]
     simp [prEq,h2]
 . rw [if_pos (by simp [h1])]
   simp [prEq,h1]
def both (a b:Int):Bool:=prEq a b (near a) (near b)
theorem both_yes {a b:Int} (ha:Tm a) (hb:Tm b):both a b=true:=by unfold both;rw [near_eq ha,near_eq hb];simp [prEq]
theorem both_no {a b:Int} (h:¬ (Tm a/\Tm b)):both a b=false:=by
 unfold both prEq Tm at *
 rw [decide_eq_false_iff_not]
 unfold near
 omega
theorem right_ok (a b:Int) (w:World):Calls Tryz.prog 75 #[pr a b] w λ e w'=>e=.returned (.bool (both a b))/\Gr w w':=by
 have he:=λ w=>run_pair_eql a b (near a) (near b) w
 go_enter Tryz.func75,Tryz.ntmps75
 go_wp2_with fail
 go_quiet ((go_at_call 74;exact Calls.quiet_of_same (nearest_ok _ _)))
 go_wp2_with fail
 go_ret
 exact⟨rfl,((Gr.refl _).al _).drN _⟩
theorem Right_ok (t:Int) (B:Bool) (hB:(t==near t)=B) (w:World):Calls Tryz.prog 44 #[.int .i64 t] w λ e w'=>e=.returned (.bool B)/\Gr w w':=by
 go_enter Tryz.func44,Tryz.ntmps44
 go_wp2_with fail
 refine (nearest_ok _ _).mono ?_
 rintro e w1 ⟨rfl,rfl⟩
 go_wp2_with fail
 go_ret
 exact⟨rfl,Gr.refl _⟩
end P4
end
section
open Go.ChangeShapes Go.WideShapes Go.ChangeAt Go.RowKit
namespace P4
def PrAt (w:World) (k:Nat) (a b:Int):Prop :=
 w.cell? ⟨k,0,none⟩=some (.int .i64 a)/\w.cell? ⟨k,1,none⟩=some (.int .i64 b)/\k<w.heap.size
theorem PrAt.new (w:World) (a b:Int) (t:TypeId):PrAt (w.alloc (.cells #[.int .i64 a,.int .i64 b] t)) w.heap.size a b:=⟨by simp,by simp,by simp⟩
theorem PrAt.gr {w w':World} {k:Nat} {a b:Int} (h:PrAt w k a b) (g:Gr w w'):PrAt w' k a b:=by
 obtain⟨h0,h1,h2⟩:=h
 exact⟨(g.cell (p:=⟨k,0,none⟩) h2).trans h0,(g.cell (p:=⟨k,1,none⟩) h2).trans h1,Nat.lt_of_lt_of_le h2 g.size⟩
def gap (a b:Int):Int:=max 0 (b-a)
theorem apart_yes (a b:Int) (ha:Tm a) (hb:Tm b) (w:World):Calls Tryz.prog 241 #[pr a b] w λ e w'=>e=.returned (.tuple #[.int .i64 (gap a b),.int .i64 0])/\Gr w w':=by
 have c:=λ w=>hid ((both_yes ha hb)▸right_ok a b w)
 obtain⟨x,hx⟩:∃ x,gap a b=x:=⟨_,rfl⟩
 have HX:=hid hx
 rw [hx]
 clear hx
 unfold Tm at ha hb
 go_enter Tryz.func241,Tryz.ntmps241
 go_wp2_with fail
 refine (c _).out.mono ?_
 rintro e w1 ⟨rfl,hb1⟩
 have F:=(PrAt.new w a b 138).gr hb1
 have G:=((Gr.refl w).al (.cells #[.int .i64 a,.int .i64 b] 138)).trans hb1
 clear hb1
 obtain⟨f0,f1,f2⟩:=F
 go_wp2_with fail
 all_goals (
  go_ret2
  have hx:=HX.out
  unfold gap at hx
  clear HX
  first
   | (obtain rfl:x=b-a:=by omega
      exact⟨rfl,G⟩)
   | (obtain rfl:x=0:=by omega
      exact⟨rfl,G⟩)
   | (subst hx
      exact⟨rfl,G⟩))
theorem apart_no (a b:Int) (h:¬ (Tm a/\Tm b)) (w:World):Calls Tryz.prog 241 #[pr a b] w λ e w'=>e=.returned (.tuple #[.int .i64 0,.int .i64 1])/\Gr w w':=by
 have c:=λ w=>hid ((both_no h)▸right_ok a b w)
 clear h
 go_enter Tryz.func241,Tryz.ntmps241
 go_wp2_with fail
 refine (c _).out.mono ?_
 rintro e w1 ⟨rfl,hb1⟩
 go_wp2_with fail
 go_ret2
 exact⟨rfl,((Gr.refl w).al _).trans hb1⟩
section
variable {a b r s:Int}
def Ap (a b r s:Int):Prop:=(Tm a/\Tm b/\r=gap a b/\s=0)\/(¬ (Tm a/\Tm b)/\r=0/\s=1)
theorem Ap.ex (a b:Int):∃ r s,Ap a b r s:=by
 by_cases h:Tm a/\Tm b
 . exact⟨_,_,.inl ⟨h.1,h.2,rfl,rfl⟩⟩
 . exact⟨_,_,.inr ⟨h,rfl,rfl⟩⟩
theorem apart_is (h:Ap a b r s) (w:World):Calls Tryz.prog 241 #[pr a b] w λ e w'=>e=.returned (.tuple #[.int .i64 r,.int .i64 s])/\Gr w w':=by
 rcases h with ⟨h1,h2,rfl,rfl⟩ | ⟨h1,rfl,rfl⟩
 . exact apart_yes a b h1 h2 w
 . exact apart_no a b h1 w
theorem Since_is (h:Ap a b r s) (w:World):Calls Tryz.prog 233 #[.int .i64 b,.int .i64 a] w λ e w'=>e=.returned (.tuple #[.int .i64 r,.int .i64 s])/\Gr w w':=by
 have c:=λ w=>hid (apart_is h w)
 clear h
 go_enter Tryz.func233,Tryz.ntmps233
 go_wp2_with fail
 refine (c _).out.mono ?_
 rintro e w1 ⟨rfl,hb1⟩
 go_wp2_with fail
 go_ret2
 exact⟨rfl,hb1⟩
theorem Late_is (h:Ap a b r s) (B:Bool) (hB:decide (s=0/\1000000<r)=B) (w:World):Calls Tryz.prog 226 #[.int .i64 b,.int .i64 a] w λ e w'=>e=.returned (.tuple #[.bool B,.int .i64 s])/\Gr w w':=by
 have c:=λ w=>hid (Since_is h w)
 subst hB
 rcases h with ⟨_,_,hr,rfl⟩ | ⟨_,hr,rfl⟩
 . clear hr
   rw [show decide ((0:Int)=0/\1000000<r)=decide (1000000<r) by simp]
   go_enter Tryz.func226,Tryz.ntmps226
   go_wp2_with fail
   refine (c _).out.mono ?_
   rintro e w1 ⟨rfl,hb1⟩
   go_wp2_with fail
   go_ret2
   exact⟨rfl,hb1⟩
 . clear hr
   rw [decide_eq_false (λ h=>absurd h.1 (by decide))]
   go_enter Tryz.func226,Tryz.ntmps226
   go_wp2_with fail
   refine (c _).out.mono ?_
   rintro e w1 ⟨rfl,hb1⟩
   go_wp2_with fail
   go_ret2
   exact⟨rfl,hb1⟩
end
end P4
end
section
open Go.ChangeShapes Go.WideShapes Go.ChangeAt Go.RowKit
namespace P6
theorem Can_few {a b:Int} (h:¬ (a<0\/b<0)) (h4:a<4) {v:Bool} (hv:decide (1<b)=v) (w:World) :
 Calls Tryz.prog 176 #[.int .i64 a,.int .i64 b] w λ e w'=>e=.returned (.tuple #[.bool v,.int .i64 0])/\w'=w:=by
 obtain⟨M,hM⟩:∃ M,(if b<a then b else a)=M:=⟨_,rfl⟩
 have h0:¬ M<0:=by rw [<- hM];split<;>omega
 clear h
 go_enter Tryz.func176,Tryz.ntmps176
 go_wp2_with fail
 go_ret2
 exact⟨rfl,rfl⟩
theorem Can_many {a b:Int} (h:¬ (a<0\/b<0)) (h4:¬ a<4) (w:World) :
 Calls Tryz.prog 176 #[.int .i64 a,.int .i64 b] w λ e w'=>e=.returned (.tuple #[.bool false,.int .i64 0])/\w'=w:=by
 obtain⟨M,hM⟩:∃ M,(if b<a then b else a)=M:=⟨_,rfl⟩
 have h0:¬ M<0:=by rw [<- hM];split<;>omega
 clear h
 go_enter Tryz.func176,Tryz.ntmps176
 go_wp2_with fail
 go_ret2
 exact⟨rfl,rfl⟩
end P6
end
section
open Go.ChangeShapes Go.WideShapes Go.ChangeAt Go.RowKit
namespace P14
open P3 (fl pw)
open P4 (Tm)
abbrev ov (s:Int) (t k:Bool) (r o:Int):Value:=.agg #[.int .i64 s,.bool t,.bool k,.int .i64 r,.int .i64 o]
def OkS (s r:Int):Prop:=(s=-1\/Tm s)/\0<=r/\r<=4
def OkW (o:Int):Prop:=0<=o/\o<2147483648
def OkN (n:Int):Prop:=0<=n/\n<268435456
theorem own_st {W:World} {g:Nat} {v0 v1 v2 v3 v4:Value} {T:TypeId} (B:Blk W g #[v0,v1,v2,v3,v4] T) (s:Int) (t k:Bool) (r o:Int) :
 Blk (((((W.setCell ⟨g,0,none⟩ (.int .i64 s)).setCell ⟨g,1,none⟩ (.bool t)).setCell ⟨g,2,none⟩ (.bool k)).setCell ⟨g,3,none⟩ (.int .i64 r)).setCell ⟨g,4,none⟩ (.int .i64 o)) g #[.int .i64 s,.bool t,.bool k,.int .i64 r,.int .i64 o] T :=
 ((((B.set 0 (.int .i64 s)).set 1 (.bool t)).set 2 (.bool k)).set 3 (.int .i64 r)).set 4 (.int .i64 o)
theorem own_gr {w W:World} {g:Nat} (G:Gr w W) (h:w.heap.size<=g) (s:Int) (t k:Bool) (r o:Int) :
 Gr w (((((W.setCell ⟨g,0,none⟩ (.int .i64 s)).setCell ⟨g,1,none⟩ (.bool t)).setCell ⟨g,2,none⟩ (.bool k)).setCell ⟨g,3,none⟩ (.int .i64 r)).setCell ⟨g,4,none⟩ (.int .i64 o)) :=
 ((((G.st (p:=⟨g,0,none⟩) h _).st (p:=⟨g,1,none⟩) h _).st (p:=⟨g,2,none⟩) h _).st (p:=⟨g,3,none⟩) h _).st (p:=⟨g,4,none⟩) h _
theorem own_cells {W:World} {g:Nat} {v0 v1 v2 v3 v4:Value} {T:TypeId} (B:Blk W g #[v0,v1,v2,v3,v4] T) :
 (W.cell? ⟨g,0,none⟩=some v0/\W.cell? ⟨g,1,none⟩=some v1/\W.cell? ⟨g,2,none⟩=some v2/\W.cell? ⟨g,3,none⟩=some v3/\W.cell? ⟨g,4,none⟩=some v4) /\
 (W.frozen? ⟨g,0,none⟩=false/\W.frozen? ⟨g,1,none⟩=false/\W.frozen? ⟨g,2,none⟩=false/\W.frozen? ⟨g,3,none⟩=false/\W.frozen? ⟨g,4,none⟩=false) :=
 ⟨⟨(B.at_ (k:=0) rfl).1,(B.at_ (k:=1) rfl).1,(B.at_ (k:=2) rfl).1,(B.at_ (k:=3) rfl).1,(B.at_ (k:=4) rfl).1⟩,(B.at_ (k:=0) rfl).2,(B.at_ (k:=1) rfl).2,(B.at_ (k:=2) rfl).2,(B.at_ (k:=3) rfl).2,(B.at_ (k:=4) rfl).2⟩
def hEq (a b c d:Bool):Bool:=decide (a=c/\b=d)
theorem run_hold_eql (a b c d:Bool) (w:World):(binOp .eql 230 (.agg #[.bool a,.bool b]) (.agg #[.bool c,.bool d])).run Tryz.prog w=.ok (.bool (hEq a b c d)) w:=by
 cases a<;>cases b<;>cases c<;>cases d<;>kernel_rfl
theorem run_hold_neq (a b c d:Bool) (w:World):(binOp .neq 230 (.agg #[.bool a,.bool b]) (.agg #[.bool c,.bool d])).run Tryz.prog w=.ok (.bool (!hEq a b c d)) w:=by
 cases a<;>cases b<;>cases c<;>cases d<;>kernel_rfl
theorem held_is (a b c:Bool) (n:Int) (w:World):Calls Tryz.prog 177 #[fl a b c n] w λ e w'=>e=.returned (.agg #[.bool a,.bool c])/\Gr w w':=by
 go_enter Tryz.func177,Tryz.ntmps177
 go_wp2_with fail
 exact bodyPost_ret (v:=.agg #[.bool a,.bool c]) (by simp [results,Tryz.results177,go_sem]) rfl ⟨rfl,(Gr.refl w).al _ |>.al _⟩
section
variable {s r:Int} {t k a b c:Bool} {n:Int} {w:World}
theorem look_ok (h:OkS s r) (hn:OkN n):Calls Tryz.prog 130 #[ov s t k r (pw a b c n)] w λ e w'=>e=.returned (fl a b c n)/\Gr w w':=by
 obtain⟨hs,hr0,hr4⟩:=h
 have U:=λ w=>hid (P3.Unpack_ok a b c n hn w)
 have SF:=λ w=>hid (sureF_yes a b c n w)
 clear hn
 generalize pw a b c n=v at *
 by_cases h1:s=-1
 . subst h1
   clear hs
   go_enter Tryz.func130,Tryz.ntmps130
   go_wp2_with fail
   with_reducible refine (need_yes _ _).mono ?_
   rintro e w1 ⟨rfl,rfl⟩
   go_wp2_with fail
   with_reducible refine (need_yes _ _).mono ?_
   rintro e w1 ⟨rfl,rfl⟩
   go_wp2_with fail
   with_reducible refine (U _).out.mono ?_
   rintro e w1 ⟨rfl,g1⟩
   go_wp2_with fail
   with_reducible refine (SF _).out.mono ?_
   rintro e w2 ⟨rfl,g2⟩
   have B1:=((Blk.new (w.alloc (.cells #[.int .i64 (-1),.bool t,.bool k,.int .i64 r,.int .i64 v] 53)) #[.bool false,.bool false,.bool false,.int .i64 0] 42).gr g1).gr g2
   rw [World.size_alloc] at B1
   have G:=(((Gr.refl w).al (.cells #[.int .i64 (-1),.bool t,.bool k,.int .i64 r,.int .i64 v] 53)).al (.cells #[.bool false,.bool false,.bool false,.int .i64 0] 42)).trans g1 |>.trans g2
   obtain⟨a0,y0⟩:=B1.at_ (k:=0) (v:=.bool false) rfl
   obtain⟨a1,y1⟩:=B1.at_ (k:=1) (v:=.bool false) rfl
   obtain⟨a2,y2⟩:=B1.at_ (k:=2) (v:=.bool false) rfl
   obtain⟨a3,y3⟩:=B1.at_ (k:=3) (v:=.int .i64 0) rfl
   have BF:=(((B1.set 0 (.bool a)).set 1 (.bool b)).set 2 (.bool c)).set 3 (.int .i64 n)
   have GF:=hid ((((G.st (p:=⟨w.heap.size+1,0,none⟩) (Nat.le_succ _) (.bool a)).st (p:=⟨w.heap.size+1,1,none⟩) (Nat.le_succ _) (.bool b)).st (p:=⟨w.heap.size+1,2,none⟩) (Nat.le_succ _) (.bool c)).st (p:=⟨w.heap.size+1,3,none⟩) (Nat.le_succ _) (.int .i64 n))
   obtain⟨c0,x0⟩:=BF.at_ (k:=0) (v:=.bool a) rfl
   obtain⟨c1,x1⟩:=BF.at_ (k:=1) (v:=.bool b) rfl
   obtain⟨c2,x2⟩:=BF.at_ (k:=2) (v:=.bool c) rfl
   obtain⟨c3,x3⟩:=BF.at_ (k:=3) (v:=.int .i64 n) rfl
   clear g1 g2 B1 BF G
   go_wp2_with fail
   exact bodyPost_ret (v:=fl a b c n) (by simp [results,Tryz.results130,go_sem,c0,c1,c2,c3]) rfl ⟨rfl,GF.out⟩
 . have hs':Tm s:=hs.resolve_left h1
   have R:=λ w=>hid (P4.Right_ok s true (by rw [P4.near_eq hs'];simp) w)
   clear hs hs'
   go_enter Tryz.func130,Tryz.ntmps130
   go_wp2_with fail
   with_reducible refine (R _).out.mono ?_
   rintro e w0 ⟨rfl,g0⟩
   have B0:=(((Blk.new w #[.int .i64 s,.bool t,.bool k,.int .i64 r,.int .i64 v] 53).al (.cells #[.bool false,.bool false,.bool false,.int .i64 0] 42)).gr g0)
   obtain⟨q3,z3⟩:=B0.at_ (k:=3) (v:=.int .i64 r) rfl
   obtain⟨q4,z4⟩:=B0.at_ (k:=4) (v:=.int .i64 v) rfl
   go_wp2_with fail
   with_reducible refine (need_yes _ _).mono ?_
   rintro e w1 ⟨rfl,rfl⟩
   go_wp2_with fail
   with_reducible refine (need_yes _ _).mono ?_
   rintro e w1 ⟨rfl,rfl⟩
   go_wp2_with fail
   with_reducible refine (U _).out.mono ?_
   rintro e w1 ⟨rfl,g1⟩
   go_wp2_with fail
   with_reducible refine (SF _).out.mono ?_
   rintro e w2 ⟨rfl,g2⟩
   have B1:=(((Blk.new (w.alloc (.cells #[.int .i64 s,.bool t,.bool k,.int .i64 r,.int .i64 v] 53)) #[.bool false,.bool false,.bool false,.int .i64 0] 42).gr g0).gr g1).gr g2
   rw [World.size_alloc] at B1
   have G:=(((Gr.refl w).al (.cells #[.int .i64 s,.bool t,.bool k,.int .i64 r,.int .i64 v] 53)).al (.cells #[.bool false,.bool false,.bool false,.int .i64 0] 42)).trans g0 |>.trans g1 |>.trans g2
   clear q3 z3 q4 z4 B0
   obtain⟨a0,y0⟩:=B1.at_ (k:=0) (v:=.bool false) rfl
   obtain⟨a1,y1⟩:=B1.at_ (k:=1) (v:=.bool false) rfl
   obtain⟨a2,y2⟩:=B1.at_ (k:=2) (v:=.bool false) rfl
   obtain⟨a3,y3⟩:=B1.at_ (k:=3) (v:=.int .i64 0) rfl
   have BF:=(((B1.set 0 (.bool a)).set 1 (.bool b)).set 2 (.bool c)).set 3 (.int .i64 n)
   have GF:=hid ((((G.st (p:=⟨w.heap.size+1,0,none⟩) (Nat.le_succ _) (.bool a)).st (p:=⟨w.heap.size+1,1,none⟩) (Nat.le_succ _) (.bool b)).st (p:=⟨w.heap.size+1,2,none⟩) (Nat.le_succ _) (.bool c)).st (p:=⟨w.heap.size+1,3,none⟩) (Nat.le_succ _) (.int .i64 n))
   obtain⟨c0,x0⟩:=BF.at_ (k:=0) (v:=.bool a) rfl
   obtain⟨c1,x1⟩:=BF.at_ (k:=1) (v:=.bool b) rfl
   obtain⟨c2,x2⟩:=BF.at_ (k:=2) (v:=.bool c) rfl
   obtain⟨c3,x3⟩:=BF.at_ (k:=3) (v:=.int .i64 n) rfl
   clear g1 g2 B1 BF G
   go_wp2_with fail
   exact bodyPost_ret (v:=fl a b c n) (by simp [results,Tryz.results130,go_sem,c0,c1,c2,c3]) rfl ⟨rfl,GF.out⟩
theorem look_no {o:Int} (h:¬ (OkS s r/\OkW o)):Calls Tryz.prog 130 #[ov s t k r o] w λ e w'=>e=.panicked (pan 1)/\Gr w w':=by
 by_cases h1:s=-1
 . subst h1
   by_cases hr:0<=r/\r<=4
   . have ho:¬ OkW o:=λ q=>h ⟨⟨.inl rfl,hr⟩,q⟩
     have U:=λ w=>hid (P3.Unpack_no o ho w)
     have SF:=λ w=>hid (sureF_no false false false 0 (y:=1) rfl w)
     obtain⟨hr0,hr4⟩:=hr
     clear h ho
     go_enter Tryz.func130,Tryz.ntmps130
     go_wp2_with fail
     with_reducible refine (need_yes _ _).mono ?_
     rintro e w1 ⟨rfl,rfl⟩
     go_wp2_with fail
     with_reducible refine (need_yes _ _).mono ?_
     rintro e w1 ⟨rfl,rfl⟩
     go_wp2_with fail
     with_reducible refine (U _).out.mono ?_
     rintro e w1 ⟨rfl,g1⟩
     go_wp2_with fail
     with_reducible refine (SF _).out.mono ?_
     rintro e w2 ⟨rfl,g2⟩
     have G:=(((Gr.refl w).al (.cells #[.int .i64 (-1),.bool t,.bool k,.int .i64 r,.int .i64 o] 53)).al (.cells #[.bool false,.bool false,.bool false,.int .i64 0] 42)).trans g1 |>.trans g2
     go_wp2_with fail
     exact⟨rfl,rfl,G⟩
   . clear h
     have G:=(((Gr.refl w).al (.cells #[.int .i64 (-1),.bool t,.bool k,.int .i64 r,.int .i64 o] 53)).al (.cells #[.bool false,.bool false,.bool false,.int .i64 0] 42))
     by_cases hr0:0<=r
     . have hr4:decide (r<=4)=false:=decide_eq_false (by omega)
       clear hr
       go_enter Tryz.func130,Tryz.ntmps130
       go_wp2_with fail
       with_reducible refine (need_yes _ _).mono ?_
       rintro e w1 ⟨rfl,rfl⟩
       go_wp2_with fail
       with_reducible refine (need_no _ _).mono ?_
       rintro e w1 ⟨rfl,rfl⟩
       go_wp2_with fail
       exact⟨rfl,rfl,G⟩
     . clear hr
       go_enter Tryz.func130,Tryz.ntmps130
       go_wp2_with fail
       with_reducible refine (need_yes _ _).mono ?_
       rintro e w1 ⟨rfl,rfl⟩
       go_wp2_with fail
       with_reducible refine (need_no _ _).mono ?_
       rintro e w1 ⟨rfl,rfl⟩
       go_wp2_with fail
       exact⟨rfl,rfl,G⟩
 . by_cases hs:Tm s
   . have R:=λ w=>hid (P4.Right_ok s true (by rw [P4.near_eq hs];simp) w)
     have G0:=(((Gr.refl w).al (.cells #[.int .i64 s,.bool t,.bool k,.int .i64 r,.int .i64 o] 53)).al (.cells #[.bool false,.bool false,.bool false,.int .i64 0] 42))
     by_cases hr:0<=r/\r<=4
     . have ho:¬ OkW o:=λ q=>h ⟨⟨.inr hs,hr⟩,q⟩
       have U:=λ w=>hid (P3.Unpack_no o ho w)
       have SF:=λ w=>hid (sureF_no false false false 0 (y:=1) rfl w)
       obtain⟨hr0,hr4⟩:=hr
       clear h ho hs
       go_enter Tryz.func130,Tryz.ntmps130
       go_wp2_with fail
       with_reducible refine (R _).out.mono ?_
       rintro e w0 ⟨rfl,g0⟩
       have B0:=(((Blk.new w #[.int .i64 s,.bool t,.bool k,.int .i64 r,.int .i64 o] 53).al (.cells #[.bool false,.bool false,.bool false,.int .i64 0] 42)).gr g0)
       obtain⟨q3,z3⟩:=B0.at_ (k:=3) (v:=.int .i64 r) rfl
       obtain⟨q4,z4⟩:=B0.at_ (k:=4) (v:=.int .i64 o) rfl
       go_wp2_with fail
       with_reducible refine (need_yes _ _).mono ?_
       rintro e w1 ⟨rfl,rfl⟩
       go_wp2_with fail
       with_reducible refine (need_yes _ _).mono ?_
       rintro e w1 ⟨rfl,rfl⟩
       go_wp2_with fail
       with_reducible refine (U _).out.mono ?_
       rintro e w1 ⟨rfl,g1⟩
       go_wp2_with fail
       with_reducible refine (SF _).out.mono ?_
       rintro e w2 ⟨rfl,g2⟩
       have G:=G0.trans g0 |>.trans g1 |>.trans g2
       go_wp2_with fail
       exact⟨rfl,rfl,G⟩
     . clear h hs
       by_cases hr0:0<=r
       . have hr4:decide (r<=4)=false:=decide_eq_false (by omega)
         clear hr
         go_enter Tryz.func130,Tryz.ntmps130
         go_wp2_with fail
         with_reducible refine (R _).out.mono ?_
         rintro e w0 ⟨rfl,g0⟩
         obtain⟨q3,z3⟩:=(((Blk.new w #[.int .i64 s,.bool t,.bool k,.int .i64 r,.int .i64 o] 53).al (.cells #[.bool false,.bool false,.bool false,.int .i64 0] 42)).gr g0).at_ (k:=3) (v:=.int .i64 r) rfl
         go_wp2_with fail
         with_reducible refine (need_yes _ _).mono ?_
         rintro e w1 ⟨rfl,rfl⟩
         go_wp2_with fail
         with_reducible refine (need_no _ _).mono ?_
         rintro e w1 ⟨rfl,rfl⟩
         go_wp2_with fail
         exact⟨rfl,rfl,G0.trans g0⟩
       . clear hr
         go_enter Tryz.func130,Tryz.ntmps130
         go_wp2_with fail
         with_reducible refine (R _).out.mono ?_
         rintro e w0 ⟨rfl,g0⟩
         obtain⟨q3,z3⟩:=(((Blk.new w #[.int .i64 s,.bool t,.bool k,.int .i64 r,.int .i64 o] 53).al (.cells #[.bool false,.bool false,.bool false,.int .i64 0] 42)).gr g0).at_ (k:=3) (v:=.int .i64 r) rfl
         go_wp2_with fail
         with_reducible refine (need_yes _ _).mono ?_
         rintro e w1 ⟨rfl,rfl⟩
         go_wp2_with fail
         with_reducible refine (need_no _ _).mono ?_
         rintro e w1 ⟨rfl,rfl⟩
         go_wp2_with fail
         exact⟨rfl,rfl,G0.trans g0⟩
   . have hs1:(s==-1)=false:=beq_eq_false_iff_ne.2 h1
     have R:=λ w=>hid (P4.Right_ok s false (P4.near_ne hs) w)
     have G0:=(((Gr.refl w).al (.cells #[.int .i64 s,.bool t,.bool k,.int .i64 r,.int .i64 o] 53)).al (.cells #[.bool false,.bool false,.bool false,.int .i64 0] 42))
     clear h hs
     go_enter Tryz.func130,Tryz.ntmps130
     go_wp2_with fail
     with_reducible refine (R _).out.mono ?_
     rintro e w0 ⟨rfl,g0⟩
     go_wp2_with fail
     with_reducible refine (need_no _ _).mono ?_
     rintro e w1 ⟨rfl,rfl⟩
     go_wp2_with fail
     exact⟨rfl,rfl,G0.trans g0⟩
end
end P14
end
section
open Go.ChangeShapes Go.WideShapes Go.ChangeAt Go.RowKit Go.Shelf
namespace P14
open P3 (fl pw)
open P4 (Tm)
section
variable {s r:Int} {t k a b c:Bool} {n u o x:Int} {w:World}
theorem Right_cl {W:World} {g:Nat} (B:Blk W g #[.int .i64 s,.bool t,.bool k,.int .i64 r,.int .i64 o] 53) (hc:∀ W,Calls Tryz.prog 130 #[ov s t k r o] W λ e w'=>e=.returned (fl a b c n)/\Gr W w') :
 Calls Tryz.prog 129 #[.pointer (some ⟨g,0,none⟩)] W λ e w'=>e=.returned (fl a b c n)/\Gr W w':=by
 have HC:=λ W=>hid (hc W)
 have hlt:=B.lt
 obtain⟨⟨q0,q1,q2,q3,q4⟩,-⟩:=own_cells B
 have N1:=hid (Blk.new W #[.bool false,.bool false,.bool false,.int .i64 0] 42)
 have G0:=hid ((Gr.refl W).al (.cells #[.bool false,.bool false,.bool false,.int .i64 0] 42))
 clear hc B
 go_enter Tryz.func129,Tryz.ntmps129
 go_wp2_with fail
 with_reducible refine (HC _).out.mono ?_
 rintro e w1 ⟨rfl,g1⟩
 have B1:=N1.out.gr g1
 have G:=G0.out.trans g1
 obtain⟨a0,y0⟩:=B1.at_ (k:=0) (v:=.bool false) rfl
 obtain⟨a1,y1⟩:=B1.at_ (k:=1) (v:=.bool false) rfl
 obtain⟨a2,y2⟩:=B1.at_ (k:=2) (v:=.bool false) rfl
 obtain⟨a3,y3⟩:=B1.at_ (k:=3) (v:=.int .i64 0) rfl
 have BF:=(((B1.set 0 (.bool a)).set 1 (.bool b)).set 2 (.bool c)).set 3 (.int .i64 n)
 have GF:=hid ((((G.st (p:=⟨W.heap.size,0,none⟩) (Nat.le_refl _) (.bool a)).st (p:=⟨W.heap.size,1,none⟩) (Nat.le_refl _) (.bool b)).st (p:=⟨W.heap.size,2,none⟩) (Nat.le_refl _) (.bool c)).st (p:=⟨W.heap.size,3,none⟩) (Nat.le_refl _) (.int .i64 n))
 obtain⟨c0,x0⟩:=BF.at_ (k:=0) (v:=.bool a) rfl
 obtain⟨c1,x1⟩:=BF.at_ (k:=1) (v:=.bool b) rfl
 obtain⟨c2,x2⟩:=BF.at_ (k:=2) (v:=.bool c) rfl
 obtain⟨c3,x3⟩:=BF.at_ (k:=3) (v:=.int .i64 n) rfl
 clear g1 B1 BF G
 go_wp2_with fail
 exact bodyPost_ret (v:=fl a b c n) (by simp [results,Tryz.results129,go_sem,c0,c1,c2,c3]) rfl ⟨rfl,GF.out⟩
theorem Right_up {W:World} {g:Nat} {y:Int} (B:Blk W g #[.int .i64 s,.bool t,.bool k,.int .i64 r,.int .i64 o] 53) (hc:∀ W,Calls Tryz.prog 130 #[ov s t k r o] W λ e w'=>e=.panicked (pan y)/\Gr W w') :
 Calls Tryz.prog 129 #[.pointer (some ⟨g,0,none⟩)] W λ e w'=>e=.panicked (pan y)/\Gr W w':=by
 have HC:=λ W=>hid (hc W)
 have hlt:=B.lt
 obtain⟨⟨q0,q1,q2,q3,q4⟩,-⟩:=own_cells B
 have G0:=hid ((Gr.refl W).al (.cells #[.bool false,.bool false,.bool false,.int .i64 0] 42))
 clear hc B
 go_enter Tryz.func129,Tryz.ntmps129
 go_wp2_with fail
 with_reducible refine (HC _).out.mono ?_
 rintro e w1 ⟨rfl,g1⟩
 go_wp2_with fail
 exact⟨rfl,rfl,G0.out.trans g1⟩
theorem Right_yes (hc:∀ W,Calls Tryz.prog 130 #[ov s t k r o] W λ e w'=>e=.returned (fl a b c n)/\Gr W w') :
 Calls Tryz.prog 96 #[ov s t k r o] w λ e w'=>e=.returned (.bool true)/\Gr w w':=by
 have N0:=Blk.new w #[.int .i64 s,.bool t,.bool k,.int .i64 r,.int .i64 o] 53
 have T:=hid (toldF_ok (F:=129) (caps:=#[.pointer (some ⟨w.heap.size,0,none⟩)]) (w:=w.alloc (.cells #[.int .i64 s,.bool t,.bool k,.int .i64 r,.int .i64 o] 53)) (enters_of Tryz.func129 (by kernel_rfl) rfl) a b c n (λ W G=>Right_cl (N0.gr G) hc))
 have G0:=(Gr.refl w).al (.cells #[.int .i64 s,.bool t,.bool k,.int .i64 r,.int .i64 o] 53)
 clear hc N0
 have hmf:=mkF
 go_enter Tryz.func96,Tryz.ntmps96
 go_wp2_with fail
 with_reducible refine T.out.mono ?_
 rintro e w1 ⟨rfl,g1⟩
 go_wp2_with fail
 go_ret
 exact⟨rfl,(G0.trans g1).al _⟩
theorem Right_no {y:Int} (hy:(y==0)=false) (hc:∀ W,Calls Tryz.prog 130 #[ov s t k r o] W λ e w'=>e=.panicked (pan y)/\Gr W w') :
 Calls Tryz.prog 96 #[ov s t k r o] w λ e w'=>e=.returned (.bool false)/\Gr w w':=by
 have N0:=Blk.new w #[.int .i64 s,.bool t,.bool k,.int .i64 r,.int .i64 o] 53
 have T:=hid (toldF_no (F:=129) (caps:=#[.pointer (some ⟨w.heap.size,0,none⟩)]) (w:=w.alloc (.cells #[.int .i64 s,.bool t,.bool k,.int .i64 r,.int .i64 o] 53)) (enters_of Tryz.func129 (by kernel_rfl) rfl) y (λ W G=>Right_up (N0.gr G) hc))
 have G0:=(Gr.refl w).al (.cells #[.int .i64 s,.bool t,.bool k,.int .i64 r,.int .i64 o] 53)
 clear hc N0
 have hmf:=mkF
 go_enter Tryz.func96,Tryz.ntmps96
 go_wp2_with fail
 with_reducible refine T.out.mono ?_
 rintro e w1 ⟨rfl,g1⟩
 go_wp2_with fail
 go_ret
 exact⟨rfl,(G0.trans g1).al _⟩
theorem Fresh_is:Calls Tryz.prog 63 #[] w λ e w'=>e=.returned (ov (-1) false false 0 0)/\Gr w w':=by
 go_enter Tryz.func63,Tryz.ntmps63
 go_wp2_with fail
 exact bodyPost_ret (v:=ov (-1) false false 0 0) (by simp [results,Tryz.results63,go_sem]) rfl ⟨rfl,(Gr.refl w).al _⟩
theorem Spins_no {W:World} {g h:Nat} (B:Blk W g #[.int .i64 s,.bool t,.bool k,.int .i64 r,.int .i64 o] 53) (D:Blk W h #[.int .i64 u] 3) (hc:∀ W,Calls Tryz.prog 130 #[ov s t k r o] W λ e w'=>e=.returned (fl a b c n)/\Gr W w') (hcan:∀ W,Calls Tryz.prog 176 #[.int .i64 r,.int .i64 u] W λ e w'=>e=.returned (.tuple #[.bool false,.int .i64 0])/\w'=W) :
 Calls Tryz.prog 174 #[.pointer (some ⟨g,0,none⟩),.pointer (some ⟨h,0,none⟩)] W λ e w'=>e=.returned (.bool false)/\Gr W w':=by
 have HC:=λ W=>hid (hc W)
 obtain⟨⟨q0,q1,q2,q3,q4⟩,-⟩:=own_cells B
 have HCAN:=λ W=>hid (hcan W)
 clear hc hcan
 go_enter Tryz.func174,Tryz.ntmps174
 go_wp2_with fail
 with_reducible refine (HC _).out.mono ?_
 rintro e w1 ⟨rfl,g1⟩
 have hlt:=(B.gr g1).lt
 have hlt2:=(D.gr g1).lt
 obtain⟨p3,-⟩:=(B.gr g1).at_ (k:=3) rfl
 obtain⟨d0,-⟩:=(D.gr g1).at_ (k:=0) rfl
 clear q0 q1 q2 q3 q4
 go_wp2_with fail
 with_reducible refine (HCAN _).out.mono ?_
 rintro e w2 ⟨rfl,rfl⟩
 go_wp2_with fail
 with_reducible refine (sureB_yes _ _).mono ?_
 rintro e w3 ⟨rfl,rfl⟩
 go_wp2_with fail
 go_ret
 exact⟨rfl,g1.al _⟩
theorem Spins_yes {W:World} {g h:Nat} (B:Blk W g #[.int .i64 s,.bool t,.bool k,.int .i64 r,.int .i64 o] 53) (D:Blk W h #[.int .i64 u] 3) (hc:∀ W,Calls Tryz.prog 130 #[ov s t k r o] W λ e w'=>e=.returned (fl a b c n)/\Gr W w') (hcan:∀ W,Calls Tryz.prog 176 #[.int .i64 r,.int .i64 u] W λ e w'=>e=.returned (.tuple #[.bool true,.int .i64 0])/\w'=W) :
 Calls Tryz.prog 174 #[.pointer (some ⟨g,0,none⟩),.pointer (some ⟨h,0,none⟩)] W λ e w'=>e=.returned (.bool (a&&!c))/\Gr W w':=by
 have HC:=λ W=>hid (hc W)
 obtain⟨⟨q0,q1,q2,q3,q4⟩,-⟩:=own_cells B
 have HCAN:=λ W=>hid (hcan W)
 clear hc hcan
 have HD:=λ w=>hid (held_is a b c n w)
 have hq:hEq a c true false=(a&&!c):=by cases a<;>cases c<;>rfl
 have HE:=λ w=>hq▸run_hold_eql a c true false w
 generalize (a&&!c)=v at *
 clear hq
 go_enter Tryz.func174,Tryz.ntmps174
 go_wp2_with fail
 with_reducible refine (HC _).out.mono ?_
 rintro e w1 ⟨rfl,g1⟩
 have hlt:=(B.gr g1).lt
 have hlt2:=(D.gr g1).lt
 obtain⟨p3,-⟩:=(B.gr g1).at_ (k:=3) rfl
 obtain⟨d0,-⟩:=(D.gr g1).at_ (k:=0) rfl
 clear q0 q1 q2 q3 q4
 go_wp2_with fail
 with_reducible refine (HCAN _).out.mono ?_
 rintro e w2 ⟨rfl,rfl⟩
 go_wp2_with fail
 with_reducible refine (sureB_yes _ _).mono ?_
 rintro e w3 ⟨rfl,rfl⟩
 go_wp2_with fail
 with_reducible refine (HD _).out.mono ?_
 rintro e w4 ⟨rfl,g4⟩
 go_wp2_with fail
 go_ret
 exact⟨rfl,(g1.al _).trans g4⟩
theorem SpinsB {v:Bool} (hq:∀ W g h,Blk W g #[.int .i64 s,.bool t,.bool k,.int .i64 r,.int .i64 o] 53->Blk W h #[.int .i64 u] 3->Calls Tryz.prog 174 #[.pointer (some ⟨g,0,none⟩),.pointer (some ⟨h,0,none⟩)] W λ e w'=>e=.returned (.bool v)/\Gr W w') :
 Calls Tryz.prog 138 #[ov s t k r o,.int .i64 u] w λ e w'=>e=.returned (.tuple #[.bool v,.int .i64 0])/\Gr w w':=by
 have N0:=(Blk.new w #[.int .i64 s,.bool t,.bool k,.int .i64 r,.int .i64 o] 53).al (.cells #[.int .i64 u] 3)
 have N1:=Blk.new (w.alloc (.cells #[.int .i64 s,.bool t,.bool k,.int .i64 r,.int .i64 o] 53)) #[.int .i64 u] 3
 rw [World.size_alloc] at N1
 have T:=hid (toldB_ok (F:=174) (caps:=#[.pointer (some ⟨w.heap.size,0,none⟩),.pointer (some ⟨w.heap.size+1,0,none⟩)]) (w:=(w.alloc (.cells #[.int .i64 s,.bool t,.bool k,.int .i64 r,.int .i64 o] 53)).alloc (.cells #[.int .i64 u] 3)) (enters_of Tryz.func174 (by kernel_rfl) rfl) v (λ W G=>hq W _ _ (N0.gr G) (N1.gr G)))
 have G0:=(((Gr.refl w).al (.cells #[.int .i64 s,.bool t,.bool k,.int .i64 r,.int .i64 o] 53)).al (.cells #[.int .i64 u] 3))
 clear hq N0 N1
 have hmf:=mkF
 go_enter Tryz.func138,Tryz.ntmps138
 go_wp2_with fail
 with_reducible refine T.out.mono ?_
 rintro e w1 ⟨rfl,g1⟩
 go_wp2_with fail
 go_ret2
 exact⟨rfl,G0.trans g1⟩
end
end P14
end
end Go.Proofs.YtainfijdhcehlaaGreatDoor
