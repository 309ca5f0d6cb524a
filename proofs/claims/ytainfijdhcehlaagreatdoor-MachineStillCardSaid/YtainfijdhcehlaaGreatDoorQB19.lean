/-
  A part of the proof.
-/
import Derived.Test.YtainfijdhcehlaaGreatDoorQB3
import Derived.Test.YtainfijdhcehlaaGreatDoorQB18
set_option linter.unusedVariables false
set_option linter.unusedSimpArgs false
set_option maxRecDepth 100000
set_option maxHeartbeats 8000000
namespace Go.Proofs.YtainfijdhcehlaaGreatDoor
open Lib (hid)
section
open Go.ChangeShapes Go.WideShapes Go.ChangeAt Go.RowKit Go.Shelf
namespace P16
open P14 (pan)
open P12 (PV PMem)
theorem m8 {n:Int} (h0:0<=n):8*n=8*((n.toNat:Nat):Int):=by omega
section
variable {x:Cx} {W:World} {T E:Sl} {cl:List Cl} {mx:List T3} {tb:List Sp} {ev:List T3} {c:Cl} {a:T3} {pr:List Ac}
variable {is:Bool} {G:Int×List Int} {tb2:List Sp}
def NewT (x:Cx) (w:World) (B:Option Addr) (N m:Nat) (tb2:List Sp):Prop:=(∀ W',Kb x w W'->∃ S,SMem W' B N S/\S.map SV.pl=tb2)/\N<=m/\m<=9223372036854775807
def AskP (tb:List Sp) (j:Nat) (who:Int) (first is:Bool) (G:Int×List Int):Prop :=
 who ∉ (gtA tb j).2/\((0<(gtA tb j).1/\is=true/\G=((gtA tb j).1-1,(gtA tb j).2))\/(¬ 0<(gtA tb j).1/\(gtA tb j).2.length<64/\is=false/\G=(0,psh first (gtA tb j).2 who)))
def GotT (tb tb2:List Sp) (j:Nat) (G:Int×List Int):Prop:=TabA tb2/\gtA tb2 j=G/\∀ i,i≠j->gtA tb2 i=gtA tb i
theorem acq_yes {first:Bool} (h:TS x W T E cl mx tb ev) (h0:0<=x.n) (h4:x.n<4) (ht:TabA tb) (hP:AskP tb x.n.toNat x.who first is G) :
 Calls Tryz.prog 150 #[.slice T.A T.n T.c,.int .i64 (8*x.n),.int .i64 x.who,.bool first] W λ ee w'=>∃ B N m tb2,ee=.returned (.tuple #[.slice B N m,.bool is,.int .i64 0])/\NewT x w' B N m tb2/\GotT tb tb2 x.n.toNat G/\Gr W w':=by
 obtain⟨L,hL,eL⟩:=h.tb W ⟨Nat.le_refl _,λ _ _ _ _ _ _=>rfl⟩
 have b8:B64 (8*x.n):=⟨by omega,by omega⟩
 refine (Acquire_own (first:=first) hL h.ot.1 h.ot.2 b8 h.wi).mono ?_
 rintro ee w' ⟨B,m,N,is',e,rfl,Q,rfl,q1,q2,q3,q4,q5,q6⟩
 rw [m8 h0] at q4
 have hlt:=h.t.lt
 rcases ask_cases ht eL (show x.n.toNat<4 by omega) h.w0 q4 with ⟨a1,a2,a3⟩ | ⟨rfl,a2,a3,a4,a5⟩
 . exfalso
   rcases hP with ⟨p1,p2 | p2⟩
   . rcases a3 with a3 | a3
     . exact p1 a3
     . exact a3.1 p2.1
   . rcases a3 with a3 | a3
     . exact p1 a3
     . have:=p2.2.1;have:=a3.2;omega
 . have hg:is'=is/\gtA (Q.map SV.pl) x.n.toNat=G:=by
    rcases a5 with ⟨b1,rfl,b2⟩ | ⟨b1,_,b2,rfl,b3⟩
    . rcases hP.2 with ⟨c1,rfl,rfl⟩ | ⟨c1,_⟩
      . exact⟨rfl,b2⟩
      . exact absurd b1 c1
    . rcases hP.2 with ⟨c1,_⟩ | ⟨c1,c2,rfl,rfl⟩
      . exact absurd c1 b1
      . exact⟨rfl,b3⟩
   obtain⟨rfl,hg⟩:=hg
   exact⟨B,Q.length,m,Q.map SV.pl,rfl,⟨sown_kb q6 (Nat.le_trans h.lb (Nat.le_of_lt hlt)) hlt h.c.lt h.m.lt,q2,q3⟩,⟨a3,hg,a4⟩,q5⟩
theorem acq_no {first:Bool} (h:TS x W T E cl mx tb ev) (h0:0<=x.n) (h4:x.n<4) (ht:TabA tb) (hP:x.who∈(gtA tb x.n.toNat).2\/(¬ 0<(gtA tb x.n.toNat).1/\64<=(gtA tb x.n.toNat).2.length)) :
 Calls Tryz.prog 150 #[.slice T.A T.n T.c,.int .i64 (8*x.n),.int .i64 x.who,.bool first] W λ ee w'=>∃ B N m e,ee=.returned (.tuple #[.slice B N m,.bool false,.int .i64 e])/\(e==0)=false/\Gr W w':=by
 obtain⟨L,hL,eL⟩:=h.tb W ⟨Nat.le_refl _,λ _ _ _ _ _ _=>rfl⟩
 have b8:B64 (8*x.n):=⟨by omega,by omega⟩
 refine (Acquire_own (first:=first) hL h.ot.1 h.ot.2 b8 h.wi).mono ?_
 rintro ee w' ⟨B,m,N,is',e,rfl,Q,rfl,q1,q2,q3,q4,q5,q6⟩
 rw [m8 h0] at q4
 rcases ask_cases ht eL (show x.n.toNat<4 by omega) h.w0 q4 with ⟨a1,rfl,a3⟩ | ⟨rfl,a2,a3,a4,a5⟩
 . exact⟨B,Q.length,m,e,rfl,beq_eq_false_iff_ne.2 a1,q5⟩
 . exfalso
   rcases hP with p | ⟨p1,p2⟩
   . exact a2 p
   . rcases a5 with ⟨b1,_⟩ | ⟨_,_,b2,_⟩
     . exact p1 b1
     . omega
theorem rel_yes (h:TS x W T E cl mx tb ev) (h0:0<=x.n) (h4:x.n<4) (ht:TabA tb) {z:Int} (hP:(∃ r,(gtA tb x.n.toNat).2=z::r/\G=(0,r))\/((gtA tb x.n.toNat).2=[]/\(gtA tb x.n.toNat).1≠2147483647/\z=-1/\G=((gtA tb x.n.toNat).1+1,[]))) :
 Calls Tryz.prog 161 #[.slice T.A T.n T.c,.int .i64 (8*x.n)] W λ ee w'=>∃ B N m tb2,ee=.returned (.tuple #[.slice B N m,.int .i64 z,.int .i64 0])/\NewT x w' B N m tb2/\GotT tb tb2 x.n.toNat G/\Gr W w':=by
 obtain⟨L,hL,eL⟩:=h.tb W ⟨Nat.le_refl _,λ _ _ _ _ _ _=>rfl⟩
 have b8:B64 (8*x.n):=⟨by omega,by omega⟩
 refine (Release_own hL h.ot.1 h.ot.2 b8).mono ?_
 rintro ee w' ⟨B,m,N,z',e,rfl,Q,rfl,q1,q2,q3,q4,q5,q6⟩
 rw [m8 h0] at q4
 have hlt:=h.t.lt
 rcases rel_cases ht eL (show x.n.toNat<4 by omega) q4 with ⟨a1,a2,a3⟩ | ⟨rfl,a3,a4,a5⟩
 . exfalso
   rcases hP with ⟨r,p1,_⟩ | ⟨p1,p2,_⟩
   . rw [a2] at p1;cases p1
   . exact p2 a3
 . have hg:z'=z/\gtA (Q.map SV.pl) x.n.toNat=G:=by
    rcases a5 with ⟨r,_,b1,b2⟩ | ⟨b1,_,rfl,b2⟩
    . rcases hP with ⟨r2,p1,rfl⟩ | ⟨p1,_⟩
      . rw [b1] at p1;cases p1;exact⟨rfl,b2⟩
      . rw [b1] at p1;cases p1
    . rcases hP with ⟨r2,p1,_⟩ | ⟨_,_,rfl,rfl⟩
      . rw [b1] at p1;cases p1
      . exact⟨rfl,b2⟩
   obtain⟨rfl,hg⟩:=hg
   exact⟨B,Q.length,m,Q.map SV.pl,rfl,⟨sown_kb q6 (Nat.le_trans h.lb (Nat.le_of_lt hlt)) hlt h.c.lt h.m.lt,q2,q3⟩,⟨a3,hg,a4⟩,q5⟩
theorem rel_no (h:TS x W T E cl mx tb ev) (h0:0<=x.n) (h4:x.n<4) (ht:TabA tb) (hP:(gtA tb x.n.toNat).2=[]/\(gtA tb x.n.toNat).1=2147483647) :
 Calls Tryz.prog 161 #[.slice T.A T.n T.c,.int .i64 (8*x.n)] W λ ee w'=>∃ B N m z e,ee=.returned (.tuple #[.slice B N m,.int .i64 z,.int .i64 e])/\(e==0)=false/\Gr W w':=by
 obtain⟨L,hL,eL⟩:=h.tb W ⟨Nat.le_refl _,λ _ _ _ _ _ _=>rfl⟩
 have b8:B64 (8*x.n):=⟨by omega,by omega⟩
 refine (Release_own hL h.ot.1 h.ot.2 b8).mono ?_
 rintro ee w' ⟨B,m,N,z',e,rfl,Q,rfl,q1,q2,q3,q4,q5,q6⟩
 rw [m8 h0] at q4
 rcases rel_cases ht eL (show x.n.toNat<4 by omega) q4 with ⟨a1,a2,a3⟩ | ⟨rfl,a3,a4,a5⟩
 . exact⟨B,Q.length,m,z',e,rfl,beq_eq_false_iff_ne.2 a1,q5⟩
 . exfalso
   rcases a5 with ⟨r,_,b1,_⟩ | ⟨_,b1,_⟩
   . rw [hP.1] at b1;cases b1
   . exact b1 hP.2
theorem ask_yes (h:TS x W T E cl mx tb ev) (hR:Rn x cl c pr) (h0:0<=x.n) (h4:x.n<4) (ht:TabA tb) (hP:AskP tb x.n.toNat x.who c.first is G) :
 Calls Tryz.prog 104 #[.pointer (some ⟨x.b,0,none⟩)] W λ e W'=>e=.returned (.tuple #[])/\(∃ T2 tb2,TS x W' T2 E (cl.set x.who.toNat { c with told:=is,pc:=6 }) mx tb2 ev/\GotT tb tb2 x.n.toNat G)/\Kx x W W':=by
 have hc:=hR.hc
 have CBc:=h.cb c (List.mem_of_getElem? hc)
 have H:=hid h
 have ca:=hid (address_is (h.gr (Gr.refl W).dr) h0 h4)
 have cA:=hid (acq_yes (first:=c.first) (h.gr (Gr.refl W).dr) h0 h4 ht hP)
 obtain⟨-,-,-,-,c4,-,c6,c7,-,-,-,-⟩:=h.cells
 obtain⟨-,-,-,-,-,-,s6,-,-,-,-,-,-,-⟩:=h.cl_ hc
 clear h hP ht
 go_enter Tryz.func104,Tryz.ntmps104
 go_upto_region 0 with fail
 refine wp_region_held_drew (S:=(λ w'=>w'.cell? ⟨x.b,7,none⟩=some (.pointer (some ⟨x.bc,x.oc+x.who.toNat*13,none⟩))/\w'.cell? ⟨x.b,6,none⟩=some (.int .i64 x.who)/\w'.cell? ⟨x.bc,x.oc+x.who.toNat*13+6,none⟩=some (.bool c.first))) (by kernel_rfl) ⟨c7,c6,s6⟩ (λ hS=>?_)
 refine wG 0 hS ?_
 refine wG 1 hS ?_
 refine wG 2 hS ?_
 refine wG 3 hS ?_
 refine wG 4 hS ?_
 refine wG 5 hS ?_
 refine wG 6 hS ?_
 refine wG 7 hS ?_
 refine wG 8 hS ?_
 refine wG 10 hS ?_
 refine wG 12 hS ?_
 refine wG 13 hS ?_
 refine wG 14 hS ?_
 refine wG 15 hS ?_
 refine wG 16 hS ?_
 refine wG 17 hS ?_
 refine wG 18 hS ?_
 refine wG 19 hS ?_
 refine wG 20 hS ?_
 refine wG 21 hS ?_
 refine wG 22 hS ?_
 refine wR2 9 11 (λ K hK=>?_) (λ K hK=>?_)
 . skip
   go_simp
   refine hK.out _ _ ⟨c7,c6,s6⟩ (λ hS=>?_)
   clear hK K
   try simp only [pL]
   refine wR1 11 (λ K hK=>?_)
   go_simp;go_at_call 151;with_reducible refine ca.out.mono ?_;rintro ee w2 ⟨rfl,rfl⟩;go_wp2_with fail
   refine hK.out _ _ ⟨c7,c6,s6⟩ (λ hS=>?_)
   clear hK K
   try simp only [pL]
   refine wR1 23 (λ K hK=>?_)
   go_simp;go_at_call 150;with_reducible refine cA.out.mono ?_;rintro ee w3 ⟨B,N,m,tb2,rfl,q1,q2,g3⟩;go_wp2_with fail
   have G3:=hid ((Gr.refl W).dr.trans g3)
   have Q1:=hid q1
   have Q2:=hid q2
   clear q1 q2 g3
   have h3:=H.out.gr G3.out
   obtain⟨-,-,-,-,d4,-,d6,d7,-,-,-,cz⟩:=h3.cells
   have zd4:=cz 4 (by decide)
   clear cz
   obtain⟨-,-,-,-,-,-,t6,t7,-,-,-,-,-,sz⟩:=h3.cl_ hc
   have y7:=sz 7 (by decide)
   clear sz
   have n1:=h3.n1
   have n1':=h3.n1.symm
   clear h3
   refine hK.out _ _ ⟨d7,d6,t6⟩ (λ hS=>?_)
   clear hK K
   try simp only [pL]
   refine wG 24 hS ?_
   refine wG 25 hS ?_
   refine wG 26 hS ?_
   refine wR1 27 (λ K hK=>?_)
   go_simp;go_at_call 149;with_reducible refine (bothSB_yes _ _ _ _ _).mono ?_;rintro ee w4 ⟨rfl,rfl⟩;go_wp2_with fail
   refine hK.out _ _ ⟨d7,d6,t6⟩ (λ hS=>?_)
   clear hK K
   try simp only [pL]
   refine wG 28 hS ?_
   refine wG 29 hS ?_
   refine wG 30 hS ?_
   refine wG 31 hS ?_
   refine wG 32 hS ?_
   refine wG 33 hS ?_
   refine wR1 34 (λ K hK=>?_)
   go_simp
   have h4':=(H.out.gr G3.out).putT (U:=⟨B,N,m⟩) Q1.out.1 Q1.out.2
   have e7:=h4'.cells.2.2.2.2.2.2.2.1
   have e6:=h4'.cells.2.2.2.2.2.2.1
   have u6:=(h4'.cl_ hc).2.2.2.2.2.2.1
   have H4:=hid h4'
   clear h4'
   refine hK.out _ _ ⟨e7,e6,u6⟩ (λ hS=>?_)
   clear hK K
   try simp only [pL]
   refine wG 35 hS ?_
   refine wG 36 hS ?_
   refine wR1 37 (λ K hK=>?_)
   go_simp
   have h5:=H4.out.putC hc 7 (.bool is) { c with told:=is } rfl (by decide) { CBc with }
   have hc5:(cl.set x.who.toNat { c with told:=is })[x.who.toNat]?=some { c with told:=is }:=by rw [List.getElem?_set_self (List.getElem?_eq_some_iff.1 hc).1]
   have f7:=h5.cells.2.2.2.2.2.2.2.1
   have f6:=h5.cells.2.2.2.2.2.2.1
   have v6:=(h5.cl_ hc5).2.2.2.2.2.2.1
   have H5:=hid h5
   clear h5
   refine hK.out _ _ ⟨f7,f6,v6⟩ (λ hS=>?_)
   clear hK K
   try simp only [pL]
   refine wpAnyH_done (by kernel_rfl) ?_ _
   have H6:Hid (TS x ((w4.setCell ⟨x.b,4,none⟩ (.slice B N m)).setCell ⟨x.bc,x.oc+x.who.toNat*13+7,none⟩ (.bool is)) ⟨B,N,m⟩ E (cl.set x.who.toNat { c with told:=is }) mx tb2 ev):=H5
   have K6:Hid (Kx x W ((w4.setCell ⟨x.b,4,none⟩ (.slice B N m)).setCell ⟨x.bc,x.oc+x.who.toNat*13+7,none⟩ (.bool is))):=hid (((Kx.gr G3.out).trans (Kx.st (.inl rfl) _)).trans (Kx.st (.inr (.inl rfl)) _))
   clear hS d7 d6 d4 t6 t7 e7 e6 u6 f7 f6 v6 H4 H5 c4 c6 c7 s6 y7 zd4 ca cA Q1 G3
   generalize (w4.setCell ⟨x.b,4,none⟩ (.slice B N m)).setCell ⟨x.bc,x.oc+x.who.toNat*13+7,none⟩ (.bool is)=w6 at H6 K6 ⊢
   have h6:=H6.out
   obtain⟨-,-,-,-,-,-,-,c7,-,-,-,-⟩:=h6.cells
   obtain⟨-,-,-,s3,-,-,-,-,-,-,-,-,-,sz⟩:=h6.cl_ hc5
   have y3:=sz 3 (by decide)
   clear sz
   dsimp only at s3
   clear h6
   rename_i hh
   clear hh
   go_wp2_with fail
   (first | go_end0 | ((try simp only [Exit.inBlock,Exit.then]);refine bodyPost_ret (results_none rfl _ _ _) rfl ?_))
   have h7:=H6.out.putC2 hc 3 (.int .i64 6) { c with told:=is,pc:=6 } rfl (by decide) { CBc with pc:=(show B64 6 from ⟨by omega,by omega⟩) }
   exact⟨rfl,⟨_,_,h7,Q2.out⟩,K6.out.trans (Kx.st (.inr (.inl rfl)) _)⟩
 . skip
   go_simp;go_at_call 151;with_reducible refine ca.out.mono ?_;rintro ee w2 ⟨rfl,rfl⟩;go_wp2_with fail
   refine hK.out _ _ ⟨c7,c6,s6⟩ (λ hS=>?_)
   clear hK K
   try simp only [pL]
   refine wR1 9 (λ K hK=>?_)
   go_simp
   refine hK.out _ _ ⟨c7,c6,s6⟩ (λ hS=>?_)
   clear hK K
   try simp only [pL]
   refine wR1 23 (λ K hK=>?_)
   go_simp;go_at_call 150;with_reducible refine cA.out.mono ?_;rintro ee w3 ⟨B,N,m,tb2,rfl,q1,q2,g3⟩;go_wp2_with fail
   have G3:=hid ((Gr.refl W).dr.trans g3)
   have Q1:=hid q1
   have Q2:=hid q2
   clear q1 q2 g3
   have h3:=H.out.gr G3.out
   obtain⟨-,-,-,-,d4,-,d6,d7,-,-,-,cz⟩:=h3.cells
   have zd4:=cz 4 (by decide)
   clear cz
   obtain⟨-,-,-,-,-,-,t6,t7,-,-,-,-,-,sz⟩:=h3.cl_ hc
   have y7:=sz 7 (by decide)
   clear sz
   have n1:=h3.n1
   have n1':=h3.n1.symm
   clear h3
   refine hK.out _ _ ⟨d7,d6,t6⟩ (λ hS=>?_)
   clear hK K
   try simp only [pL]
   refine wG 24 hS ?_
   refine wG 25 hS ?_
   refine wG 26 hS ?_
   refine wR1 27 (λ K hK=>?_)
   go_simp;go_at_call 149;with_reducible refine (bothSB_yes _ _ _ _ _).mono ?_;rintro ee w4 ⟨rfl,rfl⟩;go_wp2_with fail
   refine hK.out _ _ ⟨d7,d6,t6⟩ (λ hS=>?_)
   clear hK K
   try simp only [pL]
   refine wG 28 hS ?_
   refine wG 29 hS ?_
   refine wG 30 hS ?_
   refine wG 31 hS ?_
   refine wG 32 hS ?_
   refine wG 33 hS ?_
   refine wR1 34 (λ K hK=>?_)
   go_simp
   have h4':=(H.out.gr G3.out).putT (U:=⟨B,N,m⟩) Q1.out.1 Q1.out.2
   have e7:=h4'.cells.2.2.2.2.2.2.2.1
   have e6:=h4'.cells.2.2.2.2.2.2.1
   have u6:=(h4'.cl_ hc).2.2.2.2.2.2.1
   have H4:=hid h4'
   clear h4'
   refine hK.out _ _ ⟨e7,e6,u6⟩ (λ hS=>?_)
   clear hK K
   try simp only [pL]
   refine wG 35 hS ?_
   refine wG 36 hS ?_
   refine wR1 37 (λ K hK=>?_)
   go_simp
   have h5:=H4.out.putC hc 7 (.bool is) { c with told:=is } rfl (by decide) { CBc with }
   have hc5:(cl.set x.who.toNat { c with told:=is })[x.who.toNat]?=some { c with told:=is }:=by rw [List.getElem?_set_self (List.getElem?_eq_some_iff.1 hc).1]
   have f7:=h5.cells.2.2.2.2.2.2.2.1
   have f6:=h5.cells.2.2.2.2.2.2.1
   have v6:=(h5.cl_ hc5).2.2.2.2.2.2.1
   have H5:=hid h5
   clear h5
   refine hK.out _ _ ⟨f7,f6,v6⟩ (λ hS=>?_)
   clear hK K
   try simp only [pL]
   refine wpAnyH_done (by kernel_rfl) ?_ _
   have H6:Hid (TS x ((w4.setCell ⟨x.b,4,none⟩ (.slice B N m)).setCell ⟨x.bc,x.oc+x.who.toNat*13+7,none⟩ (.bool is)) ⟨B,N,m⟩ E (cl.set x.who.toNat { c with told:=is }) mx tb2 ev):=H5
   have K6:Hid (Kx x W ((w4.setCell ⟨x.b,4,none⟩ (.slice B N m)).setCell ⟨x.bc,x.oc+x.who.toNat*13+7,none⟩ (.bool is))):=hid (((Kx.gr G3.out).trans (Kx.st (.inl rfl) _)).trans (Kx.st (.inr (.inl rfl)) _))
   clear hS d7 d6 d4 t6 t7 e7 e6 u6 f7 f6 v6 H4 H5 c4 c6 c7 s6 y7 zd4 ca cA Q1 G3
   generalize (w4.setCell ⟨x.b,4,none⟩ (.slice B N m)).setCell ⟨x.bc,x.oc+x.who.toNat*13+7,none⟩ (.bool is)=w6 at H6 K6 ⊢
   have h6:=H6.out
   obtain⟨-,-,-,-,-,-,-,c7,-,-,-,-⟩:=h6.cells
   obtain⟨-,-,-,s3,-,-,-,-,-,-,-,-,-,sz⟩:=h6.cl_ hc5
   have y3:=sz 3 (by decide)
   clear sz
   dsimp only at s3
   clear h6
   rename_i hh
   clear hh
   go_wp2_with fail
   (first | go_end0 | ((try simp only [Exit.inBlock,Exit.then]);refine bodyPost_ret (results_none rfl _ _ _) rfl ?_))
   have h7:=H6.out.putC2 hc 3 (.int .i64 6) { c with told:=is,pc:=6 } rfl (by decide) { CBc with pc:=(show B64 6 from ⟨by omega,by omega⟩) }
   exact⟨rfl,⟨_,_,h7,Q2.out⟩,K6.out.trans (Kx.st (.inr (.inl rfl)) _)⟩
theorem ask_no (h:TS x W T E cl mx tb ev) (hR:Rn x cl c pr) (h0:0<=x.n) (h4:x.n<4) (ht:TabA tb) (hP:x.who∈(gtA tb x.n.toNat).2\/(¬ 0<(gtA tb x.n.toNat).1/\64<=(gtA tb x.n.toNat).2.length)) :
 Calls Tryz.prog 104 #[.pointer (some ⟨x.b,0,none⟩)] W λ e W'=>e=.panicked (pan 12)/\Kx x W W':=by
 have hc:=hR.hc
 have H:=hid h
 have ca:=hid (address_is (h.gr (Gr.refl W).dr) h0 h4)
 have cA:=hid (acq_no (first:=c.first) (h.gr (Gr.refl W).dr) h0 h4 ht hP)
 obtain⟨-,-,-,-,c4,-,c6,c7,-,-,-,-⟩:=h.cells
 obtain⟨-,-,-,-,-,-,s6,-,-,-,-,-,-,-⟩:=h.cl_ hc
 clear h hP ht
 go_enter Tryz.func104,Tryz.ntmps104
 go_upto_region 0 with fail
 refine wp_region_held_drew (S:=(λ w'=>w'.cell? ⟨x.b,7,none⟩=some (.pointer (some ⟨x.bc,x.oc+x.who.toNat*13,none⟩))/\w'.cell? ⟨x.b,6,none⟩=some (.int .i64 x.who)/\w'.cell? ⟨x.bc,x.oc+x.who.toNat*13+6,none⟩=some (.bool c.first))) (by kernel_rfl) ⟨c7,c6,s6⟩ (λ hS=>?_)
 refine wG 0 hS ?_
 refine wG 1 hS ?_
 refine wG 2 hS ?_
 refine wG 3 hS ?_
 refine wG 4 hS ?_
 refine wG 5 hS ?_
 refine wG 6 hS ?_
 refine wG 7 hS ?_
 refine wG 8 hS ?_
 refine wG 10 hS ?_
 refine wG 12 hS ?_
 refine wG 13 hS ?_
 refine wG 14 hS ?_
 refine wG 15 hS ?_
 refine wG 16 hS ?_
 refine wG 17 hS ?_
 refine wG 18 hS ?_
 refine wG 19 hS ?_
 refine wG 20 hS ?_
 refine wG 21 hS ?_
 refine wG 22 hS ?_
 refine wR2 9 11 (λ K hK=>?_) (λ K hK=>?_)
 . skip
   go_simp
   refine hK.out _ _ ⟨c7,c6,s6⟩ (λ hS=>?_)
   clear hK K
   try simp only [pL]
   refine wR1 11 (λ K hK=>?_)
   go_simp;go_at_call 151;with_reducible refine ca.out.mono ?_;rintro ee w2 ⟨rfl,rfl⟩;go_wp2_with fail
   refine hK.out _ _ ⟨c7,c6,s6⟩ (λ hS=>?_)
   clear hK K
   try simp only [pL]
   refine wR1 23 (λ K hK=>?_)
   go_simp;go_at_call 150;with_reducible refine cA.out.mono ?_;rintro ee w3 ⟨B,N,m,e,rfl,q1,g3⟩;go_wp2_with fail
   have G3:=hid ((Gr.refl W).dr.trans g3)
   have Q1:=hid q1
   clear q1 g3
   have h3:=H.out.gr G3.out
   obtain⟨-,-,-,-,-,-,d6,d7,-,-,-,-⟩:=h3.cells
   obtain⟨-,-,-,-,-,-,t6,-,-,-,-,-,-,-⟩:=h3.cl_ hc
   clear h3
   refine hK.out _ _ ⟨d7,d6,t6⟩ (λ hS=>?_)
   clear hK K
   try simp only [pL]
   refine wG 24 hS ?_
   refine wG 25 hS ?_
   refine wG 26 hS ?_
   refine wR1 27 (λ K hK=>?_)
   go_simp;go_at_call 149;with_reducible refine (bothSB_no _ _ _ _ Q1.out _).mono ?_;rintro ee w4 ⟨rfl,rfl⟩
   exact bodyPost_pan rfl ⟨rfl,Kx.gr G3.out⟩
 . skip
   go_simp;go_at_call 151;with_reducible refine ca.out.mono ?_;rintro ee w2 ⟨rfl,rfl⟩;go_wp2_with fail
   refine hK.out _ _ ⟨c7,c6,s6⟩ (λ hS=>?_)
   clear hK K
   try simp only [pL]
   refine wR1 9 (λ K hK=>?_)
   go_simp
   refine hK.out _ _ ⟨c7,c6,s6⟩ (λ hS=>?_)
   clear hK K
   try simp only [pL]
   refine wR1 23 (λ K hK=>?_)
   go_simp;go_at_call 150;with_reducible refine cA.out.mono ?_;rintro ee w3 ⟨B,N,m,e,rfl,q1,g3⟩;go_wp2_with fail
   have G3:=hid ((Gr.refl W).dr.trans g3)
   have Q1:=hid q1
   clear q1 g3
   have h3:=H.out.gr G3.out
   obtain⟨-,-,-,-,-,-,d6,d7,-,-,-,-⟩:=h3.cells
   obtain⟨-,-,-,-,-,-,t6,-,-,-,-,-,-,-⟩:=h3.cl_ hc
   clear h3
   refine hK.out _ _ ⟨d7,d6,t6⟩ (λ hS=>?_)
   clear hK K
   try simp only [pL]
   refine wG 24 hS ?_
   refine wG 25 hS ?_
   refine wG 26 hS ?_
   refine wR1 27 (λ K hK=>?_)
   go_simp;go_at_call 149;with_reducible refine (bothSB_no _ _ _ _ Q1.out _).mono ?_;rintro ee w4 ⟨rfl,rfl⟩
   exact bodyPost_pan rfl ⟨rfl,Kx.gr G3.out⟩
end
end P16
end
section
open Go.ChangeShapes Go.WideShapes Go.ChangeAt Go.RowKit Go.Shelf
namespace P16
open P14 (pan)
open P12 (PV PMem)
section
variable {x:Cx} {W:World} {T E:Sl} {cl:List Cl} {mx:List T3} {tb:List Sp} {ev:List T3} {c:Cl} {a:T3} {pr:List Ac}
variable {is:Bool} {G:Int×List Int} {tb2:List Sp}
theorem grant_full (h:TS x W T E cl mx tb ev) (h0:0<=x.n) (h4:x.n<4) (ht:TabA tb) (hP:(gtA tb x.n.toNat).2=[]/\(gtA tb x.n.toNat).1=2147483647) :
 Calls Tryz.prog 113 #[.pointer (some ⟨x.b,0,none⟩)] W λ e W'=>e=.panicked (pan 12)/\Kx x W W':=by
 have H:=hid h
 have ca:=hid (address_is (h.gr (Gr.refl W).dr) h0 h4)
 have cA:=hid (rel_no (h.gr (Gr.refl W).dr) h0 h4 ht hP)
 obtain⟨-,-,-,-,c4,-,-,-,-,-,-,-⟩:=h.cells
 clear h hP ht
 go_enter Tryz.func113,Tryz.ntmps113
 go_upto_region 0 with fail
 refine wp_region_held_drew (S:=(λ w'=>w'.cell? ⟨x.b,4,none⟩=some (.slice T.A T.n T.c))) (by kernel_rfl) c4 (λ hS=>?_)
 refine wG 0 hS ?_
 refine wG 1 hS ?_
 refine wG 2 hS ?_
 refine wG 3 hS ?_
 refine wG 4 hS ?_
 refine wG 5 hS ?_
 refine wR1 6 (λ K hK=>?_)
 go_simp;go_at_call 151;with_reducible refine ca.out.mono ?_;rintro ee w2 ⟨rfl,rfl⟩;go_wp2_with fail
 refine hK.out _ _ c4 (λ hS=>?_)
 clear hK K
 try simp only [pL]
 refine wR1 7 (λ K hK=>?_)
 go_simp;go_at_call 161;with_reducible refine cA.out.mono ?_;rintro ee w3 ⟨B,N,m,z,e,rfl,q1,g3⟩;go_wp2_with fail
 have G3:=hid ((Gr.refl W).dr.trans g3)
 have Q1:=hid q1
 clear q1 g3
 have d4:=(H.out.gr G3.out).cells.2.2.2.2.1
 refine hK.out _ _ d4 (λ hS=>?_)
 clear hK K
 try simp only [pL]
 refine wG 8 hS ?_
 refine wG 9 hS ?_
 refine wG 10 hS ?_
 refine wR1 11 (λ K hK=>?_)
 go_simp;go_at_call 160;with_reducible refine (bothSI_no _ _ _ _ Q1.out _).mono ?_;rintro ee w4 ⟨rfl,rfl⟩
 exact bodyPost_pan rfl ⟨rfl,Kx.gr G3.out⟩
theorem grant_more (h:TS x W T E cl mx tb ev) (hR:Rn x cl c pr) (h0:0<=x.n) (h4:x.n<4) (ht:TabA tb) (hl:(gtA tb x.n.toNat).2=[]) (hm:(gtA tb x.n.toNat).1≠2147483647) :
 Calls Tryz.prog 113 #[.pointer (some ⟨x.b,0,none⟩)] W λ e W'=>e=.returned (.tuple #[])/\(∃ T2 tb2,TS x W' T2 E (cl.set x.who.toNat { c with pc:=15 }) mx tb2 ev/\GotT tb tb2 x.n.toNat ((gtA tb x.n.toNat).1+1,[]))/\Kx x W W':=by
 have hc:=hR.hc
 have H:=hid h
 have ca:=hid (address_is (h.gr (Gr.refl W).dr) h0 h4)
 have cA:=hid (rel_yes (h.gr (Gr.refl W).dr) h0 h4 ht (.inr ⟨hl,hm,rfl,rfl⟩))
 obtain⟨-,-,-,-,c4,-,-,-,-,-,-,-⟩:=h.cells
 clear h hl hm ht
 go_enter Tryz.func113,Tryz.ntmps113
 go_upto_region 0 with fail
 refine wp_region_held_drew (S:=(λ w'=>w'.cell? ⟨x.b,4,none⟩=some (.slice T.A T.n T.c))) (by kernel_rfl) c4 (λ hS=>?_)
 refine wG 0 hS ?_
 refine wG 1 hS ?_
 refine wG 2 hS ?_
 refine wG 3 hS ?_
 refine wG 4 hS ?_
 refine wG 5 hS ?_
 refine wR1 6 (λ K hK=>?_)
 go_simp;go_at_call 151;with_reducible refine ca.out.mono ?_;rintro ee w2 ⟨rfl,rfl⟩;go_wp2_with fail
 refine hK.out _ _ c4 (λ hS=>?_)
 clear hK K
 try simp only [pL]
 refine wR1 7 (λ K hK=>?_)
 go_simp;go_at_call 161;with_reducible refine cA.out.mono ?_;rintro ee w3 ⟨B,N,m,tb2,rfl,q1,q2,g3⟩;go_wp2_with fail
 have G3:=hid ((Gr.refl W).dr.trans g3)
 have Q1:=hid q1
 have Q2:=hid q2
 clear q1 q2 g3
 have h3:=H.out.gr G3.out
 obtain⟨-,-,-,-,d4,-,-,-,-,-,-,cz⟩:=h3.cells
 have zd4:=cz 4 (by decide)
 clear cz
 clear h3
 refine hK.out _ _ d4 (λ hS=>?_)
 clear hK K
 try simp only [pL]
 refine wG 8 hS ?_
 refine wG 9 hS ?_
 refine wG 10 hS ?_
 refine wR1 11 (λ K hK=>?_)
 go_simp;go_at_call 160;with_reducible refine (bothSI_yes _ _ _ _ _).mono ?_;rintro ee w4 ⟨rfl,rfl⟩;go_wp2_with fail
 refine hK.out _ _ d4 (λ hS=>?_)
 clear hK K
 try simp only [pL]
 refine wG 12 hS ?_
 refine wG 13 hS ?_
 refine wG 14 hS ?_
 refine wG 15 hS ?_
 refine wG 16 hS ?_
 refine wpAnyH_done (by kernel_rfl) ?_ _
 have H6:Hid (TS x (w4.setCell ⟨x.b,4,none⟩ (.slice B N m)) ⟨B,N,m⟩ E cl mx tb2 ev):=hid ((H.out.gr G3.out).putT (U:=⟨B,N,m⟩) Q1.out.1 Q1.out.2)
 have K6:Hid (Kx x W (w4.setCell ⟨x.b,4,none⟩ (.slice B N m))):=hid ((Kx.gr G3.out).trans (Kx.st (.inl rfl) _))
 go_upto_region 2 with fail
 clear hS d4 zd4 c4 ca cA Q1 G3
 generalize w4.setCell ⟨x.b,4,none⟩ (.slice B N m)=w6 at H6 K6 ⊢
 have h6:=H6.out
 obtain⟨-,-,-,-,-,-,-,c7,-,-,-,-⟩:=h6.cells
 obtain⟨-,-,-,s3,-,-,-,-,-,-,-,-,-,sz⟩:=h6.cl_ hc
 have y3:=sz 3 (by decide)
 clear sz
 clear h6
 go_wp2_with fail
 (first | go_end0 | ((try simp only [Exit.inBlock,Exit.then]);refine bodyPost_ret (results_none rfl _ _ _) rfl ?_))
 exact⟨rfl,⟨_,_,H6.out.putPc hc ⟨by omega,by omega⟩,Q2.out⟩,K6.out.trans (Kx.st (.inr (.inl rfl)) _)⟩
theorem grant_tell (h:TS x W T E cl mx tb ev) (hR:Rn x cl c pr) (h0:0<=x.n) (h4:x.n<4) (ht:TabA tb) {y:Int} {r:List Int} (hl:(gtA tb x.n.toNat).2=y::r) (y0:0<=y) {cy:Cl} (hy:cl[y.toNat]?=some cy) (hg:cy.gst≠2) (hp:cy.permit=false) :
 Calls Tryz.prog 113 #[.pointer (some ⟨x.b,0,none⟩)] W λ e W'=>e=.returned (.tuple #[])/\(∃ T2 tb2 d,TS x W' T2 E ((cl.set y.toNat (withG cy (0,cy.gst==0))).set x.who.toNat { d with pc:=15 }) mx tb2 ev/\(cl.set y.toNat (withG cy (0,cy.gst==0)))[x.who.toNat]?=some d/\GotT tb tb2 x.n.toNat (0,r))/\Kx x W W':=by
 have hc:=hR.hc
 have H:=hid h
 have ca:=hid (address_is (h.gr (Gr.refl W).dr) h0 h4)
 have cA:=hid (rel_yes (h.gr (Gr.refl W).dr) h0 h4 ht (.inl ⟨r,hl,rfl⟩))
 have yn:(y==-1)=false:=beq_eq_false_iff_ne.2 (by omega)
 obtain⟨-,-,-,-,c4,-,-,-,-,-,-,-⟩:=h.cells
 have E4:P11.outc P11.rdG (cl.map gor) y=(0,(cl.map gor).set y.toNat (0,cy.gst==0)):=by
  have q:=P11.outc_at (p:=P11.rdG) (k:=y.toNat) (x:=gor cy) hR.rg (by rw [List.getElem?_map,hy];rfl)
  rw [Int.toNat_of_nonneg y0] at q
  have e:P11.rdG (gor cy)=(0,(0,cy.gst==0)):=by unfold P11.rdG;rw [if_neg (show ¬ (gor cy).1=2 from hg),if_neg (show ¬ (gor cy).2=true from by show ¬ cy.permit=true;rw [hp];decide)];rfl
  simpa [e] using q
 have bg:B64 (0:Int):=b64_0
 obtain⟨g,hgg⟩:∃ g:P11.G,((0:Int),(cy.gst==0))=g:=⟨_,rfl⟩
 have bg1:B64 g.1:=by rw [<- hgg];exact bg
 rw [hgg] at E4 ⊢
 have n8:=hR.nc
 have hlen:=h.lenc
 clear h ht hl hg hp hgg
 go_enter Tryz.func113,Tryz.ntmps113
 go_upto_region 0 with fail
 refine wp_region_held_drew (S:=(λ w'=>w'.cell? ⟨x.b,4,none⟩=some (.slice T.A T.n T.c))) (by kernel_rfl) c4 (λ hS=>?_)
 refine wG 0 hS ?_
 refine wG 1 hS ?_
 refine wG 2 hS ?_
 refine wG 3 hS ?_
 refine wG 4 hS ?_
 refine wG 5 hS ?_
 refine wR1 6 (λ K hK=>?_)
 go_simp;go_at_call 151;with_reducible refine ca.out.mono ?_;rintro ee w2 ⟨rfl,rfl⟩;go_wp2_with fail
 refine hK.out _ _ c4 (λ hS=>?_)
 clear hK K
 try simp only [pL]
 refine wR1 7 (λ K hK=>?_)
 go_simp;go_at_call 161;with_reducible refine cA.out.mono ?_;rintro ee w3 ⟨B,N,m,tb2,rfl,q1,q2,g3⟩;go_wp2_with fail
 have G3:=hid ((Gr.refl W).dr.trans g3)
 have Q1:=hid q1
 have Q2:=hid q2
 clear q1 q2 g3
 have h3:=H.out.gr G3.out
 obtain⟨-,-,-,-,d4,-,-,-,-,-,-,cz⟩:=h3.cells
 have zd4:=cz 4 (by decide)
 clear cz
 clear h3
 refine hK.out _ _ d4 (λ hS=>?_)
 clear hK K
 try simp only [pL]
 refine wG 8 hS ?_
 refine wG 9 hS ?_
 refine wG 10 hS ?_
 refine wR1 11 (λ K hK=>?_)
 go_simp;go_at_call 160;with_reducible refine (bothSI_yes _ _ _ _ _).mono ?_;rintro ee w4 ⟨rfl,rfl⟩;go_wp2_with fail
 refine hK.out _ _ d4 (λ hS=>?_)
 clear hK K
 try simp only [pL]
 refine wG 12 hS ?_
 refine wG 13 hS ?_
 refine wG 14 hS ?_
 refine wG 15 hS ?_
 refine wG 16 hS ?_
 refine wpAnyH_done (by kernel_rfl) ?_ _
 have H6:Hid (TS x (w4.setCell ⟨x.b,4,none⟩ (.slice B N m)) ⟨B,N,m⟩ E cl mx tb2 ev):=hid ((H.out.gr G3.out).putT (U:=⟨B,N,m⟩) Q1.out.1 Q1.out.2)
 have K6:Hid (Kx x W (w4.setCell ⟨x.b,4,none⟩ (.slice B N m))):=hid ((Kx.gr G3.out).trans (Kx.st (.inl rfl) _))
 go_upto_region 2 with fail
 clear hS d4 zd4 c4 ca cA Q1 G3
 generalize w4.setCell ⟨x.b,4,none⟩ (.slice B N m)=w6 at H6 K6 ⊢
 have hcg:=hid (changeGor_yes (W:=w6) (who:=y) (enters_of Tryz.func162 (by kernel_rfl) rfl) (p:=0) H6.out.cells.2.2.1 H6.out.n1 H6.out.c H6.out.lenc (by omega) H6.out.cb hy (λ W A m d hm he=>P11.Ready_at (by omega) E4 (by rw [List.length_set,List.length_map];exact hlen) W hm))
 go_wp2_with fail
 with_reducible refine hcg.out.mono ?_
 rintro e w7 ⟨rfl,o7,k7⟩
 have h7:=H6.out.ko k7 o7 (List.length_set ..) (λ d hd=>(List.mem_or_eq_of_mem_set hd).elim (H6.out.cb d) (λ e=>e▸{ H6.out.cb cy (List.mem_of_getElem? hy) with gst:=bg1 }))
 have K7:=hid (K6.out.trans k7.kx)
 obtain⟨d,hd⟩:∃ d,(cl.set y.toNat (withG cy g))[x.who.toNat]?=some d:=⟨_,List.getElem?_eq_getElem (by rw [List.length_set];exact (List.getElem?_eq_some_iff.1 hc).1)⟩
 have H7:=hid h7
 obtain⟨-,-,-,-,-,-,-,c7,-,-,-,-⟩:=h7.cells
 obtain⟨-,-,-,s3,-,-,-,-,-,-,-,-,-,sz⟩:=h7.cl_ hd
 have y3:=sz 3 (by decide)
 clear sz
 clear h7 o7 k7
 go_wp2_with fail
 (first | go_end0 | ((try simp only [Exit.inBlock,Exit.then]);refine bodyPost_ret (results_none rfl _ _ _) rfl ?_))
 exact⟨rfl,⟨_,_,d,H7.out.putPc hd ⟨by omega,by omega⟩,hd,Q2.out⟩,K7.out.trans (Kx.st (.inr (.inl rfl)) _)⟩
theorem grant_bad (h:TS x W T E cl mx tb ev) (hR:Rn x cl c pr) (h0:0<=x.n) (h4:x.n<4) (ht:TabA tb) {y:Int} {r:List Int} (hl:(gtA tb x.n.toNat).2=y::r) (y0:0<=y) {cy:Cl} (hy:cl[y.toNat]?=some cy) (hb:cy.gst=2\/cy.permit=true) :
 Calls Tryz.prog 113 #[.pointer (some ⟨x.b,0,none⟩)] W λ e W'=>e=.panicked (pan 12)/\Kx x W W':=by
 have hc:=hR.hc
 have H:=hid h
 have ca:=hid (address_is (h.gr (Gr.refl W).dr) h0 h4)
 have cA:=hid (rel_yes (h.gr (Gr.refl W).dr) h0 h4 ht (.inl ⟨r,hl,rfl⟩))
 have yn:(y==-1)=false:=beq_eq_false_iff_ne.2 (by omega)
 obtain⟨-,-,-,-,c4,-,-,-,-,-,-,-⟩:=h.cells
 obtain⟨q,R,hq,E4⟩:∃ q R,(q==(0:Int))=false/\P11.outc P11.rdG (cl.map gor) y=(q,R):=by
  have q:=P11.outc_at (p:=P11.rdG) (k:=y.toNat) (x:=gor cy) hR.rg (by rw [List.getElem?_map,hy];rfl)
  rw [Int.toNat_of_nonneg y0] at q
  by_cases h2:cy.gst=2
  . have e:P11.rdG (gor cy)=(6,gor cy):=if_pos h2
    exact⟨6,[],rfl,by simpa [e] using q⟩
  . have e:P11.rdG (gor cy)=(7,gor cy):=by unfold P11.rdG;rw [if_neg (show ¬ (gor cy).1=2 from h2),if_pos (show (gor cy).2=true from hb.resolve_left h2)]
    exact⟨7,[],rfl,by simpa [e] using q⟩
 have n8:=hR.nc
 have hlen:=h.lenc
 clear h ht hl hb
 go_enter Tryz.func113,Tryz.ntmps113
 go_upto_region 0 with fail
 refine wp_region_held_drew (S:=(λ w'=>w'.cell? ⟨x.b,4,none⟩=some (.slice T.A T.n T.c))) (by kernel_rfl) c4 (λ hS=>?_)
 refine wG 0 hS ?_
 refine wG 1 hS ?_
 refine wG 2 hS ?_
 refine wG 3 hS ?_
 refine wG 4 hS ?_
 refine wG 5 hS ?_
 refine wR1 6 (λ K hK=>?_)
 go_simp;go_at_call 151;with_reducible refine ca.out.mono ?_;rintro ee w2 ⟨rfl,rfl⟩;go_wp2_with fail
 refine hK.out _ _ c4 (λ hS=>?_)
 clear hK K
 try simp only [pL]
 refine wR1 7 (λ K hK=>?_)
 go_simp;go_at_call 161;with_reducible refine cA.out.mono ?_;rintro ee w3 ⟨B,N,m,tb2,rfl,q1,q2,g3⟩;go_wp2_with fail
 have G3:=hid ((Gr.refl W).dr.trans g3)
 have Q1:=hid q1
 have Q2:=hid q2
 clear q1 q2 g3
 have h3:=H.out.gr G3.out
 obtain⟨-,-,-,-,d4,-,-,-,-,-,-,cz⟩:=h3.cells
 have zd4:=cz 4 (by decide)
 clear cz
 clear h3
 refine hK.out _ _ d4 (λ hS=>?_)
 clear hK K
 try simp only [pL]
 refine wG 8 hS ?_
 refine wG 9 hS ?_
 refine wG 10 hS ?_
 refine wR1 11 (λ K hK=>?_)
 go_simp;go_at_call 160;with_reducible refine (bothSI_yes _ _ _ _ _).mono ?_;rintro ee w4 ⟨rfl,rfl⟩;go_wp2_with fail
 refine hK.out _ _ d4 (λ hS=>?_)
 clear hK K
 try simp only [pL]
 refine wG 12 hS ?_
 refine wG 13 hS ?_
 refine wG 14 hS ?_
 refine wG 15 hS ?_
 refine wG 16 hS ?_
 refine wpAnyH_done (by kernel_rfl) ?_ _
 have H6:Hid (TS x (w4.setCell ⟨x.b,4,none⟩ (.slice B N m)) ⟨B,N,m⟩ E cl mx tb2 ev):=hid ((H.out.gr G3.out).putT (U:=⟨B,N,m⟩) Q1.out.1 Q1.out.2)
 have K6:Hid (Kx x W (w4.setCell ⟨x.b,4,none⟩ (.slice B N m))):=hid ((Kx.gr G3.out).trans (Kx.st (.inl rfl) _))
 go_upto_region 2 with fail
 clear hS d4 zd4 c4 ca cA Q1 G3
 generalize w4.setCell ⟨x.b,4,none⟩ (.slice B N m)=w6 at H6 K6 ⊢
 have hcg:=hid (changeGor_no (W:=w6) (who:=y) (enters_of Tryz.func162 (by kernel_rfl) rfl) (p:=0) H6.out.cells.2.2.1 H6.out.c H6.out.lenc (by omega) H6.out.cb (λ W A m d hm he=>P11.Ready_at (by omega) E4 rfl W hm) hq)
 go_wp2_with fail
 with_reducible refine hcg.out.mono ?_
 rintro e w7 ⟨rfl,g7⟩
 go_wp2_with fail
 exact bodyPost_pan rfl ⟨rfl,K6.out.trans (Kx.gr g7)⟩
end
end P16
end
end Go.Proofs.YtainfijdhcehlaaGreatDoor
