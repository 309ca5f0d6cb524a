/-
  A part of the proof.
-/
import Derived.Test.YtainfijdhcehlaaGreatDoorQC7
set_option linter.unusedVariables false
set_option linter.unusedSimpArgs false
set_option maxRecDepth 100000
set_option maxHeartbeats 8000000
namespace Go.Proofs.YtainfijdhcehlaaGreatDoor
open Lib (hid)
open Go.Proofs.Tryz
open Go.ChangeAt Go.ChangeShapes Go.RowKit Go.Shelf Go.WideShapes
section
theorem getR_gt {L:List SV} {a:Int} (ht:Tab L) (hk:IsKey a):GetR L a (a,(gt L a).1,(gt L a).2) 0:=by
 refine .inr ⟨hk,ht,rfl,?_⟩;by_cases hh:Has L a
 . obtain⟨x,hx,rfl⟩:=hh
   exact .inl ⟨x,hx,rfl,by rw [gt_mem ht.2 hx];rfl⟩
 . exact .inr ⟨hh,by rw [gt_no hh]⟩
def AftR (L:List SV) (a:Int) (s:Int×Int×List Int) (x1 e1:Int) (Q:List (Int×Int×List Int)) (x e:Int):Prop :=
 ((¬ IsKey a\/¬ Tab L)/\Q=[]/\x=0/\e=1)\/(IsKey a/\Tab L/\e1≠0/\Q=[]/\x=0/\e=e1) \/
 (IsKey a/\Tab L/\e1=0/\∃ Q2 e2,SetR L (sp s.1 s.2.1 s.2.2) Q2 e2/\((e2≠0/\Q=[]/\x=0/\e=e2)\/(e2=0/\Q=Q2/\x=x1/\e=0)))
def Gave (Q:List (Int×Int×List Int)) (vs:Array Value) (W:World) (ee:Ending) (W':World):Prop :=
 ∃ B m T,ee=.returned (.tuple (#[.slice B T.length m]++vs))/\SMem W' B T.length T/\T.length<=m/\m<=9223372036854775807/\T.map SV.pl=Q/\Gr W W'/\SOwn W' W.heap.size (.slice B T.length m) T
section
variable {w:World} {A:Option Addr} {n c:Nat} {L:List SV} {a:Int} {F:Nat} {caps:Array Value}
theorem after_is (eg:∀ args w,(callFunc F args).run prog w=.ok (.enter F args) w) (hm:SMem w A n L) (hnc:n<=c) (hcm:c<=9223372036854775807) (ha:B64 a) {s:Int×Int×List Int} {x1 e1:Int}
 (hC:Tab L->IsKey a->∀ W (y:SV),Gr w W->y.ok W->y.pl=(a,(gt L a).1,(gt L a).2)->Calls prog F (#[.agg #[.int .i64 y.addr,.int .i64 y.cnt,.slice y.A y.n y.c]]++caps) W (Told y.A y.n s x1 e1 W))
 {Q:List (Int×Int×List Int)} {x e:Int} (h:AftR L a s x1 e1 Q x e) :
 Calls prog 190 #[.slice A n c,.int .i64 a,.func (.func F) #[] caps] w (Gave Q #[.int .i64 x,.int .i64 e] w):=by
 have HM:=hid hm;rcases h with ⟨hbad,rfl,rfl,rfl⟩ | ⟨hk,ht,he,rfl,rfl,rfl⟩ | ⟨hk,ht,rfl,Q2,e2,hS,hcase⟩
 . have KG:=hid (Get_is (c:=c) hm ha (.inl ⟨hbad,rfl,rfl⟩))
   clear hm hC hbad;go_enter func190,ntmps190;go_wp2_with fail;refine KG.out.mono ?_;rintro ee w1 ⟨y,rfl,hy,hp,h1⟩;have G1:=hid (h1.al (.cells #[.int .i64 y.addr,.int .i64 y.cnt,.slice y.A y.n y.c] 91));clear hy hp h1;go_wp2_with fail;go_ret3;exact⟨none,0,[],rfl,SMem.nil_,Nat.le_refl _,by omega,rfl,G1.out,SOwn.nil _ _⟩
 . have KG:=hid (Get_is (c:=c) hm ha (getR_gt ht hk))
   have KC:=hid (hC ht hk);have ne:(e==0)=false:=beq_eq_false_iff_ne.2 he;have nb:(e != 0)=true:=by simp [bne,ne]
   clear hm hC hk ht he;go_enter func190,ntmps190;go_wp2_with fail;refine KG.out.mono ?_;rintro ee w1 ⟨y,rfl,hy,hp,h1⟩;have G1:=hid (h1.al (.cells #[.int .i64 y.addr,.int .i64 y.cnt,.slice y.A y.n y.c] 91));have B1:=hid (Blk.new w1 #[.int .i64 y.addr,.int .i64 y.cnt,.slice y.A y.n y.c] 91);have KC1:=hid (KC.out _ y G1.out (hy.gr ((zr w1).al _)) hp);have hle:=h1.size;have HY:Hid (0<y.n->∀ k,y.A.map (·.block)=some k->k<w1.heap.size):=hid λ hn k hk=>by
    obtain⟨b,off,e,hb,_⟩:=hy.2.2.1.2.2 hn;rw [e] at hk;cases hk;exact hb
   clear hy hp h1 KC KG;go_wp2_with fail;refine KC1.out.mono ?_;rintro ee w2 ⟨z,rfl,hz,hzp,h2,hkin⟩;have D:=B1.out.gr h2;have G2:=G1.out.trans h2;obtain⟨q0,z0⟩:=D.at_ (k:=0) rfl;obtain⟨q1,z1⟩:=D.at_ (k:=1) rfl;obtain⟨q2,z2⟩:=D.at_ (k:=2) rfl;have GF:=hid (((G2.st (p:=⟨w1.heap.size,0,none⟩) hle (.int .i64 z.addr)).st (p:=⟨w1.heap.size,1,none⟩) hle (.int .i64 z.cnt)).st (p:=⟨w1.heap.size,2,none⟩) hle (.slice z.A z.n z.c));clear D G2 h2 hz hzp hkin KC1 G1 B1 hle;go_wp2_with fail;go_ret3;exact⟨none,0,[],rfl,SMem.nil_,Nat.le_refl _,by omega,rfl,GF.out,SOwn.nil _ _⟩
 . have KG:=hid (Get_is (c:=c) hm ha (getR_gt ht hk))
   have KC:=hid (hC ht hk);have HS:=hid hS;have HNC:=hid hnc;have HCM:=hid hcm;clear hm hC hk ht hS;go_enter func190,ntmps190;go_wp2_with fail;refine KG.out.mono ?_;rintro ee w1 ⟨y,rfl,hy,hp,h1⟩;have G1:=hid (h1.al (.cells #[.int .i64 y.addr,.int .i64 y.cnt,.slice y.A y.n y.c] 91));have B1:=hid (Blk.new w1 #[.int .i64 y.addr,.int .i64 y.cnt,.slice y.A y.n y.c] 91);have KC1:=hid (KC.out _ y G1.out (hy.gr ((zr w1).al _)) hp);have hle:=h1.size;have HY:Hid (0<y.n->∀ k,y.A.map (·.block)=some k->k<w1.heap.size):=hid λ hn k hk=>by
    obtain⟨b,off,e,hb,_⟩:=hy.2.2.1.2.2 hn;rw [e] at hk;cases hk;exact hb
   clear hy hp h1 KC KG;go_wp2_with fail;refine KC1.out.mono ?_;rintro ee w2 ⟨z,rfl,hz,hzp,h2,hkin⟩;have D:=B1.out.gr h2;have G2:=G1.out.trans h2;obtain⟨q0,z0⟩:=D.at_ (k:=0) rfl;obtain⟨q1,z1⟩:=D.at_ (k:=1) rfl;obtain⟨q2,z2⟩:=D.at_ (k:=2) rfl;have GF:=hid (((G2.st (p:=⟨w1.heap.size,0,none⟩) hle (.int .i64 z.addr)).st (p:=⟨w1.heap.size,1,none⟩) hle (.int .i64 z.cnt)).st (p:=⟨w1.heap.size,2,none⟩) hle (.slice z.A z.n z.c));have BF:=hid (spot_stored D rfl (.int .i64 z.addr) (.int .i64 z.cnt) (.slice z.A z.n z.c));have hne:z.n≠0->∀ k,z.A.map (·.block)=some k->k≠w1.heap.size:=λ hn k hk e=>by
    rcases hkin with ⟨e1,e2⟩ | h
    . rw [e1] at hk
      have:=HY.out (by omega) k hk;omega
    . have:=h k hk
      simp only [zsA] at this;omega
   have himem:∀ (W:World) (o:Nat) (u:Value),IMem W z.A z.n z.line->IMem (W.setCell ⟨w1.heap.size,o,none⟩ u) z.A z.n z.line:=λ W o u hi=>by
    by_cases h0:z.n=0
    . have hl:=hz.len
      rw [h0] at hl;rw [h0,zen hl];exact EMem.nil_
    . exact imem_kept hi (grownBy_cell W w1.heap.size o u) λ k hk _ e=>hne h0 k hk (by cases e;rfl)
   have hzi:=himem _ 2 (.slice z.A z.n z.c) (himem _ 1 (.int .i64 z.cnt) (himem _ 0 (.int .i64 z.addr) hz.2.2.1));obtain⟨X,hX⟩:∃ X,((w2.setCell ⟨w1.heap.size,0,none⟩ (.int .i64 z.addr)).setCell ⟨w1.heap.size,1,none⟩ (.int .i64 z.cnt)).setCell ⟨w1.heap.size,2,none⟩ (.slice z.A z.n z.c)=X:=⟨_,rfl⟩;rw [hX] at GF BF hzi;have hzX:z.ok X:=⟨hz.1,hz.2.1,hzi,hz.2.2.2⟩;obtain⟨r0,y0⟩:=BF.out.at_ (k:=0) rfl;obtain⟨r1,y1⟩:=BF.out.at_ (k:=1) rfl;obtain⟨r2,y2⟩:=BF.out.at_ (k:=2) rfl;have KS:=hid (Set_isO (HM.out.gr GF.out) HNC.out HCM.out hzX (setR_pl (s':=z) (by rw [sp_pl];exact hzp.symm) HS.out));have HXX:=hid hX;have HSR:=HS.out;clear D G2 h2 hz hzp hkin KC1 G1 B1 hle hne himem hzi hzX hX y0 y1 y2 HY HS;go_upto_region 7 with fail;rw [HXX.out];clear q0 z0 q1 z1 q2 z2 HXX;rcases hcase with ⟨hne,rfl,rfl,rfl⟩ | ⟨rfl,rfl,rfl,rfl⟩
   . have ne:(e==0)=false:=beq_eq_false_iff_ne.2 hne
     have nb:(e != 0)=true:=by simp [bne,ne]
     clear hne HSR;go_wp2_with fail;refine KS.out.mono ?_;rintro ee w3 ⟨B,m,T,rfl,hT,hTm,hmx,hTp,h3,hso⟩;have GG:=hid (GF.out.trans h3);clear hT hTm hmx hTp h3 hso;go_wp2_with fail;go_ret3;exact⟨none,0,[],rfl,SMem.nil_,Nat.le_refl _,by omega,rfl,GG.out,SOwn.nil _ _⟩
   . clear HSR
     go_wp2_with fail;refine KS.out.mono ?_;rintro ee w3 ⟨B,m,T,rfl,hT,hTm,hmx,hTp,h3,hso⟩;have HSO:=hid (hso.low GF.out.size);have GG:=hid (GF.out.trans h3);have HT:=hid hT;have HTM:=hid hTm;have HMX:=hid hmx;have HTP:=hid hTp;clear hT hTm hmx hTp h3 hso;generalize hN:T.length=N at *;go_wp2_with fail;go_ret3;exact⟨B,m,T,by rw [hN];rfl,hN▸HT.out,hN▸HTM.out,HMX.out,HTP.out,GG.out,hN▸HSO.out⟩
end
end
section
theorem coming_is (w:World) (who:Int) (first:Bool):Calls prog 191 #[.int .i64 who,.bool first] w λ e w' =>
 e=.returned (.func (.func 214) #[] #[.pointer (some ⟨w.heap.size,0,none⟩),.pointer (some ⟨w.heap.size+1,0,none⟩)])/\w'=(w.alloc (.cells #[.int .i64 who] 3)).alloc (.cells #[.bool first] 4):=by
 have hmf:=mkF;go_enter func191,ntmps191;go_wp2_with fail;go_ret;exact⟨rfl,rfl⟩
section
variable {w:World} {A:Option Addr} {n c:Nat} {L:List SV} {a:Int}
theorem acq_aft {who:Int} {first:Bool} {Q:List (Int×Int×List Int)} {is:Bool} {e:Int} (h:AcqR L a who first Q is e) :
 ∃ s x1 e1 x,(Tab L->IsKey a->ComeR a (gt L a).1 (gt L a).2 who first s x1 e1)/\AftR L a s x1 e1 Q x e/\(is=true↔e=0/\x=who):=by
 rcases h with ⟨h,rfl,rfl,rfl⟩ | ⟨ht,hk,h0,h⟩
 . by_cases hb:Tab L/\IsKey a
   . have hw:who<0:=by
      rcases h with h | h | h
      . exact absurd hb.1 h
      . exact absurd hb.2 h
      . exact h
     exact⟨(0,0,[]),0,1,0,λ _ _=>.inl ⟨by decide,.inl ⟨.inl hw,rfl,rfl⟩,rfl,rfl⟩,.inr (.inl ⟨hb.2,hb.1,by decide,rfl,rfl,rfl⟩),by simp⟩
   . refine⟨(0,0,[]),0,1,0,λ h1 h2=>absurd ⟨h1,h2⟩ hb,.inl ⟨?_,rfl,rfl,rfl⟩,by simp⟩
     by_cases ht:Tab L
     . exact .inl λ hk=>hb ⟨ht,hk⟩
     . exact .inr ht
 . obtain⟨k1,k2,k3,k4⟩:=gt_cnt ht.2 hk
   rcases h with ⟨hm,rfl,rfl,rfl⟩ | ⟨hm,hc,rfl,rfl,rfl⟩ | ⟨hm,hc,hl,rfl,rfl,rfl⟩ | ⟨hm,hc,hl,hs,rfl,rfl,rfl⟩ | ⟨hm,hc,hl,hs,rfl,rfl,rfl⟩
   . exact⟨(0,0,[]),0,7,0,λ _ _=>.inl ⟨by decide,.inr (.inl ⟨h0,k3,hm,rfl,rfl⟩),rfl,rfl⟩,.inr (.inl ⟨hk,ht,by decide,rfl,rfl,rfl⟩),by simp⟩
   . have hl:(gt L a).2=[]:=k4.resolve_left (by omega)
     have hh:Has L a:=(gt_has ht.2).2 λ e=>by rw [e] at hc;simp at hc
     have hok:SOk (sp a ((gt L a).1-1) (gt L a).2):=⟨hk,by show 0<=(gt L a).1-1;omega,by show (gt L a).1-1<=2147483647;omega,k3,.inr hl⟩;have h64:(setl L (sp a ((gt L a).1-1) (gt L a).2)).length<=64:=Nat.le_trans (setl_len ht.2 (.inl hh)) ht.1;exact⟨(a,(gt L a).1-1,(gt L a).2),who,0,who,λ _ _=>.inr (.inl ⟨hc,⟨_,.inr (.inr (.inr ⟨h0,k3,hm,by rw [hl];decide,rfl,rfl⟩))⟩,rfl,rfl,rfl⟩),
      .inr (.inr ⟨hk,ht,rfl,_,0,.inr ⟨hok,ht,.inr ⟨h64,rfl,rfl⟩⟩,.inr ⟨rfl,rfl,rfl,rfl⟩⟩),by simp⟩
   . exact⟨(0,0,[]),0,5,0,λ _ _=>.inl ⟨by decide,.inr (.inr (.inl ⟨h0,k3,hm,hl,rfl,rfl⟩)),rfl,rfl⟩,.inr (.inl ⟨hk,ht,by decide,rfl,rfl,rfl⟩),by simp⟩
   . have hok:SOk (sp a 0 (psh first (gt L a).2 who)):=⟨hk,Int.le_refl _,(by decide:(0:Int)<=2147483647),psh_ok k3 h0 hm hl,.inl rfl⟩
     exact⟨(a,0,psh first (gt L a).2 who),-1,0,0,λ _ _=>.inr (.inr ⟨by omega,⟨_,.inr (.inr (.inr ⟨h0,k3,hm,hl,rfl,rfl⟩)),by rw [hc];rfl⟩,rfl,rfl⟩),
      .inr (.inr ⟨hk,ht,rfl,[],5,.inr ⟨hok,ht,.inl ⟨hs,rfl,rfl⟩⟩,.inl ⟨by decide,rfl,rfl,rfl⟩⟩),by simp⟩
   . have hok:SOk (sp a 0 (psh first (gt L a).2 who)):=⟨hk,Int.le_refl _,(by decide:(0:Int)<=2147483647),psh_ok k3 h0 hm hl,.inl rfl⟩
     exact⟨(a,0,psh first (gt L a).2 who),-1,0,-1,λ _ _=>.inr (.inr ⟨by omega,⟨_,.inr (.inr (.inr ⟨h0,k3,hm,hl,rfl,rfl⟩)),by rw [hc];rfl⟩,rfl,rfl⟩),
      .inr (.inr ⟨hk,ht,rfl,_,0,.inr ⟨hok,ht,.inr ⟨hs,rfl,rfl⟩⟩,.inr ⟨rfl,rfl,rfl,rfl⟩⟩),by simp;omega⟩
theorem rel_aft {Q:List (Int×Int×List Int)} {x e:Int} (h:RelR L a Q x e) :
 ∃ s x1 e1,(Tab L->IsKey a->GiveR a (gt L a).1 (gt L a).2 s x1 e1)/\AftR L a s x1 e1 Q x e:=by
 rcases h with ⟨h,rfl,rfl,rfl⟩ | ⟨ht,hk,h⟩
 . exact⟨(0,0,[]),0,1,λ h1 h2=>absurd h (by simp [h1,h2]),.inl ⟨h.symm,rfl,rfl,rfl⟩⟩
 . obtain⟨k1,k2,k3,k4⟩:=gt_cnt ht.2 hk
   rcases h with ⟨r,hl,rfl,rfl⟩ | ⟨hl,hc,rfl,rfl,rfl⟩ | ⟨hl,hc,hs,rfl,rfl,rfl⟩ | ⟨hl,hc,hs,rfl,rfl,rfl⟩
   . have hc:(gt L a).1=0:=k4.resolve_right (by rw [hl];simp)
     have hh:Has L a:=(gt_has ht.2).2 λ e=>by rw [e] at hl;simp at hl
     have hr:L7.Ln r:=by
      rw [hl] at k3;exact⟨by have:=k3.1;simp at this;omega,(L7.good_cons.1 k3.2).2.2⟩
     have hok:SOk (sp a 0 r):=⟨hk,Int.le_refl _,(by decide:(0:Int)<=2147483647),hr,.inl rfl⟩;have h64:(setl L (sp a 0 r)).length<=64:=Nat.le_trans (setl_len ht.2 (.inl hh)) ht.1;exact⟨(a,0,r),x,0,λ _ _=>.inl ⟨r,hl,by rw [hc],rfl⟩,.inr (.inr ⟨hk,ht,rfl,_,0,.inr ⟨hok,ht,.inr ⟨h64,rfl,rfl⟩⟩,.inr ⟨rfl,rfl,rfl,rfl⟩⟩)⟩
   . exact⟨(0,0,[]),0,10,λ _ _=>.inr (.inl ⟨hl,hc,rfl,rfl,rfl⟩),.inr (.inl ⟨hk,ht,by decide,rfl,rfl,rfl⟩)⟩
   . have hok:SOk (sp a ((gt L a).1+1) []):=⟨hk,by show 0<=(gt L a).1+1;omega,by show (gt L a).1+1<=2147483647;omega,L7.Ln.nil,.inr rfl⟩
     exact⟨(a,(gt L a).1+1,[]),-1,0,λ _ _=>.inr (.inr ⟨hl,hc,rfl,rfl,rfl⟩),.inr (.inr ⟨hk,ht,rfl,[],5,.inr ⟨hok,ht,.inl ⟨hs,rfl,rfl⟩⟩,.inl ⟨by decide,rfl,rfl,rfl⟩⟩)⟩
   . have hok:SOk (sp a ((gt L a).1+1) []):=⟨hk,by show 0<=(gt L a).1+1;omega,by show (gt L a).1+1<=2147483647;omega,L7.Ln.nil,.inr rfl⟩
     exact⟨(a,(gt L a).1+1,[]),-1,0,λ _ _=>.inr (.inr ⟨hl,hc,rfl,rfl,rfl⟩),.inr (.inr ⟨hk,ht,rfl,_,0,.inr ⟨hok,ht,.inr ⟨hs,rfl,rfl⟩⟩,.inr ⟨rfl,rfl,rfl,rfl⟩⟩)⟩
theorem Acquire_is (hm:SMem w A n L) (hnc:n<=c) (hcm:c<=9223372036854775807) (ha:B64 a) {who:Int} (hw:B64 who) {first:Bool} {Q:List (Int×Int×List Int)} {is:Bool} {e:Int} (h:AcqR L a who first Q is e) :
 Calls prog 150 #[.slice A n c,.int .i64 a,.int .i64 who,.bool first] w (Gave Q #[.bool is,.int .i64 e] w):=by
 obtain⟨s,x1,e1,x,hcome,haft,his⟩:=acq_aft h;have g0:=((zr w).al (.cells #[.int .i64 who] 3)).al (.cells #[.bool first] 4);have B0:=(Blk.new w #[.int .i64 who] 3).al (.cells #[.bool first] 4);have B1:=Blk.new (w.alloc (.cells #[.int .i64 who] 3)) #[.bool first] 4;simp only [zsA] at B1;have KC:=hid (coming_is w who first);have KA:=hid (after_is (F:=214) (caps:=#[.pointer (some ⟨w.heap.size,0,none⟩),.pointer (some ⟨w.heap.size+1,0,none⟩)]) (enters_of func214 (by kernel_rfl) rfl) (hm.gr g0) hnc hcm ha
  (λ ht hk W y hg hy hp=>by
    obtain⟨h1,h2,h3⟩:=(show y.addr=a/\y.cnt=(gt L a).1/\y.line=(gt L a).2 by simpa [SV.pl] using hp);have hc:=hcome ht hk;rw [<- h2,<- h3,<- h1] at hc;exact coming1_is hy.1 hy.2.1 hy.2.2.1 hy.2.2.2.1 hy.2.2.2.2 hw ((B0.gr hg).at_ (k:=0) rfl).1 ((B1.gr hg).at_ (k:=0) rfl).1 (B0.gr hg).lt (B1.gr hg).lt hc) haft)
 have G0:=hid g0;clear hm hnc hcm ha hw h hcome haft g0 B0 B1;have hdec:(e=0/\x=who/\is=true)\/(e=0/\(x==who)=false/\is=false)\/((e==0)=false/\is=false):=by
  by_cases he:e=0
  . by_cases hx:x=who
    . exact .inl ⟨he,hx,his.2 ⟨he,hx⟩⟩
    . exact .inr (.inl ⟨he,beq_eq_false_iff_ne.2 hx,by cases is;rfl;exact absurd (his.1 rfl).2 hx⟩)
  . exact .inr (.inr ⟨beq_eq_false_iff_ne.2 he,by cases is;rfl;exact absurd (his.1 rfl).1 he⟩)
 clear his;rcases hdec with ⟨rfl,rfl,rfl⟩ | ⟨rfl,hx,rfl⟩ | ⟨he,rfl⟩
 all_goals (
  go_enter func150,ntmps150;go_wp2_with fail;refine KC.out.mono ?_;rintro ee w1 ⟨rfl,rfl⟩;go_wp2_with fail;refine KA.out.mono ?_;rintro ee w2 ⟨B,m,T,rfl,hT,hTm,hmx,hTp,h2,hso⟩;have HSO:=hid (hso.low G0.out.size);have GG:=hid (G0.out.trans h2);have HT:=hid hT;have HTM:=hid hTm;have HMX:=hid hmx;have HTP:=hid hTp;clear hT hTm hmx hTp h2 hso;generalize hN:T.length=N at *;simp only [Array.append_assoc,List.append_toArray,List.cons_append,List.nil_append];go_wp2_with fail;go_ret3;exact⟨B,m,T,by rw [hN];rfl,hN▸HT.out,hN▸HTM.out,HMX.out,HTP.out,GG.out,hN▸HSO.out⟩)
theorem Release_is (hm:SMem w A n L) (hnc:n<=c) (hcm:c<=9223372036854775807) (ha:B64 a) {Q:List (Int×Int×List Int)} {x e:Int} (h:RelR L a Q x e) :
 Calls prog 161 #[.slice A n c,.int .i64 a] w (Gave Q #[.int .i64 x,.int .i64 e] w):=by
 obtain⟨s,x1,e1,hgive,haft⟩:=rel_aft h;have KA:=hid (after_is (F:=201) (caps:=#[]) (enters_of func201 (by kernel_rfl) rfl) hm hnc hcm ha
  (λ ht hk W y hg hy hp=>by
    obtain⟨h1,h2,h3⟩:=(show y.addr=a/\y.cnt=(gt L a).1/\y.line=(gt L a).2 by simpa [SV.pl] using hp);have hc:=hgive ht hk;obtain⟨k1,k2,k3,k4⟩:=gt_cnt ht.2 hk;rw [<- h2,<- h3,<- h1] at hc;rw [<- h2] at k1 k2;rw [<- h3] at k3;exact granted_is hy.1 k1 k2 hy.2.2.1 hy.2.2.2.1 hy.2.2.2.2 k3 hc) haft)
 clear hm hnc hcm ha h hgive haft;go_enter func161,ntmps161;go_wp2_with fail;refine KA.out.mono ?_;rintro ee w2 ⟨B,m,T,rfl,hT,hTm,hmx,hTp,h2,hso⟩;have HSO:=hid hso;have GG:=hid h2;have HT:=hid hT;have HTM:=hid hTm;have HMX:=hid hmx;have HTP:=hid hTp;clear hT hTm hmx hTp h2 hso;generalize hN:T.length=N at *;simp only [Array.append_assoc,List.append_toArray,List.cons_append,List.nil_append];go_wp2_with fail;go_ret3;exact⟨B,m,T,by rw [hN];rfl,hN▸HT.out,hN▸HTM.out,HMX.out,HTP.out,GG.out,hN▸HSO.out⟩
end
end
section
structure Stp (L:List SV) (a q:Int) (l:List Int) (T:List SV):Prop where
 tab:Tab T
 got:gt T a=(q,l)
 other:∀ b,b≠a->gt T b=gt L b
section
variable {L T:List SV} {a q who x e:Int} {l:List Int} {first is:Bool} {Q:List (Int×Int×List Int)}
theorem stp (ht:Tab L) (hs:SOk (sp a q l)) (h64:(setl L (sp a q l)).length<=64) (hp:T.map SV.pl=(setl L (sp a q l)).map SV.pl):Stp L a q l T:=by
 have hok:=setl_ok ht.2 hs;refine⟨Tab.pl hp.symm ⟨h64,hok⟩,?_,λ b hb=>?_⟩
 . rw [<- gt_pl hok hp.symm];exact gt_set ht.2 hs
 . rw [<- gt_pl hok hp.symm];exact gt_other ht.2 hs hb
theorem AcqR.plain (h:AcqR L a who first (T.map SV.pl) is e) :
 (e≠0/\is=false/\T=[]/\(e=7↔(Tab L/\IsKey a/\0<=who/\who∈(gt L a).2))) \/
 (e=0/\Tab L/\IsKey a/\0<=who/\who ∉ (gt L a).2/\((0<(gt L a).1/\is=true/\Stp L a ((gt L a).1-1) (gt L a).2 T)\/((gt L a).1=0/\(gt L a).2.length<64/\is=false/\Stp L a 0 (psh first (gt L a).2 who) T))):=by
 rcases h with ⟨h,hT,rfl,rfl⟩ | ⟨ht,hk,h0,h⟩
 . refine .inl ⟨by decide,rfl,List.map_eq_nil_iff.1 hT,λ hc=>absurd hc (by decide),λ ⟨h1,h2,h3,_⟩=>?_⟩
   rcases h with h | h | h
   . exact absurd h1 h
   . exact absurd h2 h
   . omega
 . obtain⟨k1,k2,k3,k4⟩:=gt_cnt ht.2 hk
   rcases h with ⟨hm,hT,rfl,rfl⟩ | ⟨hm,hc,hT,rfl,rfl⟩ | ⟨hm,hc,hl,hT,rfl,rfl⟩ | ⟨hm,hc,hl,hs,hT,rfl,rfl⟩ | ⟨hm,hc,hl,hs,hT,rfl,rfl⟩
   . exact .inl ⟨by decide,rfl,List.map_eq_nil_iff.1 hT,λ _=>⟨ht,hk,h0,hm⟩,λ _=>rfl⟩
   . have hh:Has L a:=(gt_has ht.2).2 λ e=>by rw [e] at hc;simp at hc
     have hok:SOk (sp a ((gt L a).1-1) (gt L a).2):=⟨hk,by show 0<=(gt L a).1-1;omega,by show (gt L a).1-1<=2147483647;omega,k3,.inr (k4.resolve_left (by omega))⟩;exact .inr ⟨rfl,ht,hk,h0,hm,.inl ⟨hc,rfl,stp ht hok (Nat.le_trans (setl_len ht.2 (.inl hh)) ht.1) hT⟩⟩
   . exact .inl ⟨by decide,rfl,List.map_eq_nil_iff.1 hT,λ hc=>absurd hc (by decide),λ ⟨_,_,_,h⟩=>absurd h hm⟩
   . exact .inl ⟨by decide,rfl,List.map_eq_nil_iff.1 hT,λ hc=>absurd hc (by decide),λ ⟨_,_,_,h⟩=>absurd h hm⟩
   . have hok:SOk (sp a 0 (psh first (gt L a).2 who)):=⟨hk,Int.le_refl _,(by decide:(0:Int)<=2147483647),psh_ok k3 h0 hm hl,.inl rfl⟩
     exact .inr ⟨rfl,ht,hk,h0,hm,.inr ⟨hc,hl,rfl,stp ht hok hs hT⟩⟩
theorem RelR.plain (h:RelR L a (T.map SV.pl) x e) :
 (e≠0/\x=0/\T=[]) \/
 (e=0/\Tab L/\IsKey a/\((∃ r,(gt L a).1=0/\(gt L a).2=x::r/\Stp L a 0 r T)\/((gt L a).2=[]/\(gt L a).1<2147483647/\x=-1/\Stp L a ((gt L a).1+1) [] T))):=by
 rcases h with ⟨h,hT,rfl,rfl⟩ | ⟨ht,hk,h⟩
 . exact .inl ⟨by decide,rfl,List.map_eq_nil_iff.1 hT⟩
 . obtain⟨k1,k2,k3,k4⟩:=gt_cnt ht.2 hk
   rcases h with ⟨r,hl,hT,rfl⟩ | ⟨hl,hc,hT,rfl,rfl⟩ | ⟨hl,hc,hs,hT,rfl,rfl⟩ | ⟨hl,hc,hs,hT,rfl,rfl⟩
   . have hh:Has L a:=(gt_has ht.2).2 λ e=>by rw [e] at hl;simp at hl
     have hr:L7.Ln r:=by
      rw [hl] at k3;exact⟨by have:=k3.1;simp at this;omega,(L7.good_cons.1 k3.2).2.2⟩
     have hok:SOk (sp a 0 r):=⟨hk,Int.le_refl _,(by decide:(0:Int)<=2147483647),hr,.inl rfl⟩;exact .inr ⟨rfl,ht,hk,.inl ⟨r,k4.resolve_right (by rw [hl];simp),hl,stp ht hok (Nat.le_trans (setl_len ht.2 (.inl hh)) ht.1) hT⟩⟩
   . exact .inl ⟨by decide,rfl,List.map_eq_nil_iff.1 hT⟩
   . exact .inl ⟨by decide,rfl,List.map_eq_nil_iff.1 hT⟩
   . have hok:SOk (sp a ((gt L a).1+1) []):=⟨hk,by show 0<=(gt L a).1+1;omega,by show (gt L a).1+1<=2147483647;omega,L7.Ln.nil,.inr rfl⟩
     exact .inr ⟨rfl,ht,hk,.inr ⟨hl,hc,rfl,stp ht hok hs hT⟩⟩
theorem AcqR.must (h:AcqR L a who first (T.map SV.pl) is e) (ht:Tab L) (hk:IsKey a) (h0:0<=who) (hn:who ∉ (gt L a).2) (hl:(gt L a).2.length<64) (hroom:Has L a\/L.length<64):e=0:=by
 rcases h with ⟨h,_⟩ | ⟨_,_,_,h⟩
 . rcases h with h | h | h
   . exact absurd ht h
   . exact absurd hk h
   . omega
 . rcases h with ⟨hm,_⟩ | ⟨_,_,_,_,h⟩ | ⟨_,_,h64,_⟩ | ⟨_,_,_,hs,_⟩ | ⟨_,_,_,_,_,_,h⟩
   . exact absurd hm hn
   . exact h
   . omega
   . exfalso
     rcases hroom with hh | hlt
     . have:=setl_len (s:=sp a 0 (psh first (gt L a).2 who)) ht.2 (.inl hh)
       have:=ht.1;omega
     . have:=setl_more (s:=sp a 0 (psh first (gt L a).2 who)) ht.2
       omega
   . exact h
theorem RelR.must (h:RelR L a (T.map SV.pl) x e) (ht:Tab L) (hk:IsKey a) (hc:(gt L a).1<2147483647) (hroom:Has L a\/L.length<64):e=0:=by
 rcases h with ⟨h,_⟩ | ⟨_,_,h⟩
 . rcases h with h | h
   . exact absurd ht h
   . exact absurd hk h
 . rcases h with ⟨_,_,_,h⟩ | ⟨_,hc',_⟩ | ⟨_,_,hs,_⟩ | ⟨_,_,_,_,_,h⟩
   . exact h
   . omega
   . exfalso
     rcases hroom with hh | hlt
     . have:=setl_len (s:=sp a ((gt L a).1+1) []) ht.2 (.inl hh)
       have:=ht.1;omega
     . have:=setl_more (s:=sp a ((gt L a).1+1) []) ht.2
       omega
   . exact h
end
end
section
section
variable {w:World} {A:Option Addr} {n c:Nat} {L:List SV} {a who:Int} {first:Bool}
theorem Acquire_own (hm:SMem w A n L) (hnc:n<=c) (hcm:c<=9223372036854775807) (ha:B64 a) (hw:B64 who) :
 Calls prog 150 #[.slice A n c,.int .i64 a,.int .i64 who,.bool first] w λ ee w'=>∃ B m N is e,ee=.returned (.tuple #[.slice B N m,.bool is,.int .i64 e]) /\
  ∃ T:List SV,T.length=N/\SMem w' B N T/\N<=m/\m<=9223372036854775807/\AcqR L a who first (T.map SV.pl) is e/\Gr w w'/\SOwn w' w.heap.size (.slice B N m) T:=by
 obtain⟨Q,is,e,h⟩:=AcqR.any L a who first;refine (Acquire_is hm hnc hcm ha hw h).mono ?_;rintro ee w' ⟨B,m,T,rfl,h1,h2,h3,h4,h5,h6⟩;exact⟨B,m,T.length,is,e,rfl,T,rfl,h1,h2,h3,h4▸h,h5,h6⟩
theorem Release_own (hm:SMem w A n L) (hnc:n<=c) (hcm:c<=9223372036854775807) (ha:B64 a) :
 Calls prog 161 #[.slice A n c,.int .i64 a] w λ ee w'=>∃ B m N x e,ee=.returned (.tuple #[.slice B N m,.int .i64 x,.int .i64 e]) /\
  ∃ T:List SV,T.length=N/\SMem w' B N T/\N<=m/\m<=9223372036854775807/\RelR L a (T.map SV.pl) x e/\Gr w w'/\SOwn w' w.heap.size (.slice B N m) T:=by
 obtain⟨Q,x,e,h⟩:=RelR.any L a;refine (Release_is hm hnc hcm ha h).mono ?_;rintro ee w' ⟨B,m,T,rfl,h1,h2,h3,h4,h5,h6⟩;exact⟨B,m,T.length,x,e,rfl,T,rfl,h1,h2,h3,h4▸h,h5,h6⟩
end
end
section
namespace P16
theorem imem_at {W W':World} {A:Option Addr} {n:Nat} {l:List Int} (h:IMem W A n l) (hs:W.heap.size<=W'.heap.size) (hk:∀ k,A.map (·.block)=some k->k<W.heap.size->W'.heap[k]?=W.heap[k]?):IMem W' A n l :=
 ⟨h.1,h.2.1,λ hn=>by
   obtain⟨b,off,rfl,hb,hc⟩:=h.2.2 hn;refine⟨b,off,rfl,zlt hb hs,λ j x hj=>?_⟩;exact (World.cell?_of_block (a:=⟨b,off+j,none⟩) (hk b rfl hb)).trans (hc j x hj)⟩
theorem smem_at {W W':World} {A:Option Addr} {n:Nat} {L:List SV} (hm:SMem W A n L) (hs:W.heap.size<=W'.heap.size)
 (h1:0<n->∀ k,A.map (·.block)=some k->k<W.heap.size->W'.heap[k]?=W.heap[k]?) (h2:∀ x∈L,∀ k,x.A.map (·.block)=some k->k<W.heap.size->W'.heap[k]?=W.heap[k]?):SMem W' A n L:=by
 refine⟨hm.1,λ x hx=>?_,λ hn=>?_⟩
 . obtain⟨a1,a2,a3,a4⟩:=hm.2.1 x hx
   exact⟨a1,a2,imem_at a3 hs (h2 x hx),a4⟩
 . obtain⟨b,off,rfl,hlt,hc⟩:=hm.2.2 hn
   refine⟨b,off,rfl,zlt hlt hs,λ j x hj=>?_⟩;have e:=h1 hn b rfl hlt;rw [World.cell?_of_block (a:=⟨b,off+j*3,none⟩) e,World.cell?_of_block (a:=⟨b,off+j*3+1,none⟩) e,World.cell?_of_block (a:=⟨b,off+j*3+2,none⟩) e];exact hc j x hj
theorem sown_kb {x:Cx} {W:World} {base m:Nat} {B:Option Addr} {T:List SV} (h:SOwn W base (.slice B T.length m) T) (hb:x.B<=base) (h1:x.b<base) (h2:x.bc<base) (h3:x.bm<base) :
 ∀ W',Kb x W W'->∃ S,SMem W' B T.length S/\S.map SV.pl=T.map SV.pl:=by
 intro W' k;obtain⟨B',m',e,hm,_,_⟩:=h.mem;cases e;refine⟨T,smem_at hm k.1 (λ hn g hg hlt=>?_) (λ y hy g hg hlt=>?_),rfl⟩
 . have:base<=g:=by
    rcases h.row.2 with ⟨e1,_⟩ | ⟨g',cap,cur,e1,q1,_⟩
    . injection e1 with e1;subst e1;cases hg
    . injection e1 with e1;subst e1;simp only [Option.map_some,Option.some.injEq] at hg;omega
   exact k.2 g (by omega) hlt (by omega) (by omega) (by omega)
 . have:=(h.off y hy g hg).1
   exact k.2 g (by omega) hlt (by omega) (by omega) (by omega)
section
variable {L T:List SV} {tb:List Sp} {m:Nat} {l:List Int} {who x e:Int} {first is:Bool}
theorem svs_of (h:L.map SV.pl=tb):L.map SV.pl=(svs tb).map SV.pl:=by rw [svs_pl];exact h
theorem gtA_of (ht:Tab L) (h:L.map SV.pl=tb) (j:Nat):gt L (8*(j:Int))=gtA tb j:=gt_pl ht.2 (svs_of h) _
theorem tabA_of (ht:Tab L) (ha:∀ y∈L,∃ m:Nat,m<4/\y.addr=8*(m:Int)):TabA (L.map SV.pl) :=
 ⟨Tab.pl (svs_of rfl) ht,λ s hs=>by obtain⟨y,hy,rfl⟩:=List.mem_map.1 hs;exact ha y hy⟩
theorem tabA_to (ht:TabA tb) (h:L.map SV.pl=tb):Tab L/\∀ y∈L,∃ m:Nat,m<4/\y.addr=8*(m:Int) :=
 ⟨Tab.pl (svs_of h).symm ht.1,λ y hy=>ht.2 _ (by rw [<- h];exact List.mem_map.2 ⟨y,hy,rfl⟩)⟩
theorem few_spots (ht:Tab L) (ha:∀ y∈L,∃ m:Nat,m<4/\y.addr=8*(m:Int)):L.length<=4:=by
 have hnd:(L.map SV.addr).Nodup:=by
  rw [List.Nodup,List.pairwise_map];exact ht.2.2.imp λ h e=>by rw [e] at h;exact h.irrefl
 have hsub:L.map SV.addr ⊆ [0,8,16,24]:=by
  intro z hz;obtain⟨y,hy,rfl⟩:=List.mem_map.1 hz;obtain⟨m,hm,e⟩:=ha y hy;rw [e];have:m=0\/m=1\/m=2\/m=3:=by omega
  rcases this with rfl | rfl | rfl | rfl<;>simp
 have:=hnd.length_le_of_subset hsub;rwa [List.length_map] at this
theorem key8 (hm:m<4):IsKey (8*(m:Int)):=by unfold IsKey;omega
theorem stp_tabA (hs:Stp L (8*(m:Int)) e l T) (hm:m<4) (ht:Tab L) (ha:∀ y∈L,∃ m:Nat,m<4/\y.addr=8*(m:Int)):TabA (T.map SV.pl):=by
 refine tabA_of hs.tab λ y hy=>?_
 by_cases e:y.addr=8*(m:Int)
 . exact⟨m,hm,e⟩
 . have h1:Has T y.addr:=⟨y,hy,rfl⟩
   have h2:=(gt_has hs.tab.2).1 h1;rw [hs.other _ e] at h2;obtain⟨z,hz,e2⟩:=(gt_has ht.2).2 h2;obtain⟨j,hj,e3⟩:=ha z hz;exact⟨j,hj,by rw [<- e2,e3]⟩
theorem stp_other (hs:Stp L (8*(m:Int)) e l T) (ht:Tab L) (h:L.map SV.pl=tb) (j:Nat) (hj:j≠m):gtA (T.map SV.pl) j=gtA tb j:=by
 rw [<- gtA_of ht h,<- gtA_of hs.tab rfl];exact hs.other _ (by omega)
theorem stp_got (hs:Stp L (8*(m:Int)) e l T):gtA (T.map SV.pl) m=(e,l):=by
 rw [<- gtA_of hs.tab rfl];exact hs.got
theorem ask_cases (ht:TabA tb) (hL:L.map SV.pl=tb) (hm:m<4) (h0:0<=who) (h:AcqR L (8*(m:Int)) who first (T.map SV.pl) is e) :
 (e≠0/\is=false/\(who∈(gtA tb m).2\/(¬ 0<(gtA tb m).1/\64<=(gtA tb m).2.length))) \/
 (e=0/\who ∉ (gtA tb m).2/\TabA (T.map SV.pl)/\(∀ j,j≠m->gtA (T.map SV.pl) j=gtA tb j) /\
   ((0<(gtA tb m).1/\is=true/\gtA (T.map SV.pl) m=((gtA tb m).1-1,(gtA tb m).2))\/(¬ 0<(gtA tb m).1/\(gtA tb m).1=0/\(gtA tb m).2.length<64/\is=false/\gtA (T.map SV.pl) m=(0,psh first (gtA tb m).2 who)))):=by
 obtain⟨hT,ha⟩:=tabA_to ht hL;have hg:=gtA_of hT hL m;have hk:=gt_cnt hT.2 (key8 hm);rw [hg] at hk;rcases h.plain with ⟨h1,h2,_,_⟩ | ⟨h1,_,_,_,h2,h3⟩
 . refine .inl ⟨h1,h2,?_⟩
   by_cases hw:who∈(gtA tb m).2
   . exact .inl hw
   . right
     refine Classical.byContradiction λ hh=>?_
     have hl:(gt L (8*(m:Int))).2.length<64:=by
      rw [hg];by_cases hc:0<(gtA tb m).1
      . rcases hk.2.2.2 with q | q
        . omega
        . rw [q];decide
      . exact Nat.lt_of_not_le λ q=>hh ⟨hc,q⟩
     exact h1 (h.must hT (key8 hm) h0 (by rw [hg];exact hw) hl (.inr (by have:=few_spots hT ha;omega)))
 . rw [hg] at h2 h3
   refine .inr ⟨h1,h2,?_⟩;rcases h3 with ⟨q1,q2,q3⟩ | ⟨q1,q2,q3,q4⟩
   . exact⟨stp_tabA q3 hm hT ha,stp_other q3 hT hL,.inl ⟨q1,q2,stp_got q3⟩⟩
   . exact⟨stp_tabA q4 hm hT ha,stp_other q4 hT hL,.inr ⟨by omega,q1,q2,q3,stp_got q4⟩⟩
theorem rel_cases (ht:TabA tb) (hL:L.map SV.pl=tb) (hm:m<4) (h:RelR L (8*(m:Int)) (T.map SV.pl) x e) :
 (e≠0/\(gtA tb m).2=[]/\(gtA tb m).1=2147483647) \/
 (e=0/\TabA (T.map SV.pl)/\(∀ j,j≠m->gtA (T.map SV.pl) j=gtA tb j) /\
   ((∃ r,(gtA tb m).1=0/\(gtA tb m).2=x::r/\gtA (T.map SV.pl) m=(0,r))\/((gtA tb m).2=[]/\(gtA tb m).1≠2147483647/\x=-1/\gtA (T.map SV.pl) m=((gtA tb m).1+1,[])))):=by
 obtain⟨hT,ha⟩:=tabA_to ht hL;have hg:=gtA_of hT hL m;have hk:=gt_cnt hT.2 (key8 hm);rw [hg] at hk;have hp:=h.plain;rcases hp with ⟨h1,_,_⟩ | ⟨h1,_,_,h3⟩
 . left
   have hc:¬ (gt L (8*(m:Int))).1<2147483647:=λ hc=>h1 (h.must hT (key8 hm) hc (.inr (by have:=few_spots hT ha;omega)))
   rw [hg] at hc;have hmax:(gtA tb m).1=2147483647:=by omega
   exact⟨h1,hk.2.2.2.resolve_left (by omega),hmax⟩
 . rw [hg] at h3
   refine .inr ⟨h1,?_⟩;rcases h3 with ⟨r,q1,q2,q3⟩ | ⟨q1,q2,q3,q4⟩
   . exact⟨stp_tabA q3 hm hT ha,stp_other q3 hT hL,.inl ⟨r,q1,q2,stp_got q3⟩⟩
   . exact⟨stp_tabA q4 hm hT ha,stp_other q4 hT hL,.inr ⟨q1,by omega,q3,stp_got q4⟩⟩
end
end P16
end
section
namespace P16
open P14 (pan)
open P12 (PV PMem)
theorem m8 {n:Int} (h0:0<=n):8*n=8*((n.toNat:Nat):Int):=by omega
section
variable {x:Cx} {W:World} {T E:Sl} {cl:List Cl} {mx:List T3} {tb:List Sp} {ev:List T3} {c:Cl} {a:T3} {pr:List Ac}
variable {is:Bool} {G:Int×List Int} {tb2:List Sp}
def NewT (x:Cx) (w:World) (B:Option Addr) (N m:Nat) (tb2:List Sp):Prop:=(∀ W',Kb x w W'->∃ S,SMem W' B N S/\S.map SV.pl=tb2)/\N<=m/\m<=9223372036854775807
def AskP (tb:List Sp) (j:Nat) (who:Int) (first is:Bool) (G:Int×List Int):Prop :=
 who ∉ (gtA tb j).2/\((0<(gtA tb j).1/\is=true/\G=((gtA tb j).1-1,(gtA tb j).2))\/(¬ 0<(gtA tb j).1/\(gtA tb j).2.length<64/\is=false/\G=(0,psh first (gtA tb j).2 who)))
def GotT (tb tb2:List Sp) (j:Nat) (G:Int×List Int):Prop:=TabA tb2/\gtA tb2 j=G/\∀ i,i≠j->gtA tb2 i=gtA tb i
theorem acq_yes {first:Bool} (h:TS x W T E cl mx tb ev) (h0:0<=x.n) (h4:x.n<4) (ht:TabA tb) (hP:AskP tb x.n.toNat x.who first is G) :
 Calls prog 150 #[.slice T.A T.n T.c,.int .i64 (8*x.n),.int .i64 x.who,.bool first] W λ ee w'=>∃ B N m tb2,ee=.returned (.tuple #[.slice B N m,.bool is,.int .i64 0])/\NewT x w' B N m tb2/\GotT tb tb2 x.n.toNat G/\Gr W w':=by
 obtain⟨L,hL,eL⟩:=h.tb W ⟨Nat.le_refl _,λ _ _ _ _ _ _=>rfl⟩;have b8:B64 (8*x.n):=⟨by omega,by omega⟩;refine (Acquire_own (first:=first) hL h.ot.1 h.ot.2 b8 h.wi).mono ?_;rintro ee w' ⟨B,m,N,is',e,rfl,Q,rfl,q1,q2,q3,q4,q5,q6⟩;rw [m8 h0] at q4;have hlt:=h.t.lt;rcases ask_cases ht eL (show x.n.toNat<4 by omega) h.w0 q4 with ⟨a1,a2,a3⟩ | ⟨rfl,a2,a3,a4,a5⟩
 . exfalso
   rcases hP with ⟨p1,p2 | p2⟩
   . rcases a3 with a3 | a3
     . exact p1 a3
     . exact a3.1 p2.1
   . rcases a3 with a3 | a3
     . exact p1 a3
     . have:=p2.2.1;have:=a3.2;omega
 . have hg:is'=is/\gtA (Q.map SV.pl) x.n.toNat=G:=by
    rcases a5 with ⟨b1,rfl,b2⟩ | ⟨b1,_,b2,rfl,b3⟩
    . rcases hP.2 with ⟨c1,rfl,rfl⟩ | ⟨c1,_⟩
      . exact⟨rfl,b2⟩
      . exact absurd b1 c1
    . rcases hP.2 with ⟨c1,_⟩ | ⟨c1,c2,rfl,rfl⟩
      . exact absurd c1 b1
      . exact⟨rfl,b3⟩
   obtain⟨rfl,hg⟩:=hg;exact⟨B,Q.length,m,Q.map SV.pl,rfl,⟨sown_kb q6 (Nat.le_trans h.lb (Nat.le_of_lt hlt)) hlt h.c.lt h.m.lt,q2,q3⟩,⟨a3,hg,a4⟩,q5⟩
theorem acq_no {first:Bool} (h:TS x W T E cl mx tb ev) (h0:0<=x.n) (h4:x.n<4) (ht:TabA tb) (hP:x.who∈(gtA tb x.n.toNat).2\/(¬ 0<(gtA tb x.n.toNat).1/\64<=(gtA tb x.n.toNat).2.length)) :
 Calls prog 150 #[.slice T.A T.n T.c,.int .i64 (8*x.n),.int .i64 x.who,.bool first] W λ ee w'=>∃ B N m e,ee=.returned (.tuple #[.slice B N m,.bool false,.int .i64 e])/\(e==0)=false/\Gr W w':=by
 obtain⟨L,hL,eL⟩:=h.tb W ⟨Nat.le_refl _,λ _ _ _ _ _ _=>rfl⟩;have b8:B64 (8*x.n):=⟨by omega,by omega⟩;refine (Acquire_own (first:=first) hL h.ot.1 h.ot.2 b8 h.wi).mono ?_;rintro ee w' ⟨B,m,N,is',e,rfl,Q,rfl,q1,q2,q3,q4,q5,q6⟩;rw [m8 h0] at q4;rcases ask_cases ht eL (show x.n.toNat<4 by omega) h.w0 q4 with ⟨a1,rfl,a3⟩ | ⟨rfl,a2,a3,a4,a5⟩
 . exact⟨B,Q.length,m,e,rfl,beq_eq_false_iff_ne.2 a1,q5⟩
 . exfalso
   rcases hP with p | ⟨p1,p2⟩
   . exact a2 p
   . rcases a5 with ⟨b1,_⟩ | ⟨_,_,b2,_⟩
     . exact p1 b1
     . omega
theorem rel_yes (h:TS x W T E cl mx tb ev) (h0:0<=x.n) (h4:x.n<4) (ht:TabA tb) {z:Int} (hP:(∃ r,(gtA tb x.n.toNat).2=z::r/\G=(0,r))\/((gtA tb x.n.toNat).2=[]/\(gtA tb x.n.toNat).1≠2147483647/\z=-1/\G=((gtA tb x.n.toNat).1+1,[]))) :
 Calls prog 161 #[.slice T.A T.n T.c,.int .i64 (8*x.n)] W λ ee w'=>∃ B N m tb2,ee=.returned (.tuple #[.slice B N m,.int .i64 z,.int .i64 0])/\NewT x w' B N m tb2/\GotT tb tb2 x.n.toNat G/\Gr W w':=by
 obtain⟨L,hL,eL⟩:=h.tb W ⟨Nat.le_refl _,λ _ _ _ _ _ _=>rfl⟩;have b8:B64 (8*x.n):=⟨by omega,by omega⟩;refine (Release_own hL h.ot.1 h.ot.2 b8).mono ?_;rintro ee w' ⟨B,m,N,z',e,rfl,Q,rfl,q1,q2,q3,q4,q5,q6⟩;rw [m8 h0] at q4;have hlt:=h.t.lt;rcases rel_cases ht eL (show x.n.toNat<4 by omega) q4 with ⟨a1,a2,a3⟩ | ⟨rfl,a3,a4,a5⟩
 . exfalso
   rcases hP with ⟨r,p1,_⟩ | ⟨p1,p2,_⟩
   . rw [a2] at p1;cases p1
   . exact p2 a3
 . have hg:z'=z/\gtA (Q.map SV.pl) x.n.toNat=G:=by
    rcases a5 with ⟨r,_,b1,b2⟩ | ⟨b1,_,rfl,b2⟩
    . rcases hP with ⟨r2,p1,rfl⟩ | ⟨p1,_⟩
      . rw [b1] at p1;cases p1;exact⟨rfl,b2⟩
      . rw [b1] at p1;cases p1
    . rcases hP with ⟨r2,p1,_⟩ | ⟨_,_,rfl,rfl⟩
      . rw [b1] at p1;cases p1
      . exact⟨rfl,b2⟩
   obtain⟨rfl,hg⟩:=hg;exact⟨B,Q.length,m,Q.map SV.pl,rfl,⟨sown_kb q6 (Nat.le_trans h.lb (Nat.le_of_lt hlt)) hlt h.c.lt h.m.lt,q2,q3⟩,⟨a3,hg,a4⟩,q5⟩
theorem rel_no (h:TS x W T E cl mx tb ev) (h0:0<=x.n) (h4:x.n<4) (ht:TabA tb) (hP:(gtA tb x.n.toNat).2=[]/\(gtA tb x.n.toNat).1=2147483647) :
 Calls prog 161 #[.slice T.A T.n T.c,.int .i64 (8*x.n)] W λ ee w'=>∃ B N m z e,ee=.returned (.tuple #[.slice B N m,.int .i64 z,.int .i64 e])/\(e==0)=false/\Gr W w':=by
 obtain⟨L,hL,eL⟩:=h.tb W ⟨Nat.le_refl _,λ _ _ _ _ _ _=>rfl⟩;have b8:B64 (8*x.n):=⟨by omega,by omega⟩;refine (Release_own hL h.ot.1 h.ot.2 b8).mono ?_;rintro ee w' ⟨B,m,N,z',e,rfl,Q,rfl,q1,q2,q3,q4,q5,q6⟩;rw [m8 h0] at q4;rcases rel_cases ht eL (show x.n.toNat<4 by omega) q4 with ⟨a1,a2,a3⟩ | ⟨rfl,a3,a4,a5⟩
 . exact⟨B,Q.length,m,z',e,rfl,beq_eq_false_iff_ne.2 a1,q5⟩
 . exfalso
   rcases a5 with ⟨r,_,b1,_⟩ | ⟨_,b1,_⟩
   . rw [hP.1] at b1;cases b1
   . exact b1 hP.2
theorem ask_yes (h:TS x W T E cl mx tb ev) (hR:Rn x cl c pr) (h0:0<=x.n) (h4:x.n<4) (ht:TabA tb) (hP:AskP tb x.n.toNat x.who c.first is G) :
 Calls prog 104 #[.pointer (some ⟨x.b,0,none⟩)] W λ e W'=>e=.returned (.tuple #[])/\(∃ T2 tb2,TS x W' T2 E (cl.set x.who.toNat { c with told:=is,pc:=6 }) mx tb2 ev/\GotT tb tb2 x.n.toNat G)/\Kx x W W':=by
 have hc:=hR.hc;have CBc:=h.cb c (zmo hc);have H:=hid h;have ca:=hid (address_is (h.gr (zr W).dr) h0 h4);have cA:=hid (acq_yes (first:=c.first) (h.gr (zr W).dr) h0 h4 ht hP);obtain⟨-,-,-,-,c4,-,c6,c7,-,-,-,-⟩:=h.cells;obtain⟨-,-,-,-,-,-,s6,-,-,-,-,-,-,-⟩:=h.cl_ hc;clear h hP ht;go_enter func104,ntmps104;go_upto_region 0 with fail;refine wp_region_held_drew (S:=(λ w'=>w'.cell? ⟨x.b,7,none⟩=some (.pointer (some ⟨x.bc,x.oc+x.who.toNat*13,none⟩))/\w'.cell? ⟨x.b,6,none⟩=some (.int .i64 x.who)/\w'.cell? ⟨x.bc,x.oc+x.who.toNat*13+6,none⟩=some (.bool c.first))) (by kernel_rfl) ⟨c7,c6,s6⟩ (λ hS=>?_);refine wG 0 hS ?_;refine wG 1 hS ?_;refine wG 2 hS ?_;refine wG 3 hS ?_;refine wG 4 hS ?_;refine wG 5 hS ?_;refine wG 6 hS ?_;refine wG 7 hS ?_;refine wG 8 hS ?_;refine wG 10 hS ?_;refine wG 12 hS ?_;refine wG 13 hS ?_;refine wG 14 hS ?_;refine wG 15 hS ?_;refine wG 16 hS ?_;refine wG 17 hS ?_;refine wG 18 hS ?_;refine wG 19 hS ?_;refine wG 20 hS ?_;refine wG 21 hS ?_;refine wG 22 hS ?_;refine wR2 9 11 (λ K hK=>?_) (λ K hK=>?_)
 . skip
   go_simp;refine hK.out _ _ ⟨c7,c6,s6⟩ (λ hS=>?_);clear hK K
   try simp only [pL]
   refine wR1 11 (λ K hK=>?_);go_simp;go_at_call 151;refine ca.out.mono ?_;rintro ee w2 ⟨rfl,rfl⟩;go_wp2_with fail;refine hK.out _ _ ⟨c7,c6,s6⟩ (λ hS=>?_);clear hK K
   try simp only [pL]
   refine wR1 23 (λ K hK=>?_);go_simp;go_at_call 150;refine cA.out.mono ?_;rintro ee w3 ⟨B,N,m,tb2,rfl,q1,q2,g3⟩;go_wp2_with fail;have G3:=hid ((zr W).dr.trans g3);have Q1:=hid q1;have Q2:=hid q2;clear q1 q2 g3;have h3:=H.out.gr G3.out;obtain⟨-,-,-,-,d4,-,d6,d7,-,-,-,cz⟩:=h3.cells;have zd4:=cz 4 (by decide);clear cz;obtain⟨-,-,-,-,-,-,t6,t7,-,-,-,-,-,sz⟩:=h3.cl_ hc;have y7:=sz 7 (by decide);clear sz;have n1:=h3.n1;have n1':=h3.n1.symm;clear h3;refine hK.out _ _ ⟨d7,d6,t6⟩ (λ hS=>?_);clear hK K
   try simp only [pL]
   refine wG 24 hS ?_;refine wG 25 hS ?_;refine wG 26 hS ?_;refine wR1 27 (λ K hK=>?_);go_simp;go_at_call 149;refine (bothSB_yes _ _ _ _ _).mono ?_;rintro ee w4 ⟨rfl,rfl⟩;go_wp2_with fail;refine hK.out _ _ ⟨d7,d6,t6⟩ (λ hS=>?_);clear hK K
   try simp only [pL]
   refine wG 28 hS ?_;refine wG 29 hS ?_;refine wG 30 hS ?_;refine wG 31 hS ?_;refine wG 32 hS ?_;refine wG 33 hS ?_;refine wR1 34 (λ K hK=>?_);go_simp;have h4':=(H.out.gr G3.out).putT (U:=⟨B,N,m⟩) Q1.out.1 Q1.out.2;have e7:=h4'.cells.2.2.2.2.2.2.2.1;have e6:=h4'.cells.2.2.2.2.2.2.1;have u6:=(h4'.cl_ hc).2.2.2.2.2.2.1;have H4:=hid h4';clear h4';refine hK.out _ _ ⟨e7,e6,u6⟩ (λ hS=>?_);clear hK K
   try simp only [pL]
   refine wG 35 hS ?_;refine wG 36 hS ?_;refine wR1 37 (λ K hK=>?_);go_simp;have h5:=H4.out.putC hc 7 (.bool is) { c with told:=is } rfl (by decide) { CBc with };have hc5:(cl.set x.who.toNat { c with told:=is })[x.who.toNat]?=some { c with told:=is }:=by rw [zss (zgl hc)]
   have f7:=h5.cells.2.2.2.2.2.2.2.1;have f6:=h5.cells.2.2.2.2.2.2.1;have v6:=(h5.cl_ hc5).2.2.2.2.2.2.1;have H5:=hid h5;clear h5;refine hK.out _ _ ⟨f7,f6,v6⟩ (λ hS=>?_);clear hK K
   try simp only [pL]
   refine wpAnyH_done (by kernel_rfl) ?_ _;have H6:Hid (TS x ((w4.setCell ⟨x.b,4,none⟩ (.slice B N m)).setCell ⟨x.bc,x.oc+x.who.toNat*13+7,none⟩ (.bool is)) ⟨B,N,m⟩ E (cl.set x.who.toNat { c with told:=is }) mx tb2 ev):=H5;have K6:Hid (Kx x W ((w4.setCell ⟨x.b,4,none⟩ (.slice B N m)).setCell ⟨x.bc,x.oc+x.who.toNat*13+7,none⟩ (.bool is))):=hid (((Kx.gr G3.out).trans (Kx.st (.inl rfl) _)).trans (Kx.st (.inr (.inl rfl)) _));clear hS d7 d6 d4 t6 t7 e7 e6 u6 f7 f6 v6 H4 H5 c4 c6 c7 s6 y7 zd4 ca cA Q1 G3;generalize (w4.setCell ⟨x.b,4,none⟩ (.slice B N m)).setCell ⟨x.bc,x.oc+x.who.toNat*13+7,none⟩ (.bool is)=w6 at H6 K6 ⊢;have h6:=H6.out;obtain⟨-,-,-,-,-,-,-,c7,-,-,-,-⟩:=h6.cells;obtain⟨-,-,-,s3,-,-,-,-,-,-,-,-,-,sz⟩:=h6.cl_ hc5;have y3:=sz 3 (by decide);clear sz;dsimp only at s3;clear h6;rename_i hh;clear hh;go_wp2_with fail
   (first | go_end0 | ((try simp only [Exit.inBlock,Exit.then]);refine bodyPost_ret (results_none rfl _ _ _) rfl ?_))
   have h7:=H6.out.putC2 hc 3 (.int .i64 6) { c with told:=is,pc:=6 } rfl (by decide) { CBc with pc:=(show B64 6 from ⟨by omega,by omega⟩) };exact⟨rfl,⟨_,_,h7,Q2.out⟩,K6.out.trans (Kx.st (.inr (.inl rfl)) _)⟩
 . skip
   go_simp;go_at_call 151;refine ca.out.mono ?_;rintro ee w2 ⟨rfl,rfl⟩;go_wp2_with fail;refine hK.out _ _ ⟨c7,c6,s6⟩ (λ hS=>?_);clear hK K
   try simp only [pL]
   refine wR1 9 (λ K hK=>?_);go_simp;refine hK.out _ _ ⟨c7,c6,s6⟩ (λ hS=>?_);clear hK K
   try simp only [pL]
   refine wR1 23 (λ K hK=>?_);go_simp;go_at_call 150;refine cA.out.mono ?_;rintro ee w3 ⟨B,N,m,tb2,rfl,q1,q2,g3⟩;go_wp2_with fail;have G3:=hid ((zr W).dr.trans g3);have Q1:=hid q1;have Q2:=hid q2;clear q1 q2 g3;have h3:=H.out.gr G3.out;obtain⟨-,-,-,-,d4,-,d6,d7,-,-,-,cz⟩:=h3.cells;have zd4:=cz 4 (by decide);clear cz;obtain⟨-,-,-,-,-,-,t6,t7,-,-,-,-,-,sz⟩:=h3.cl_ hc;have y7:=sz 7 (by decide);clear sz;have n1:=h3.n1;have n1':=h3.n1.symm;clear h3;refine hK.out _ _ ⟨d7,d6,t6⟩ (λ hS=>?_);clear hK K
   try simp only [pL]
   refine wG 24 hS ?_;refine wG 25 hS ?_;refine wG 26 hS ?_;refine wR1 27 (λ K hK=>?_);go_simp;go_at_call 149;refine (bothSB_yes _ _ _ _ _).mono ?_;rintro ee w4 ⟨rfl,rfl⟩;go_wp2_with fail;refine hK.out _ _ ⟨d7,d6,t6⟩ (λ hS=>?_);clear hK K
   try simp only [pL]
   refine wG 28 hS ?_;refine wG 29 hS ?_;refine wG 30 hS ?_;refine wG 31 hS ?_;refine wG 32 hS ?_;refine wG 33 hS ?_;refine wR1 34 (λ K hK=>?_);go_simp;have h4':=(H.out.gr G3.out).putT (U:=⟨B,N,m⟩) Q1.out.1 Q1.out.2;have e7:=h4'.cells.2.2.2.2.2.2.2.1;have e6:=h4'.cells.2.2.2.2.2.2.1;have u6:=(h4'.cl_ hc).2.2.2.2.2.2.1;have H4:=hid h4';clear h4';refine hK.out _ _ ⟨e7,e6,u6⟩ (λ hS=>?_);clear hK K
   try simp only [pL]
   refine wG 35 hS ?_;refine wG 36 hS ?_;refine wR1 37 (λ K hK=>?_);go_simp;have h5:=H4.out.putC hc 7 (.bool is) { c with told:=is } rfl (by decide) { CBc with };have hc5:(cl.set x.who.toNat { c with told:=is })[x.who.toNat]?=some { c with told:=is }:=by rw [zss (zgl hc)]
   have f7:=h5.cells.2.2.2.2.2.2.2.1;have f6:=h5.cells.2.2.2.2.2.2.1;have v6:=(h5.cl_ hc5).2.2.2.2.2.2.1;have H5:=hid h5;clear h5;refine hK.out _ _ ⟨f7,f6,v6⟩ (λ hS=>?_);clear hK K
   try simp only [pL]
   refine wpAnyH_done (by kernel_rfl) ?_ _;have H6:Hid (TS x ((w4.setCell ⟨x.b,4,none⟩ (.slice B N m)).setCell ⟨x.bc,x.oc+x.who.toNat*13+7,none⟩ (.bool is)) ⟨B,N,m⟩ E (cl.set x.who.toNat { c with told:=is }) mx tb2 ev):=H5;have K6:Hid (Kx x W ((w4.setCell ⟨x.b,4,none⟩ (.slice B N m)).setCell ⟨x.bc,x.oc+x.who.toNat*13+7,none⟩ (.bool is))):=hid (((Kx.gr G3.out).trans (Kx.st (.inl rfl) _)).trans (Kx.st (.inr (.inl rfl)) _));clear hS d7 d6 d4 t6 t7 e7 e6 u6 f7 f6 v6 H4 H5 c4 c6 c7 s6 y7 zd4 ca cA Q1 G3;generalize (w4.setCell ⟨x.b,4,none⟩ (.slice B N m)).setCell ⟨x.bc,x.oc+x.who.toNat*13+7,none⟩ (.bool is)=w6 at H6 K6 ⊢;have h6:=H6.out;obtain⟨-,-,-,-,-,-,-,c7,-,-,-,-⟩:=h6.cells;obtain⟨-,-,-,s3,-,-,-,-,-,-,-,-,-,sz⟩:=h6.cl_ hc5;have y3:=sz 3 (by decide);clear sz;dsimp only at s3;clear h6;rename_i hh;clear hh;go_wp2_with fail
   (first | go_end0 | ((try simp only [Exit.inBlock,Exit.then]);refine bodyPost_ret (results_none rfl _ _ _) rfl ?_))
   have h7:=H6.out.putC2 hc 3 (.int .i64 6) { c with told:=is,pc:=6 } rfl (by decide) { CBc with pc:=(show B64 6 from ⟨by omega,by omega⟩) };exact⟨rfl,⟨_,_,h7,Q2.out⟩,K6.out.trans (Kx.st (.inr (.inl rfl)) _)⟩
theorem ask_no (h:TS x W T E cl mx tb ev) (hR:Rn x cl c pr) (h0:0<=x.n) (h4:x.n<4) (ht:TabA tb) (hP:x.who∈(gtA tb x.n.toNat).2\/(¬ 0<(gtA tb x.n.toNat).1/\64<=(gtA tb x.n.toNat).2.length)) :
 Calls prog 104 #[.pointer (some ⟨x.b,0,none⟩)] W λ e W'=>e=.panicked (pan 12)/\Kx x W W':=by
 have hc:=hR.hc;have H:=hid h;have ca:=hid (address_is (h.gr (zr W).dr) h0 h4);have cA:=hid (acq_no (first:=c.first) (h.gr (zr W).dr) h0 h4 ht hP);obtain⟨-,-,-,-,c4,-,c6,c7,-,-,-,-⟩:=h.cells;obtain⟨-,-,-,-,-,-,s6,-,-,-,-,-,-,-⟩:=h.cl_ hc;clear h hP ht;go_enter func104,ntmps104;go_upto_region 0 with fail;refine wp_region_held_drew (S:=(λ w'=>w'.cell? ⟨x.b,7,none⟩=some (.pointer (some ⟨x.bc,x.oc+x.who.toNat*13,none⟩))/\w'.cell? ⟨x.b,6,none⟩=some (.int .i64 x.who)/\w'.cell? ⟨x.bc,x.oc+x.who.toNat*13+6,none⟩=some (.bool c.first))) (by kernel_rfl) ⟨c7,c6,s6⟩ (λ hS=>?_);refine wG 0 hS ?_;refine wG 1 hS ?_;refine wG 2 hS ?_;refine wG 3 hS ?_;refine wG 4 hS ?_;refine wG 5 hS ?_;refine wG 6 hS ?_;refine wG 7 hS ?_;refine wG 8 hS ?_;refine wG 10 hS ?_;refine wG 12 hS ?_;refine wG 13 hS ?_;refine wG 14 hS ?_;refine wG 15 hS ?_;refine wG 16 hS ?_;refine wG 17 hS ?_;refine wG 18 hS ?_;refine wG 19 hS ?_;refine wG 20 hS ?_;refine wG 21 hS ?_;refine wG 22 hS ?_;refine wR2 9 11 (λ K hK=>?_) (λ K hK=>?_)
 . skip
   go_simp;refine hK.out _ _ ⟨c7,c6,s6⟩ (λ hS=>?_);clear hK K
   try simp only [pL]
   refine wR1 11 (λ K hK=>?_);go_simp;go_at_call 151;refine ca.out.mono ?_;rintro ee w2 ⟨rfl,rfl⟩;go_wp2_with fail;refine hK.out _ _ ⟨c7,c6,s6⟩ (λ hS=>?_);clear hK K
   try simp only [pL]
   refine wR1 23 (λ K hK=>?_);go_simp;go_at_call 150;refine cA.out.mono ?_;rintro ee w3 ⟨B,N,m,e,rfl,q1,g3⟩;go_wp2_with fail;have G3:=hid ((zr W).dr.trans g3);have Q1:=hid q1;clear q1 g3;have h3:=H.out.gr G3.out;obtain⟨-,-,-,-,-,-,d6,d7,-,-,-,-⟩:=h3.cells;obtain⟨-,-,-,-,-,-,t6,-,-,-,-,-,-,-⟩:=h3.cl_ hc;clear h3;refine hK.out _ _ ⟨d7,d6,t6⟩ (λ hS=>?_);clear hK K
   try simp only [pL]
   refine wG 24 hS ?_;refine wG 25 hS ?_;refine wG 26 hS ?_;refine wR1 27 (λ K hK=>?_);go_simp;go_at_call 149;refine (bothSB_no _ _ _ _ Q1.out _).mono ?_;rintro ee w4 ⟨rfl,rfl⟩;exact bodyPost_pan rfl ⟨rfl,Kx.gr G3.out⟩
 . skip
   go_simp;go_at_call 151;refine ca.out.mono ?_;rintro ee w2 ⟨rfl,rfl⟩;go_wp2_with fail;refine hK.out _ _ ⟨c7,c6,s6⟩ (λ hS=>?_);clear hK K
   try simp only [pL]
   refine wR1 9 (λ K hK=>?_);go_simp;refine hK.out _ _ ⟨c7,c6,s6⟩ (λ hS=>?_);clear hK K
   try simp only [pL]
   refine wR1 23 (λ K hK=>?_);go_simp;go_at_call 150;refine cA.out.mono ?_;rintro ee w3 ⟨B,N,m,e,rfl,q1,g3⟩;go_wp2_with fail;have G3:=hid ((zr W).dr.trans g3);have Q1:=hid q1;clear q1 g3;have h3:=H.out.gr G3.out;obtain⟨-,-,-,-,-,-,d6,d7,-,-,-,-⟩:=h3.cells;obtain⟨-,-,-,-,-,-,t6,-,-,-,-,-,-,-⟩:=h3.cl_ hc;clear h3;refine hK.out _ _ ⟨d7,d6,t6⟩ (λ hS=>?_);clear hK K
   try simp only [pL]
   refine wG 24 hS ?_;refine wG 25 hS ?_;refine wG 26 hS ?_;refine wR1 27 (λ K hK=>?_);go_simp;go_at_call 149;refine (bothSB_no _ _ _ _ Q1.out _).mono ?_;rintro ee w4 ⟨rfl,rfl⟩;exact bodyPost_pan rfl ⟨rfl,Kx.gr G3.out⟩
end
end P16
end
section
namespace P16
open P14 (pan)
open P12 (PV PMem)
section
variable {x:Cx} {W:World} {T E:Sl} {cl:List Cl} {mx:List T3} {tb:List Sp} {ev:List T3} {c:Cl} {a:T3} {pr:List Ac}
variable {is:Bool} {G:Int×List Int} {tb2:List Sp}
theorem grant_full (h:TS x W T E cl mx tb ev) (h0:0<=x.n) (h4:x.n<4) (ht:TabA tb) (hP:(gtA tb x.n.toNat).2=[]/\(gtA tb x.n.toNat).1=2147483647) :
 Calls prog 113 #[.pointer (some ⟨x.b,0,none⟩)] W λ e W'=>e=.panicked (pan 12)/\Kx x W W':=by
 have H:=hid h;have ca:=hid (address_is (h.gr (zr W).dr) h0 h4);have cA:=hid (rel_no (h.gr (zr W).dr) h0 h4 ht hP);obtain⟨-,-,-,-,c4,-,-,-,-,-,-,-⟩:=h.cells;clear h hP ht;go_enter func113,ntmps113;go_upto_region 0 with fail;refine wp_region_held_drew (S:=(λ w'=>w'.cell? ⟨x.b,4,none⟩=some (.slice T.A T.n T.c))) (by kernel_rfl) c4 (λ hS=>?_);refine wG 0 hS ?_;refine wG 1 hS ?_;refine wG 2 hS ?_;refine wG 3 hS ?_;refine wG 4 hS ?_;refine wG 5 hS ?_;refine wR1 6 (λ K hK=>?_);go_simp;go_at_call 151;refine ca.out.mono ?_;rintro ee w2 ⟨rfl,rfl⟩;go_wp2_with fail;refine hK.out _ _ c4 (λ hS=>?_);clear hK K
 try simp only [pL]
 refine wR1 7 (λ K hK=>?_);go_simp;go_at_call 161;refine cA.out.mono ?_;rintro ee w3 ⟨B,N,m,z,e,rfl,q1,g3⟩;go_wp2_with fail;have G3:=hid ((zr W).dr.trans g3);have Q1:=hid q1;clear q1 g3;have d4:=(H.out.gr G3.out).cells.2.2.2.2.1;refine hK.out _ _ d4 (λ hS=>?_);clear hK K
 try simp only [pL]
 refine wG 8 hS ?_;refine wG 9 hS ?_;refine wG 10 hS ?_;refine wR1 11 (λ K hK=>?_);go_simp;go_at_call 160;refine (bothSI_no _ _ _ _ Q1.out _).mono ?_;rintro ee w4 ⟨rfl,rfl⟩;exact bodyPost_pan rfl ⟨rfl,Kx.gr G3.out⟩
theorem grant_more (h:TS x W T E cl mx tb ev) (hR:Rn x cl c pr) (h0:0<=x.n) (h4:x.n<4) (ht:TabA tb) (hl:(gtA tb x.n.toNat).2=[]) (hm:(gtA tb x.n.toNat).1≠2147483647) :
 Calls prog 113 #[.pointer (some ⟨x.b,0,none⟩)] W λ e W'=>e=.returned (.tuple #[])/\(∃ T2 tb2,TS x W' T2 E (cl.set x.who.toNat { c with pc:=15 }) mx tb2 ev/\GotT tb tb2 x.n.toNat ((gtA tb x.n.toNat).1+1,[]))/\Kx x W W':=by
 have hc:=hR.hc;have H:=hid h;have ca:=hid (address_is (h.gr (zr W).dr) h0 h4);have cA:=hid (rel_yes (h.gr (zr W).dr) h0 h4 ht (.inr ⟨hl,hm,rfl,rfl⟩));obtain⟨-,-,-,-,c4,-,-,-,-,-,-,-⟩:=h.cells;clear h hl hm ht;go_enter func113,ntmps113;go_upto_region 0 with fail;refine wp_region_held_drew (S:=(λ w'=>w'.cell? ⟨x.b,4,none⟩=some (.slice T.A T.n T.c))) (by kernel_rfl) c4 (λ hS=>?_);refine wG 0 hS ?_;refine wG 1 hS ?_;refine wG 2 hS ?_;refine wG 3 hS ?_;refine wG 4 hS ?_;refine wG 5 hS ?_;refine wR1 6 (λ K hK=>?_);go_simp;go_at_call 151;refine ca.out.mono ?_;rintro ee w2 ⟨rfl,rfl⟩;go_wp2_with fail;refine hK.out _ _ c4 (λ hS=>?_);clear hK K
 try simp only [pL]
 refine wR1 7 (λ K hK=>?_);go_simp;go_at_call 161;refine cA.out.mono ?_;rintro ee w3 ⟨B,N,m,tb2,rfl,q1,q2,g3⟩;go_wp2_with fail;have G3:=hid ((zr W).dr.trans g3);have Q1:=hid q1;have Q2:=hid q2;clear q1 q2 g3;have h3:=H.out.gr G3.out;obtain⟨-,-,-,-,d4,-,-,-,-,-,-,cz⟩:=h3.cells;have zd4:=cz 4 (by decide);clear cz;clear h3;refine hK.out _ _ d4 (λ hS=>?_);clear hK K
 try simp only [pL]
 refine wG 8 hS ?_;refine wG 9 hS ?_;refine wG 10 hS ?_;refine wR1 11 (λ K hK=>?_);go_simp;go_at_call 160;refine (bothSI_yes _ _ _ _ _).mono ?_;rintro ee w4 ⟨rfl,rfl⟩;go_wp2_with fail;refine hK.out _ _ d4 (λ hS=>?_);clear hK K
 try simp only [pL]
 refine wG 12 hS ?_;refine wG 13 hS ?_;refine wG 14 hS ?_;refine wG 15 hS ?_;refine wG 16 hS ?_;refine wpAnyH_done (by kernel_rfl) ?_ _;have H6:Hid (TS x (w4.setCell ⟨x.b,4,none⟩ (.slice B N m)) ⟨B,N,m⟩ E cl mx tb2 ev):=hid ((H.out.gr G3.out).putT (U:=⟨B,N,m⟩) Q1.out.1 Q1.out.2);have K6:Hid (Kx x W (w4.setCell ⟨x.b,4,none⟩ (.slice B N m))):=hid ((Kx.gr G3.out).trans (Kx.st (.inl rfl) _));go_upto_region 2 with fail;clear hS d4 zd4 c4 ca cA Q1 G3;generalize w4.setCell ⟨x.b,4,none⟩ (.slice B N m)=w6 at H6 K6 ⊢;have h6:=H6.out;obtain⟨-,-,-,-,-,-,-,c7,-,-,-,-⟩:=h6.cells;obtain⟨-,-,-,s3,-,-,-,-,-,-,-,-,-,sz⟩:=h6.cl_ hc;have y3:=sz 3 (by decide);clear sz;clear h6;go_wp2_with fail
 (first | go_end0 | ((try simp only [Exit.inBlock,Exit.then]);refine bodyPost_ret (results_none rfl _ _ _) rfl ?_))
 exact⟨rfl,⟨_,_,H6.out.putPc hc ⟨by omega,by omega⟩,Q2.out⟩,K6.out.trans (Kx.st (.inr (.inl rfl)) _)⟩
theorem grant_tell (h:TS x W T E cl mx tb ev) (hR:Rn x cl c pr) (h0:0<=x.n) (h4:x.n<4) (ht:TabA tb) {y:Int} {r:List Int} (hl:(gtA tb x.n.toNat).2=y::r) (y0:0<=y) {cy:Cl} (hy:cl[y.toNat]?=some cy) (hg:cy.gst≠2) (hp:cy.permit=false) :
 Calls prog 113 #[.pointer (some ⟨x.b,0,none⟩)] W λ e W'=>e=.returned (.tuple #[])/\(∃ T2 tb2 d,TS x W' T2 E ((cl.set y.toNat (withG cy (0,cy.gst==0))).set x.who.toNat { d with pc:=15 }) mx tb2 ev/\(cl.set y.toNat (withG cy (0,cy.gst==0)))[x.who.toNat]?=some d/\GotT tb tb2 x.n.toNat (0,r))/\Kx x W W':=by
 have hc:=hR.hc;have H:=hid h;have ca:=hid (address_is (h.gr (zr W).dr) h0 h4);have cA:=hid (rel_yes (h.gr (zr W).dr) h0 h4 ht (.inl ⟨r,hl,rfl⟩));have yn:(y==-1)=false:=beq_eq_false_iff_ne.2 (by omega);obtain⟨-,-,-,-,c4,-,-,-,-,-,-,-⟩:=h.cells;have E4:P11.outc P11.rdG (cl.map gor) y=(0,(cl.map gor).set y.toNat (0,cy.gst==0)):=by
  have q:=P11.outc_at (p:=P11.rdG) (k:=y.toNat) (x:=gor cy) hR.rg (by rw [List.getElem?_map,hy];rfl);rw [Int.toNat_of_nonneg y0] at q;have e:P11.rdG (gor cy)=(0,(0,cy.gst==0)):=by unfold P11.rdG;rw [if_neg (show ¬ (gor cy).1=2 from hg),if_neg (show ¬ (gor cy).2=true from by show ¬ cy.permit=true;rw [hp];decide)];rfl
  simpa [e] using q
 have bg:B64 (0:Int):=b64_0;obtain⟨g,hgg⟩:∃ g:P11.G,((0:Int),(cy.gst==0))=g:=⟨_,rfl⟩;have bg1:B64 g.1:=by rw [<- hgg];exact bg
 rw [hgg] at E4 ⊢;have n8:=hR.nc;have hlen:=h.lenc;clear h ht hl hg hp hgg;go_enter func113,ntmps113;go_upto_region 0 with fail;refine wp_region_held_drew (S:=(λ w'=>w'.cell? ⟨x.b,4,none⟩=some (.slice T.A T.n T.c))) (by kernel_rfl) c4 (λ hS=>?_);refine wG 0 hS ?_;refine wG 1 hS ?_;refine wG 2 hS ?_;refine wG 3 hS ?_;refine wG 4 hS ?_;refine wG 5 hS ?_;refine wR1 6 (λ K hK=>?_);go_simp;go_at_call 151;refine ca.out.mono ?_;rintro ee w2 ⟨rfl,rfl⟩;go_wp2_with fail;refine hK.out _ _ c4 (λ hS=>?_);clear hK K
 try simp only [pL]
 refine wR1 7 (λ K hK=>?_);go_simp;go_at_call 161;refine cA.out.mono ?_;rintro ee w3 ⟨B,N,m,tb2,rfl,q1,q2,g3⟩;go_wp2_with fail;have G3:=hid ((zr W).dr.trans g3);have Q1:=hid q1;have Q2:=hid q2;clear q1 q2 g3;have h3:=H.out.gr G3.out;obtain⟨-,-,-,-,d4,-,-,-,-,-,-,cz⟩:=h3.cells;have zd4:=cz 4 (by decide);clear cz;clear h3;refine hK.out _ _ d4 (λ hS=>?_);clear hK K
 try simp only [pL]
 refine wG 8 hS ?_;refine wG 9 hS ?_;refine wG 10 hS ?_;refine wR1 11 (λ K hK=>?_);go_simp;go_at_call 160;refine (bothSI_yes _ _ _ _ _).mono ?_;rintro ee w4 ⟨rfl,rfl⟩;go_wp2_with fail;refine hK.out _ _ d4 (λ hS=>?_);clear hK K
 try simp only [pL]
 refine wG 12 hS ?_;refine wG 13 hS ?_;refine wG 14 hS ?_;refine wG 15 hS ?_;refine wG 16 hS ?_;refine wpAnyH_done (by kernel_rfl) ?_ _;have H6:Hid (TS x (w4.setCell ⟨x.b,4,none⟩ (.slice B N m)) ⟨B,N,m⟩ E cl mx tb2 ev):=hid ((H.out.gr G3.out).putT (U:=⟨B,N,m⟩) Q1.out.1 Q1.out.2);have K6:Hid (Kx x W (w4.setCell ⟨x.b,4,none⟩ (.slice B N m))):=hid ((Kx.gr G3.out).trans (Kx.st (.inl rfl) _));go_upto_region 2 with fail;clear hS d4 zd4 c4 ca cA Q1 G3;generalize w4.setCell ⟨x.b,4,none⟩ (.slice B N m)=w6 at H6 K6 ⊢;have hcg:=hid (changeGor_yes (W:=w6) (who:=y) (enters_of func162 (by kernel_rfl) rfl) (p:=0) H6.out.cells.2.2.1 H6.out.n1 H6.out.c H6.out.lenc (by omega) H6.out.cb hy (λ W A m d hm he=>P11.Ready_at (by omega) E4 (by rw [List.length_set,List.length_map];exact hlen) W hm));go_wp2_with fail;refine hcg.out.mono ?_;rintro e w7 ⟨rfl,o7,k7⟩;have h7:=H6.out.ko k7 o7 (List.length_set ..) (λ d hd=>(List.mem_or_eq_of_mem_set hd).elim (H6.out.cb d) (λ e=>e▸{ H6.out.cb cy (zmo hy) with gst:=bg1 }));have K7:=hid (K6.out.trans k7.kx);obtain⟨d,hd⟩:∃ d,(cl.set y.toNat (withG cy g))[x.who.toNat]?=some d:=⟨_,zge (by rw [List.length_set];exact (zgl hc))⟩;have H7:=hid h7;obtain⟨-,-,-,-,-,-,-,c7,-,-,-,-⟩:=h7.cells;obtain⟨-,-,-,s3,-,-,-,-,-,-,-,-,-,sz⟩:=h7.cl_ hd;have y3:=sz 3 (by decide);clear sz;clear h7 o7 k7;go_wp2_with fail
 (first | go_end0 | ((try simp only [Exit.inBlock,Exit.then]);refine bodyPost_ret (results_none rfl _ _ _) rfl ?_))
 exact⟨rfl,⟨_,_,d,H7.out.putPc hd ⟨by omega,by omega⟩,hd,Q2.out⟩,K7.out.trans (Kx.st (.inr (.inl rfl)) _)⟩
theorem grant_bad (h:TS x W T E cl mx tb ev) (hR:Rn x cl c pr) (h0:0<=x.n) (h4:x.n<4) (ht:TabA tb) {y:Int} {r:List Int} (hl:(gtA tb x.n.toNat).2=y::r) (y0:0<=y) {cy:Cl} (hy:cl[y.toNat]?=some cy) (hb:cy.gst=2\/cy.permit=true) :
 Calls prog 113 #[.pointer (some ⟨x.b,0,none⟩)] W λ e W'=>e=.panicked (pan 12)/\Kx x W W':=by
 have hc:=hR.hc;have H:=hid h;have ca:=hid (address_is (h.gr (zr W).dr) h0 h4);have cA:=hid (rel_yes (h.gr (zr W).dr) h0 h4 ht (.inl ⟨r,hl,rfl⟩));have yn:(y==-1)=false:=beq_eq_false_iff_ne.2 (by omega);obtain⟨-,-,-,-,c4,-,-,-,-,-,-,-⟩:=h.cells;obtain⟨q,R,hq,E4⟩:∃ q R,(q==(0:Int))=false/\P11.outc P11.rdG (cl.map gor) y=(q,R):=by
  have q:=P11.outc_at (p:=P11.rdG) (k:=y.toNat) (x:=gor cy) hR.rg (by rw [List.getElem?_map,hy];rfl);rw [Int.toNat_of_nonneg y0] at q;by_cases h2:cy.gst=2
  . have e:P11.rdG (gor cy)=(6,gor cy):=if_pos h2
    exact⟨6,[],rfl,by simpa [e] using q⟩
  . have e:P11.rdG (gor cy)=(7,gor cy):=by unfold P11.rdG;rw [if_neg (show ¬ (gor cy).1=2 from h2),if_pos (show (gor cy).2=true from hb.resolve_left h2)]
    exact⟨7,[],rfl,by simpa [e] using q⟩
 have n8:=hR.nc;have hlen:=h.lenc;clear h ht hl hb;go_enter func113,ntmps113;go_upto_region 0 with fail;refine wp_region_held_drew (S:=(λ w'=>w'.cell? ⟨x.b,4,none⟩=some (.slice T.A T.n T.c))) (by kernel_rfl) c4 (λ hS=>?_);refine wG 0 hS ?_;refine wG 1 hS ?_;refine wG 2 hS ?_;refine wG 3 hS ?_;refine wG 4 hS ?_;refine wG 5 hS ?_;refine wR1 6 (λ K hK=>?_);go_simp;go_at_call 151;refine ca.out.mono ?_;rintro ee w2 ⟨rfl,rfl⟩;go_wp2_with fail;refine hK.out _ _ c4 (λ hS=>?_);clear hK K
 try simp only [pL]
 refine wR1 7 (λ K hK=>?_);go_simp;go_at_call 161;refine cA.out.mono ?_;rintro ee w3 ⟨B,N,m,tb2,rfl,q1,q2,g3⟩;go_wp2_with fail;have G3:=hid ((zr W).dr.trans g3);have Q1:=hid q1;have Q2:=hid q2;clear q1 q2 g3;have h3:=H.out.gr G3.out;obtain⟨-,-,-,-,d4,-,-,-,-,-,-,cz⟩:=h3.cells;have zd4:=cz 4 (by decide);clear cz;clear h3;refine hK.out _ _ d4 (λ hS=>?_);clear hK K
 try simp only [pL]
 refine wG 8 hS ?_;refine wG 9 hS ?_;refine wG 10 hS ?_;refine wR1 11 (λ K hK=>?_);go_simp;go_at_call 160;refine (bothSI_yes _ _ _ _ _).mono ?_;rintro ee w4 ⟨rfl,rfl⟩;go_wp2_with fail;refine hK.out _ _ d4 (λ hS=>?_);clear hK K
 try simp only [pL]
 refine wG 12 hS ?_;refine wG 13 hS ?_;refine wG 14 hS ?_;refine wG 15 hS ?_;refine wG 16 hS ?_;refine wpAnyH_done (by kernel_rfl) ?_ _;have H6:Hid (TS x (w4.setCell ⟨x.b,4,none⟩ (.slice B N m)) ⟨B,N,m⟩ E cl mx tb2 ev):=hid ((H.out.gr G3.out).putT (U:=⟨B,N,m⟩) Q1.out.1 Q1.out.2);have K6:Hid (Kx x W (w4.setCell ⟨x.b,4,none⟩ (.slice B N m))):=hid ((Kx.gr G3.out).trans (Kx.st (.inl rfl) _));go_upto_region 2 with fail;clear hS d4 zd4 c4 ca cA Q1 G3;generalize w4.setCell ⟨x.b,4,none⟩ (.slice B N m)=w6 at H6 K6 ⊢;have hcg:=hid (changeGor_no (W:=w6) (who:=y) (enters_of func162 (by kernel_rfl) rfl) (p:=0) H6.out.cells.2.2.1 H6.out.c H6.out.lenc (by omega) H6.out.cb (λ W A m d hm he=>P11.Ready_at (by omega) E4 rfl W hm) hq);go_wp2_with fail;refine hcg.out.mono ?_;rintro e w7 ⟨rfl,g7⟩;go_wp2_with fail;exact bodyPost_pan rfl ⟨rfl,K6.out.trans (Kx.gr g7)⟩
end
end P16
end
section
namespace P16
open P14 (pan)
open P12 (PV PMem)
section
variable {x:Cx} {W:World} {T E:Sl} {cl:List Cl} {mx:List T3} {tb:List Sp} {ev:List T3} {c:Cl} {a:T3} {pr:List Ac}
theorem take_none (h:TS x W T ⟨none,0,0⟩ cl mx tb []) (hR:Rn x cl c pr) (h0:0<=x.n) (h4:x.n<4) (ha:mx[x.n.toNat]?=some a) (hO:OwnR c) (hd:hands c=none) :
 Calls prog 107 #[.pointer (some ⟨x.b,0,none⟩)] W λ e W'=>e=.panicked (pan 12)/\Kx x W W':=by
 have hc:=hR.hc;have H:=hid h;have cm:=λ W' (g:Gr W W')=>hid (mutex_is (h.gr g) h0 h4)
 have ch:=λ W=>hid (Handed_x hO hd W)
 obtain⟨-,-,-,-,-,-,-,pc7,-,-,-,-⟩:=h.cells;obtain⟨-,-,-,-,-,-,-,-,ps8,ps9,ps10,ps11,ps12,-⟩:=h.cl_ hc;obtain⟨pm0,-,-,-⟩:=h.mx_ ha;clear h hd;go_enter func107,ntmps107;go_upto_region 0 with fail;refine wp_region_held_drew (S:=(λ w'=>w'.cell? ⟨x.b,7,none⟩=some (.pointer (some ⟨x.bc,x.oc+x.who.toNat*13,none⟩))/\w'.cell? ⟨x.bc,x.oc+x.who.toNat*13+8,none⟩=some (.int .i64 c.since)/\w'.cell? ⟨x.bc,x.oc+x.who.toNat*13+8+1,none⟩=some (.bool c.st)/\w'.cell? ⟨x.bc,x.oc+x.who.toNat*13+8+2,none⟩=some (.bool c.aw)/\w'.cell? ⟨x.bc,x.oc+x.who.toNat*13+8+3,none⟩=some (.int .i64 c.rounds)/\w'.cell? ⟨x.bc,x.oc+x.who.toNat*13+8+4,none⟩=some (.int .i64 c.old))) (by kernel_rfl) ⟨pc7,ps8,ps9,ps10,ps11,ps12⟩ (λ hS=>?_);refine wG 0 hS ?_;refine wG 1 hS ?_;refine wG 6 hS ?_;refine wG 7 hS ?_;refine wG 8 hS ?_;refine wG 9 hS ?_;refine wG 10 hS ?_;refine wG 11 hS ?_;refine wG 12 hS ?_;refine wR1 2 (λ K hK=>?_);go_simp;go_at_call 132;refine (cm _ ((zr W).dr)).out.mono ?_;rintro ee w2 ⟨rfl,d,rfl⟩;go_wp2_with fail;refine hK.out _ _ ⟨pc7,ps8,ps9,ps10,ps11,ps12⟩ (λ hS=>?_);clear hK K
 try simp only [pL]
 refine wG 3 hS ?_;refine wG 4 hS ?_;refine wR2 5 13 (λ K hK=>?_) (λ K hK=>?_)
 . skip
   go_simp;refine hK.out _ _ ⟨pc7,ps8,ps9,ps10,ps11,ps12⟩ (λ hS=>?_);clear hK K
   try simp only [pL]
   refine wR1 13 (λ K hK=>?_);go_simp;go_at_call 155;refine (ch _).out.mono ?_;rintro ee w3 ⟨rfl,g3⟩;go_wp2_with fail;have G3:=hid (((zr W).drN (1+d)).trans g3);have h3:=H.out.gr G3.out;obtain⟨-,-,-,-,-,-,-,qc7,-,-,-,-⟩:=h3.cells;obtain⟨-,-,-,-,-,-,-,-,qs8,qs9,qs10,qs11,qs12,-⟩:=h3.cl_ hc;obtain⟨qm0,-,-,-⟩:=h3.mx_ ha;clear g3 h3;refine hK.out _ _ ⟨qc7,qs8,qs9,qs10,qs11,qs12⟩ (λ hS=>?_);clear hK K
   try simp only [pL]
   refine wG 14 hS ?_;refine wG 15 hS ?_;refine wR1 16 (λ K hK=>?_);go_simp;go_at_call 141;refine (sureI_no _ (by decide) _).mono ?_;rintro ee w4 ⟨rfl,rfl⟩;exact bodyPost_pan rfl ⟨rfl,Kx.gr G3.out⟩
 . skip
   go_simp;go_at_call 155;refine (ch _).out.mono ?_;rintro ee w3 ⟨rfl,g3⟩;go_wp2_with fail;have G3:=hid (((zr W).drN (1+d)).trans g3);have h3:=H.out.gr G3.out;obtain⟨-,-,-,-,-,-,-,qc7,-,-,-,-⟩:=h3.cells;obtain⟨-,-,-,-,-,-,-,-,qs8,qs9,qs10,qs11,qs12,-⟩:=h3.cl_ hc;obtain⟨qm0,-,-,-⟩:=h3.mx_ ha;clear g3 h3;refine hK.out _ _ ⟨qc7,qs8,qs9,qs10,qs11,qs12⟩ (λ hS=>?_);clear hK K
   try simp only [pL]
   refine wG 14 hS ?_;refine wG 15 hS ?_;refine wR2 5 16 (λ K hK=>?_) (λ K hK=>?_)
   . skip
     go_simp;refine hK.out _ _ ⟨qc7,qs8,qs9,qs10,qs11,qs12⟩ (λ hS=>?_);clear hK K
     try simp only [pL]
     refine wR1 16 (λ K hK=>?_);go_simp;go_at_call 141;refine (sureI_no _ (by decide) _).mono ?_;rintro ee w4 ⟨rfl,rfl⟩;exact bodyPost_pan rfl ⟨rfl,Kx.gr G3.out⟩
   . skip
     go_simp;go_at_call 141;refine (sureI_no _ (by decide) _).mono ?_;rintro ee w4 ⟨rfl,rfl⟩;exact bodyPost_pan rfl ⟨rfl,Kx.gr G3.out⟩
theorem take_bad (h:TS x W T ⟨none,0,0⟩ cl mx tb []) (hR:Rn x cl c pr) (h0:0<=x.n) (h4:x.n<4) (ha:mx[x.n.toNat]?=some a) (hO:OwnR c) {z:Int} (hd:hands c=some z) (hk:OkW a.1) (hz:-11<=z/\z<=-7) (hv:¬ OkW (a.1+z)) :
 Calls prog 107 #[.pointer (some ⟨x.b,0,none⟩)] W λ e W'=>e=.panicked (pan 12)/\Kx x W W':=by
 have hc:=hR.hc;have H:=hid h;have cm:=λ W' (g:Gr W W')=>hid (mutex_is (h.gr g) h0 h4)
 have ch:=λ W=>hid (Handed_c hO hd W)
 obtain⟨-,-,-,-,-,-,-,pc7,-,-,-,-⟩:=h.cells;obtain⟨-,-,-,-,-,-,-,-,ps8,ps9,ps10,ps11,ps12,-⟩:=h.cl_ hc;obtain⟨pm0,-,-,-⟩:=h.mx_ ha;obtain⟨v,hvv⟩:∃ v,a.1+z=v:=⟨_,rfl⟩;have ew:IntKind.i64.wrap (a.1+z)=v:=by rw [IntWalk.i64_left];unfold OkW at hk;unfold wrap64;omega
 rw [hvv] at hv;have ew2:wrap64 (a.1+z)=v:=by rw [<- IntWalk.i64_left];exact ew
 clear hvv hk hz;clear h hd;go_enter func107,ntmps107;go_upto_region 0 with fail;refine wp_region_held_drew (S:=(λ w'=>w'.cell? ⟨x.b,7,none⟩=some (.pointer (some ⟨x.bc,x.oc+x.who.toNat*13,none⟩))/\w'.cell? ⟨x.bc,x.oc+x.who.toNat*13+8,none⟩=some (.int .i64 c.since)/\w'.cell? ⟨x.bc,x.oc+x.who.toNat*13+8+1,none⟩=some (.bool c.st)/\w'.cell? ⟨x.bc,x.oc+x.who.toNat*13+8+2,none⟩=some (.bool c.aw)/\w'.cell? ⟨x.bc,x.oc+x.who.toNat*13+8+3,none⟩=some (.int .i64 c.rounds)/\w'.cell? ⟨x.bc,x.oc+x.who.toNat*13+8+4,none⟩=some (.int .i64 c.old))) (by kernel_rfl) ⟨pc7,ps8,ps9,ps10,ps11,ps12⟩ (λ hS=>?_);refine wG 0 hS ?_;refine wG 1 hS ?_;refine wG 6 hS ?_;refine wG 7 hS ?_;refine wG 8 hS ?_;refine wG 9 hS ?_;refine wG 10 hS ?_;refine wG 11 hS ?_;refine wG 12 hS ?_;refine wR1 2 (λ K hK=>?_);go_simp;go_at_call 132;refine (cm _ ((zr W).dr)).out.mono ?_;rintro ee w2 ⟨rfl,d,rfl⟩;go_wp2_with fail;refine hK.out _ _ ⟨pc7,ps8,ps9,ps10,ps11,ps12⟩ (λ hS=>?_);clear hK K
 try simp only [pL]
 refine wG 3 hS ?_;refine wG 4 hS ?_;refine wR2 5 13 (λ K hK=>?_) (λ K hK=>?_)
 . skip
   go_simp;refine hK.out _ _ ⟨pc7,ps8,ps9,ps10,ps11,ps12⟩ (λ hS=>?_);clear hK K
   try simp only [pL]
   refine wR1 13 (λ K hK=>?_);go_simp;go_at_call 155;refine (ch _).out.mono ?_;rintro ee w3 ⟨rfl,g3⟩;go_wp2_with fail;have G3:=hid (((zr W).drN (1+d)).trans g3);have h3:=H.out.gr G3.out;obtain⟨-,-,-,-,-,-,-,qc7,-,-,-,-⟩:=h3.cells;obtain⟨-,-,-,-,-,-,-,-,qs8,qs9,qs10,qs11,qs12,-⟩:=h3.cl_ hc;obtain⟨qm0,-,-,-⟩:=h3.mx_ ha;clear g3 h3;refine hK.out _ _ ⟨qc7,qs8,qs9,qs10,qs11,qs12⟩ (λ hS=>?_);clear hK K
   try simp only [pL]
   refine wG 14 hS ?_;refine wG 15 hS ?_;refine wR1 16 (λ K hK=>?_);go_simp;go_at_call 141;refine (sureI_yes _ _).mono ?_;rintro ee w4 ⟨rfl,rfl⟩;go_wp2_with fail;refine hK.out _ _ ⟨qc7,qs8,qs9,qs10,qs11,qs12⟩ (λ hS=>?_);clear hK K
   try simp only [pL]
   refine wG 17 hS ?_;refine wR1 18 (λ K hK=>?_);go_simp;go_at_call 133;refine (put_no hv _ _).mono ?_;rintro ee w5 ⟨rfl,g5⟩;exact bodyPost_pan rfl ⟨rfl,Kx.gr (G3.out.trans g5)⟩
 . skip
   go_simp;go_at_call 155;refine (ch _).out.mono ?_;rintro ee w3 ⟨rfl,g3⟩;go_wp2_with fail;have G3:=hid (((zr W).drN (1+d)).trans g3);have h3:=H.out.gr G3.out;obtain⟨-,-,-,-,-,-,-,qc7,-,-,-,-⟩:=h3.cells;obtain⟨-,-,-,-,-,-,-,-,qs8,qs9,qs10,qs11,qs12,-⟩:=h3.cl_ hc;obtain⟨qm0,-,-,-⟩:=h3.mx_ ha;clear g3 h3;refine hK.out _ _ ⟨qc7,qs8,qs9,qs10,qs11,qs12⟩ (λ hS=>?_);clear hK K
   try simp only [pL]
   refine wG 14 hS ?_;refine wG 15 hS ?_;refine wR2 5 16 (λ K hK=>?_) (λ K hK=>?_)
   . skip
     go_simp;refine hK.out _ _ ⟨qc7,qs8,qs9,qs10,qs11,qs12⟩ (λ hS=>?_);clear hK K
     try simp only [pL]
     refine wR1 16 (λ K hK=>?_);go_simp;go_at_call 141;refine (sureI_yes _ _).mono ?_;rintro ee w4 ⟨rfl,rfl⟩;go_wp2_with fail;refine hK.out _ _ ⟨qc7,qs8,qs9,qs10,qs11,qs12⟩ (λ hS=>?_);clear hK K
     try simp only [pL]
     refine wG 17 hS ?_;refine wR1 18 (λ K hK=>?_);go_simp;go_at_call 133;refine (put_no hv _ _).mono ?_;rintro ee w5 ⟨rfl,g5⟩;exact bodyPost_pan rfl ⟨rfl,Kx.gr (G3.out.trans g5)⟩
   . skip
     go_simp;go_at_call 141;refine (sureI_yes _ _).mono ?_;rintro ee w4 ⟨rfl,rfl⟩;go_wp2_with fail;refine hK.out _ _ ⟨qc7,qs8,qs9,qs10,qs11,qs12⟩ (λ hS=>?_);clear hK K
     try simp only [pL]
     refine wR1 5 (λ K hK=>?_);go_simp;refine hK.out _ _ ⟨qc7,qs8,qs9,qs10,qs11,qs12⟩ (λ hS=>?_);clear hK K
     try simp only [pL]
     refine wG 17 hS ?_;refine wR1 18 (λ K hK=>?_);go_simp;go_at_call 133;refine (put_no hv _ _).mono ?_;rintro ee w5 ⟨rfl,g5⟩;exact bodyPost_pan rfl ⟨rfl,Kx.gr (G3.out.trans g5)⟩
theorem take_yes (h:TS x W T ⟨none,0,0⟩ cl mx tb []) (hR:Rn x cl c pr) (h0:0<=x.n) (h4:x.n<4) (ha:mx[x.n.toNat]?=some a) (hO:OwnR c) {z:Int} (hd:hands c=some z) (hk:OkW a.1) (hz:-11<=z/\z<=-7) (hv:OkW (a.1+z)) :
 Calls prog 107 #[.pointer (some ⟨x.b,0,none⟩)] W λ e W'=>e=.returned (.tuple #[])/\(∃ E,TS x W' T E (cl.set x.who.toNat (over c pr.length)) (mx.set x.n.toNat (a.1+z,a.2)) tb [(x.who,0,x.n)])/\Kx x W W':=by
 have hc:=hR.hc;have H:=hid h;have cm:=λ W' (g:Gr W W')=>hid (mutex_is (h.gr g) h0 h4)
 have ch:=λ W=>hid (Handed_c hO hd W)
 obtain⟨-,-,-,-,-,-,-,pc7,-,-,-,-⟩:=h.cells;obtain⟨-,-,-,-,-,-,-,-,ps8,ps9,ps10,ps11,ps12,-⟩:=h.cl_ hc;obtain⟨pm0,-,-,-⟩:=h.mx_ ha;obtain⟨v,hvv⟩:∃ v,a.1+z=v:=⟨_,rfl⟩;have ew:IntKind.i64.wrap (a.1+z)=v:=by rw [IntWalk.i64_left];unfold OkW at hk;unfold wrap64;omega
 rw [hvv] at hv ⊢;have ew2:wrap64 (a.1+z)=v:=by rw [<- IntWalk.i64_left];exact ew
 clear hvv hk hz;clear h hd;go_enter func107,ntmps107;go_upto_region 0 with fail;refine wp_region_held_drew (S:=(λ w'=>w'.cell? ⟨x.b,7,none⟩=some (.pointer (some ⟨x.bc,x.oc+x.who.toNat*13,none⟩))/\w'.cell? ⟨x.bc,x.oc+x.who.toNat*13+8,none⟩=some (.int .i64 c.since)/\w'.cell? ⟨x.bc,x.oc+x.who.toNat*13+8+1,none⟩=some (.bool c.st)/\w'.cell? ⟨x.bc,x.oc+x.who.toNat*13+8+2,none⟩=some (.bool c.aw)/\w'.cell? ⟨x.bc,x.oc+x.who.toNat*13+8+3,none⟩=some (.int .i64 c.rounds)/\w'.cell? ⟨x.bc,x.oc+x.who.toNat*13+8+4,none⟩=some (.int .i64 c.old))) (by kernel_rfl) ⟨pc7,ps8,ps9,ps10,ps11,ps12⟩ (λ hS=>?_);refine wG 0 hS ?_;refine wG 1 hS ?_;refine wG 6 hS ?_;refine wG 7 hS ?_;refine wG 8 hS ?_;refine wG 9 hS ?_;refine wG 10 hS ?_;refine wG 11 hS ?_;refine wG 12 hS ?_;refine wR1 2 (λ K hK=>?_);go_simp;go_at_call 132;refine (cm _ ((zr W).dr)).out.mono ?_;rintro ee w2 ⟨rfl,d,rfl⟩;go_wp2_with fail;refine hK.out _ _ ⟨pc7,ps8,ps9,ps10,ps11,ps12⟩ (λ hS=>?_);clear hK K
 try simp only [pL]
 refine wG 3 hS ?_;refine wG 4 hS ?_;refine wR2 5 13 (λ K hK=>?_) (λ K hK=>?_)
 . skip
   go_simp;refine hK.out _ _ ⟨pc7,ps8,ps9,ps10,ps11,ps12⟩ (λ hS=>?_);clear hK K
   try simp only [pL]
   refine wR1 13 (λ K hK=>?_);go_simp;go_at_call 155;refine (ch _).out.mono ?_;rintro ee w3 ⟨rfl,g3⟩;go_wp2_with fail;have G3:=hid (((zr W).drN (1+d)).trans g3);have h3:=H.out.gr G3.out;obtain⟨-,-,-,-,-,-,-,qc7,-,-,-,-⟩:=h3.cells;obtain⟨-,-,-,-,-,-,-,-,qs8,qs9,qs10,qs11,qs12,-⟩:=h3.cl_ hc;obtain⟨qm0,-,-,-⟩:=h3.mx_ ha;clear g3 h3;refine hK.out _ _ ⟨qc7,qs8,qs9,qs10,qs11,qs12⟩ (λ hS=>?_);clear hK K
   try simp only [pL]
   refine wG 14 hS ?_;refine wG 15 hS ?_;refine wR1 16 (λ K hK=>?_);go_simp;go_at_call 141;refine (sureI_yes _ _).mono ?_;rintro ee w4 ⟨rfl,rfl⟩;go_wp2_with fail;refine hK.out _ _ ⟨qc7,qs8,qs9,qs10,qs11,qs12⟩ (λ hS=>?_);clear hK K
   try simp only [pL]
   refine wG 17 hS ?_;refine wR1 18 (λ K hK=>?_);go_simp;go_at_call 133;refine (put_yes (H.out.gr G3.out) h0 h4 ha hv).mono ?_;rintro ee w5 ⟨rfl,h5,k5⟩;go_wp2_with fail;obtain⟨-,-,-,-,-,-,-,rc7,-,-,-,-⟩:=h5.cells;obtain⟨-,-,-,-,-,-,-,-,rs8,rs9,rs10,rs11,rs12,-⟩:=h5.cl_ hc;have H5:=hid h5;have K5:=hid ((Kx.gr G3.out).trans k5);clear h5 k5;refine hK.out _ _ ⟨rc7,rs8,rs9,rs10,rs11,rs12⟩ (λ hS=>?_);clear hK K
   try simp only [pL]
   refine wpAnyH_done (by kernel_rfl) ?_ _;have he:=hid (ends_is H5.out hR (v:=0) b64_0);rename_i hh;clear hS;go_wp2_with fail;refine he.out.mono ?_;rintro e w6 ⟨rfl,h6,k6⟩;have H6:=hid h6;have K6:=hid k6;clear h6 k6;go_wp2_with fail
   (first | go_end0 | ((try simp only [Exit.inBlock,Exit.then]);refine bodyPost_ret (results_none rfl _ _ _) rfl ?_))
   exact⟨rfl,H6.out,K5.out.trans K6.out⟩
 . skip
   go_simp;go_at_call 155;refine (ch _).out.mono ?_;rintro ee w3 ⟨rfl,g3⟩;go_wp2_with fail;have G3:=hid (((zr W).drN (1+d)).trans g3);have h3:=H.out.gr G3.out;obtain⟨-,-,-,-,-,-,-,qc7,-,-,-,-⟩:=h3.cells;obtain⟨-,-,-,-,-,-,-,-,qs8,qs9,qs10,qs11,qs12,-⟩:=h3.cl_ hc;obtain⟨qm0,-,-,-⟩:=h3.mx_ ha;clear g3 h3;refine hK.out _ _ ⟨qc7,qs8,qs9,qs10,qs11,qs12⟩ (λ hS=>?_);clear hK K
   try simp only [pL]
   refine wG 14 hS ?_;refine wG 15 hS ?_;refine wR2 5 16 (λ K hK=>?_) (λ K hK=>?_)
   . skip
     go_simp;refine hK.out _ _ ⟨qc7,qs8,qs9,qs10,qs11,qs12⟩ (λ hS=>?_);clear hK K
     try simp only [pL]
     refine wR1 16 (λ K hK=>?_);go_simp;go_at_call 141;refine (sureI_yes _ _).mono ?_;rintro ee w4 ⟨rfl,rfl⟩;go_wp2_with fail;refine hK.out _ _ ⟨qc7,qs8,qs9,qs10,qs11,qs12⟩ (λ hS=>?_);clear hK K
     try simp only [pL]
     refine wG 17 hS ?_;refine wR1 18 (λ K hK=>?_);go_simp;go_at_call 133;refine (put_yes (H.out.gr G3.out) h0 h4 ha hv).mono ?_;rintro ee w5 ⟨rfl,h5,k5⟩;go_wp2_with fail;obtain⟨-,-,-,-,-,-,-,rc7,-,-,-,-⟩:=h5.cells;obtain⟨-,-,-,-,-,-,-,-,rs8,rs9,rs10,rs11,rs12,-⟩:=h5.cl_ hc;have H5:=hid h5;have K5:=hid ((Kx.gr G3.out).trans k5);clear h5 k5;refine hK.out _ _ ⟨rc7,rs8,rs9,rs10,rs11,rs12⟩ (λ hS=>?_);clear hK K
     try simp only [pL]
     refine wpAnyH_done (by kernel_rfl) ?_ _;have he:=hid (ends_is H5.out hR (v:=0) b64_0);rename_i hh;clear hS;go_wp2_with fail;refine he.out.mono ?_;rintro e w6 ⟨rfl,h6,k6⟩;have H6:=hid h6;have K6:=hid k6;clear h6 k6;go_wp2_with fail
     (first | go_end0 | ((try simp only [Exit.inBlock,Exit.then]);refine bodyPost_ret (results_none rfl _ _ _) rfl ?_))
     exact⟨rfl,H6.out,K5.out.trans K6.out⟩
   . skip
     go_simp;go_at_call 141;refine (sureI_yes _ _).mono ?_;rintro ee w4 ⟨rfl,rfl⟩;go_wp2_with fail;refine hK.out _ _ ⟨qc7,qs8,qs9,qs10,qs11,qs12⟩ (λ hS=>?_);clear hK K
     try simp only [pL]
     refine wR1 5 (λ K hK=>?_);go_simp;refine hK.out _ _ ⟨qc7,qs8,qs9,qs10,qs11,qs12⟩ (λ hS=>?_);clear hK K
     try simp only [pL]
     refine wG 17 hS ?_;refine wR1 18 (λ K hK=>?_);go_simp;go_at_call 133;refine (put_yes (H.out.gr G3.out) h0 h4 ha hv).mono ?_;rintro ee w5 ⟨rfl,h5,k5⟩;go_wp2_with fail;obtain⟨-,-,-,-,-,-,-,rc7,-,-,-,-⟩:=h5.cells;obtain⟨-,-,-,-,-,-,-,-,rs8,rs9,rs10,rs11,rs12,-⟩:=h5.cl_ hc;have H5:=hid h5;have K5:=hid ((Kx.gr G3.out).trans k5);clear h5 k5;refine hK.out _ _ ⟨rc7,rs8,rs9,rs10,rs11,rs12⟩ (λ hS=>?_);clear hK K
     try simp only [pL]
     refine wpAnyH_done (by kernel_rfl) ?_ _;have he:=hid (ends_is H5.out hR (v:=0) b64_0);rename_i hh;clear hS;go_wp2_with fail;refine he.out.mono ?_;rintro e w6 ⟨rfl,h6,k6⟩;have H6:=hid h6;have K6:=hid k6;clear h6 k6;go_wp2_with fail
     (first | go_end0 | ((try simp only [Exit.inBlock,Exit.then]);refine bodyPost_ret (results_none rfl _ _ _) rfl ?_))
     exact⟨rfl,H6.out,K5.out.trans K6.out⟩
end
end P16
end
section
namespace P16
open P14 (pan)
open P12 (PV PMem)
section
variable {x:Cx} {W:World} {T E:Sl} {cl:List Cl} {mx:List T3} {tb:List Sp} {ev:List T3} {c:Cl} {a:T3} {pr:List Ac}
theorem TS.putO (h:TS x W T E cl mx tb ev) {i:Nat} (hc:cl[i]?=some c) (d:Cl) (hb:CB d):TS x (((((W.setCell ⟨x.bc,x.oc+i*13+8,none⟩ (.int .i64 d.since)).setCell ⟨x.bc,x.oc+i*13+9,none⟩ (.bool d.st)).setCell ⟨x.bc,x.oc+i*13+10,none⟩ (.bool d.aw)).setCell ⟨x.bc,x.oc+i*13+11,none⟩ (.int .i64 d.rounds)).setCell ⟨x.bc,x.oc+i*13+12,none⟩ (.int .i64 d.old)) T E (cl.set i { c with since:=d.since,st:=d.st,aw:=d.aw,rounds:=d.rounds,old:=d.old }) mx tb ev:=by
 have B:=h.cb c (zmo hc);have h1:=h.putC hc 8 (.int .i64 d.since) { c with since:=d.since } rfl (by decide) { B with since:=hb.since };have h2:=h1.putC2 hc 9 (.bool d.st) { c with since:=d.since,st:=d.st } rfl (by decide) { B with since:=hb.since };have h3:=h2.putC2 hc 10 (.bool d.aw) { c with since:=d.since,st:=d.st,aw:=d.aw } rfl (by decide) { B with since:=hb.since };have h4:=h3.putC2 hc 11 (.int .i64 d.rounds) { c with since:=d.since,st:=d.st,aw:=d.aw,rounds:=d.rounds } rfl (by decide) { B with since:=hb.since,rounds:=hb.rounds };exact h4.putC2 hc 12 (.int .i64 d.old) { c with since:=d.since,st:=d.st,aw:=d.aw,rounds:=d.rounds,old:=d.old } rfl (by decide) { B with since:=hb.since,rounds:=hb.rounds,old:=hb.old }
theorem mutex_gr (h:TS x W T E cl mx tb ev) (h0:0<=x.n) (h4:x.n<4) :
 Calls prog 132 #[.pointer (some ⟨x.b,0,none⟩)] W λ e W'=>e=.returned (.pointer (some ⟨x.bm,x.om+x.n.toNat*3,none⟩))/\Gr W W' :=
 (mutex_is h h0 h4).mono λ e w' q=>⟨q.1,by obtain⟨d,rfl⟩:=q.2;exact (zr W).drN d⟩
def says (c:Cl) (w:Int):Prop:=c.aw=false/\(wd c.old).K=false/\0<(wd c.old).n/\w=c.old
instance (c:Cl) (w:Int):Decidable (says c w):=by unfold says;infer_instance
def rndC (c:Cl) (w:Int):Cl:={ c with aw:=if says c w then true else c.aw,rounds:=c.rounds+1,pc:=1 }
def rndM (c:Cl) (w:Int):Int:=if says c w then un { wd w with K:=true } else w
theorem round_no (h:TS x W T E cl mx tb ev) (hR:Rn x cl c pr) (h0:0<=x.n) (h4:x.n<4) (ha:mx[x.n.toNat]?=some a) (hO:OwnR c) (hw:(!c.aw&&!(wd c.old).K&&decide (0<(wd c.old).n))=false) :
 Calls prog 139 #[.pointer (some ⟨x.b,0,none⟩)] W λ e W'=>e=.returned (.tuple #[])/\TS x W' T E (cl.set x.who.toNat { c with rounds:=c.rounds+1,pc:=1 }) mx tb ev/\Kx x W W':=by
 have hc:=hR.hc;have CBc:=h.cb c (zmo hc);have hr:=hO.rd;have n1:=h.n1;have n1':=h.n1.symm;have C:=λ W=>hid (Wakes_c hO W)
 rw [hw] at C;have eo:=or_un2 hO.ol;have H:=hid h;obtain⟨-,-,-,-,-,-,-,c7,-,-,-,-⟩:=h.cells;obtain⟨-,-,-,s3,-,-,-,-,s8,s9,s10,s11,s12,sz⟩:=h.cl_ hc;have y3:=sz 3 (by decide);have y10:=sz 10 (by decide);have y11:=sz 11 (by decide);clear sz;have o1:W.cell? ⟨x.bc,x.oc+x.who.toNat*13+8+1,none⟩=some (.bool c.st):=s9;have o2:W.cell? ⟨x.bc,x.oc+x.who.toNat*13+8+2,none⟩=some (.bool c.aw):=s10;have o3:W.cell? ⟨x.bc,x.oc+x.who.toNat*13+8+3,none⟩=some (.int .i64 c.rounds):=s11;have o4:W.cell? ⟨x.bc,x.oc+x.who.toNat*13+8+4,none⟩=some (.int .i64 c.old):=s12;have f2:W.frozen? ⟨x.bc,x.oc+x.who.toNat*13+8+2,none⟩=false:=y10;have f3:W.frozen? ⟨x.bc,x.oc+x.who.toNat*13+8+3,none⟩=false:=y11;clear s9 s10 s11 s12 y10 y11;clear h hw hO;go_enter func139,ntmps139;go_wp2_with fail;refine (C _).out.mono ?_;rintro e w1 ⟨rfl,g1⟩;have G1:=hid g1;clear g1;go_wp2_with fail;refine (sureB_yes _ _).mono ?_;rintro e w2 ⟨rfl,rfl⟩;have H2:=hid (H.out.gr G1.out);have K2:Hid (Kx x W _):=hid (Kx.gr G1.out);clear y3 o1 o2 o3 o4 f2 f3 s3 s8 c7;have h2:=H2.out;obtain⟨-,-,-,-,-,-,-,q7,-,-,-,-⟩:=h2.cells;obtain⟨-,-,-,r3,-,-,-,-,r8,r9,r10,r11,r12,sz⟩:=h2.cl_ hc;have y3:=sz 3 (by decide);have y10:=sz 10 (by decide);have y11:=sz 11 (by decide);clear sz;have o1:w2.cell? ⟨x.bc,x.oc+x.who.toNat*13+8+1,none⟩=some (.bool c.st):=r9;have o2:w2.cell? ⟨x.bc,x.oc+x.who.toNat*13+8+2,none⟩=some (.bool c.aw):=r10;have o3:w2.cell? ⟨x.bc,x.oc+x.who.toNat*13+8+3,none⟩=some (.int .i64 c.rounds):=r11;have o4:w2.cell? ⟨x.bc,x.oc+x.who.toNat*13+8+4,none⟩=some (.int .i64 c.old):=r12;have f2:w2.frozen? ⟨x.bc,x.oc+x.who.toNat*13+8+2,none⟩=false:=y10;have f3:w2.frozen? ⟨x.bc,x.oc+x.who.toNat*13+8+3,none⟩=false:=y11;clear r9 r10 r11 r12 y10 y11;clear h2;go_wp2_with fail
 (first | go_end0 | ((try simp only [Exit.inBlock,Exit.then]);refine bodyPost_ret (results_none rfl _ _ _) rfl ?_))
 have t2:=H2.out.putC hc 11 (.int .i64 (c.rounds+1)) { c with rounds:=c.rounds+1 } rfl (by decide) { CBc with rounds:=(show B64 (c.rounds+1) from ⟨by omega,by omega⟩) };exact⟨rfl,t2.putC2 hc 3 (.int .i64 1) { c with rounds:=c.rounds+1,pc:=1 } rfl (by decide) { CBc with rounds:=(show B64 (c.rounds+1) from ⟨by omega,by omega⟩),pc:=(show B64 1 from ⟨by omega,by omega⟩) },(K2.out.trans (Kx.st (.inr (.inl rfl)) _)).trans (Kx.st (.inr (.inl rfl)) _)⟩
theorem round_lost (h:TS x W T E cl mx tb ev) (hR:Rn x cl c pr) (h0:0<=x.n) (h4:x.n<4) (ha:mx[x.n.toNat]?=some a) (hO:OwnR c) (hw:(!c.aw&&!(wd c.old).K&&decide (0<(wd c.old).n))=true) (hne:(a.1==c.old)=false) :
 Calls prog 139 #[.pointer (some ⟨x.b,0,none⟩)] W λ e W'=>e=.returned (.tuple #[])/\TS x W' T E (cl.set x.who.toNat { c with rounds:=c.rounds+1,pc:=1 }) mx tb ev/\Kx x W W':=by
 have hc:=hR.hc;have CBc:=h.cb c (zmo hc);have hr:=hO.rd;have n1:=h.n1;have n1':=h.n1.symm;have C:=λ W=>hid (Wakes_c hO W)
 rw [hw] at C;have eo:=or_un2 hO.ol;have H:=hid h;have cs:=λ W' (g:Gr W W')=>hid (swaps_no (h.gr g) h0 h4 ha hc hne (un { wd c.old with K:=true }))
 generalize un { wd c.old with K:=true }=v at eo cs;obtain⟨-,-,-,-,-,-,-,c7,-,-,-,-⟩:=h.cells;obtain⟨-,-,-,s3,-,-,-,-,s8,s9,s10,s11,s12,sz⟩:=h.cl_ hc;have y3:=sz 3 (by decide);have y10:=sz 10 (by decide);have y11:=sz 11 (by decide);clear sz;have o1:W.cell? ⟨x.bc,x.oc+x.who.toNat*13+8+1,none⟩=some (.bool c.st):=s9;have o2:W.cell? ⟨x.bc,x.oc+x.who.toNat*13+8+2,none⟩=some (.bool c.aw):=s10;have o3:W.cell? ⟨x.bc,x.oc+x.who.toNat*13+8+3,none⟩=some (.int .i64 c.rounds):=s11;have o4:W.cell? ⟨x.bc,x.oc+x.who.toNat*13+8+4,none⟩=some (.int .i64 c.old):=s12;have f2:W.frozen? ⟨x.bc,x.oc+x.who.toNat*13+8+2,none⟩=false:=y10;have f3:W.frozen? ⟨x.bc,x.oc+x.who.toNat*13+8+3,none⟩=false:=y11;clear s9 s10 s11 s12 y10 y11;clear h hw hO hne;go_enter func139,ntmps139;go_wp2_with fail;refine (C _).out.mono ?_;rintro e w1 ⟨rfl,g1⟩;have G1:=hid g1;clear g1;go_wp2_with fail;refine (sureB_yes _ _).mono ?_;rintro e w2 ⟨rfl,rfl⟩;have h2:=H.out.gr G1.out;obtain⟨-,-,-,-,-,-,-,-,-,-,-,-,u12,-⟩:=h2.cl_ hc;have u4:w2.cell? ⟨x.bc,x.oc+x.who.toNat*13+8+4,none⟩=some (.int .i64 c.old):=u12;clear h2 u12;have s2:=cs _ G1.out;go_wp2_with fail;refine s2.out.mono ?_;rintro e w3 ⟨rfl,d,rfl⟩;have H2:=hid (H.out.gr (G1.out.drN d));have K2:Hid (Kx x W _):=hid (Kx.gr (G1.out.drN d));generalize w2.drewN d=w3 at H2 K2 ⊢;clear y3 o1 o2 o3 o4 f2 f3 s3 s8 u4 c7 cs s2;have h2:=H2.out;obtain⟨-,-,-,-,-,-,-,q7,-,-,-,-⟩:=h2.cells;obtain⟨-,-,-,r3,-,-,-,-,r8,r9,r10,r11,r12,sz⟩:=h2.cl_ hc;have y3:=sz 3 (by decide);have y10:=sz 10 (by decide);have y11:=sz 11 (by decide);clear sz;have o1:w3.cell? ⟨x.bc,x.oc+x.who.toNat*13+8+1,none⟩=some (.bool c.st):=r9;have o2:w3.cell? ⟨x.bc,x.oc+x.who.toNat*13+8+2,none⟩=some (.bool c.aw):=r10;have o3:w3.cell? ⟨x.bc,x.oc+x.who.toNat*13+8+3,none⟩=some (.int .i64 c.rounds):=r11;have o4:w3.cell? ⟨x.bc,x.oc+x.who.toNat*13+8+4,none⟩=some (.int .i64 c.old):=r12;have f2:w3.frozen? ⟨x.bc,x.oc+x.who.toNat*13+8+2,none⟩=false:=y10;have f3:w3.frozen? ⟨x.bc,x.oc+x.who.toNat*13+8+3,none⟩=false:=y11;clear r9 r10 r11 r12 y10 y11;clear h2;go_wp2_with fail
 (first | go_end0 | ((try simp only [Exit.inBlock,Exit.then]);refine bodyPost_ret (results_none rfl _ _ _) rfl ?_))
 have t2:=H2.out.putC hc 11 (.int .i64 (c.rounds+1)) { c with rounds:=c.rounds+1 } rfl (by decide) { CBc with rounds:=(show B64 (c.rounds+1) from ⟨by omega,by omega⟩) };exact⟨rfl,t2.putC2 hc 3 (.int .i64 1) { c with rounds:=c.rounds+1,pc:=1 } rfl (by decide) { CBc with rounds:=(show B64 (c.rounds+1) from ⟨by omega,by omega⟩),pc:=(show B64 1 from ⟨by omega,by omega⟩) },(K2.out.trans (Kx.st (.inr (.inl rfl)) _)).trans (Kx.st (.inr (.inl rfl)) _)⟩
theorem round_set (h:TS x W T E cl mx tb ev) (hR:Rn x cl c pr) (h0:0<=x.n) (h4:x.n<4) (ha:mx[x.n.toNat]?=some a) (hO:OwnR c) (hw:(!c.aw&&!(wd c.old).K&&decide (0<(wd c.old).n))=true) (hne:(a.1==c.old)=true) :
 Calls prog 139 #[.pointer (some ⟨x.b,0,none⟩)] W λ e W'=>e=.returned (.tuple #[])/\TS x W' T E (cl.set x.who.toNat { c with aw:=true,rounds:=c.rounds+1,pc:=1 }) (mx.set x.n.toNat (un { wd c.old with K:=true },a.2)) tb ev/\Kx x W W':=by
 have hc:=hR.hc;have CBc:=h.cb c (zmo hc);have hr:=hO.rd;have n1:=h.n1;have n1':=h.n1.symm;have C:=λ W=>hid (Wakes_c hO W)
 rw [hw] at C;have eo:=or_un2 hO.ol;have H:=hid h;have cs:=λ W' (g:Gr W W')=>hid (swaps_yes (h.gr g) h0 h4 ha hc hne (hO.ol.K true))
 generalize un { wd c.old with K:=true }=v at eo cs ⊢;obtain⟨-,-,-,-,-,-,-,c7,-,-,-,-⟩:=h.cells;obtain⟨-,-,-,s3,-,-,-,-,s8,s9,s10,s11,s12,sz⟩:=h.cl_ hc;have y3:=sz 3 (by decide);have y10:=sz 10 (by decide);have y11:=sz 11 (by decide);clear sz;have o1:W.cell? ⟨x.bc,x.oc+x.who.toNat*13+8+1,none⟩=some (.bool c.st):=s9;have o2:W.cell? ⟨x.bc,x.oc+x.who.toNat*13+8+2,none⟩=some (.bool c.aw):=s10;have o3:W.cell? ⟨x.bc,x.oc+x.who.toNat*13+8+3,none⟩=some (.int .i64 c.rounds):=s11;have o4:W.cell? ⟨x.bc,x.oc+x.who.toNat*13+8+4,none⟩=some (.int .i64 c.old):=s12;have f2:W.frozen? ⟨x.bc,x.oc+x.who.toNat*13+8+2,none⟩=false:=y10;have f3:W.frozen? ⟨x.bc,x.oc+x.who.toNat*13+8+3,none⟩=false:=y11;clear s9 s10 s11 s12 y10 y11;clear h hw hO hne;go_enter func139,ntmps139;go_wp2_with fail;refine (C _).out.mono ?_;rintro e w1 ⟨rfl,g1⟩;have G1:=hid g1;clear g1;go_wp2_with fail;refine (sureB_yes _ _).mono ?_;rintro e w2 ⟨rfl,rfl⟩;have h2:=H.out.gr G1.out;obtain⟨-,-,-,-,-,-,-,-,-,-,-,-,u12,-⟩:=h2.cl_ hc;have u4:w2.cell? ⟨x.bc,x.oc+x.who.toNat*13+8+4,none⟩=some (.int .i64 c.old):=u12;clear h2 u12;have s2:=cs _ G1.out;go_wp2_with fail;refine s2.out.mono ?_;rintro e w3 ⟨rfl,h3,k3⟩;have H2:=hid h3;have K2:Hid (Kx x W _):=hid ((Kx.gr G1.out).trans k3);clear h3 k3;clear y3 o1 o2 o3 o4 f2 f3 s3 s8 u4 c7 cs s2;have h2:=H2.out;obtain⟨-,-,-,-,-,-,-,q7,-,-,-,-⟩:=h2.cells;obtain⟨-,-,-,r3,-,-,-,-,r8,r9,r10,r11,r12,sz⟩:=h2.cl_ hc;have y3:=sz 3 (by decide);have y10:=sz 10 (by decide);have y11:=sz 11 (by decide);clear sz;have o1:w3.cell? ⟨x.bc,x.oc+x.who.toNat*13+8+1,none⟩=some (.bool c.st):=r9;have o2:w3.cell? ⟨x.bc,x.oc+x.who.toNat*13+8+2,none⟩=some (.bool c.aw):=r10;have o3:w3.cell? ⟨x.bc,x.oc+x.who.toNat*13+8+3,none⟩=some (.int .i64 c.rounds):=r11;have o4:w3.cell? ⟨x.bc,x.oc+x.who.toNat*13+8+4,none⟩=some (.int .i64 c.old):=r12;have f2:w3.frozen? ⟨x.bc,x.oc+x.who.toNat*13+8+2,none⟩=false:=y10;have f3:w3.frozen? ⟨x.bc,x.oc+x.who.toNat*13+8+3,none⟩=false:=y11;clear r9 r10 r11 r12 y10 y11;clear h2;go_wp2_with fail
 (first | go_end0 | ((try simp only [Exit.inBlock,Exit.then]);refine bodyPost_ret (results_none rfl _ _ _) rfl ?_))
 have t1:=H2.out.putC hc 10 (.bool true) { c with aw:=true } rfl (by decide) { CBc with since:=CBc.since };have t2:=t1.putC2 hc 11 (.int .i64 (c.rounds+1)) { c with aw:=true,rounds:=c.rounds+1 } rfl (by decide) { CBc with rounds:=(show B64 (c.rounds+1) from ⟨by omega,by omega⟩) };exact⟨rfl,t2.putC2 hc 3 (.int .i64 1) { c with aw:=true,rounds:=c.rounds+1,pc:=1 } rfl (by decide) { CBc with rounds:=(show B64 (c.rounds+1) from ⟨by omega,by omega⟩),pc:=(show B64 1 from ⟨by omega,by omega⟩) },((K2.out.trans (Kx.st (.inr (.inl rfl)) _)).trans (Kx.st (.inr (.inl rfl)) _)).trans (Kx.st (.inr (.inl rfl)) _)⟩
theorem says_iff {w:Int}:says c w↔(!c.aw&&!(wd c.old).K&&decide (0<(wd c.old).n))=true/\(w==c.old)=true:=by
 unfold says;simp only [Bool.and_eq_true,Bool.not_eq_true',decide_eq_true_eq,beq_iff_eq];constructor
 . rintro⟨q1,q2,q3,q4⟩;exact⟨⟨⟨q1,q2⟩,q3⟩,q4⟩
 . rintro⟨⟨⟨q1,q2⟩,q3⟩,q4⟩;exact⟨q1,q2,q3,q4⟩
theorem round_is (h:TS x W T E cl mx tb ev) (hR:Rn x cl c pr) (h0:0<=x.n) (h4:x.n<4) (ha:mx[x.n.toNat]?=some a) (hO:OwnR c) :
 Calls prog 139 #[.pointer (some ⟨x.b,0,none⟩)] W λ e W'=>e=.returned (.tuple #[])/\TS x W' T E (cl.set x.who.toNat (rndC c a.1)) (mx.set x.n.toNat (rndM c a.1,a.2)) tb ev/\Kx x W W':=by
 by_cases hs:says c a.1
 . obtain⟨q1,q2⟩:=says_iff.1 hs
   have q:=round_set h hR h0 h4 ha hO q1 q2;have e:a.1=c.old:=by simpa using q2
   unfold rndC rndM;rw [if_pos hs,if_pos hs,e];exact q
 . have q:Calls prog 139 #[.pointer (some ⟨x.b,0,none⟩)] W λ e W'=>e=.returned (.tuple #[])/\TS x W' T E (cl.set x.who.toNat { c with rounds:=c.rounds+1,pc:=1 }) mx tb ev/\Kx x W W':=by
    cases q1:(!c.aw&&!(wd c.old).K&&decide (0<(wd c.old).n))
    . exact round_no h hR h0 h4 ha hO q1
    . cases q2:(a.1==c.old)
      . exact round_lost h hR h0 h4 ha hO q1 q2
      . exact absurd (says_iff.2 ⟨q1,q2⟩) hs
   unfold rndC rndM;rw [if_neg hs,if_neg hs,set_same ha];exact q
end
end P16
end
end Go.Proofs.YtainfijdhcehlaaGreatDoor
