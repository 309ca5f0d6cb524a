/-
  A part of the proof.
-/
import Derived.Test.YtainfijdhcehlaaGreatDoorRS1
import Derived.Lib.SmallJoins
import Derived.Deep.Fields
set_option linter.unusedVariables false
set_option linter.unusedSimpArgs false
set_option maxRecDepth 100000
set_option maxHeartbeats 8000000
namespace Go.Proofs.YtainfijdhcehlaaGreatDoor
open Lib (hid)
section
namespace P16
section
variable {N i j:Nat} {v:Nat->V} {x:V} {m:Mx} {w w':Wd} {aw st told S':Bool} {old:Wd} {t:Int} {l':List Int}
theorem Inv.draw (h:Inv N m v) (hN:N<=8) (hi:i<N) (hv:v i=.draw):Inv N { m with nx:=(m.nx+1) % 4294967296,sv:=m.sv } (upd v i (.turn m.nx)) :=
 h.tickets hi (by rw [hv];rfl) (by rw [hv];rfl) (by rw [hv];rfl) (by rw [hv];rfl) (by rw [hv];rfl) (h.T.draw hN hi (by rw [hv];rfl) rfl rfl) (λ _ _ e=>by cases e) (λ _ _ _ e=>by cases e) (λ _ _ e=>by cases e) (ng (by rw [hv];intro q;cases q) (by rw [hv];intro _ q;cases q))
theorem Inv.grant (h:Inv N m v) (hN:N<=8) (hi:i<N) (hv:v i=.turns m.sv):Inv N m (upd v i (.grant m.sv)) :=
 h.tickets hi (by rw [hv];rfl) (by rw [hv];rfl) (by rw [hv];rfl) (by rw [hv];rfl) (by rw [hv];rfl) (h.T.turn hi (by rw [hv];rfl) rfl) (λ _ _ e=>by cases e) (λ _ _ _ e=>by cases e) (λ _ _ e=>by cases e) (ng (by rw [hv];intro q;cases q) (by rw [hv];intro _ q;cases q))
theorem Inv.served (h:Inv N m v) (hN:N<=8) (hi:i<N) (hv:v i=.serve t told):Inv N { m with nx:=m.nx,sv:=(m.sv+1) % 4294967296 } (upd v i (.wok (!told))) :=
 h.tickets hi (by rw [hv];cases told<;>rfl) (by rw [hv];rfl) (by rw [hv];cases told<;>rfl) (by rw [hv];rfl) (by rw [hv];cases told<;>rfl) (h.T.serve hN hi (by rw [hv];rfl) rfl rfl) (λ _ _ e=>by cases e) (λ _ _ _ e=>by cases e) (λ _ _ e=>by cases e) (ng (by rw [hv];intro q;cases q) (by rw [hv];intro _ q;cases q))
theorem Inv.let_ (h:Inv N m v) (hi:i<N) (hv:v i=.sema t) (hc:0<m.c):Inv N { m with c:=m.c-1 } (upd v i (.serve t true)):=by
 have eQ:=cnt_upd (p:=isQ) (v:=v) (x:=V.serve t true) hi;have eH:=cnt_upd (p:=isH) (v:=v) (x:=V.serve t true) hi;have eG:=cnt_upd (p:=isG) (v:=v) (x:=V.serve t true) hi;have eA:=cnt_upd (p:=isA) (v:=v) (x:=V.serve t true) hi;simp only [hv,isQ,isH,isG,isA,b1,Bool.false_eq_true,if_true,if_false,Int.sub_zero,Int.add_zero] at eQ eH eG eA;have hW:=h.W;refine⟨⟨hW.n0,by show 0<=m.c-1;omega,λ hS=>?_,λ hS=>?_⟩,h.T.same hi (by rw [hv];rfl) (by rw [hv];rfl),⟨h.L.nd,(h.L.same (x:=V.serve t true) hi (by rw [hv];rfl)).lm,λ q=>h.L.le (by have q:0<m.c-1:=q;omega)⟩,h.O.upd hi (.inl (Int.le_refl _)) (λ _ _ e=>by cases e) (λ _ _ _ e=>by cases e) (λ _ _ e=>by cases e),h.R.keep hi id (λ _ q=>by rw [hv] at q;rcases q with q | ⟨_,q,_⟩<;>cases q)⟩
 . dsimp only at hS ⊢
   obtain⟨a,b,c⟩:=hW.free hS;exact⟨by omega,by omega,by omega⟩
 . dsimp only at hS ⊢
   obtain⟨a,b,c,d,e⟩:=hW.starve hS;exact⟨a,by omega,by omega,λ q=>⟨by have:=(d q).1;omega,by have:=(d q).2;omega⟩,λ q=>by have:=e q;omega⟩
theorem Inv.comes (h:Inv N m v) (hi:i<N) (hv:v i=.sema t) (hc:m.c=0) (hl:l'.Perm ((i:Int)::m.l)):Inv N { m with l:=l' } (upd v i (.serve t false)):=by
 have eQ:=cnt_upd (p:=isQ) (v:=v) (x:=V.serve t false) hi;have eH:=cnt_upd (p:=isH) (v:=v) (x:=V.serve t false) hi;have eG:=cnt_upd (p:=isG) (v:=v) (x:=V.serve t false) hi;have eA:=cnt_upd (p:=isA) (v:=v) (x:=V.serve t false) hi;simp only [hv,isQ,isH,isG,isA,b1,Bool.false_eq_true,if_true,if_false,Int.sub_zero,Int.add_zero] at eQ eH eG eA;have hW:=h.W;have hno:(i:Int) ∉ m.l:=λ q=>by
  obtain⟨k,hk,e,hx⟩:=(h.L.lm _).1 q;obtain rfl:k=i:=by omega
  rw [hv] at hx;cases hx
 refine⟨⟨hW.n0,hW.c0,λ hS=>?_,λ hS=>?_⟩,h.T.same hi (by rw [hv];rfl) (by rw [hv];rfl),⟨?_,λ y=>?_,λ q=>?_⟩,h.O.upd hi (.inl (Int.le_refl _)) (λ _ _ e=>by cases e) (λ _ _ _ e=>by cases e) (λ _ _ e=>by cases e),h.R.keep hi id (λ _ q=>by rw [hv] at q;rcases q with q | ⟨_,q,_⟩<;>cases q)⟩
 . dsimp only at hS ⊢
   obtain⟨a,b,c⟩:=hW.free hS;exact⟨by omega,by omega,by omega⟩
 . dsimp only at hS ⊢
   obtain⟨a,b,c,d,e⟩:=hW.starve hS;exact⟨a,by omega,by omega,λ q=>⟨by have:=(d q).1;omega,by have:=(d q).2;omega⟩,λ q=>by have:=e q;omega⟩
 . exact hl.nodup_iff.2 (List.nodup_cons.2 ⟨hno,h.L.nd⟩)
 . rw [hl.mem_iff,List.mem_cons,h.L.lm]
   constructor
   . rintro (e | ⟨k,hk,e,hx⟩)
     . exact⟨i,hi,e,by rw [upd_at];rfl⟩
     . refine⟨k,hk,e,?_⟩
       by_cases q:k=i
       . subst q;rw [upd_at];rfl
       . rw [upd_off q];exact hx
   . rintro⟨k,hk,e,hx⟩
     by_cases q:k=i
     . subst q;exact .inl e
     . rw [upd_off q] at hx;exact .inr ⟨k,hk,e,hx⟩
 . have q:0<m.c:=q
   omega
theorem Inv.let_word (h:Inv N m v) (hi:i<N) (hg:isG (v i)=true):(m.w.S=false->m.w.K=true)/\(m.w.S=true->m.w.L=false):=by
 have hp:=cnt_pos hi hg;have ha:=cnt_nonneg (p:=isA) (v:=v) (N:=N);have c0:=h.W.c0;constructor
 . intro hS
   have e:=(h.W.free hS).2.1;cases hK:m.w.K
   . rw [hK] at e;simp only [b1,Bool.false_eq_true,if_false] at e;omega
   . rfl
 . intro hS
   obtain⟨a,b,c,d,e⟩:=h.W.starve hS;cases hL:m.w.L
   . rfl
   . have:=(d hL).1;omega
theorem Inv.goes (h:Inv N m v) (hi:i<N) (hv:v i=.wok false) (hS:m.w.S=false):Inv N m (upd v i (.want true st m.w)):=by
 have hb:=h.bound;have hlw:=h.let_word hi (by rw [hv];rfl);have eQ:=cnt_upd (p:=isQ) (v:=v) (x:=V.want true st m.w) hi;have eH:=cnt_upd (p:=isH) (v:=v) (x:=V.want true st m.w) hi;have eG:=cnt_upd (p:=isG) (v:=v) (x:=V.want true st m.w) hi;have eA:=cnt_upd (p:=isA) (v:=v) (x:=V.want true st m.w) hi;simp only [hv,isQ,isH,isG,isA,b1,Bool.false_eq_true,if_true,if_false,Int.sub_zero,Int.add_zero] at eQ eH eG eA;have hW:=h.W;refine⟨⟨hW.n0,hW.c0,λ _=>?_,λ q=>?_⟩,h.T.same hi (by rw [hv];rfl) (by rw [hv];rfl),h.L.same hi (by rw [hv];rfl),h.O.upd hi (.inl (Int.le_refl _)) (λ _ _ e=>by cases e) (λ _ _ _ e=>by cases e;exact⟨λ _=>rfl,λ _=>hlw.1 hS,hW.n0,hb⟩) (λ _ _ e=>by cases e),h.R.keep hi id (λ _ q=>by rw [hv] at q;rcases q with q | ⟨_,q,_⟩<;>cases q)⟩
 . obtain⟨a,b,c⟩:=hW.free hS
   exact⟨by omega,by omega,by omega⟩
 . rw [hS] at q;cases q
theorem Inv.handed (h:Inv N m v) (hi:i<N) (hv:v i=.wok false) (hS:m.w.S=true):Inv N m (upd v i (.hand st m.w)):=by
 have hlw:=h.let_word hi (by rw [hv];rfl);have hq:=cnt_pos (p:=isQ) (v:=v) hi (by rw [hv];rfl);have hh:=cnt_nonneg (p:=isH) (v:=v) (N:=N);have eQ:=cnt_upd (p:=isQ) (v:=v) (x:=V.hand st m.w) hi;have eH:=cnt_upd (p:=isH) (v:=v) (x:=V.hand st m.w) hi;have eG:=cnt_upd (p:=isG) (v:=v) (x:=V.hand st m.w) hi;have eA:=cnt_upd (p:=isA) (v:=v) (x:=V.hand st m.w) hi;simp only [hv,isQ,isH,isG,isA,b1,Bool.false_eq_true,if_true,if_false,Int.sub_zero,Int.add_zero] at eQ eH eG eA;have hW:=h.W;obtain⟨a,b,c,d,e⟩:=hW.starve hS;refine⟨⟨hW.n0,hW.c0,λ q=>?_,λ q=>?_⟩,h.T.same hi (by rw [hv];rfl) (by rw [hv];rfl),h.L.same hi (by rw [hv];rfl),h.O.upd hi (.inl (Int.le_refl _)) (λ _ _ e=>by cases e) (λ _ _ _ e=>by cases e) (λ _ _ e=>by cases e;exact⟨hlw.2 hS,a,hS,by omega,Int.le_refl _⟩),h.R.keep hi id (λ _ q=>by rw [hv] at q;rcases q with q | ⟨_,q,_⟩<;>cases q)⟩
 . rw [hS] at q;cases q
 . exact⟨a,by omega,by omega,(λ q=>by rw [hlw.2 hS] at q;cases q),λ q=>by have:=e q;omega⟩
theorem Inv.hand_word (h:Inv N m v) (hi:i<N) (hv:v i=.hand st old):m.w.L=false/\m.w.S=true/\m.w.K=false/\1<=m.w.n/\cnt isH v N=1/\cnt isG v N+m.c=0/\cnt isA v N=0/\m.w.n=cnt isQ v N+1:=by
 have hp:=cnt_pos (p:=isH) (v:=v) hi (by rw [hv];rfl);have hg:=cnt_nonneg (p:=isG) (v:=v) (N:=N);have hq:=cnt_nonneg (p:=isQ) (v:=v) (N:=N);have c0:=h.W.c0;cases hS:m.w.S
 . have:=(h.W.free hS).1;omega
 . obtain⟨a,b,c,d,e⟩:=h.W.starve hS
   cases hL:m.w.L
   . have:=e hL
     exact⟨rfl,rfl,a,by omega,by omega,by omega,b,by omega⟩
   . have:=(d hL).2;omega
theorem Inv.takes (h:Inv N m v) (hi:i<N) (hv:v i=.hand st old):Inv N { m with w:={ L:=true,K:=false,S:=S',n:=m.w.n-1 } } (upd v i .out):=by
 obtain⟨hL,hS,hK,hn,hH,hG,hA,hQ⟩:=h.hand_word hi hv;have eQ:=cnt_upd (p:=isQ) (v:=v) (x:=V.out) hi;have eH:=cnt_upd (p:=isH) (v:=v) (x:=V.out) hi;have eG:=cnt_upd (p:=isG) (v:=v) (x:=V.out) hi;have eA:=cnt_upd (p:=isA) (v:=v) (x:=V.out) hi;simp only [hv,isQ,isH,isG,isA,b1,Bool.false_eq_true,if_true,if_false,Int.sub_zero,Int.add_zero] at eQ eH eG eA;have hW:=h.W;refine⟨⟨by show 0<=m.w.n-1;omega,hW.c0,λ _=>?_,λ _=>?_⟩,h.T.same hi (by rw [hv];rfl) (by rw [hv];rfl),h.L.same hi (by rw [hv];rfl),h.O.upd hi (.inr λ k st' old' hk hne e=>?_) (λ _ _ e=>by cases e) (λ _ _ _ e=>by cases e) (λ _ _ e=>by cases e),InvR.off (λ q=>by cases q.1)⟩
 . dsimp only
   exact⟨by omega,by simp only [b1,Bool.false_eq_true,if_false];omega,by omega⟩
 . dsimp only
   exact⟨rfl,by omega,by omega,λ _=>⟨by omega,by omega⟩,λ q=>by cases q⟩
 . have:=cnt_two (p:=isH) (v:=v) hi (by rw [hv];rfl) hk (by rw [e];rfl) (λ q=>hne q.symm)
   omega
theorem Inv.tries (h:Inv N m v) (hi:i<N) (hv:v i=.out):Inv N m (upd v i .trying) :=
 h.quiet hi (by rw [hv];rfl) (by rw [hv];rfl) (by rw [hv];rfl) (by rw [hv];rfl) (by rw [hv];rfl) (by rw [hv];rfl) (by rw [hv];rfl) (λ _ _ e=>by cases e) (λ _ _ _ e=>by cases e) (λ _ _ e=>by cases e) (λ _ q=>by rw [hv] at q;rcases q with q | ⟨_,q,_⟩<;>cases q)
theorem Inv.fails (h:Inv N m v) (hi:i<N) (hv:v i=.trying):Inv N m (upd v i .out) :=
 h.quiet hi (by rw [hv];rfl) (by rw [hv];rfl) (by rw [hv];rfl) (by rw [hv];rfl) (by rw [hv];rfl) (by rw [hv];rfl) (by rw [hv];rfl) (λ _ _ e=>by cases e) (λ _ _ _ e=>by cases e) (λ _ _ e=>by cases e) (λ _ q=>by rw [hv] at q;rcases q with q | ⟨_,q,_⟩<;>cases q)
theorem Inv.tried (h:Inv N m v) (hi:i<N) (hv:v i=.trying) (hS:m.w.S=false):Inv N { m with w:={ m.w with L:=true } } (upd v i .out):=by
 have eQ:=cnt_upd (p:=isQ) (v:=v) (x:=V.out) hi;have eH:=cnt_upd (p:=isH) (v:=v) (x:=V.out) hi;have eG:=cnt_upd (p:=isG) (v:=v) (x:=V.out) hi;have eA:=cnt_upd (p:=isA) (v:=v) (x:=V.out) hi;simp only [hv,isQ,isH,isG,isA,b1,Bool.false_eq_true,if_true,if_false,Int.sub_zero,Int.add_zero] at eQ eH eG eA;have hW:=h.W;refine⟨⟨hW.n0,hW.c0,λ _=>?_,λ q=>?_⟩,h.T.same hi (by rw [hv];rfl) (by rw [hv];rfl),h.L.same hi (by rw [hv];rfl),h.O.upd hi (.inl (Int.le_refl _)) (λ _ _ e=>by cases e) (λ _ _ _ e=>by cases e) (λ _ _ e=>by cases e),InvR.off (λ q=>by cases q.1)⟩
 . dsimp only
   obtain⟨a,b,c⟩:=hW.free hS;exact⟨by omega,by omega,by omega⟩
 . have q:m.w.S=true:=q
   rw [hS] at q;cases q
theorem Inv.gives (h:Inv N m v) (hi:i<N) (hv:v i=.out) (hL:m.w.L=true)
 (hx:(x=.out/\¬ wakes { m.w with L:=false }/\m.w.S=false)\/(x=.draws/\m.w.S=true)\/(x=.give { m.w with L:=false }/\m.w.S=false)) :
 Inv N { m with w:={ m.w with L:=false } } (upd v i x):=by
 have hW:=h.W;rcases hx with ⟨rfl,hnw,hS⟩ | ⟨rfl,hS⟩ | ⟨rfl,hS⟩
 . have eQ:=cnt_upd (p:=isQ) (v:=v) (x:=V.out) hi
   have eH:=cnt_upd (p:=isH) (v:=v) (x:=V.out) hi;have eG:=cnt_upd (p:=isG) (v:=v) (x:=V.out) hi;have eA:=cnt_upd (p:=isA) (v:=v) (x:=V.out) hi;simp only [hv,isQ,isH,isG,isA,b1,Bool.false_eq_true,if_true,if_false,Int.sub_zero,Int.add_zero] at eQ eH eG eA;refine⟨⟨hW.n0,hW.c0,λ _=>?_,λ q=>?_⟩,h.T.same hi (by rw [hv]) (by rw [hv]),h.L.same hi (by rw [hv]),h.O.upd hi (.inl (Int.le_refl _)) (λ _ _ e=>by cases e) (λ _ _ _ e=>by cases e) (λ _ _ e=>by cases e),InvR.off hnw⟩
   . dsimp only
     obtain⟨a,b,c⟩:=hW.free hS;exact⟨by omega,by omega,by omega⟩
   . have q:m.w.S=true:=q
     rw [hS] at q;cases q
 . have eQ:=cnt_upd (p:=isQ) (v:=v) (x:=V.draws) hi
   have eH:=cnt_upd (p:=isH) (v:=v) (x:=V.draws) hi;have eG:=cnt_upd (p:=isG) (v:=v) (x:=V.draws) hi;have eA:=cnt_upd (p:=isA) (v:=v) (x:=V.draws) hi;simp only [hv,isQ,isH,isG,isA,b1,Bool.false_eq_true,if_true,if_false,Int.sub_zero,Int.add_zero] at eQ eH eG eA;refine⟨⟨hW.n0,hW.c0,λ q=>?_,λ _=>?_⟩,h.T.same hi (by rw [hv];rfl) (by rw [hv];rfl),h.L.same hi (by rw [hv];rfl),h.O.upd hi (.inl (Int.le_refl _)) (λ _ _ e=>by cases e) (λ _ _ _ e=>by cases e) (λ _ _ e=>by cases e),InvR.off (λ q=>by have q:=q.2.2.1;dsimp only at q;rw [hS] at q;cases q)⟩
   . have q:m.w.S=false:=q
     rw [hS] at q;cases q
   . dsimp only
     obtain⟨a,b,c,d,e⟩:=hW.starve hS;have d:=d hL;exact⟨a,by omega,by omega,(λ q=>by cases q),λ _=>by omega⟩
 . have eQ:=cnt_upd (p:=isQ) (v:=v) (x:=(V.give { m.w with L:=false })) hi
   have eH:=cnt_upd (p:=isH) (v:=v) (x:=(V.give { m.w with L:=false })) hi;have eG:=cnt_upd (p:=isG) (v:=v) (x:=(V.give { m.w with L:=false })) hi;have eA:=cnt_upd (p:=isA) (v:=v) (x:=(V.give { m.w with L:=false })) hi;simp only [hv,isQ,isH,isG,isA,b1,Bool.false_eq_true,if_true,if_false,Int.sub_zero,Int.add_zero] at eQ eH eG eA;refine⟨⟨hW.n0,hW.c0,λ _=>?_,λ q=>?_⟩,h.T.same hi (by rw [hv];rfl) (by rw [hv];rfl),h.L.same hi (by rw [hv];rfl),h.O.upd hi (.inl (Int.le_refl _)) (λ _ _ e=>by cases e) (λ _ _ _ e=>by cases e) (λ _ _ e=>by cases e),InvR.got hi (λ q=>.inr ⟨_,rfl,q⟩)⟩
   . dsimp only
     obtain⟨a,b,c⟩:=hW.free hS;exact⟨by omega,by omega,by omega⟩
   . have q:m.w.S=true:=q
     rw [hS] at q;cases q
theorem Inv.leaves (h:Inv N m v) (hi:i<N) (hv:v i=.give old) (hn:¬ wakes old):Inv N m (upd v i .out) :=
 h.quiet hi (by rw [hv];rfl) (by rw [hv];rfl) (by rw [hv];rfl) (by rw [hv];rfl) (by rw [hv];rfl) (by rw [hv];rfl) (by rw [hv];rfl) (λ _ _ e=>by cases e) (λ _ _ _ e=>by cases e) (λ _ _ e=>by cases e)
  (λ _ q=>by rw [hv] at q;rcases q with q | ⟨_,q,hw⟩;cases q;cases q;exact absurd hw hn)
theorem Inv.wakes_ (h:Inv N m v) (hi:i<N) (hv:v i=.give old) (hw:wakes m.w):Inv N { m with w:={ L:=false,K:=true,S:=false,n:=m.w.n-1 } } (upd v i .draws):=by
 obtain⟨hL,hK,hS,hn⟩:=hw;have eQ:=cnt_upd (p:=isQ) (v:=v) (x:=V.draws) hi;have eH:=cnt_upd (p:=isH) (v:=v) (x:=V.draws) hi;have eG:=cnt_upd (p:=isG) (v:=v) (x:=V.draws) hi;have eA:=cnt_upd (p:=isA) (v:=v) (x:=V.draws) hi;simp only [hv,isQ,isH,isG,isA,b1,Bool.false_eq_true,if_true,if_false,Int.sub_zero,Int.add_zero] at eQ eH eG eA;have hW:=h.W;obtain⟨a,b,c⟩:=hW.free hS;rw [hK] at b;simp only [b1,Bool.false_eq_true,if_false] at b;refine⟨⟨by show 0<=m.w.n-1;omega,hW.c0,λ _=>?_,λ q=>by cases q⟩,h.T.same hi (by rw [hv];rfl) (by rw [hv];rfl),h.L.same hi (by rw [hv];rfl),h.O.upd hi (.inr λ k st' old' hk _=>h.no_hand hS k st' old' hk) (λ _ _ e=>by cases e) (λ _ _ _ e=>by cases e) (λ _ _ e=>by cases e),InvR.off (λ q=>by cases q.2.1)⟩;dsimp only;exact⟨by omega,by simp only [b1,if_true];omega,by omega⟩
theorem Inv.again (h:Inv N m v) (hi:i<N) (hv:v i=.give old):Inv N m (upd v i .see) :=
 h.quiet hi (by rw [hv];rfl) (by rw [hv];rfl) (by rw [hv];rfl) (by rw [hv];rfl) (by rw [hv];rfl) (by rw [hv];rfl) (by rw [hv];rfl) (λ _ _ e=>by cases e) (λ _ _ _ e=>by cases e) (λ _ _ e=>by cases e) (λ _ _=>.inl rfl)
theorem Inv.sees (h:Inv N m v) (hi:i<N) (hv:v i=.see):Inv N m (upd v i (.give m.w)) :=
 h.quiet hi (by rw [hv];rfl) (by rw [hv];rfl) (by rw [hv];rfl) (by rw [hv];rfl) (by rw [hv];rfl) (by rw [hv];rfl) (by rw [hv];rfl) (λ _ _ e=>by cases e) (λ _ _ _ e=>by cases e) (λ _ _ e=>by cases e) (λ q _=>.inr ⟨_,rfl,q⟩)
theorem Inv.granted (h:Inv N m v) (hi:i<N) (hv:v i=.grant t) (hl:m.l=[]):Inv N { m with c:=m.c+1 } (upd v i (.serves t)):=by
 have eQ:=cnt_upd (p:=isQ) (v:=v) (x:=V.serves t) hi;have eH:=cnt_upd (p:=isH) (v:=v) (x:=V.serves t) hi;have eG:=cnt_upd (p:=isG) (v:=v) (x:=V.serves t) hi;have eA:=cnt_upd (p:=isA) (v:=v) (x:=V.serves t) hi;simp only [hv,isQ,isH,isG,isA,b1,Bool.false_eq_true,if_true,if_false,Int.sub_zero,Int.add_zero] at eQ eH eG eA;have hW:=h.W;have c0:=hW.c0;refine⟨⟨hW.n0,by show 0<=m.c+1;omega,λ hS=>?_,λ hS=>?_⟩,h.T.same hi (by rw [hv];rfl) (by rw [hv];rfl),⟨h.L.nd,(h.L.same (x:=V.serves t) hi (by rw [hv];rfl)).lm,λ _=>hl⟩,h.O.upd hi (.inl (Int.le_refl _)) (λ _ _ e=>by cases e) (λ _ _ _ e=>by cases e) (λ _ _ e=>by cases e),h.R.keep hi id (λ _ q=>by rw [hv] at q;rcases q with q | ⟨_,q,_⟩<;>cases q)⟩
 . dsimp only at hS ⊢
   obtain⟨a,b,c⟩:=hW.free hS;exact⟨by omega,by omega,by omega⟩
 . dsimp only at hS ⊢
   obtain⟨a,b,c,d,e⟩:=hW.starve hS;exact⟨a,by omega,by omega,λ q=>⟨by have:=(d q).1;omega,by have:=(d q).2;omega⟩,λ q=>by have:=e q;omega⟩
theorem Inv.next (h:Inv N m v) (hi:i<N) (hv:v i=.grant t) {y:Int} {rest:List Int} (hl:m.l=y::rest):∃ j,j<N/\y=(j:Int)/\j≠i/\v j=.wok true:=by
 obtain⟨j,hj,e,hx⟩:=(h.L.lm y).1 (by rw [hl];exact List.mem_cons_self);have hti:=h.T.t4 i hi (by rw [hv];rfl);have hne:j≠i:=λ q=>by subst q;rw [hv] at hx;cases hx
 refine⟨j,hj,e,hne,?_⟩
 cases hvj:v j with
 | serve t' told =>
  exfalso;have htj:=h.T.t4 j hj (by rw [hvj];rfl);exact h.T.t2 i j m.sv hi hj (λ q=>hne q.symm) hti htj
 | wok pk =>
  cases pk
  . rw [hvj] at hx;cases hx
  . rfl
 | _=>rw [hvj] at hx;cases hx
theorem Inv.tells (h:Inv N m v) (hi:i<N) (hv:v i=.grant t) (hj:j<N) (hne:j≠i) (hvj:v j=.wok true) {rest:List Int} (hl:m.l=(j:Int)::rest) :
 Inv N { m with l:=rest } (upd (upd v j (.wok false)) i (.serves t)):=by
 have hvi:upd v j (.wok false) i=.grant t:=by rw [upd_off (λ q=>hne q.symm)];exact hv
 have aQ:=cnt_upd (p:=isQ) (v:=v) (x:=V.wok false) hj;have aH:=cnt_upd (p:=isH) (v:=v) (x:=V.wok false) hj;have aG:=cnt_upd (p:=isG) (v:=v) (x:=V.wok false) hj;have aA:=cnt_upd (p:=isA) (v:=v) (x:=V.wok false) hj;have eQ:=cnt_upd (p:=isQ) (v:=upd v j (.wok false)) (x:=V.serves t) hi;have eH:=cnt_upd (p:=isH) (v:=upd v j (.wok false)) (x:=V.serves t) hi;have eG:=cnt_upd (p:=isG) (v:=upd v j (.wok false)) (x:=V.serves t) hi;have eA:=cnt_upd (p:=isA) (v:=upd v j (.wok false)) (x:=V.serves t) hi;simp only [hvi,hvj,isQ,isH,isG,isA,b1,Bool.false_eq_true,if_true,if_false,Int.sub_zero,Int.add_zero] at aQ aH aG aA eQ eH eG eA;have hW:=h.W;have hnd:=h.L.nd;rw [hl] at hnd;obtain⟨hno,hnd⟩:=List.nodup_cons.1 hnd;refine⟨⟨hW.n0,hW.c0,λ hS=>?_,λ hS=>?_⟩,(h.T.same hj (by rw [hvj];rfl) (by rw [hvj];rfl)).same hi (by rw [hvi];rfl) (by rw [hvi];rfl),⟨hnd,λ y=>?_,λ q=>?_⟩,
  (h.O.upd hj (.inl (Int.le_refl _)) (λ _ _ e=>by cases e) (λ _ _ _ e=>by cases e) (λ _ _ e=>by cases e)).upd hi (.inl (Int.le_refl _)) (λ _ _ e=>by cases e) (λ _ _ _ e=>by cases e) (λ _ _ e=>by cases e),(h.R.keep hj id (λ _ q=>by rw [hvj] at q;rcases q with q | ⟨_,q,_⟩<;>cases q)).keep hi id (λ _ q=>by rw [hvi] at q;rcases q with q | ⟨_,q,_⟩<;>cases q)⟩
 . dsimp only at hS ⊢
   obtain⟨a,b,c⟩:=hW.free hS;exact⟨by omega,by omega,by omega⟩
 . dsimp only at hS ⊢
   obtain⟨a,b,c,d,e⟩:=hW.starve hS;exact⟨a,by omega,by omega,λ q=>⟨by have:=(d q).1;omega,by have:=(d q).2;omega⟩,λ q=>by have:=e q;omega⟩
 . dsimp only
   constructor
   . intro hy
     obtain⟨k,hk,e,hx⟩:=(h.L.lm y).1 (by rw [hl];exact List.mem_cons_of_mem _ hy);have hkj:k≠j:=λ q=>by subst q;rw [e] at hy;exact hno hy
     have hki:k≠i:=λ q=>by subst q;rw [hv] at hx;cases hx
     exact⟨k,hk,e,by rw [upd_off hki,upd_off hkj];exact hx⟩
   . rintro⟨k,hk,e,hx⟩
     by_cases hki:k=i
     . subst hki;rw [upd_at] at hx;cases hx
     . rw [upd_off hki] at hx
       by_cases hkj:k=j
       . subst hkj;rw [upd_at] at hx;cases hx
       . rw [upd_off hkj] at hx
         have:=(h.L.lm y).2 ⟨k,hk,e,hx⟩;rw [hl] at this;rcases List.mem_cons.1 this with q | q
         . exact absurd (by omega) hkj
         . exact q
 . have q:0<m.c:=q
   have:=h.L.le q;rw [hl] at this;cases this
theorem Inv.first (hv:∀ i,i<N->v i=.out):Inv N { w:={ L:=false,K:=false,S:=false,n:=0 },nx:=0,sv:=0,c:=0,l:=[] } v:=by
 have z:∀ p:V->Bool,p .out=false->cnt p v N=0:=λ p h1=>by
  have h0:=cnt_nonneg (p:=p) (v:=v) (N:=N);by_cases e:cnt p v N=0
  . exact e
  . obtain⟨j,hj,hp⟩:=cnt_ex (p:=p) (v:=v) (N:=N) (by omega)
    rw [hv j hj,h1] at hp;cases hp
 have zG:=z isG rfl;have zA:=z isA rfl;have zH:=z isH rfl;have zQ:=z isQ rfl;have zT:=z isT rfl;refine⟨⟨by simp,by simp,λ _=>⟨zH,by simp [zG,zA,b1],by simp [zG,zQ]⟩,λ q=>by cases q⟩,⟨by simp,by simp,λ i t hi e=>?_,λ i j t hi _ _ e=>?_,by simp [zT],λ i hi e=>?_⟩,⟨by simp,λ x=>?_,λ _=>rfl⟩,⟨λ i _ _ hi e=>?_,λ i _ _ _ hi e=>?_,λ i _ _ hi e=>?_⟩,InvR.off (λ q=>by have:=q.2.2.2;simp at this)⟩
 . rw [hv i hi] at e;cases e
 . rw [hv i hi] at e;cases e
 . rw [hv i hi] at e;cases e
 . constructor
   . intro q;cases q
   . rintro⟨i,hi,_,e⟩;rw [hv i hi] at e;cases e
 . rw [hv i hi] at e;cases e
 . rw [hv i hi] at e;cases e
 . rw [hv i hi] at e;cases e
end
end P16
end
section
namespace P16
theorem wd_un (w:Wd):wd (un w)=w:=by
 obtain⟨L,K,S,n⟩:=w;have e:un ⟨L,K,S,n⟩=8*n+4*b1 S+2*b1 K+b1 L:=rfl;unfold wd;rw [e];cases L<;>cases K<;>cases S<;>simp only [b1,Bool.false_eq_true,if_true,if_false]<;>congr 1<;>first | omega | (simp;try omega)
def new (l:List (List (Int×Int))):Mw :=
 { now:=0,progs:=l,cl:=l.map λ p=>first 0 false 0 p.length,cm:=λ _=>⟨0,0,0,0,[]⟩,stop:=0 }
end P16
end
section
open Go.ChangeShapes Go.WideShapes Go.ChangeAt Go.RowKit Go.Deep
section
variable {H:Type} {enc:TypeId×Value->H} {P:Program} {w:World} {base:Nat} {spare:Nat->Bool} {held:Bool}
theorem open_fields {r:Reach} {b0:Nat} {t:TypeId} {fs:Array Field} {v:Value} {d:DataW H} {p:List MemPlace} (hs:P.underlying t=some (.struct fs)) (hone:oneCellFields P fs=true) (hC:P.cellsOf t=fs.size)
 (hv:Value.okWide P w r b0 t v) (h:DataW.Trod enc P w base spare held t v d p) :
 ∃ cs,v=.agg cs/\cs.size=fs.size/\∀ (i:Nat) (f:Field),fs[i]?=some f->∃ c y n,cs[i]?=some c/\DataW.trod enc P w base spare held n f.type [c]=some y:=by
 obtain⟨cs,rfl,hsz⟩:=okWide_struct hs hv;obtain⟨fuel,hf⟩:=h;obtain⟨xs,n,_,_,hl,hlen,hf⟩:=DataW.trod_struct hs hf;refine⟨cs,rfl,hsz.trans hC,λ i f hi=>?_⟩;obtain⟨o,k⟩:=hone_of hone i f hi;have hlt:i<fs.size:=(Array.getElem?_eq_some_iff.1 hi).1;have hlt':i<cs.size:=by omega
 have hlx:i<xs.length:=by omega
 have hx:=hf i f hi;rw [o,k,List.getElem?_eq_getElem hlx] at hx;refine⟨cs[i],xs[i],n,Array.getElem?_eq_getElem hlt',?_⟩;rw [<- hx];congr 1;simp only [Value.cells];rw [List.drop_eq_getElem_cons (by simpa using hlt')];simp
end
end
section
open Go.ChangeShapes Go.WideShapes Go.ChangeAt Go.RowKit Go.Joins
namespace P16
open P12 (PV PMem)
theorem cellsOfClient:Tryz.prog.cellsOf 55=13:=by kernel_rfl
theorem cellsOfMutex:Tryz.prog.cellsOf 48=3:=by kernel_rfl
theorem cellsOfGor:Tryz.prog.cellsOf 51=2:=by kernel_rfl
theorem cellsOfOwn:Tryz.prog.cellsOf 53=5:=by kernel_rfl
theorem cellsOfTicket:Tryz.prog.cellsOf 46=2:=by kernel_rfl
section
variable {H:Type} {enc:TypeId×Value->H} {W:World} {sp:Nat->Bool}
theorem list2 {α:Type} {l:List α} (h:l.length=2):∃ a b,l=[a,b]:=by
 match l,h with
 | [a,b],_=>exact⟨a,b,rfl⟩
theorem list3 {α:Type} {l:List α} (h:l.length=3):∃ a b c,l=[a,b,c]:=by
 match l,h with
 | [a,b,c],_=>exact⟨a,b,c,rfl⟩
theorem list5 {α:Type} {l:List α} (h:l.length=5):∃ a b c d e,l=[a,b,c,d,e]:=by
 match l,h with
 | [a,b,c,d,e],_=>exact⟨a,b,c,d,e,rfl⟩
theorem list13 {α:Type} {l:List α} (h:l.length=13):∃ a b c d e f g h i j k m n,l=[a,b,c,d,e,f,g,h,i,j,k,m,n]:=by
 match l,h with
 | [a,b,c,d,e,f,g,h,i,j,k,m,n],_=>exact⟨a,b,c,d,e,f,g,h,i,j,k,m,n,rfl⟩
variable {m:Nat} {cs:List Value} {y:DataW H×List MemPlace}
theorem fld {fs:Array Field} {xs:List (DataW H×List MemPlace)} {n i:Nat} (hl:xs.length=fs.size)
 (h:∀ (i:Nat) (f:Field),fs[i]?=some f->DataW.trod enc Tryz.prog W 0 sp true n f.type ((cs.drop f.offset).take (Tryz.prog.cellsOf f.type))=xs[i]?) {f:Field} (hf:fs[i]?=some f) :
 ∃ y,DataW.trod enc Tryz.prog W 0 sp true n f.type ((cs.drop f.offset).take (Tryz.prog.cellsOf f.type))=some y:=by
 have hi:=(Array.getElem?_eq_some_iff.1 hf).1;exact⟨xs[i]'(by omega),by rw [h i f hf];exact List.getElem?_eq_getElem _⟩
theorem trod_gor (h:DataW.trod enc Tryz.prog W 0 sp true m 51 cs=some y):∃ s p,cs=[.int .i64 s,.bool p]/\B64 s:=by
 obtain⟨xs,n,_,_,hl,hx,hf⟩:=DataW.trod_struct Tryz.underlying51 h;rw [cellsOfGor] at hl;obtain⟨a,b,rfl⟩:=list2 hl;obtain⟨y0,t0⟩:=fld hx hf (i:=0) rfl;obtain⟨y1,t1⟩:=fld hx hf (i:=1) rfl;obtain⟨s,e0,_,w0⟩:=DataW.trod_int Tryz.underlying3 (cs:=[a]) t0;obtain⟨p,e1,_⟩:=DataW.trod_bool Tryz.underlying4 (cs:=[b]) t1;cases e0;cases e1;exact⟨s,p,rfl,wfb w0⟩
theorem trod_own (h:DataW.trod enc Tryz.prog W 0 sp true m 53 cs=some y):∃ s t k r o,cs=[.int .i64 s,.bool t,.bool k,.int .i64 r,.int .i64 o]/\B64 s/\B64 r/\B64 o:=by
 obtain⟨xs,n,_,_,hl,hx,hf⟩:=DataW.trod_struct Tryz.underlying53 h;rw [cellsOfOwn] at hl;obtain⟨a,b,c,d,e,rfl⟩:=list5 hl;obtain⟨y0,t0⟩:=fld hx hf (i:=0) rfl;obtain⟨y1,t1⟩:=fld hx hf (i:=1) rfl;obtain⟨y2,t2⟩:=fld hx hf (i:=2) rfl;obtain⟨y3,t3⟩:=fld hx hf (i:=3) rfl;obtain⟨y4,t4⟩:=fld hx hf (i:=4) rfl;obtain⟨s,e0,_,w0⟩:=DataW.trod_int Tryz.underlying3 (cs:=[a]) t0;obtain⟨t,e1,_⟩:=DataW.trod_bool Tryz.underlying4 (cs:=[b]) t1;obtain⟨k,e2,_⟩:=DataW.trod_bool Tryz.underlying4 (cs:=[c]) t2;obtain⟨r,e3,_,w3⟩:=DataW.trod_int Tryz.underlying3 (cs:=[d]) t3;obtain⟨o,e4,_,w4⟩:=DataW.trod_int Tryz.underlying3 (cs:=[e]) t4;cases e0;cases e1;cases e2;cases e3;cases e4;exact⟨s,t,k,r,o,rfl,wfb w0,wfb w3,wfb w4⟩
theorem trod_ticket (h:DataW.trod enc Tryz.prog W 0 sp true m 46 cs=some y):∃ s p,cs=[.int .i64 s,.int .i64 p]/\B64 s/\B64 p:=by
 obtain⟨xs,n,_,_,hl,hx,hf⟩:=DataW.trod_struct Tryz.underlying46 h;rw [cellsOfTicket] at hl;obtain⟨a,b,rfl⟩:=list2 hl;obtain⟨y0,t0⟩:=fld hx hf (i:=0) rfl;obtain⟨y1,t1⟩:=fld hx hf (i:=1) rfl;obtain⟨s,e0,_,w0⟩:=DataW.trod_int Tryz.underlying3 (cs:=[a]) t0;obtain⟨p,e1,_,w1⟩:=DataW.trod_int Tryz.underlying3 (cs:=[b]) t1;cases e0;cases e1;exact⟨s,p,rfl,wfb w0,wfb w1⟩
theorem trod_mutex (h:DataW.trod enc Tryz.prog W 0 sp true m 48 cs=some y):∃ x:T3,cs=t3V x/\TB3 x:=by
 obtain⟨xs,n,_,_,hl,hx,hf⟩:=DataW.trod_struct Tryz.underlying48 h;rw [cellsOfMutex] at hl;obtain⟨a,b,c,rfl⟩:=list3 hl;obtain⟨y0,t0⟩:=fld hx hf (i:=0) rfl;obtain⟨y1,t1⟩:=fld hx hf (i:=1) rfl;obtain⟨s,e0,_,w0⟩:=DataW.trod_int Tryz.underlying3 (cs:=[a]) t0;obtain⟨p,q,e1,w1,w2⟩:=trod_ticket (cs:=[b,c]) t1;cases e0;cases e1;exact⟨(s,p,q),rfl,wfb w0,w1,w2⟩
theorem trod_client (h:DataW.trod enc Tryz.prog W 0 sp true m 55 cs=some y):∃ x:Cl,cs=clV x/\CB x:=by
 obtain⟨xs,n,_,_,hl,hx,hf⟩:=DataW.trod_struct Tryz.underlying55 h;rw [cellsOfClient] at hl;obtain⟨c0,c1,c2,c3,c4,c5,c6,c7,c8,c9,c10,c11,c12,rfl⟩:=list13 hl;obtain⟨y0,t0⟩:=fld hx hf (i:=0) rfl;obtain⟨y1,t1⟩:=fld hx hf (i:=1) rfl;obtain⟨y2,t2⟩:=fld hx hf (i:=2) rfl;obtain⟨y3,t3⟩:=fld hx hf (i:=3) rfl;obtain⟨y4,t4⟩:=fld hx hf (i:=4) rfl;obtain⟨y5,t5⟩:=fld hx hf (i:=5) rfl;obtain⟨y6,t6⟩:=fld hx hf (i:=6) rfl;obtain⟨y7,t7⟩:=fld hx hf (i:=7) rfl;obtain⟨s0,s1,e0,b0⟩:=trod_gor (cs:=[c0,c1]) t0;obtain⟨s2,e2,_,b2⟩:=DataW.trod_int Tryz.underlying3 (cs:=[c2]) t1;obtain⟨s3,e3,_,b3⟩:=DataW.trod_int Tryz.underlying3 (cs:=[c3]) t2;obtain⟨s4,e4,_,b4⟩:=DataW.trod_int Tryz.underlying3 (cs:=[c4]) t3;obtain⟨s5,e5,_,b5⟩:=DataW.trod_int Tryz.underlying3 (cs:=[c5]) t4;obtain⟨s6,e6,_⟩:=DataW.trod_bool Tryz.underlying4 (cs:=[c6]) t5;obtain⟨s7,e7,_⟩:=DataW.trod_bool Tryz.underlying4 (cs:=[c7]) t6;obtain⟨s8,s9,s10,s11,s12,e8,b8,b11,b12⟩:=trod_own (cs:=[c8,c9,c10,c11,c12]) t7;cases e0;cases e2;cases e3;cases e4;cases e5;cases e6;cases e7;cases e8;exact⟨⟨s0,s1,s2,s3,s4,s5,s6,s7,s8,s9,s10,s11,s12⟩,rfl,b0,wfb b2,wfb b3,wfb b4,wfb b5,b8,b11,b12⟩
theorem trod_progs (h:DataW.trod enc Tryz.prog W 0 sp true m 22 cs=some y):∃ A n c R,cs=[.slice A n c]/\n<=c/\c<=9223372036854775807/\PMem W A n R:=by
 obtain⟨A,n,c,R,e,h1,h2,h3⟩:=trod_rmem (en:=λ x:PV=>[x.enc]) (ok:=λ x=>x.ok W) Tryz.underlying22 P12.cellsOfActs (by decide) (λ m cs y h=>P12.trod_acts h) h;exact⟨A,n,c,R,e,h1,h2,⟨h3.1,λ _ _=>trivial,h3.emem.2.2⟩,h3.2.1⟩
theorem trod_spots (h:DataW.trod enc Tryz.prog W 0 sp true m 26 cs=some y):∃ A n c T,cs=[.slice A n c]/\n<=c/\c<=9223372036854775807/\SMem W A n T:=by
 obtain⟨A,n,c,T,e,h1,h2,h3⟩:=trod_rmem (en:=λ x:SV=>[.int .i64 x.addr,.int .i64 x.cnt,.slice x.A x.n x.c]) (ok:=λ x=>x.ok W) Tryz.underlying26 cellsOfSpot (by decide) (λ m cs y h=>trod_spot h) h;refine⟨A,n,c,T,e,h1,h2,h3.1,h3.2.1,λ hn=>?_⟩;obtain⟨b,off,e1,e2,e3⟩:=h3.2.2 hn;exact⟨b,off,e1,e2,λ j x hx=>⟨e3 j x hx 0 _ rfl,e3 j x hx 1 _ rfl,e3 j x hx 2 _ rfl⟩⟩
theorem open_world {base:Nat} {v:Value} {d:DataW H} {ps:List MemPlace}
 (hval:Value.okWide Tryz.prog W .any base 29 v) (h:DataW.Trod enc Tryz.prog W 0 sp true 29 v d ps) :
 ∃ (r:WR) (ω:Wv),v=r.v/\WIs W r ω:=by
 obtain⟨cs,rfl,hsz,hf⟩:=Go.Proofs.YtainfijdhcehlaaGreatDoor.open_fields Tryz.underlying29 (by kernel_rfl) (by kernel_rfl) hval h;obtain⟨c0,c1,c2,c3,c4,c5,rfl⟩:=array6 hsz;obtain⟨_,_,n0,e0,t0⟩:=hf 0 _ rfl;obtain⟨_,_,n1,e1,t1⟩:=hf 1 _ rfl;obtain⟨_,_,n2,e2,t2⟩:=hf 2 _ rfl;obtain⟨_,_,n3,e3,t3⟩:=hf 3 _ rfl;obtain⟨_,_,n4,e4,t4⟩:=hf 4 _ rfl;obtain⟨_,_,n5,e5,t5⟩:=hf 5 _ rfl;cases e0;cases e1;cases e2;cases e3;cases e4;cases e5;obtain⟨now,q0,-,w0⟩:=DataW.trod_int Tryz.underlying3 t0;obtain⟨A1,n1,k1,R,q1,h1,g1,m1⟩:=trod_progs t1;obtain⟨A2,n2,k2,L,q2,h2,g2,m2⟩:=trod_rmem (en:=clV) (ok:=CB) Tryz.underlying24 cellsOfClient (by decide) (λ m cs y h=>trod_client h) t2;obtain⟨A3,n3,k3,M,q3,h3,g3,m3⟩:=trod_rmem (en:=t3V) (ok:=TB3) Tryz.underlying25 cellsOfMutex (by decide) (λ m cs y h=>trod_mutex h) t3;obtain⟨A4,n4,k4,T,q4,h4,g4,m4⟩:=trod_spots t4;obtain⟨stop,q5,-,w5⟩:=DataW.trod_int Tryz.underlying27 t5;cases q0;cases q1;cases q2;cases q3;cases q4;cases q5;exact⟨⟨now,⟨A1,n1,k1⟩,⟨A2,n2,k2⟩,⟨A3,n3,k3⟩,⟨A4,n4,k4⟩,stop⟩,⟨now,P12.pl R,L,M,T.map SV.pl,stop⟩,rfl,rfl,rfl,wfb w0,wfb w5,⟨R,m1,rfl⟩,m2,m3,⟨T,m4,rfl⟩,⟨h1,g1⟩,⟨h2,g2⟩,⟨h3,g3⟩,⟨h4,g4⟩⟩
end
end P16
end
section
namespace P16
section
variable {p:List Ac} {c c':Cl} {k n:Int} {m m':Nat}
theorem vwp_at (h:p[c.act.toNat]?=some (k,n)):vwp p c m=vw k n c m:=by unfold vwp;rw [h]
theorem vw_far (h:n≠m):vw k n c m=.out:=by unfold vw;rw [if_pos h]
theorem vw_start (h:c.pc=0):vw k n c m=.out:=by
 unfold vw;rw [h];by_cases h1:n≠m
 . rw [if_pos h1]
 . rw [if_neg h1]
   by_cases h2:k=0
   . rw [if_pos h2];rfl
   . rw [if_neg h2]
     by_cases h3:k=1
     . rw [if_pos h3];rfl
     . rw [if_neg h3]
       by_cases h4:k=2
       . rw [if_pos h4];rfl
       . rw [if_neg h4]
theorem vwp_start (h:c.pc=0):vwp p c m=.out:=by
 unfold vwp;split
 . exact vw_start h
 . rfl
theorem vwp_over {len:Nat}:vwp p (over c len) m=.out:=vwp_start rfl
theorem CInv.lt (h:CInv p c) (hg:c.gst≠2):c.act.toNat<p.length:=by
 have:=h.a0;have:=h.a1;have:c.act≠p.length:=λ e=>hg (h.dn.2 e)
 omega
theorem CInv.over (h:CInv p c) (hg:c.gst=0):CInv p (over c p.length):=by
 have hlt:=h.lt (by omega);have a0:=h.a0;have hp:=h.pm;refine⟨by show 0<=c.act+1;omega,by show c.act+1<=_;omega,?_,?_,?_,?_,λ k n _=>.inl rfl,λ _=>rfl,⟨Int.le_refl _,by show (0:Int)<4294967296;decide⟩,.inl rfl,⟨Int.le_refl _,by show (0:Int)<=4;decide⟩,⟨Int.le_refl _,by show (0:Int)<2147483648;decide⟩,λ _=>⟨rfl,rfl⟩,.inl rfl,λ q=>by cases q⟩
 . show (if c.act+1=p.length then false else c.permit)=false
   rw [hp];split<;>rfl
 . show (if c.act+1=p.length then (2:Int) else c.gst)=0\/(if c.act+1=p.length then (2:Int) else c.gst)=1\/(if c.act+1=p.length then (2:Int) else c.gst)=2
   split
   . exact .inr (.inr rfl)
   . exact .inl hg
 . show (if c.act+1=p.length then (2:Int) else c.gst)=2↔c.act+1=p.length
   split
   . rename_i e;exact⟨λ _=>e,λ _=>rfl⟩
   . rename_i e;exact⟨λ q=>by omega,λ q=>absurd q e⟩
 . show (if c.act+1=p.length then (2:Int) else c.gst)=1->_
   split
   . intro q;omega
   . intro q;omega
theorem CInv.stay (h:CInv p c) (hg:c.gst=0) (ha:p[c.act.toNat]?=some (k,n)) (hk:k≠3) (e1:c'.act=c.act) (e2:c'.permit=false) (e3:c'.gst=0\/(c'.gst=1/\c'.pc=7)) (e4:OkPc k c'.pc) (e5:0<=c'.ticket/\c'.ticket<4294967296)
 (e6:c'.since=-1\/(0<=c'.since/\c'.since<=4611686018427387904)) (e7:0<=c'.rounds/\c'.rounds<=4) (e8:OkW c'.old) (e9:c'.pc≠0) (e10:c'.worked=c.worked) (e11:c'.pc=9->(wd c'.old).L=false/\(wd c'.old).S=false:=by intro q;cases q):CInv p c':=by
 have hlt:=h.lt (by omega);have a0:=h.a0;refine⟨by rw [e1];exact a0,by rw [e1];exact h.a1,e2,by rcases e3 with e | ⟨e,_⟩<;>omega,⟨λ q=>by rcases e3 with e | ⟨e,_⟩<;>omega,λ q=>by rw [e1] at q;omega⟩,λ q=>by rcases e3 with e | ⟨_,e⟩;omega;exact e,
  λ k' n' q=>by rw [e1,ha] at q;cases q;exact e4,λ q=>by rw [e1] at q;omega,e5,e6,e7,e8,λ q=>absurd q e9,?_,e11⟩
 rw [e1,e10];exact h.wk
end
def HeldR (ev:Option Int) (L L':Bool):Prop :=
 (ev=none/\L'=L)\/(ev=some 0/\L=false/\L'=true)\/(ev=some 1/\L=false/\L'=true)\/(ev=some 2/\L'=L)\/(ev=some 3/\L=true/\L'=false)
def HandsR (ev:Option Int) (k pc:Int) (st:Bool) (S S':Bool):Prop :=
 (S=false->S'=true->k=0/\pc=2/\st=true)/\(S=true->S'=false->k=0/\pc=8)/\(S=true->ev≠some 1)/\(S=true->ev=some 0->k=0/\pc=8)
theorem HandsR.same {ev:Option Int} {k pc:Int} {st S:Bool} (h1:S=true->ev≠some 1) (h2:S=true->ev=some 0->k=0/\pc=8):HandsR ev k pc st S S :=
 ⟨(λ a b=>by rw [a] at b;cases b),(λ a b=>by rw [a] at b;cases b),h1,h2⟩
structure StepOk (N i m:Nat) (p:List Ac) (k:Int) (c:Cl) (a:Cm) (v:Nat->V) (o:Out):Prop where
 ci:CInv p o.c
 ow:OkW o.m.word
 iv:(o.rdy=none/\Inv N (mx o.m) (upd v i (vwp p o.c m)))\/(∃ j,j<N/\j≠i/\o.rdy=some (j:Int)/\v j=.wok true/\Inv N (mx o.m) (upd (upd v j (.wok false)) i (vwp p o.c m)))
 far:∀ m',m'≠m->vwp p o.c m'=.out
 he:HeldR o.ev (wd a.word).L (wd o.m.word).L
 ha:HandsR o.ev k c.pc c.st (wd a.word).S (wd o.m.word).S
end P16
end
end Go.Proofs.YtainfijdhcehlaaGreatDoor
