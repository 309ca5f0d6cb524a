/-
  A part of the proof.
-/
import Derived.Test.YtainfijdhcehlaaGreatDoorQH7
import Derived.Lib.SmallJoins
import Derived.Deep.Fields
set_option linter.all false
set_option maxRecDepth 100000
set_option maxHeartbeats 8000000
namespace Go.Proofs.YtainfijdhcehlaaGreatDoor
open Lib (hid)
section
namespace P16
section
variable {N i j:Nat} {v:Nat->V} {x:V} {m:Mx} {w w':Wd} {aw st told S':Bool} {old:Wd} {t:Int} {l':List Int}
theorem Inv.tickets (h:Inv N m v) (hi:i<N) (hQ:isQ x=isQ (v i)) (hH:isH x=isH (v i)) (hG:isG x=isG (v i)) (hA:isA x=isA (v i)) (hl:inL x=inL (v i)) {nx sv:Int} (hT:InvT N nx sv (upd v i x))
 (h0:∀ aw st,x≠.load aw st) (h1:∀ aw st old,x≠.want aw st old) (h2:∀ st old,x≠.hand st old) (hg:¬ good (v i)) :
 Inv N { m with nx:=nx,sv:=sv } (upd v i x):=by
 have eQ:=cnt_upd (p:=isQ) (v:=v) (x:=x) hi
 have eH:=cnt_upd (p:=isH) (v:=v) (x:=x) hi
 have eG:=cnt_upd (p:=isG) (v:=v) (x:=x) hi
 have eA:=cnt_upd (p:=isA) (v:=v) (x:=x) hi
 rw [hQ] at eQ
 rw [hH] at eH
 rw [hG] at eG
 rw [hA] at eA
 have hW:=h.W
 refine⟨⟨hW.n0,hW.c0,λ hS=>?_,λ hS=>?_⟩,hT,h.L.same hi hl,h.O.upd hi (.inl (Int.le_refl _)) (λ aw st e=>absurd e (h0 aw st)) (λ aw st old e=>absurd e (h1 aw st old)) (λ st old e=>absurd e (h2 st old)),h.R.keep hi id (λ _ q=>absurd q hg)⟩
 . dsimp only at hS ⊢
   obtain⟨a,b,c⟩:=hW.free hS
   exact⟨by omega,by omega,by omega⟩
 . dsimp only at hS ⊢
   obtain⟨a,b,c,d,e⟩:=hW.starve hS
   exact⟨a,by omega,by omega,λ q=>⟨by have:=(d q).1;omega,by have:=(d q).2;omega⟩,λ q=>by have:=e q;omega⟩
theorem ng {x:V} (h0:x≠.see) (h1:∀ old,x≠.give old):¬ good x:=by
 rintro (q | ⟨old,q,_⟩)
 . exact h0 q
 . exact h1 old q
theorem Inv.draw (h:Inv N m v) (hN:N<=8) (hi:i<N) (hv:v i=.draw):Inv N { m with nx:=(m.nx+1) % 4294967296,sv:=m.sv } (upd v i (.turn m.nx)) :=
 h.tickets hi (by rw [hv];rfl) (by rw [hv];rfl) (by rw [hv];rfl) (by rw [hv];rfl) (by rw [hv];rfl) (h.T.draw hN hi (by rw [hv];rfl) rfl rfl) (λ _ _ e=>by cases e) (λ _ _ _ e=>by cases e) (λ _ _ e=>by cases e) (ng (by rw [hv];intro q;cases q) (by rw [hv];intro _ q;cases q))
theorem Inv.draws (h:Inv N m v) (hN:N<=8) (hi:i<N) (hv:v i=.draws):Inv N { m with nx:=(m.nx+1) % 4294967296,sv:=m.sv } (upd v i (.turns m.nx)) :=
 h.tickets hi (by rw [hv];rfl) (by rw [hv];rfl) (by rw [hv];rfl) (by rw [hv];rfl) (by rw [hv];rfl) (h.T.draw hN hi (by rw [hv];rfl) rfl rfl) (λ _ _ e=>by cases e) (λ _ _ _ e=>by cases e) (λ _ _ e=>by cases e) (ng (by rw [hv];intro q;cases q) (by rw [hv];intro _ q;cases q))
theorem Inv.sema (h:Inv N m v) (hN:N<=8) (hi:i<N) (hv:v i=.turn m.sv):Inv N m (upd v i (.sema m.sv)) :=
 h.tickets hi (by rw [hv];rfl) (by rw [hv];rfl) (by rw [hv];rfl) (by rw [hv];rfl) (by rw [hv];rfl) (h.T.turn hi (by rw [hv];rfl) rfl) (λ _ _ e=>by cases e) (λ _ _ _ e=>by cases e) (λ _ _ e=>by cases e) (ng (by rw [hv];intro q;cases q) (by rw [hv];intro _ q;cases q))
theorem Inv.grant (h:Inv N m v) (hN:N<=8) (hi:i<N) (hv:v i=.turns m.sv):Inv N m (upd v i (.grant m.sv)) :=
 h.tickets hi (by rw [hv];rfl) (by rw [hv];rfl) (by rw [hv];rfl) (by rw [hv];rfl) (by rw [hv];rfl) (h.T.turn hi (by rw [hv];rfl) rfl) (λ _ _ e=>by cases e) (λ _ _ _ e=>by cases e) (λ _ _ e=>by cases e) (ng (by rw [hv];intro q;cases q) (by rw [hv];intro _ q;cases q))
theorem Inv.served (h:Inv N m v) (hN:N<=8) (hi:i<N) (hv:v i=.serve t told):Inv N { m with nx:=m.nx,sv:=(m.sv+1) % 4294967296 } (upd v i (.wok (!told))) :=
 h.tickets hi (by rw [hv];cases told<;>rfl) (by rw [hv];rfl) (by rw [hv];cases told<;>rfl) (by rw [hv];rfl) (by rw [hv];cases told<;>rfl) (h.T.serve hN hi (by rw [hv];rfl) rfl rfl) (λ _ _ e=>by cases e) (λ _ _ _ e=>by cases e) (λ _ _ e=>by cases e) (ng (by rw [hv];intro q;cases q) (by rw [hv];intro _ q;cases q))
theorem Inv.serves (h:Inv N m v) (hN:N<=8) (hi:i<N) (hv:v i=.serves t):Inv N { m with nx:=m.nx,sv:=(m.sv+1) % 4294967296 } (upd v i (.out)) :=
 h.tickets hi (by rw [hv];rfl) (by rw [hv];rfl) (by rw [hv];rfl) (by rw [hv];rfl) (by rw [hv];rfl) (h.T.serve hN hi (by rw [hv];rfl) rfl rfl) (λ _ _ e=>by cases e) (λ _ _ _ e=>by cases e) (λ _ _ e=>by cases e) (ng (by rw [hv];intro q;cases q) (by rw [hv];intro _ q;cases q))
theorem Inv.let_ (h:Inv N m v) (hi:i<N) (hv:v i=.sema t) (hc:0<m.c):Inv N { m with c:=m.c-1 } (upd v i (.serve t true)):=by
 have eQ:=cnt_upd (p:=isQ) (v:=v) (x:=V.serve t true) hi
 have eH:=cnt_upd (p:=isH) (v:=v) (x:=V.serve t true) hi
 have eG:=cnt_upd (p:=isG) (v:=v) (x:=V.serve t true) hi
 have eA:=cnt_upd (p:=isA) (v:=v) (x:=V.serve t true) hi
 simp only [hv,isQ,isH,isG,isA,b1,Bool.false_eq_true,if_true,if_false,Int.sub_zero,Int.add_zero] at eQ eH eG eA
 have hW:=h.W
 refine⟨⟨hW.n0,by show 0<=m.c-1;omega,λ hS=>?_,λ hS=>?_⟩,h.T.same hi (by rw [hv];rfl) (by rw [hv];rfl),⟨h.L.nd,(h.L.same (x:=V.serve t true) hi (by rw [hv];rfl)).lm,λ q=>h.L.le (by have q:0<m.c-1:=q;omega)⟩,h.O.upd hi (.inl (Int.le_refl _)) (λ _ _ e=>by cases e) (λ _ _ _ e=>by cases e) (λ _ _ e=>by cases e),h.R.keep hi id (λ _ q=>by rw [hv] at q;rcases q with q | ⟨_,q,_⟩<;>cases q)⟩
 . dsimp only at hS ⊢
   obtain⟨a,b,c⟩:=hW.free hS
   exact⟨by omega,by omega,by omega⟩
 . dsimp only at hS ⊢
   obtain⟨a,b,c,d,e⟩:=hW.starve hS
   exact⟨a,by omega,by omega,λ q=>⟨by have:=(d q).1;omega,by have:=(d q).2;omega⟩,λ q=>by have:=e q;omega⟩
theorem Inv.comes (h:Inv N m v) (hi:i<N) (hv:v i=.sema t) (hc:m.c=0) (hl:l'.Perm ((i:Int)::m.l)):Inv N { m with l:=l' } (upd v i (.serve t false)):=by
 have eQ:=cnt_upd (p:=isQ) (v:=v) (x:=V.serve t false) hi
 have eH:=cnt_upd (p:=isH) (v:=v) (x:=V.serve t false) hi
 have eG:=cnt_upd (p:=isG) (v:=v) (x:=V.serve t false) hi
 have eA:=cnt_upd (p:=isA) (v:=v) (x:=V.serve t false) hi
 simp only [hv,isQ,isH,isG,isA,b1,Bool.false_eq_true,if_true,if_false,Int.sub_zero,Int.add_zero] at eQ eH eG eA
 have hW:=h.W
 have hno:(i:Int) ∉ m.l:=λ q=>by
  obtain⟨k,hk,e,hx⟩:=(h.L.lm _).1 q
  obtain rfl:k=i:=by omega
  rw [hv] at hx;cases hx
 refine⟨⟨hW.n0,hW.c0,λ hS=>?_,λ hS=>?_⟩,h.T.same hi (by rw [hv];rfl) (by rw [hv];rfl),⟨?_,λ y=>?_,λ q=>?_⟩,h.O.upd hi (.inl (Int.le_refl _)) (λ _ _ e=>by cases e) (λ _ _ _ e=>by cases e) (λ _ _ e=>by cases e),h.R.keep hi id (λ _ q=>by rw [hv] at q;rcases q with q | ⟨_,q,_⟩<;>cases q)⟩
 . dsimp only at hS ⊢
   obtain⟨a,b,c⟩:=hW.free hS
   exact⟨by omega,by omega,by omega⟩
 . dsimp only at hS ⊢
   obtain⟨a,b,c,d,e⟩:=hW.starve hS
   exact⟨a,by omega,by omega,λ q=>⟨by have:=(d q).1;omega,by have:=(d q).2;omega⟩,λ q=>by have:=e q;omega⟩
 . exact hl.nodup_iff.2 (List.nodup_cons.2 ⟨hno,h.L.nd⟩)
 . rw [hl.mem_iff,List.mem_cons,h.L.lm]
   constructor
   . rintro (e | ⟨k,hk,e,hx⟩)
     . exact⟨i,hi,e,by rw [upd_at];rfl⟩
     . refine⟨k,hk,e,?_⟩
       by_cases q:k=i
       . subst q;rw [upd_at];rfl
       . rw [upd_off q];exact hx
   . rintro⟨k,hk,e,hx⟩
     by_cases q:k=i
     . subst q;exact .inl e
     . rw [upd_off q] at hx;exact .inr ⟨k,hk,e,hx⟩
 . have q:0<m.c:=q
   omega
theorem Inv.let_word (h:Inv N m v) (hi:i<N) (hg:isG (v i)=true):(m.w.S=false->m.w.K=true)/\(m.w.S=true->m.w.L=false):=by
 have hp:=cnt_pos hi hg
 have ha:=cnt_nonneg (p:=isA) (v:=v) (N:=N)
 have c0:=h.W.c0
 constructor
 . intro hS
   have e:=(h.W.free hS).2.1
   cases hK:m.w.K
   . rw [hK] at e;simp only [b1,Bool.false_eq_true,if_false] at e;omega
   . rfl
 . intro hS
   obtain⟨a,b,c,d,e⟩:=h.W.starve hS
   cases hL:m.w.L
   . rfl
   . have:=(d hL).1;omega
theorem Inv.goes (h:Inv N m v) (hi:i<N) (hv:v i=.wok false) (hS:m.w.S=false):Inv N m (upd v i (.want true st m.w)):=by
 have hb:=h.bound
 have hlw:=h.let_word hi (by rw [hv];rfl)
 have eQ:=cnt_upd (p:=isQ) (v:=v) (x:=V.want true st m.w) hi
 have eH:=cnt_upd (p:=isH) (v:=v) (x:=V.want true st m.w) hi
 have eG:=cnt_upd (p:=isG) (v:=v) (x:=V.want true st m.w) hi
 have eA:=cnt_upd (p:=isA) (v:=v) (x:=V.want true st m.w) hi
 simp only [hv,isQ,isH,isG,isA,b1,Bool.false_eq_true,if_true,if_false,Int.sub_zero,Int.add_zero] at eQ eH eG eA
 have hW:=h.W
 refine⟨⟨hW.n0,hW.c0,λ _=>?_,λ q=>?_⟩,h.T.same hi (by rw [hv];rfl) (by rw [hv];rfl),h.L.same hi (by rw [hv];rfl),h.O.upd hi (.inl (Int.le_refl _)) (λ _ _ e=>by cases e) (λ _ _ _ e=>by cases e;exact⟨λ _=>rfl,λ _=>hlw.1 hS,hW.n0,hb⟩) (λ _ _ e=>by cases e),h.R.keep hi id (λ _ q=>by rw [hv] at q;rcases q with q | ⟨_,q,_⟩<;>cases q)⟩
 . obtain⟨a,b,c⟩:=hW.free hS
   exact⟨by omega,by omega,by omega⟩
 . rw [hS] at q;cases q
theorem Inv.handed (h:Inv N m v) (hi:i<N) (hv:v i=.wok false) (hS:m.w.S=true):Inv N m (upd v i (.hand st m.w)):=by
 have hlw:=h.let_word hi (by rw [hv];rfl)
 have hq:=cnt_pos (p:=isQ) (v:=v) hi (by rw [hv];rfl)
 have hh:=cnt_nonneg (p:=isH) (v:=v) (N:=N)
 have eQ:=cnt_upd (p:=isQ) (v:=v) (x:=V.hand st m.w) hi
 have eH:=cnt_upd (p:=isH) (v:=v) (x:=V.hand st m.w) hi
 have eG:=cnt_upd (p:=isG) (v:=v) (x:=V.hand st m.w) hi
 have eA:=cnt_upd (p:=isA) (v:=v) (x:=V.hand st m.w) hi
 simp only [hv,isQ,isH,isG,isA,b1,Bool.false_eq_true,if_true,if_false,Int.sub_zero,Int.add_zero] at eQ eH eG eA
 have hW:=h.W
 obtain⟨a,b,c,d,e⟩:=hW.starve hS
 refine⟨⟨hW.n0,hW.c0,λ q=>?_,λ q=>?_⟩,h.T.same hi (by rw [hv];rfl) (by rw [hv];rfl),h.L.same hi (by rw [hv];rfl),h.O.upd hi (.inl (Int.le_refl _)) (λ _ _ e=>by cases e) (λ _ _ _ e=>by cases e) (λ _ _ e=>by cases e;exact⟨hlw.2 hS,a,hS,by omega,Int.le_refl _⟩),h.R.keep hi id (λ _ q=>by rw [hv] at q;rcases q with q | ⟨_,q,_⟩<;>cases q)⟩
 . rw [hS] at q;cases q
 . exact⟨a,by omega,by omega,(λ q=>by rw [hlw.2 hS] at q;cases q),λ q=>by have:=e q;omega⟩
theorem Inv.hand_word (h:Inv N m v) (hi:i<N) (hv:v i=.hand st old):m.w.L=false/\m.w.S=true/\m.w.K=false/\1<=m.w.n/\cnt isH v N=1/\cnt isG v N+m.c=0/\cnt isA v N=0/\m.w.n=cnt isQ v N+1:=by
 have hp:=cnt_pos (p:=isH) (v:=v) hi (by rw [hv];rfl)
 have hg:=cnt_nonneg (p:=isG) (v:=v) (N:=N)
 have hq:=cnt_nonneg (p:=isQ) (v:=v) (N:=N)
 have c0:=h.W.c0
 cases hS:m.w.S
 . have:=(h.W.free hS).1;omega
 . obtain⟨a,b,c,d,e⟩:=h.W.starve hS
   cases hL:m.w.L
   . have:=e hL
     exact⟨rfl,rfl,a,by omega,by omega,by omega,b,by omega⟩
   . have:=(d hL).2;omega
theorem Inv.takes (h:Inv N m v) (hi:i<N) (hv:v i=.hand st old):Inv N { m with w:={ L:=true,K:=false,S:=S',n:=m.w.n-1 } } (upd v i .out):=by
 obtain⟨hL,hS,hK,hn,hH,hG,hA,hQ⟩:=h.hand_word hi hv
 have eQ:=cnt_upd (p:=isQ) (v:=v) (x:=V.out) hi
 have eH:=cnt_upd (p:=isH) (v:=v) (x:=V.out) hi
 have eG:=cnt_upd (p:=isG) (v:=v) (x:=V.out) hi
 have eA:=cnt_upd (p:=isA) (v:=v) (x:=V.out) hi
 simp only [hv,isQ,isH,isG,isA,b1,Bool.false_eq_true,if_true,if_false,Int.sub_zero,Int.add_zero] at eQ eH eG eA
 have hW:=h.W
 refine⟨⟨by show 0<=m.w.n-1;omega,hW.c0,λ _=>?_,λ _=>?_⟩,h.T.same hi (by rw [hv];rfl) (by rw [hv];rfl),h.L.same hi (by rw [hv];rfl),h.O.upd hi (.inr λ k st' old' hk hne e=>?_) (λ _ _ e=>by cases e) (λ _ _ _ e=>by cases e) (λ _ _ e=>by cases e),InvR.off (λ q=>by cases q.1)⟩
 . dsimp only
   exact⟨by omega,by simp only [b1,Bool.false_eq_true,if_false];omega,by omega⟩
 . dsimp only
   exact⟨rfl,by omega,by omega,λ _=>⟨by omega,by omega⟩,λ q=>by cases q⟩
 . have:=cnt_two (p:=isH) (v:=v) hi (by rw [hv];rfl) hk (by rw [e];rfl) (λ q=>hne q.symm)
   omega
theorem Inv.tries (h:Inv N m v) (hi:i<N) (hv:v i=.out):Inv N m (upd v i .trying) :=
 h.quiet hi (by rw [hv];rfl) (by rw [hv];rfl) (by rw [hv];rfl) (by rw [hv];rfl) (by rw [hv];rfl) (by rw [hv];rfl) (by rw [hv];rfl) (λ _ _ e=>by cases e) (λ _ _ _ e=>by cases e) (λ _ _ e=>by cases e) (λ _ q=>by rw [hv] at q;rcases q with q | ⟨_,q,_⟩<;>cases q)
theorem Inv.fails (h:Inv N m v) (hi:i<N) (hv:v i=.trying):Inv N m (upd v i .out) :=
 h.quiet hi (by rw [hv];rfl) (by rw [hv];rfl) (by rw [hv];rfl) (by rw [hv];rfl) (by rw [hv];rfl) (by rw [hv];rfl) (by rw [hv];rfl) (λ _ _ e=>by cases e) (λ _ _ _ e=>by cases e) (λ _ _ e=>by cases e) (λ _ q=>by rw [hv] at q;rcases q with q | ⟨_,q,_⟩<;>cases q)
theorem Inv.tried (h:Inv N m v) (hi:i<N) (hv:v i=.trying) (hS:m.w.S=false):Inv N { m with w:={ m.w with L:=true } } (upd v i .out):=by
 have eQ:=cnt_upd (p:=isQ) (v:=v) (x:=V.out) hi
 have eH:=cnt_upd (p:=isH) (v:=v) (x:=V.out) hi
 have eG:=cnt_upd (p:=isG) (v:=v) (x:=V.out) hi
 have eA:=cnt_upd (p:=isA) (v:=v) (x:=V.out) hi
 simp only [hv,isQ,isH,isG,isA,b1,Bool.false_eq_true,if_true,if_false,Int.sub_zero,Int.add_zero] at eQ eH eG eA
 have hW:=h.W
 refine⟨⟨hW.n0,hW.c0,λ _=>?_,λ q=>?_⟩,h.T.same hi (by rw [hv];rfl) (by rw [hv];rfl),h.L.same hi (by rw [hv];rfl),h.O.upd hi (.inl (Int.le_refl _)) (λ _ _ e=>by cases e) (λ _ _ _ e=>by cases e) (λ _ _ e=>by cases e),InvR.off (λ q=>by cases q.1)⟩
 . dsimp only
   obtain⟨a,b,c⟩:=hW.free hS
   exact⟨by omega,by omega,by omega⟩
 . have q:m.w.S=true:=q
   rw [hS] at q;cases q
theorem Inv.gives (h:Inv N m v) (hi:i<N) (hv:v i=.out) (hL:m.w.L=true)
 (hx:(x=.out/\¬ wakes { m.w with L:=false }/\m.w.S=false)\/(x=.draws/\m.w.S=true)\/(x=.give { m.w with L:=false }/\m.w.S=false)) :
 Inv N { m with w:={ m.w with L:=false } } (upd v i x):=by
 have hW:=h.W
 rcases hx with ⟨rfl,hnw,hS⟩ | ⟨rfl,hS⟩ | ⟨rfl,hS⟩
 . have eQ:=cnt_upd (p:=isQ) (v:=v) (x:=V.out) hi
   have eH:=cnt_upd (p:=isH) (v:=v) (x:=V.out) hi
   have eG:=cnt_upd (p:=isG) (v:=v) (x:=V.out) hi
   have eA:=cnt_upd (p:=isA) (v:=v) (x:=V.out) hi
   simp only [hv,isQ,isH,isG,isA,b1,Bool.false_eq_true,if_true,if_false,Int.sub_zero,Int.add_zero] at eQ eH eG eA
   refine⟨⟨hW.n0,hW.c0,λ _=>?_,λ q=>?_⟩,h.T.same hi (by rw [hv]) (by rw [hv]),h.L.same hi (by rw [hv]),h.O.upd hi (.inl (Int.le_refl _)) (λ _ _ e=>by cases e) (λ _ _ _ e=>by cases e) (λ _ _ e=>by cases e),InvR.off hnw⟩
   . dsimp only
     obtain⟨a,b,c⟩:=hW.free hS
     exact⟨by omega,by omega,by omega⟩
   . have q:m.w.S=true:=q
     rw [hS] at q;cases q
 . have eQ:=cnt_upd (p:=isQ) (v:=v) (x:=V.draws) hi
   have eH:=cnt_upd (p:=isH) (v:=v) (x:=V.draws) hi
   have eG:=cnt_upd (p:=isG) (v:=v) (x:=V.draws) hi
   have eA:=cnt_upd (p:=isA) (v:=v) (x:=V.draws) hi
   simp only [hv,isQ,isH,isG,isA,b1,Bool.false_eq_true,if_true,if_false,Int.sub_zero,Int.add_zero] at eQ eH eG eA
   refine⟨⟨hW.n0,hW.c0,λ q=>?_,λ _=>?_⟩,h.T.same hi (by rw [hv];rfl) (by rw [hv];rfl),h.L.same hi (by rw [hv];rfl),h.O.upd hi (.inl (Int.le_refl _)) (λ _ _ e=>by cases e) (λ _ _ _ e=>by cases e) (λ _ _ e=>by cases e),InvR.off (λ q=>by have q:=q.2.2.1;dsimp only at q;rw [hS] at q;cases q)⟩
   . have q:m.w.S=false:=q
     rw [hS] at q;cases q
   . dsimp only
     obtain⟨a,b,c,d,e⟩:=hW.starve hS
     have d:=d hL
     exact⟨a,by omega,by omega,(λ q=>by cases q),λ _=>by omega⟩
 . have eQ:=cnt_upd (p:=isQ) (v:=v) (x:=(V.give { m.w with L:=false })) hi
   have eH:=cnt_upd (p:=isH) (v:=v) (x:=(V.give { m.w with L:=false })) hi
   have eG:=cnt_upd (p:=isG) (v:=v) (x:=(V.give { m.w with L:=false })) hi
   have eA:=cnt_upd (p:=isA) (v:=v) (x:=(V.give { m.w with L:=false })) hi
   simp only [hv,isQ,isH,isG,isA,b1,Bool.false_eq_true,if_true,if_false,Int.sub_zero,Int.add_zero] at eQ eH eG eA
   refine⟨⟨hW.n0,hW.c0,λ _=>?_,λ q=>?_⟩,h.T.same hi (by rw [hv];rfl) (by rw [hv];rfl),h.L.same hi (by rw [hv];rfl),h.O.upd hi (.inl (Int.le_refl _)) (λ _ _ e=>by cases e) (λ _ _ _ e=>by cases e) (λ _ _ e=>by cases e),InvR.got hi (λ q=>.inr ⟨_,rfl,q⟩)⟩
   . dsimp only
     obtain⟨a,b,c⟩:=hW.free hS
     exact⟨by omega,by omega,by omega⟩
   . have q:m.w.S=true:=q
     rw [hS] at q;cases q
theorem Inv.leaves (h:Inv N m v) (hi:i<N) (hv:v i=.give old) (hn:¬ wakes old):Inv N m (upd v i .out) :=
 h.quiet hi (by rw [hv];rfl) (by rw [hv];rfl) (by rw [hv];rfl) (by rw [hv];rfl) (by rw [hv];rfl) (by rw [hv];rfl) (by rw [hv];rfl) (λ _ _ e=>by cases e) (λ _ _ _ e=>by cases e) (λ _ _ e=>by cases e)
  (λ _ q=>by rw [hv] at q;rcases q with q | ⟨_,q,hw⟩;cases q;cases q;exact absurd hw hn)
theorem Inv.wakes_ (h:Inv N m v) (hi:i<N) (hv:v i=.give old) (hw:wakes m.w):Inv N { m with w:={ L:=false,K:=true,S:=false,n:=m.w.n-1 } } (upd v i .draws):=by
 obtain⟨hL,hK,hS,hn⟩:=hw
 have eQ:=cnt_upd (p:=isQ) (v:=v) (x:=V.draws) hi
 have eH:=cnt_upd (p:=isH) (v:=v) (x:=V.draws) hi
 have eG:=cnt_upd (p:=isG) (v:=v) (x:=V.draws) hi
 have eA:=cnt_upd (p:=isA) (v:=v) (x:=V.draws) hi
 simp only [hv,isQ,isH,isG,isA,b1,Bool.false_eq_true,if_true,if_false,Int.sub_zero,Int.add_zero] at eQ eH eG eA
 have hW:=h.W
 obtain⟨a,b,c⟩:=hW.free hS
 rw [hK] at b
 simp only [b1,Bool.false_eq_true,if_false] at b
 refine⟨⟨by show 0<=m.w.n-1;omega,hW.c0,λ _=>?_,λ q=>by cases q⟩,h.T.same hi (by rw [hv];rfl) (by rw [hv];rfl),h.L.same hi (by rw [hv];rfl),h.O.upd hi (.inr λ k st' old' hk _=>h.no_hand hS k st' old' hk) (λ _ _ e=>by cases e) (λ _ _ _ e=>by cases e) (λ _ _ e=>by cases e),InvR.off (λ q=>by cases q.2.1)⟩
 dsimp only
 exact⟨by omega,by simp only [b1,if_true];omega,by omega⟩
theorem Inv.again (h:Inv N m v) (hi:i<N) (hv:v i=.give old):Inv N m (upd v i .see) :=
 h.quiet hi (by rw [hv];rfl) (by rw [hv];rfl) (by rw [hv];rfl) (by rw [hv];rfl) (by rw [hv];rfl) (by rw [hv];rfl) (by rw [hv];rfl) (λ _ _ e=>by cases e) (λ _ _ _ e=>by cases e) (λ _ _ e=>by cases e) (λ _ _=>.inl rfl)
theorem Inv.sees (h:Inv N m v) (hi:i<N) (hv:v i=.see):Inv N m (upd v i (.give m.w)) :=
 h.quiet hi (by rw [hv];rfl) (by rw [hv];rfl) (by rw [hv];rfl) (by rw [hv];rfl) (by rw [hv];rfl) (by rw [hv];rfl) (by rw [hv];rfl) (λ _ _ e=>by cases e) (λ _ _ _ e=>by cases e) (λ _ _ e=>by cases e) (λ q _=>.inr ⟨_,rfl,q⟩)
theorem Inv.granted (h:Inv N m v) (hi:i<N) (hv:v i=.grant t) (hl:m.l=[]):Inv N { m with c:=m.c+1 } (upd v i (.serves t)):=by
 have eQ:=cnt_upd (p:=isQ) (v:=v) (x:=V.serves t) hi
 have eH:=cnt_upd (p:=isH) (v:=v) (x:=V.serves t) hi
 have eG:=cnt_upd (p:=isG) (v:=v) (x:=V.serves t) hi
 have eA:=cnt_upd (p:=isA) (v:=v) (x:=V.serves t) hi
 simp only [hv,isQ,isH,isG,isA,b1,Bool.false_eq_true,if_true,if_false,Int.sub_zero,Int.add_zero] at eQ eH eG eA
 have hW:=h.W
 have c0:=hW.c0
 refine⟨⟨hW.n0,by show 0<=m.c+1;omega,λ hS=>?_,λ hS=>?_⟩,h.T.same hi (by rw [hv];rfl) (by rw [hv];rfl),⟨h.L.nd,(h.L.same (x:=V.serves t) hi (by rw [hv];rfl)).lm,λ _=>hl⟩,h.O.upd hi (.inl (Int.le_refl _)) (λ _ _ e=>by cases e) (λ _ _ _ e=>by cases e) (λ _ _ e=>by cases e),h.R.keep hi id (λ _ q=>by rw [hv] at q;rcases q with q | ⟨_,q,_⟩<;>cases q)⟩
 . dsimp only at hS ⊢
   obtain⟨a,b,c⟩:=hW.free hS
   exact⟨by omega,by omega,by omega⟩
 . dsimp only at hS ⊢
   obtain⟨a,b,c,d,e⟩:=hW.starve hS
   exact⟨a,by omega,by omega,λ q=>⟨by have:=(d q).1;omega,by have:=(d q).2;omega⟩,λ q=>by have:=e q;omega⟩
theorem Inv.next (h:Inv N m v) (hi:i<N) (hv:v i=.grant t) {y:Int} {rest:List Int} (hl:m.l=y::rest):∃ j,j<N/\y=(j:Int)/\j≠i/\v j=.wok true:=by
 obtain⟨j,hj,e,hx⟩:=(h.L.lm y).1 (by rw [hl];exact List.mem_cons_self)
 have hti:=h.T.t4 i hi (by rw [hv];rfl)
 have hne:j≠i:=λ q=>by subst q;rw [hv] at hx;cases hx
 refine⟨j,hj,e,hne,?_⟩
 cases hvj:v j with
 | serve t' told =>
  exfalso
  have htj:=h.T.t4 j hj (by rw [hvj];rfl)
  exact h.T.t2 i j m.sv hi hj (λ q=>hne q.symm) hti htj
 | wok pk =>
  cases pk
  . rw [hvj] at hx;cases hx
  . rfl
 | _=>rw [hvj] at hx;cases hx
theorem Inv.tells (h:Inv N m v) (hi:i<N) (hv:v i=.grant t) (hj:j<N) (hne:j≠i) (hvj:v j=.wok true) {rest:List Int} (hl:m.l=(j:Int)::rest) :
 Inv N { m with l:=rest } (upd (upd v j (.wok false)) i (.serves t)):=by
 have hvi:upd v j (.wok false) i=.grant t:=by rw [upd_off (λ q=>hne q.symm)];exact hv
 have aQ:=cnt_upd (p:=isQ) (v:=v) (x:=V.wok false) hj
 have aH:=cnt_upd (p:=isH) (v:=v) (x:=V.wok false) hj
 have aG:=cnt_upd (p:=isG) (v:=v) (x:=V.wok false) hj
 have aA:=cnt_upd (p:=isA) (v:=v) (x:=V.wok false) hj
 have eQ:=cnt_upd (p:=isQ) (v:=upd v j (.wok false)) (x:=V.serves t) hi
 have eH:=cnt_upd (p:=isH) (v:=upd v j (.wok false)) (x:=V.serves t) hi
 have eG:=cnt_upd (p:=isG) (v:=upd v j (.wok false)) (x:=V.serves t) hi
 have eA:=cnt_upd (p:=isA) (v:=upd v j (.wok false)) (x:=V.serves t) hi
 simp only [hvi,hvj,isQ,isH,isG,isA,b1,Bool.false_eq_true,if_true,if_false,Int.sub_zero,Int.add_zero] at aQ aH aG aA eQ eH eG eA
 have hW:=h.W
 have hnd:=h.L.nd
 rw [hl] at hnd
 obtain⟨hno,hnd⟩:=List.nodup_cons.1 hnd
 refine⟨⟨hW.n0,hW.c0,λ hS=>?_,λ hS=>?_⟩,(h.T.same hj (by rw [hvj];rfl) (by rw [hvj];rfl)).same hi (by rw [hvi];rfl) (by rw [hvi];rfl),⟨hnd,λ y=>?_,λ q=>?_⟩,
  (h.O.upd hj (.inl (Int.le_refl _)) (λ _ _ e=>by cases e) (λ _ _ _ e=>by cases e) (λ _ _ e=>by cases e)).upd hi (.inl (Int.le_refl _)) (λ _ _ e=>by cases e) (λ _ _ _ e=>by cases e) (λ _ _ e=>by cases e),(h.R.keep hj id (λ _ q=>by rw [hvj] at q;rcases q with q | ⟨_,q,_⟩<;>cases q)).keep hi id (λ _ q=>by rw [hvi] at q;rcases q with q | ⟨_,q,_⟩<;>cases q)⟩
 . dsimp only at hS ⊢
   obtain⟨a,b,c⟩:=hW.free hS
   exact⟨by omega,by omega,by omega⟩
 . dsimp only at hS ⊢
   obtain⟨a,b,c,d,e⟩:=hW.starve hS
   exact⟨a,by omega,by omega,λ q=>⟨by have:=(d q).1;omega,by have:=(d q).2;omega⟩,λ q=>by have:=e q;omega⟩
 . dsimp only
   constructor
   . intro hy
     obtain⟨k,hk,e,hx⟩:=(h.L.lm y).1 (by rw [hl];exact List.mem_cons_of_mem _ hy)
     have hkj:k≠j:=λ q=>by subst q;rw [e] at hy;exact hno hy
     have hki:k≠i:=λ q=>by subst q;rw [hv] at hx;cases hx
     exact⟨k,hk,e,by rw [upd_off hki,upd_off hkj];exact hx⟩
   . rintro⟨k,hk,e,hx⟩
     by_cases hki:k=i
     . subst hki;rw [upd_at] at hx;cases hx
     . rw [upd_off hki] at hx
       by_cases hkj:k=j
       . subst hkj;rw [upd_at] at hx;cases hx
       . rw [upd_off hkj] at hx
         have:=(h.L.lm y).2 ⟨k,hk,e,hx⟩
         rw [hl] at this
         rcases List.mem_cons.1 this with q | q
         . exact absurd (by omega) hkj
         . exact q
 . have q:0<m.c:=q
   have:=h.L.le q
   rw [hl] at this;cases this
theorem Inv.first (hv:∀ i,i<N->v i=.out):Inv N { w:={ L:=false,K:=false,S:=false,n:=0 },nx:=0,sv:=0,c:=0,l:=[] } v:=by
 have z:∀ p:V->Bool,p .out=false->cnt p v N=0:=λ p h1=>by
  have h0:=cnt_nonneg (p:=p) (v:=v) (N:=N)
  by_cases e:cnt p v N=0
  . exact e
  . obtain⟨j,hj,hp⟩:=cnt_ex (p:=p) (v:=v) (N:=N) (by omega)
    rw [hv j hj,h1] at hp;cases hp
 have zG:=z isG rfl
 have zA:=z isA rfl
 have zH:=z isH rfl
 have zQ:=z isQ rfl
 have zT:=z isT rfl
 refine⟨⟨by simp,by simp,λ _=>⟨zH,by simp [zG,zA,b1],by simp [zG,zQ]⟩,λ q=>by cases q⟩,⟨by simp,by simp,λ i t hi e=>?_,λ i j t hi _ _ e=>?_,by simp [zT],λ i hi e=>?_⟩,⟨by simp,λ x=>?_,λ _=>rfl⟩,⟨λ i _ _ hi e=>?_,λ i _ _ _ hi e=>?_,λ i _ _ hi e=>?_⟩,InvR.off (λ q=>by have:=q.2.2.2;simp at this)⟩
 . rw [hv i hi] at e;cases e
 . rw [hv i hi] at e;cases e
 . rw [hv i hi] at e;cases e
 . constructor
   . intro q;cases q
   . rintro⟨i,hi,_,e⟩;rw [hv i hi] at e;cases e
 . rw [hv i hi] at e;cases e
 . rw [hv i hi] at e;cases e
 . rw [hv i hi] at e;cases e
end
end P16
end
section
namespace P16
def wd (o:Int):Wd:=⟨decide (o % 2=1),decide (o / 2 % 2=1),decide (o / 4 % 2=1),o / 8⟩
def un (w:Wd):Int:=8*w.n+4*b1 w.S+2*b1 w.K+b1 w.L
theorem wd_un (w:Wd):wd (un w)=w:=by
 obtain⟨L,K,S,n⟩:=w
 have e:un ⟨L,K,S,n⟩=8*n+4*b1 S+2*b1 K+b1 L:=rfl
 unfold wd
 rw [e]
 cases L<;>cases K<;>cases S<;>simp only [b1,Bool.false_eq_true,if_true,if_false]<;>congr 1<;>first | omega | (simp;try omega)
def OkW (o:Int):Prop:=0<=o/\o<2147483648
theorem OkW.n {o:Int} (h:OkW o):0<=(wd o).n/\(wd o).n<268435456:=by unfold OkW at h;unfold wd;dsimp only;omega
theorem okW_un {w:Wd} (h0:0<=w.n) (h1:w.n<268435456):OkW (un w):=by
 unfold OkW un
 rcases b1_cases w.S with a | a<;>rcases b1_cases w.K with b | b<;>rcases b1_cases w.L with c | c<;>rw [a,b,c]<;>omega
structure Cl where
 gst:Int
 permit:Bool
 act:Int
 pc:Int
 worked:Int
 ticket:Int
 first:Bool
 told:Bool
 since:Int
 st:Bool
 aw:Bool
 rounds:Int
 old:Int
structure Cm where
 word:Int
 nx:Int
 sv:Int
 c:Int
 l:List Int
structure Mw where
 now:Int
 progs:List (List (Int×Int))
 cl:List Cl
 cm:Nat->Cm
 stop:Int
def first (gst:Int) (permit:Bool) (at_:Int) (len:Nat):Cl :=
 { gst:=if at_=len then 2 else gst,permit:=if at_=len then false else permit,act:=at_,pc:=0,worked:=0,ticket:=0,first:=false,told:=false,since:=-1,st:=false,aw:=false,rounds:=0,old:=0 }
def over (c:Cl) (len:Nat):Cl:=first c.gst c.permit (c.act+1) len
def runs (l:List Cl):Nat:=(l.filter λ c=>decide (c.gst=0)).length
structure Out where
 c:Cl
 m:Cm
 rdy:Option Int
 ev:Option Int
inductive Res where
 | bad
 | fault
 | ok (o:Out)
def go (c:Cl) (m:Cm) (ev:Option Int:=none):Res:=.ok ⟨c,m,none,ev⟩
def wants (c:Cl):Option Int :=
 let o:=wd c.old
 if c.aw=true/\o.K=false then none
 else if (o.L=true\/o.S=true)/\268435456<=o.n+1 then none
 else some (un { L:=o.L||!o.S,K:=o.K&&!c.aw,S:=o.S||(c.st&&o.L),n:=if o.L||o.S then o.n+1 else o.n })
def late (s now:Int):Bool:=decide (s≠-1/\1000000<max 0 (now-s))
def draw (c:Cl) (m:Cm) (pc:Int):Res :=
 if (m.nx-m.sv) % 4294967296=4294967295 then .bad else go { c with ticket:=m.nx,pc:=pc } { m with nx:=(m.nx+1) % 4294967296 }
def turn (c:Cl) (m:Cm) (pc:Int):Res:=go { c with pc:=if c.ticket=m.sv then pc else c.pc } m
def round (c:Cl) (m:Cm):Res :=
 let o:=wd c.old
 let sets:=c.aw=false/\o.K=false/\0<o.n/\m.word=c.old
 go { c with aw:=if sets then true else c.aw,rounds:=c.rounds+1,pc:=1 } { m with word:=if sets then un { wd m.word with K:=true } else m.word }
def want (now:Int) (run len:Nat) (c:Cl) (m:Cm):Res :=
 let o:=wd c.old
 if o.L=true/\o.S=false/\c.rounds<4/\1<run then round c m
 else match wants c with
  | none=>.bad
  | some n =>
   if m.word≠c.old then go { c with pc:=1 } m
   else if o.L=false/\o.S=false then go (over c len) { m with word:=n } (some 0)
   else go { c with since:=if c.since=-1 then now else c.since,first:=!decide (c.since=-1),pc:=3 } { m with word:=n }
def ask (who:Int) (c:Cl) (m:Cm):Res :=
 if who∈m.l then .bad
 else if 0<m.c then go { c with told:=true,pc:=6 } { m with c:=m.c-1 }
 else if 64<=m.l.length then .bad
 else go { c with told:=false,pc:=6 } { m with l:=if c.first then who::m.l else m.l++[who] }
def rest (c:Cl) (m:Cm):Res :=
 if (m.nx-m.sv) % 4294967296=0 then .bad
 else
  let m':={ m with sv:=(m.sv+1) % 4294967296 }
  if c.told=true then go { c with pc:=7 } m'
  else go { c with pc:=7,gst:=if c.permit=true then 0 else 1,permit:=false } m'
def woken (now:Int) (c:Cl) (m:Cm):Res :=
 let c:={ c with st:=c.st||late c.since now,old:=m.word }
 if (wd m.word).S=true then go { c with pc:=8 } m else go { c with aw:=true,rounds:=0,pc:=2 } m
def hands (c:Cl):Option Int :=
 let o:=wd c.old
 if o.L=true\/o.K=true\/o.n=0 then none else some (if c.st=false\/o.n=1 then -11 else -7)
def handed (len:Nat) (c:Cl) (m:Cm):Res :=
 match hands c with
 | none=>.bad
 | some d=>if 0<=m.word+d/\m.word+d<2147483648 then go (over c len) { m with word:=m.word+d } (some 0) else .bad
def lock (now:Int) (run len:Nat) (who:Int) (c:Cl) (m:Cm):Res :=
 if c.pc=0 then (if m.word=0 then go (over c len) { m with word:=1 } (some 0) else go { c with pc:=1 } m)
 else if c.pc=1 then go { c with old:=m.word,pc:=2 } m
 else if c.pc=2 then want now run len c m
 else if c.pc=3 then draw c m 4
 else if c.pc=4 then turn c m 5
 else if c.pc=5 then ask who c m
 else if c.pc=6 then rest c m
 else if c.pc=7 then woken now c m
 else handed len c m
def try_ (len:Nat) (c:Cl) (m:Cm):Res :=
 if c.pc=9 then (if m.word≠c.old then go (over c len) m (some 2) else go (over c len) { m with word:=un { wd m.word with L:=true } } (some 1))
 else if (wd m.word).L=true\/(wd m.word).S=true then go (over c len) m (some 2)
 else go { c with old:=m.word,pc:=9 } m
def unlock (len:Nat) (c:Cl) (m:Cm):Res :=
 if (wd m.word).L=false then .fault
 else
  let left:=m.word-1
  let m':={ m with word:=left }
  if left=0 then go (over c len) m' (some 3)
  else if (wd left).S=true then go { c with pc:=12 } m' (some 3)
  else go { c with old:=left,pc:=10 } m' (some 3)
def let_ (len:Nat) (c:Cl) (m:Cm):Res :=
 let o:=wd c.old
 if ¬ (o.L=false/\o.K=false/\o.S=false/\o.n≠0) then go (over c len) m
 else if m.word=c.old then go { c with pc:=12 } { m with word:=un { L:=false,K:=true,S:=false,n:=o.n-1 } }
 else go { c with pc:=11 } m
def grant (c:Cl) (m:Cm):Res :=
 match m.l with
 | y::rest=>.ok ⟨{ c with pc:=15 },{ m with l:=rest },some y,none⟩
 | []=>if m.c=2147483647 then .bad else go { c with pc:=15 } { m with c:=m.c+1 }
def give (len:Nat) (c:Cl) (m:Cm):Res :=
 if c.pc=0 then unlock len c m
 else if c.pc=10 then let_ len c m
 else if c.pc=11 then go { c with old:=m.word,pc:=10 } m
 else if c.pc=12 then draw c m 13
 else if c.pc=13 then turn c m 14
 else if c.pc=14 then grant c m
 else if (m.nx-m.sv) % 4294967296=0 then .bad
 else go (over c len) { m with sv:=(m.sv+1) % 4294967296 }
def touch (now:Int) (run len:Nat) (who k:Int) (c:Cl) (m:Cm):Res :=
 if k=0 then lock now run len who c m else if k=1 then try_ len c m else give len c m
def work (n:Int) (len:Nat) (c:Cl):Cl:=if n=0\/c.worked+1=n then over { c with worked:=c.worked+1 } len else { c with worked:=c.worked+1 }
def told (c:Cl):Option Cl :=
 if c.gst=2\/(c.gst=0/\c.permit=true) then none
 else if c.gst=0 then some { c with permit:=true } else some { c with gst:=0 }
def stp (w:Mw) (who:Nat):Mw×Option (Int×Int×Int) :=
 match w.cl[who]?,w.progs[who]? with
 | some c,some p =>
  if w.stop≠0\/c.gst≠0 then (w,none)
  else match p[c.act.toNat]? with
   | none=>(w,none)
   | some (k,n) =>
    if k=3 then ({ w with cl:=w.cl.set who (work n p.length c) },none)
    else match touch w.now (runs w.cl) p.length who k c (w.cm n.toNat) with
     | .bad=>({ w with stop:=12 },none)
     | .fault=>({ w with stop:=11 },some (who,4,n))
     | .ok o =>
      let cl:=w.cl.set who o.c
      let cm:=λ j=>if j=n.toNat then o.m else w.cm j
      match o.rdy with
      | none=>({ w with cl:=cl,cm:=cm },o.ev.map λ e=>(who,e,n))
      | some y =>
       match (cl[y.toNat]?).bind told with
       | none=>({ w with stop:=12 },none)
       | some d=>({ w with cl:=cl.set y.toNat d,cm:=cm },o.ev.map λ e=>(who,e,n))
 | _,_=>(w,none)
def tick (w:Mw) (d:Int):Mw:=if w.stop≠0 then w else { w with now:=w.now+d }
def new (l:List (List (Int×Int))):Mw :=
 { now:=0,progs:=l,cl:=l.map λ p=>first 0 false 0 p.length,cm:=λ _=>⟨0,0,0,0,[]⟩,stop:=0 }
end P16
end
section
open Go.ChangeShapes Go.WideShapes Go.ChangeAt Go.RowKit Go.Joins
namespace P16
open P12 (PV PMem)
instance:Inhabited Cl:=⟨⟨0,false,0,0,0,0,false,false,0,false,false,0,0⟩⟩
abbrev clV (c:Cl):List Value :=
 [.int .i64 c.gst,.bool c.permit,.int .i64 c.act,.int .i64 c.pc,.int .i64 c.worked,.int .i64 c.ticket,.bool c.first,.bool c.told,.int .i64 c.since,.bool c.st,.bool c.aw,.int .i64 c.rounds,.int .i64 c.old]
structure CB (c:Cl):Prop where
 gst:B64 c.gst
 act:B64 c.act
 pc:B64 c.pc
 worked:B64 c.worked
 ticket:B64 c.ticket
 since:B64 c.since
 rounds:B64 c.rounds
 old:B64 c.old
abbrev T3:=Int×Int×Int
abbrev t3V (x:T3):List Value:=[.int .i64 x.1,.int .i64 x.2.1,.int .i64 x.2.2]
def TB3 (x:T3):Prop:=B64 x.1/\B64 x.2.1/\B64 x.2.2
abbrev CMem:=RMem clV 13 CB
abbrev T3Mem:=RMem t3V 3 TB3
section
variable {w w':World} {A:Option Addr} {n k:Nat}
theorem CMem.cells {l:List Cl} (h:CMem w A n l) (hk:k<n) :
 ∃ b off x,A=some ⟨b,off,none⟩/\b<w.heap.size/\l[k]?=some x/\CB x /\
  w.cell? ⟨b,off+k*13,none⟩=some (.int .i64 x.gst)/\w.cell? ⟨b,off+k*13+1,none⟩=some (.bool x.permit)/\w.cell? ⟨b,off+k*13+2,none⟩=some (.int .i64 x.act) /\
  w.cell? ⟨b,off+k*13+3,none⟩=some (.int .i64 x.pc)/\w.cell? ⟨b,off+k*13+4,none⟩=some (.int .i64 x.worked)/\w.cell? ⟨b,off+k*13+5,none⟩=some (.int .i64 x.ticket) /\
  w.cell? ⟨b,off+k*13+6,none⟩=some (.bool x.first)/\w.cell? ⟨b,off+k*13+7,none⟩=some (.bool x.told)/\w.cell? ⟨b,off+k*13+8,none⟩=some (.int .i64 x.since) /\
  w.cell? ⟨b,off+k*13+9,none⟩=some (.bool x.st)/\w.cell? ⟨b,off+k*13+10,none⟩=some (.bool x.aw)/\w.cell? ⟨b,off+k*13+11,none⟩=some (.int .i64 x.rounds) /\
  w.cell? ⟨b,off+k*13+12,none⟩=some (.int .i64 x.old):=by
 obtain⟨b,off,x,h1,h2,h3,h4,h5⟩:=h.at_ hk
 exact⟨b,off,x,h1,h2,h3,h4,h5 0 _ rfl,h5 1 _ rfl,h5 2 _ rfl,h5 3 _ rfl,h5 4 _ rfl,h5 5 _ rfl,h5 6 _ rfl,h5 7 _ rfl,h5 8 _ rfl,h5 9 _ rfl,h5 10 _ rfl,h5 11 _ rfl,h5 12 _ rfl⟩
theorem T3Mem.cells {l:List T3} (h:T3Mem w A n l) (hk:k<n) :
 ∃ b off x,A=some ⟨b,off,none⟩/\b<w.heap.size/\l[k]?=some x/\TB3 x /\
  w.cell? ⟨b,off+k*3,none⟩=some (.int .i64 x.1)/\w.cell? ⟨b,off+k*3+1,none⟩=some (.int .i64 x.2.1)/\w.cell? ⟨b,off+k*3+2,none⟩=some (.int .i64 x.2.2):=by
 obtain⟨b,off,x,h1,h2,h3,h4,h5⟩:=h.at_ hk
 exact⟨b,off,x,h1,h2,h3,h4,h5 0 _ rfl,h5 1 _ rfl,h5 2 _ rfl⟩
end
structure Sl where
 A:Option Addr
 n:Nat
 c:Nat
def Sl.ok (s:Sl):Prop:=s.n<=s.c/\s.c<=9223372036854775807
theorem Sl.ok.lt {s:Sl} (h:s.ok):s.n<=9223372036854775807:=by unfold Sl.ok at h;omega
structure WR where
 now:Int
 p:Sl
 c:Sl
 m:Sl
 t:Sl
 stop:Int
abbrev WR.a (r:WR):Array Value:=#[.int .i64 r.now,.slice r.p.A r.p.n r.p.c,.slice r.c.A r.c.n r.c.c,.slice r.m.A r.m.n r.m.c,.slice r.t.A r.t.n r.t.c,.int .i64 r.stop]
abbrev WR.v (r:WR):Value:=.agg r.a
abbrev Sp:=Int×Int×List Int
structure Wv where
 now:Int
 progs:List (List (Int×Int))
 cl:List Cl
 mx:List T3
 tb:List Sp
 stop:Int
structure WIs (W:World) (r:WR) (ω:Wv):Prop where
 now:r.now=ω.now
 stop:r.stop=ω.stop
 bn:B64 ω.now
 bs:B64 ω.stop
 p:∃ R,PMem W r.p.A r.p.n R/\P12.pl R=ω.progs
 c:CMem W r.c.A r.c.n ω.cl
 m:T3Mem W r.m.A r.m.n ω.mx
 t:∃ T,SMem W r.t.A r.t.n T/\T.map SV.pl=ω.tb
 op:r.p.ok
 oc:r.c.ok
 om:r.m.ok
 ot:r.t.ok
theorem WIs.gr {W W':World} {r:WR} {ω:Wv} (h:WIs W r ω) (g:Gr W W'):WIs W' r ω :=
 ⟨h.now,h.stop,h.bn,h.bs,h.p.imp λ _ q=>⟨q.1.gr g,q.2⟩,h.c.gr g,h.m.gr g,h.t.imp λ _ q=>⟨q.1.gr g,q.2⟩,h.op,h.oc,h.om,h.ot⟩
theorem WIs.lens {W:World} {r:WR} {ω:Wv} (h:WIs W r ω):ω.progs.length=r.p.n/\ω.cl.length=r.c.n/\ω.mx.length=r.m.n/\ω.tb.length=r.t.n:=by
 obtain⟨R,hR,e⟩:=h.p
 obtain⟨T,hT,e'⟩:=h.t
 refine⟨?_,h.c.len,h.m.len,?_⟩
 . rw [<- e];unfold P12.pl;rw [List.length_map];exact hR.len
 . rw [<- e',List.length_map];exact hT.1
section
variable {H:Type} {enc:TypeId×Value->H} {W:World} {sp:Nat->Bool}
variable {m:Nat} {cs:List Value} {y:DataW H×List MemPlace}
theorem array6 {α:Type} {cs:Array α} (h:cs.size=6):∃ c0 c1 c2 c3 c4 c5,cs=#[c0,c1,c2,c3,c4,c5]:=by
 obtain⟨l⟩:=cs
 match l,h with
 | [c0,c1,c2,c3,c4,c5],_=>exact⟨c0,c1,c2,c3,c4,c5,rfl⟩
end
end P16
end
section
namespace P16
abbrev Ac:=Int×Int
def OkA (a:Ac):Prop:=(a.1=0\/a.1=1\/a.1=2\/a.1=3)/\0<=a.2/\(a.1≠3->a.2<4)
def OkPc (k pc:Int):Prop:=pc=0\/(k=0/\1<=pc/\pc<=8)\/(k=1/\pc=9)\/(k=2/\10<=pc/\pc<=15)
structure CInv (p:List Ac) (c:Cl):Prop where
 a0:0<=c.act
 a1:c.act<=p.length
 pm:c.permit=false
 g:c.gst=0\/c.gst=1\/c.gst=2
 dn:c.gst=2↔c.act=p.length
 pk:c.gst=1->c.pc=7
 pcs:∀ k n,p[c.act.toNat]?=some (k,n)->OkPc k c.pc
 fin:c.act=p.length->c.pc=0
 tb:0<=c.ticket/\c.ticket<4294967296
 sc:c.since=-1\/(0<=c.since/\c.since<=4611686018427387904)
 rd:0<=c.rounds/\c.rounds<=4
 ol:OkW c.old
 fr:c.pc=0->c.aw=false/\c.st=false
 wk:c.worked=0\/(0<c.worked/\∃ n,p[c.act.toNat]?=some (3,n)/\c.worked<n)
 tr:c.pc=9->(wd c.old).L=false/\(wd c.old).S=false
def vw (k n:Int) (c:Cl) (m:Nat):V :=
 if n≠m then .out
 else if k=0 then
  (if c.pc=1 then .load c.aw c.st else if c.pc=2 then .want c.aw c.st (wd c.old) else if c.pc=3 then .draw else if c.pc=4 then .turn c.ticket else if c.pc=5 then .sema c.ticket
    else if c.pc=6 then .serve c.ticket c.told else if c.pc=7 then .wok (decide (c.gst=1)) else if c.pc=8 then .hand c.st (wd c.old) else .out)
 else if k=1 then (if c.pc=9 then .trying else .out)
 else if k=2 then
  (if c.pc=10 then .give (wd c.old) else if c.pc=11 then .see else if c.pc=12 then .draws else if c.pc=13 then .turns c.ticket else if c.pc=14 then .grant c.ticket else if c.pc=15 then .serves c.ticket else .out)
 else .out
def vwp (p:List Ac) (c:Cl) (m:Nat):V :=
 match p[c.act.toNat]? with
 | some a=>vw a.1 a.2 c m
 | none=>.out
section
variable {p:List Ac} {c c':Cl} {k n:Int} {m m':Nat}
theorem vwp_at (h:p[c.act.toNat]?=some (k,n)):vwp p c m=vw k n c m:=by unfold vwp;rw [h]
theorem vw_far (h:n≠m):vw k n c m=.out:=by unfold vw;rw [if_pos h]
theorem vw_start (h:c.pc=0):vw k n c m=.out:=by
 unfold vw
 rw [h]
 by_cases h1:n≠m
 . rw [if_pos h1]
 . rw [if_neg h1]
   by_cases h2:k=0
   . rw [if_pos h2];rfl
   . rw [if_neg h2]
     by_cases h3:k=1
     . rw [if_pos h3];rfl
     . rw [if_neg h3]
       by_cases h4:k=2
       . rw [if_pos h4];rfl
       . rw [if_neg h4]
theorem vwp_start (h:c.pc=0):vwp p c m=.out:=by
 unfold vwp
 split
 . exact vw_start h
 . rfl
theorem vwp_over {len:Nat}:vwp p (over c len) m=.out:=vwp_start rfl
theorem CInv.lt (h:CInv p c) (hg:c.gst≠2):c.act.toNat<p.length:=by
 have:=h.a0
 have:=h.a1
 have:c.act≠p.length:=λ e=>hg (h.dn.2 e)
 omega
theorem CInv.over (h:CInv p c) (hg:c.gst=0):CInv p (over c p.length):=by
 have hlt:=h.lt (by omega)
 have a0:=h.a0
 have hp:=h.pm
 refine⟨by show 0<=c.act+1;omega,by show c.act+1<=_;omega,?_,?_,?_,?_,λ k n _=>.inl rfl,λ _=>rfl,⟨Int.le_refl _,by show (0:Int)<4294967296;decide⟩,.inl rfl,⟨Int.le_refl _,by show (0:Int)<=4;decide⟩,⟨Int.le_refl _,by show (0:Int)<2147483648;decide⟩,λ _=>⟨rfl,rfl⟩,.inl rfl,λ q=>by cases q⟩
 . show (if c.act+1=p.length then false else c.permit)=false
   rw [hp];split<;>rfl
 . show (if c.act+1=p.length then (2:Int) else c.gst)=0\/(if c.act+1=p.length then (2:Int) else c.gst)=1\/(if c.act+1=p.length then (2:Int) else c.gst)=2
   split
   . exact .inr (.inr rfl)
   . exact .inl hg
 . show (if c.act+1=p.length then (2:Int) else c.gst)=2↔c.act+1=p.length
   split
   . rename_i e;exact⟨λ _=>e,λ _=>rfl⟩
   . rename_i e;exact⟨λ q=>by omega,λ q=>absurd q e⟩
 . show (if c.act+1=p.length then (2:Int) else c.gst)=1->_
   split
   . intro q;omega
   . intro q;omega
theorem CInv.stay (h:CInv p c) (hg:c.gst=0) (ha:p[c.act.toNat]?=some (k,n)) (hk:k≠3) (e1:c'.act=c.act) (e2:c'.permit=false) (e3:c'.gst=0\/(c'.gst=1/\c'.pc=7)) (e4:OkPc k c'.pc) (e5:0<=c'.ticket/\c'.ticket<4294967296)
 (e6:c'.since=-1\/(0<=c'.since/\c'.since<=4611686018427387904)) (e7:0<=c'.rounds/\c'.rounds<=4) (e8:OkW c'.old) (e9:c'.pc≠0) (e10:c'.worked=c.worked) (e11:c'.pc=9->(wd c'.old).L=false/\(wd c'.old).S=false:=by intro q;cases q):CInv p c':=by
 have hlt:=h.lt (by omega)
 have a0:=h.a0
 refine⟨by rw [e1];exact a0,by rw [e1];exact h.a1,e2,by rcases e3 with e | ⟨e,_⟩<;>omega,⟨λ q=>by rcases e3 with e | ⟨e,_⟩<;>omega,λ q=>by rw [e1] at q;omega⟩,λ q=>by rcases e3 with e | ⟨_,e⟩;omega;exact e,
  λ k' n' q=>by rw [e1,ha] at q;cases q;exact e4,λ q=>by rw [e1] at q;omega,e5,e6,e7,e8,λ q=>absurd q e9,?_,e11⟩
 rw [e1,e10]
 exact h.wk
end
def mx (m:Cm):Mx:=⟨wd m.word,m.nx,m.sv,m.c,m.l⟩
def HeldR (ev:Option Int) (L L':Bool):Prop :=
 (ev=none/\L'=L)\/(ev=some 0/\L=false/\L'=true)\/(ev=some 1/\L=false/\L'=true)\/(ev=some 2/\L'=L)\/(ev=some 3/\L=true/\L'=false)
def HandsR (ev:Option Int) (k pc:Int) (st:Bool) (S S':Bool):Prop :=
 (S=false->S'=true->k=0/\pc=2/\st=true)/\(S=true->S'=false->k=0/\pc=8)/\(S=true->ev≠some 1)/\(S=true->ev=some 0->k=0/\pc=8)
theorem HandsR.same {ev:Option Int} {k pc:Int} {st S:Bool} (h1:S=true->ev≠some 1) (h2:S=true->ev=some 0->k=0/\pc=8):HandsR ev k pc st S S :=
 ⟨(λ a b=>by rw [a] at b;cases b),(λ a b=>by rw [a] at b;cases b),h1,h2⟩
structure StepOk (N i m:Nat) (p:List Ac) (k:Int) (c:Cl) (a:Cm) (v:Nat->V) (o:Out):Prop where
 ci:CInv p o.c
 ow:OkW o.m.word
 iv:(o.rdy=none/\Inv N (mx o.m) (upd v i (vwp p o.c m)))\/(∃ j,j<N/\j≠i/\o.rdy=some (j:Int)/\v j=.wok true/\Inv N (mx o.m) (upd (upd v j (.wok false)) i (vwp p o.c m)))
 far:∀ m',m'≠m->vwp p o.c m'=.out
 he:HeldR o.ev (wd a.word).L (wd o.m.word).L
 ha:HandsR o.ev k c.pc c.st (wd a.word).S (wd o.m.word).S
end P16
end
section
namespace P16
theorem wd0:wd 0=⟨false,false,false,0⟩:=by simp [wd]
theorem wd1:wd 1=⟨true,false,false,0⟩:=by simp [wd]
theorem wd_less {o:Int} (h:(wd o).L=true):wd (o-1)={ wd o with L:=false }:=by
 have h:decide (o % 2=1)=true:=h
 have h:=of_decide_eq_true h
 unfold wd
 dsimp only
 congr 1
 . exact decide_eq_false (by omega)
 . exact decide_eq_decide.2 (by omega)
 . exact decide_eq_decide.2 (by omega)
 . omega
theorem wd_hand {o:Int} (hL:(wd o).L=false) (hK:(wd o).K=false) (hS:(wd o).S=true):wd (o+-11)=⟨true,false,false,(wd o).n-1⟩/\wd (o+-7)=⟨true,false,true,(wd o).n-1⟩:=by
 have hL:=of_decide_eq_false (show decide (o % 2=1)=false from hL)
 have hK:=of_decide_eq_false (show decide (o / 2 % 2=1)=false from hK)
 have hS:=of_decide_eq_true (show decide (o / 4 % 2=1)=true from hS)
 constructor
 . unfold wd
   dsimp only
   congr 1
   . exact decide_eq_true (by omega)
   . exact decide_eq_false (by omega)
   . exact decide_eq_false (by omega)
   . omega
 . unfold wd
   dsimp only
   congr 1
   . exact decide_eq_true (by omega)
   . exact decide_eq_false (by omega)
   . exact decide_eq_true (by omega)
   . omega
theorem mx_un {a:Cm} {w:Wd}:mx { a with word:=un w }={ mx a with w:=w }:=by
 show (⟨wd (un w),a.nx,a.sv,a.c,a.l⟩:Mx)=_
 rw [wd_un];rfl
section
variable {N i m run:Nat} {p:List Ac} {c:Cl} {a:Cm} {v:Nat->V} {now:Int}
theorem vwp_same {c':Cl} {k n:Int} {m:Nat} (h:p[c.act.toNat]?=some (k,n)) (e:c'.act=c.act):vwp p c' m=vw k n c' m:=by unfold vwp;rw [e,h]
theorem vl1 {c:Cl} {m:Nat} (h:c.pc=1):vw 0 (m:Int) c m=.load c.aw c.st:=by unfold vw;rw [if_neg (by simp),if_pos rfl,h];rfl
theorem vl2 {c:Cl} {m:Nat} (h:c.pc=2):vw 0 (m:Int) c m=.want c.aw c.st (wd c.old):=by unfold vw;rw [if_neg (by simp),if_pos rfl,h];rfl
theorem vl3 {c:Cl} {m:Nat} (h:c.pc=3):vw 0 (m:Int) c m=.draw:=by unfold vw;rw [if_neg (by simp),if_pos rfl,h];rfl
theorem vl4 {c:Cl} {m:Nat} (h:c.pc=4):vw 0 (m:Int) c m=.turn c.ticket:=by unfold vw;rw [if_neg (by simp),if_pos rfl,h];rfl
theorem vl5 {c:Cl} {m:Nat} (h:c.pc=5):vw 0 (m:Int) c m=.sema c.ticket:=by unfold vw;rw [if_neg (by simp),if_pos rfl,h];rfl
theorem vl6 {c:Cl} {m:Nat} (h:c.pc=6):vw 0 (m:Int) c m=.serve c.ticket c.told:=by unfold vw;rw [if_neg (by simp),if_pos rfl,h];rfl
theorem vl7 {c:Cl} {m:Nat} (h:c.pc=7):vw 0 (m:Int) c m=.wok (decide (c.gst=1)):=by unfold vw;rw [if_neg (by simp),if_pos rfl,h];rfl
theorem vl8 {c:Cl} {m:Nat} (h:c.pc=8):vw 0 (m:Int) c m=.hand c.st (wd c.old):=by unfold vw;rw [if_neg (by simp),if_pos rfl,h];rfl
theorem vt9 {c:Cl} {m:Nat} (h:c.pc=9):vw 1 (m:Int) c m=.trying:=by unfold vw;rw [if_neg (by simp),if_neg (by decide),if_pos rfl,h];rfl
theorem vg10 {c:Cl} {m:Nat} (h:c.pc=10):vw 2 (m:Int) c m=.give (wd c.old):=by unfold vw;rw [if_neg (by simp),if_neg (by decide),if_neg (by decide),if_pos rfl,h];rfl
theorem vg11 {c:Cl} {m:Nat} (h:c.pc=11):vw 2 (m:Int) c m=.see:=by unfold vw;rw [if_neg (by simp),if_neg (by decide),if_neg (by decide),if_pos rfl,h];rfl
theorem vg12 {c:Cl} {m:Nat} (h:c.pc=12):vw 2 (m:Int) c m=.draws:=by unfold vw;rw [if_neg (by simp),if_neg (by decide),if_neg (by decide),if_pos rfl,h];rfl
theorem vg13 {c:Cl} {m:Nat} (h:c.pc=13):vw 2 (m:Int) c m=.turns c.ticket:=by unfold vw;rw [if_neg (by simp),if_neg (by decide),if_neg (by decide),if_pos rfl,h];rfl
theorem vg14 {c:Cl} {m:Nat} (h:c.pc=14):vw 2 (m:Int) c m=.grant c.ticket:=by unfold vw;rw [if_neg (by simp),if_neg (by decide),if_neg (by decide),if_pos rfl,h];rfl
theorem vg15 {c:Cl} {m:Nat} (h:c.pc=15):vw 2 (m:Int) c m=.serves c.ticket:=by unfold vw;rw [if_neg (by simp),if_neg (by decide),if_neg (by decide),if_pos rfl,h];rfl
theorem step_go {k:Int} {c':Cl} {a':Cm} {ev:Option Int} (hc:CInv p c) (hg:c.gst=0) (ha:p[c.act.toNat]?=some (k,(m:Int))) (hk:k≠3) (e1:c'.act=c.act) (e2:c'.permit=false) (e3:c'.gst=0\/(c'.gst=1/\c'.pc=7)) (e4:OkPc k c'.pc) (e5:0<=c'.ticket/\c'.ticket<4294967296)
 (e6:c'.since=-1\/(0<=c'.since/\c'.since<=4611686018427387904)) (e7:0<=c'.rounds/\c'.rounds<=4) (e8:OkW c'.old) (e9:c'.pc≠0) (e10:c'.worked=c.worked)
 (ow:OkW a'.word) (iv:Inv N (mx a') (upd v i (vw k (m:Int) c' m))) (he:HeldR ev (wd a.word).L (wd a'.word).L) (hh:HandsR ev k c.pc c.st (wd a.word).S (wd a'.word).S) (e11:c'.pc=9->(wd c'.old).L=false/\(wd c'.old).S=false:=by intro q;cases q) :
 ∃ o,go c' a' ev=.ok o/\StepOk N i m p k c a v o :=
 ⟨_,rfl,hc.stay hg ha hk e1 e2 e3 e4 e5 e6 e7 e8 e9 e10 e11,ow,.inl ⟨rfl,by rw [vwp_same ha e1];exact iv⟩,λ m' hm'=>by rw [vwp_same ha e1];exact vw_far (by omega),he,hh⟩
theorem step_over {k:Int} {a':Cm} {ev:Option Int} (hc:CInv p c) (hg:c.gst=0) (ow:OkW a'.word) (iv:Inv N (mx a') (upd v i .out)) (he:HeldR ev (wd a.word).L (wd a'.word).L) (hh:HandsR ev k c.pc c.st (wd a.word).S (wd a'.word).S) :
 ∃ o,go (over c p.length) a' ev=.ok o/\StepOk N i m p k c a v o :=
 ⟨_,rfl,hc.over hg,ow,.inl ⟨rfl,by rw [vwp_over];exact iv⟩,λ _ _=>vwp_over,he,hh⟩
theorem HandsR.none_ {k pc:Int} {st S:Bool}:HandsR none k pc st S S:=HandsR.same (λ _ q=>by cases q) (λ _ q=>by cases q)
theorem upd_self {v:Nat->V}:upd v i (v i)=v:=by
 funext j
 by_cases q:j=i
 . subst q;exact upd_at
 . exact upd_off q
theorem line_len (h:Inv N (mx a) v):a.l.length<=N:=by
 have hsub:∀ x∈a.l,x∈(List.range N).map (λ k:Nat=>(k:Int)):=λ x hx=>by
  obtain⟨k,hk,e,_⟩:=(h.L.lm x).1 hx
  exact List.mem_map.2 ⟨k,List.mem_range.2 hk,e.symm⟩
 have q:=List.Nodup.length_le_of_subset h.L.nd hsub
 rw [List.length_map,List.length_range] at q
 exact q
theorem lock_start (hN:N<=8) (hi:i<N) (h:Inv N (mx a) v) (hw:OkW a.word) (hc:CInv p c) (hg:c.gst=0) (ha:p[c.act.toNat]?=some (0,(m:Int))) (hv:v i=vwp p c m) (hpc:c.pc=0):∃ o,lock now run p.length i c a=.ok o/\StepOk N i m p 0 c a v o:=by
 have hv:v i=.out:=hv.trans (vwp_start hpc)
 unfold lock
 rw [if_pos hpc]
 by_cases h0:a.word=0
 . rw [if_pos h0]
   have e0:wd a.word=⟨false,false,false,0⟩:=by rw [h0,wd0]
   have q:=h.fast hi hv (by show (wd a.word).L=false;rw [e0]) (by show (wd a.word).S=false;rw [e0]) (by show (wd a.word).n=0;rw [e0])
   have e:mx { a with word:=1 }={ mx a with w:={ (mx a).w with L:=true } }:=by
    show (⟨wd 1,a.nx,a.sv,a.c,a.l⟩:Mx)=⟨{ wd a.word with L:=true },a.nx,a.sv,a.c,a.l⟩
    rw [e0,wd1]
   refine step_over hc hg (by show OkW 1;exact⟨by decide,by decide⟩) (e▸q) (.inr (.inl ⟨rfl,by rw [e0],by show (wd 1).L=true;rw [wd1]⟩)) ?_
   show HandsR _ _ _ _ (wd a.word).S (wd 1).S
   rw [e0,wd1]
   exact HandsR.same (λ q=>by cases q) (λ q=>by cases q)
 . rw [if_neg h0]
   have f:=hc.fr hpc
   exact step_go hc hg ha (by decide) rfl hc.pm (.inl hg) (.inr (.inl ⟨rfl,by show (1:Int)<=1;decide,by show (1:Int)<=8;decide⟩)) hc.tb hc.sc hc.rd hc.ol (by intro q;cases q) rfl hw (by rw [vl1 rfl,f.1,f.2];exact h.slow hi hv) (.inl ⟨rfl,rfl⟩) HandsR.none_
theorem lock_load (hN:N<=8) (hi:i<N) (h:Inv N (mx a) v) (hw:OkW a.word) (hc:CInv p c) (hg:c.gst=0) (ha:p[c.act.toNat]?=some (0,(m:Int))) (hv:v i=vwp p c m) (hpc:c.pc=1):∃ o,lock now run p.length i c a=.ok o/\StepOk N i m p 0 c a v o:=by
 have hv:v i=.load c.aw c.st:=by rw [hv,vwp_at ha,vl1 hpc]
 unfold lock
 rw [if_neg (by rw [hpc];decide),if_pos hpc]
 exact step_go hc hg ha (by decide) rfl hc.pm (.inl hg) (.inr (.inl ⟨rfl,by show (1:Int)<=2;decide,by show (2:Int)<=8;decide⟩)) hc.tb hc.sc hc.rd hw (by intro q;cases q) rfl hw (by rw [vl2 rfl];exact h.look hi hv) (.inl ⟨rfl,rfl⟩) HandsR.none_
theorem lock_draw (hN:N<=8) (hi:i<N) (h:Inv N (mx a) v) (hw:OkW a.word) (hc:CInv p c) (hg:c.gst=0) (ha:p[c.act.toNat]?=some (0,(m:Int))) (hv:v i=vwp p c m) (hpc:c.pc=3):∃ o,lock now run p.length i c a=.ok o/\StepOk N i m p 0 c a v o:=by
 have hv:v i=.draw:=by rw [hv,vwp_at ha,vl3 hpc]
 unfold lock draw
 have t3:=h.T.t3
 have hle:=cnt_le (p:=isT) (v:=v) (N:=N)
 have t3:(a.nx-a.sv) % 4294967296=cnt isT v N:=t3
 rw [if_neg (by rw [hpc];decide),if_neg (by rw [hpc];decide),if_neg (by rw [hpc];decide),if_pos hpc,if_neg (by omega)]
 exact step_go hc hg ha (by decide) rfl hc.pm (.inl hg) (.inr (.inl ⟨rfl,by show (1:Int)<=4;decide,by show (4:Int)<=8;decide⟩)) h.T.nb hc.sc hc.rd hc.ol (by intro q;cases q) rfl hw (by rw [vl4 rfl];exact h.draw hN hi hv) (.inl ⟨rfl,rfl⟩) HandsR.none_
theorem lock_turn (hN:N<=8) (hi:i<N) (h:Inv N (mx a) v) (hw:OkW a.word) (hc:CInv p c) (hg:c.gst=0) (ha:p[c.act.toNat]?=some (0,(m:Int))) (hv:v i=vwp p c m) (hpc:c.pc=4):∃ o,lock now run p.length i c a=.ok o/\StepOk N i m p 0 c a v o:=by
 have hv:v i=.turn c.ticket:=by rw [hv,vwp_at ha,vl4 hpc]
 unfold lock turn
 rw [if_neg (by rw [hpc];decide),if_neg (by rw [hpc];decide),if_neg (by rw [hpc];decide),if_neg (by rw [hpc];decide),if_pos hpc]
 by_cases ht:c.ticket=a.sv
 . rw [if_pos ht]
   exact step_go hc hg ha (by decide) rfl hc.pm (.inl hg) (.inr (.inl ⟨rfl,by show (1:Int)<=5;decide,by show (5:Int)<=8;decide⟩)) hc.tb hc.sc hc.rd hc.ol (by intro q;cases q) rfl hw (by rw [vl5 rfl];show Inv N (mx a) (upd v i (.sema c.ticket));rw [ht];exact h.sema hN hi (by rw [hv,ht];rfl)) (.inl ⟨rfl,rfl⟩) HandsR.none_
 . rw [if_neg ht]
   exact step_go hc hg ha (by decide) rfl hc.pm (.inl hg) (.inr (.inl ⟨rfl,by rw [hpc];decide,by rw [hpc];decide⟩)) hc.tb hc.sc hc.rd hc.ol (by show c.pc≠0;rw [hpc];decide) rfl hw
    (by
      have e:vw 0 (m:Int) { c with pc:=c.pc } m=v i:=by rw [hv];exact vl4 hpc
      rw [e]
      have e2:upd v i (v i)=v:=upd_self
      rw [e2];exact h) (.inl ⟨rfl,rfl⟩) HandsR.none_ (λ q=>by have q:c.pc=9:=q;omega)
theorem lock_sema (hN:N<=8) (hi:i<N) (h:Inv N (mx a) v) (hw:OkW a.word) (hc:CInv p c) (hg:c.gst=0) (ha:p[c.act.toNat]?=some (0,(m:Int))) (hv:v i=vwp p c m) (hpc:c.pc=5):∃ o,lock now run p.length i c a=.ok o/\StepOk N i m p 0 c a v o:=by
 have hv:v i=.sema c.ticket:=by rw [hv,vwp_at ha,vl5 hpc]
 unfold lock ask
 have hno:¬ (i:Int)∈a.l:=λ q=>by
  obtain⟨k,hk,e,hx⟩:=(h.L.lm _).1 q
  obtain rfl:k=i:=by omega
  rw [hv] at hx;cases hx
 rw [if_neg (by rw [hpc];decide),if_neg (by rw [hpc];decide),if_neg (by rw [hpc];decide),if_neg (by rw [hpc];decide),if_neg (by rw [hpc];decide),if_pos hpc,if_neg hno]
 have c0:0<=a.c:=h.W.c0
 by_cases h0:0<a.c
 . rw [if_pos h0]
   exact step_go hc hg ha (by decide) rfl hc.pm (.inl hg) (.inr (.inl ⟨rfl,by show (1:Int)<=6;decide,by show (6:Int)<=8;decide⟩)) hc.tb hc.sc hc.rd hc.ol (by intro q;cases q) rfl hw (by rw [vl6 rfl];exact h.let_ hi hv h0) (.inl ⟨rfl,rfl⟩) HandsR.none_
 . have hlen:a.l.length<=8:=Nat.le_trans (line_len h) hN
   rw [if_neg h0,if_neg (by omega)]
   have hperm:(if c.first then (i:Int)::a.l else a.l++[(i:Int)]).Perm ((i:Int)::a.l):=by
    split
    . exact List.Perm.refl _
    . exact List.perm_append_singleton _ _
   exact step_go hc hg ha (by decide) rfl hc.pm (.inl hg) (.inr (.inl ⟨rfl,by show (1:Int)<=6;decide,by show (6:Int)<=8;decide⟩)) hc.tb hc.sc hc.rd hc.ol (by intro q;cases q) rfl hw (by rw [vl6 rfl];exact h.comes hi hv (by show a.c=0;omega) hperm) (.inl ⟨rfl,rfl⟩) HandsR.none_
theorem lock_serve (hN:N<=8) (hi:i<N) (h:Inv N (mx a) v) (hw:OkW a.word) (hc:CInv p c) (hg:c.gst=0) (ha:p[c.act.toNat]?=some (0,(m:Int))) (hv:v i=vwp p c m) (hpc:c.pc=6):∃ o,lock now run p.length i c a=.ok o/\StepOk N i m p 0 c a v o:=by
 have hv:v i=.serve c.ticket c.told:=by rw [hv,vwp_at ha,vl6 hpc]
 unfold lock rest
 have t3:(a.nx-a.sv) % 4294967296=cnt isT v N:=h.T.t3
 have hp:=cnt_pos (p:=isT) (v:=v) hi (by rw [hv];rfl)
 rw [if_neg (by rw [hpc];decide),if_neg (by rw [hpc];decide),if_neg (by rw [hpc];decide),if_neg (by rw [hpc];decide),if_neg (by rw [hpc];decide),if_neg (by rw [hpc];decide),if_pos hpc,if_neg (by omega)]
 have q:=h.served hN hi hv
 by_cases ht:c.told=true
 . rw [ht] at q
   dsimp only
   rw [if_pos ht]
   exact step_go hc hg ha (by decide) rfl hc.pm (.inl hg) (.inr (.inl ⟨rfl,by show (1:Int)<=7;decide,by show (7:Int)<=8;decide⟩)) hc.tb hc.sc hc.rd hc.ol (by intro q;cases q) rfl hw (by rw [vl7 rfl];show Inv N _ (upd v i (.wok (decide (c.gst=1))));rw [hg];exact q) (.inl ⟨rfl,rfl⟩) HandsR.none_
 . have hf:c.told=false:=by cases e:c.told;rfl;exact absurd e ht
   rw [hf] at q
   dsimp only
   rw [if_neg ht]
   have hpm:=hc.pm
   refine step_go hc hg ha (by decide) rfl rfl (.inr ⟨by rw [hpm];rfl,rfl⟩) (.inr (.inl ⟨rfl,by show (1:Int)<=7;decide,by show (7:Int)<=8;decide⟩)) hc.tb hc.sc hc.rd hc.ol (by intro q;cases q) rfl hw ?_ (.inl ⟨rfl,rfl⟩) HandsR.none_
   rw [vl7 rfl]
   show Inv N _ (upd v i (.wok (decide ((if c.permit=true then (0:Int) else 1)=1))))
   rw [hpm]
   exact q
theorem lock_woken (hN:N<=8) (hi:i<N) (h:Inv N (mx a) v) (hw:OkW a.word) (hc:CInv p c) (hg:c.gst=0) (ha:p[c.act.toNat]?=some (0,(m:Int))) (hv:v i=vwp p c m) (hpc:c.pc=7):∃ o,lock now run p.length i c a=.ok o/\StepOk N i m p 0 c a v o:=by
 have hv:v i=.wok false:=by rw [hv,vwp_at ha,vl7 hpc,hg];rfl
 unfold lock woken
 rw [if_neg (by rw [hpc];decide),if_neg (by rw [hpc];decide),if_neg (by rw [hpc];decide),if_neg (by rw [hpc];decide),if_neg (by rw [hpc];decide),if_neg (by rw [hpc];decide),if_neg (by rw [hpc];decide),if_pos hpc]
 dsimp only
 by_cases hS:(wd a.word).S=true
 . rw [if_pos hS]
   exact step_go hc hg ha (by decide) rfl hc.pm (.inl hg) (.inr (.inl ⟨rfl,by show (1:Int)<=8;decide,by show (8:Int)<=8;decide⟩)) hc.tb hc.sc hc.rd hw (by intro q;cases q) rfl hw (by rw [vl8 rfl];exact h.handed hi hv hS) (.inl ⟨rfl,rfl⟩) HandsR.none_
 . have hS':(wd a.word).S=false:=by cases e:(wd a.word).S;rfl;exact absurd e hS
   rw [if_neg hS]
   exact step_go hc hg ha (by decide) rfl hc.pm (.inl hg) (.inr (.inl ⟨rfl,by show (1:Int)<=2;decide,by show (2:Int)<=8;decide⟩)) hc.tb hc.sc ⟨Int.le_refl _,by show (0:Int)<=4;decide⟩ hw (by intro q;cases q) rfl hw (by rw [vl2 rfl];exact h.goes hi hv hS') (.inl ⟨rfl,rfl⟩) HandsR.none_
theorem lock_handed (hN:N<=8) (hi:i<N) (h:Inv N (mx a) v) (hw:OkW a.word) (hc:CInv p c) (hg:c.gst=0) (ha:p[c.act.toNat]?=some (0,(m:Int))) (hv:v i=vwp p c m) (hpc:c.pc=8):∃ o,lock now run p.length i c a=.ok o/\StepOk N i m p 0 c a v o:=by
 have hv:v i=.hand c.st (wd c.old):=by rw [hv,vwp_at ha,vl8 hpc]
 obtain⟨hL,hS,hK,hn,-⟩:=h.hand_word hi hv
 obtain⟨oL,oK,oS,o1,o2⟩:=h.O.oh i c.st (wd c.old) hi hv
 have hL:(wd a.word).L=false:=hL
 have hS:(wd a.word).S=true:=hS
 have hK:(wd a.word).K=false:=hK
 have hn:1<=(wd a.word).n:=hn
 have hh:=wd_hand hL hK hS
 have hw8:8<=a.word:=by have:1<=a.word / 8:=hn;omega
 have hw12:12<=a.word:=by
  have q:=of_decide_eq_true (show decide (a.word / 4 % 2=1)=true from hS)
  omega
 have hw1:=hw.2
 have hand:hands c=some (if c.st=false\/(wd c.old).n=1 then -11 else -7):=by
  unfold hands
  dsimp only
  rw [if_neg (by rw [oL,oK];rintro (q | q | q);cases q;cases q;omega)]
 unfold lock handed
 rw [if_neg (by rw [hpc];decide),if_neg (by rw [hpc];decide),if_neg (by rw [hpc];decide),if_neg (by rw [hpc];decide),if_neg (by rw [hpc];decide),if_neg (by rw [hpc];decide),if_neg (by rw [hpc];decide),if_neg (by rw [hpc];decide),hand]
 dsimp only
 have fin:∀ (d:Int) (S':Bool),(d=-11\/d=-7)->wd (a.word+d)=⟨true,false,S',(wd a.word).n-1⟩->∃ o,(if 0<=a.word+d/\a.word+d<2147483648 then go (over c p.length) { a with word:=a.word+d } (some 0) else .bad)=.ok o/\StepOk N i m p 0 c a v o:=λ d S' hd e=>by
  rw [if_pos ⟨by omega,by omega⟩]
  have q:=h.takes (S':=S') hi hv
  have em:mx { a with word:=a.word+d }={ mx a with w:=⟨true,false,S',(wd a.word).n-1⟩ }:=by
   show (⟨wd (a.word+d),a.nx,a.sv,a.c,a.l⟩:Mx)=_
   rw [e];rfl
  refine step_over hc hg (by show OkW (a.word+d);exact⟨by omega,by omega⟩) (em▸q) (.inr (.inl ⟨rfl,hL,by show (wd (a.word+d)).L=true;rw [e]⟩)) ?_
  show HandsR _ _ _ _ (wd a.word).S (wd (a.word+d)).S
  rw [hS,e]
  exact⟨λ q=>(by cases q),λ _ _=>⟨rfl,hpc⟩,λ _ q=>(by cases q),λ _ _=>⟨rfl,hpc⟩⟩
 split
 . exact fin _ _ (.inl rfl) hh.1
 . exact fin _ _ (.inr rfl) hh.2
end
end P16
end
end Go.Proofs.YtainfijdhcehlaaGreatDoor
