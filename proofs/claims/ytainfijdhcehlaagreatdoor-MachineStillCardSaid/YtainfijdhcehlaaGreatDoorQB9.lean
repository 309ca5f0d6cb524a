/-
  A part of the proof.
-/
import Derived.Test.YtainfijdhcehlaaGreatDoorQB1
import Derived.Test.YtainfijdhcehlaaGreatDoorQB2
import Derived.Test.YtainfijdhcehlaaGreatDoorQB8
import Derived.Lib.SmallJoins
import Derived.Deep.Fields
import Derived.BigQuiet
import Derived.Laws.StructEq
import Derived.Laws.BitsAllLaws
import Derived.Deep.RegionHeld3
import Derived.RegionTactic
set_option linter.unusedVariables false
set_option linter.unusedSimpArgs false
set_option maxRecDepth 100000
set_option maxHeartbeats 8000000
namespace Go.Proofs.YtainfijdhcehlaaGreatDoor
open Lib (hid)
section
namespace P16
structure Wd where
 L:Bool
 K:Bool
 S:Bool
 n:Int
inductive V where
 | out
 | load (aw st:Bool)
 | want (aw st:Bool) (old:Wd)
 | draw
 | turn (t:Int)
 | sema (t:Int)
 | serve (t:Int) (told:Bool)
 | wok (parked:Bool)
 | hand (st:Bool) (old:Wd)
 | trying
 | give (old:Wd)
 | see
 | draws
 | turns (t:Int)
 | grant (t:Int)
 | serves (t:Int)
structure Mx where
 w:Wd
 nx:Int
 sv:Int
 c:Int
 l:List Int
def isQ:V->Bool
 | .draw | .turn _ | .sema _ | .serve _ _ | .wok _=>true
 | _=>false
def isH:V->Bool
 | .hand _ _=>true
 | _=>false
def isG:V->Bool
 | .draws | .turns _ | .grant _ | .serve _ true | .wok false=>true
 | _=>false
def isA:V->Bool
 | .load true _ | .want true _ _=>true
 | _=>false
def tk:V->Option Int
 | .turn t | .sema t | .serve t _ | .turns t | .grant t | .serves t=>some t
 | _=>none
def isT (x:V):Bool:=(tk x).isSome
def inT:V->Bool
 | .sema _ | .serve _ _ | .grant _ | .serves _=>true
 | _=>false
def inL:V->Bool
 | .serve _ false | .wok true=>true
 | _=>false
def wakes (w:Wd):Prop:=w.L=false/\w.K=false/\w.S=false/\1<=w.n
def b1 (x:Bool):Int:=if x then 1 else 0
theorem b1_cases (x:Bool):b1 x=0\/b1 x=1:=by cases x<;>simp [b1]
def cnt (p:V->Bool) (v:Nat->V):Nat->Int
 | 0=>0
 | N+1=>cnt p v N+b1 (p (v N))
def upd (v:Nat->V) (i:Nat) (x:V):Nat->V:=λ j=>if j=i then x else v j
section
variable {p:V->Bool} {v:Nat->V} {i j N:Nat} {x:V}
theorem upd_at:upd v i x i=x:=by simp [upd]
theorem upd_off (h:j≠i):upd v i x j=v j:=by simp [upd,h]
theorem cnt_far (h:N<=i):cnt p (upd v i x) N=cnt p v N:=by
 induction N with
 | zero=>rfl
 | succ N ih =>
  have:N≠i:=by omega
  simp only [cnt]
  rw [ih (by omega),upd_off this]
theorem cnt_upd (h:i<N):cnt p (upd v i x) N=cnt p v N-b1 (p (v i))+b1 (p x):=by
 induction N with
 | zero=>omega
 | succ N ih =>
  simp only [cnt]
  by_cases e:N=i
  . subst e
    rw [cnt_far (Nat.le_refl _),upd_at]
    omega
  . rw [ih (by omega),upd_off e]
    omega
theorem cnt_nonneg:0<=cnt p v N:=by
 induction N with
 | zero=>simp [cnt]
 | succ N ih=>simp only [cnt];rcases b1_cases (p (v N)) with h | h<;>omega
theorem cnt_le:cnt p v N<=N:=by
 induction N with
 | zero=>simp [cnt]
 | succ N ih=>simp only [cnt];rcases b1_cases (p (v N)) with h | h<;>omega
theorem cnt_pos (h:i<N) (hp:p (v i)=true):1<=cnt p v N:=by
 have e:=cnt_upd (p:=p) (v:=v) (x:=v i) h
 induction N with
 | zero=>omega
 | succ N ih =>
  simp only [cnt]
  by_cases e:N=i
  . subst e
    rw [hp]
    have:=cnt_nonneg (p:=p) (v:=v) (N:=N)
    simp only [b1,if_true]
    omega
  . have:=ih (by omega) (cnt_upd (by omega))
    rcases b1_cases (p (v N)) with h | h<;>omega
end
structure InvW (N:Nat) (w:Wd) (c:Int) (v:Nat->V):Prop where
 n0:0<=w.n
 c0:0<=c
 free:w.S=false->cnt isH v N=0/\cnt isG v N+c+cnt isA v N=b1 w.K/\w.n+(cnt isG v N+c)=cnt isQ v N
 starve:w.S=true->w.K=false/\cnt isA v N=0/\w.n=cnt isQ v N+cnt isH v N/\(w.L=true->cnt isG v N+c=0/\cnt isH v N=0)/\(w.L=false->cnt isG v N+c+cnt isH v N=1)
structure InvT (N:Nat) (nx sv:Int) (v:Nat->V):Prop where
 nb:0<=nx/\nx<4294967296
 sb:0<=sv/\sv<4294967296
 t1:∀ i t,i<N->tk (v i)=some t->(0<=t/\t<4294967296)/\(t-sv) % 4294967296<cnt isT v N
 t2:∀ i j t,i<N->j<N->i≠j->tk (v i)=some t->tk (v j)≠some t
 t3:(nx-sv) % 4294967296=cnt isT v N
 t4:∀ i,i<N->inT (v i)=true->tk (v i)=some sv
structure InvL (N:Nat) (c:Int) (l:List Int) (v:Nat->V):Prop where
 nd:l.Nodup
 lm:∀ x,x∈l↔∃ i,i<N/\x=(i:Int)/\inL (v i)=true
 le:0<c->l=[]
structure InvO (N:Nat) (w:Wd) (v:Nat->V):Prop where
 ol:∀ i aw st,i<N->v i=.load aw st->st=true->aw=true
 ow:∀ i aw st old,i<N->v i=.want aw st old->(st=true->aw=true)/\(aw=true->old.K=true)/\0<=old.n/\old.n<=N
 oh:∀ i st old,i<N->v i=.hand st old->old.L=false/\old.K=false/\old.S=true/\1<=old.n/\old.n<=w.n
def InvR (N:Nat) (w:Wd) (v:Nat->V):Prop:=wakes w->∃ i,i<N/\(v i=.see\/∃ old,v i=.give old/\wakes old)
structure Inv (N:Nat) (m:Mx) (v:Nat->V):Prop where
 W:InvW N m.w m.c v
 T:InvT N m.nx m.sv v
 L:InvL N m.c m.l v
 O:InvO N m.w v
 R:InvR N m.w v
section
variable {N i:Nat} {v:Nat->V} {x:V} {w w':Wd} {c nx sv:Int} {l:List Int}
theorem InvT.same (h:InvT N nx sv v) (hi:i<N) (ht:tk x=tk (v i)) (hn:inT x=inT (v i)):InvT N nx sv (upd v i x):=by
 have hc:cnt isT (upd v i x) N=cnt isT v N:=by
  rw [cnt_upd hi]
  unfold isT
  rw [ht]
  omega
 have ha:∀ j,tk (upd v i x j)=tk (v j):=λ j=>by
  by_cases e:j=i
  . subst e;rw [upd_at,ht]
  . rw [upd_off e]
 have hb:∀ j,inT (upd v i x j)=inT (v j):=λ j=>by
  by_cases e:j=i
  . subst e;rw [upd_at,hn]
  . rw [upd_off e]
 refine⟨h.nb,h.sb,λ j t hj=>?_,λ j k t hj hk hne=>?_,?_,λ j hj=>?_⟩
 . rw [ha,hc];exact h.t1 j t hj
 . rw [ha,ha];exact h.t2 j k t hj hk hne
 . rw [hc];exact h.t3
 . rw [ha,hb];exact h.t4 j hj
theorem InvL.same (h:InvL N c l v) (hi:i<N) (hl:inL x=inL (v i)):InvL N c l (upd v i x):=by
 have ha:∀ j,inL (upd v i x j)=inL (v j):=λ j=>by
  by_cases e:j=i
  . subst e;rw [upd_at,hl]
  . rw [upd_off e]
 refine⟨h.nd,λ y=>?_,h.le⟩
 rw [h.lm]
 constructor
 . rintro⟨j,hj,e,hx⟩;exact⟨j,hj,e,by rw [ha];exact hx⟩
 . rintro⟨j,hj,e,hx⟩;exact⟨j,hj,e,by rw [ha] at hx;exact hx⟩
theorem InvT.draw (h:InvT N nx sv v) (hN:N<=8) (hi:i<N) (h0:tk (v i)=none) (hx:tk x=some nx) (hn:inT x=false):InvT N ((nx+1) % 4294967296) sv (upd v i x):=by
 have hcle:cnt isT v N<N:=by
  have e:=cnt_upd (p:=isT) (v:=v) (x:=x) hi
  have h1:b1 (isT (v i))=0:=by unfold isT;rw [h0];rfl
  have h2:b1 (isT x)=1:=by unfold isT;rw [hx];rfl
  have:=cnt_le (p:=isT) (v:=upd v i x) (N:=N)
  omega
 have hc:cnt isT (upd v i x) N=cnt isT v N+1:=by
  rw [cnt_upd hi]
  have h1:b1 (isT (v i))=0:=by unfold isT;rw [h0];rfl
  have h2:b1 (isT x)=1:=by unfold isT;rw [hx];rfl
  omega
 obtain⟨n0,n1⟩:=h.nb
 obtain⟨s0,s1⟩:=h.sb
 have t3:=h.t3
 have hfar:∀ j t,j<N->tk (v j)=some t->t≠nx:=λ j t hj ht e=>by
  have:=(h.t1 j t hj ht).2
  subst e;omega
 refine⟨by omega,h.sb,λ j t hj ht=>?_,λ j k t hj hk hne ht=>?_,?_,λ j hj hin=>?_⟩
 . rw [hc]
   by_cases e:j=i
   . subst e
     rw [upd_at,hx] at ht
     cases ht
     exact⟨h.nb,by omega⟩
   . rw [upd_off e] at ht
     have:=h.t1 j t hj ht
     exact⟨this.1,by omega⟩
 . by_cases e:j=i
   . subst e
     rw [upd_at,hx] at ht
     cases ht
     rw [upd_off (λ q=>hne q.symm)]
     intro q
     exact hfar k nx hk q rfl
   . rw [upd_off e] at ht
     by_cases e':k=i
     . subst e'
       rw [upd_at,hx]
       intro q
       cases q
       exact hfar j nx hj ht rfl
     . rw [upd_off e']
       exact h.t2 j k t hj hk hne ht
 . rw [hc];omega
 . by_cases e:j=i
   . subst e;rw [upd_at,hn] at hin;cases hin
   . rw [upd_off e] at hin ⊢
     exact h.t4 j hj hin
theorem InvT.serve (h:InvT N nx sv v) (hN:N<=8) (hi:i<N) (h0:inT (v i)=true) (hx:tk x=none) (hn:inT x=false):InvT N nx ((sv+1) % 4294967296) (upd v i x):=by
 have hti:=h.t4 i hi h0
 have hc:cnt isT (upd v i x) N=cnt isT v N-1:=by
  rw [cnt_upd hi]
  have h1:b1 (isT (v i))=1:=by unfold isT;rw [hti];rfl
  have h2:b1 (isT x)=0:=by unfold isT;rw [hx];rfl
  omega
 have hle:=cnt_le (p:=isT) (v:=v) (N:=N)
 have hpos:=cnt_pos (p:=isT) (v:=v) hi (by unfold isT;rw [hti];rfl)
 obtain⟨n0,n1⟩:=h.nb
 obtain⟨s0,s1⟩:=h.sb
 have t3:=h.t3
 refine⟨h.nb,by omega,λ j t hj ht=>?_,λ j k t hj hk hne ht=>?_,?_,λ j hj hin=>?_⟩
 . rw [hc]
   by_cases e:j=i
   . subst e;rw [upd_at,hx] at ht;cases ht
   . rw [upd_off e] at ht
     have h1:=h.t1 j t hj ht
     have h2:t≠sv:=λ q=>h.t2 i j sv hi hj (λ q=>e q.symm) hti (by rw [<- q];exact ht)
     exact⟨h1.1,by omega⟩
 . by_cases e:j=i
   . subst e;rw [upd_at,hx] at ht;cases ht
   . rw [upd_off e] at ht
     by_cases e':k=i
     . subst e';rw [upd_at,hx];intro q;cases q
     . rw [upd_off e'];exact h.t2 j k t hj hk hne ht
 . rw [hc];omega
 . by_cases e:j=i
   . subst e;rw [upd_at,hn] at hin;cases hin
   . rw [upd_off e] at hin ⊢
     exact absurd (h.t4 j hj hin) (h.t2 i j sv hi hj (λ q=>e q.symm) hti)
theorem InvT.turn (h:InvT N nx sv v) (hi:i<N) (h0:tk (v i)=some sv) (hx:tk x=some sv):InvT N nx sv (upd v i x):=by
 have hc:cnt isT (upd v i x) N=cnt isT v N:=by
  rw [cnt_upd hi];unfold isT;rw [hx,h0];omega
 have ha:∀ j,tk (upd v i x j)=tk (v j):=λ j=>by
  by_cases e:j=i
  . subst e;rw [upd_at,hx,h0]
  . rw [upd_off e]
 refine⟨h.nb,h.sb,λ j t hj=>?_,λ j k t hj hk hne=>?_,?_,λ j hj hin=>?_⟩
 . rw [ha,hc];exact h.t1 j t hj
 . rw [ha,ha];exact h.t2 j k t hj hk hne
 . rw [hc];exact h.t3
 . rw [ha]
   by_cases e:j=i
   . subst e;exact h0
   . rw [upd_off e] at hin;exact h.t4 j hj hin
end
end P16
end
section
namespace P16
def good (x:V):Prop:=x=.see\/∃ old,x=.give old/\wakes old
section
variable {N i:Nat} {v:Nat->V} {x:V} {m:Mx} {w w':Wd} {aw st told:Bool} {old:Wd} {t:Int}
theorem InvR.off (h:¬ wakes w'):InvR N w' v:=λ q=>absurd q h
theorem InvR.keep (h:InvR N w v) (hi:i<N) (hw:wakes w'->wakes w) (hg:wakes w'->good (v i)->good x):InvR N w' (upd v i x):=λ q=>by
 obtain⟨j,hj,hgd⟩:=h (hw q)
 by_cases e:j=i
 . subst e
   exact⟨j,hj,by rw [upd_at];exact hg q hgd⟩
 . exact⟨j,hj,by rw [upd_off e];exact hgd⟩
theorem InvR.got (hi:i<N) (hx:wakes w'->good x):InvR N w' (upd v i x):=λ q=>⟨i,hi,by rw [upd_at];exact hx q⟩
theorem InvO.upd (h:InvO N w v) (hi:i<N) (hw:w.n<=w'.n\/∀ j st old,j<N->j≠i->v j≠.hand st old)
 (h0:∀ aw st,x=.load aw st->st=true->aw=true)
 (h1:∀ aw st old,x=.want aw st old->(st=true->aw=true)/\(aw=true->old.K=true)/\0<=old.n/\old.n<=N)
 (h2:∀ st old,x=.hand st old->old.L=false/\old.K=false/\old.S=true/\1<=old.n/\old.n<=w'.n):InvO N w' (upd v i x):=by
 refine⟨λ j aw st hj e=>?_,λ j aw st old hj e=>?_,λ j st old hj e=>?_⟩
 . by_cases q:j=i
   . subst q;rw [upd_at] at e;exact h0 aw st e
   . rw [upd_off q] at e;exact h.ol j aw st hj e
 . by_cases q:j=i
   . subst q;rw [upd_at] at e;exact h1 aw st old e
   . rw [upd_off q] at e;exact h.ow j aw st old hj e
 . by_cases q:j=i
   . subst q;rw [upd_at] at e;exact h2 st old e
   . rw [upd_off q] at e
     obtain⟨a,b,c,d,f⟩:=h.oh j st old hj e
     rcases hw with hw | hw
     . exact⟨a,b,c,d,by omega⟩
     . exact absurd e (hw j st old hj q)
theorem Inv.awake (h:Inv N m v) (hi:i<N) (ha:isA (v i)=true):m.w.K=true/\m.w.S=false/\cnt isA v N=1/\cnt isG v N+m.c=0:=by
 have:=cnt_pos hi ha
 have hg:=cnt_nonneg (p:=isG) (v:=v) (N:=N)
 have c0:=h.W.c0
 cases hS:m.w.S
 . have e:=(h.W.free hS).2.1
   cases hK:m.w.K
   . rw [hK] at e;simp [b1] at e;omega
   . rw [hK] at e;simp [b1] at e;exact⟨rfl,rfl,by omega,by omega⟩
 . have e:=(h.W.starve hS).2.1;omega
theorem Inv.got (h:Inv N m v) (hi:i<N) (hv:v i=.want aw st old) (hL:m.w.L=false) (hS:m.w.S=false) :
 Inv N { m with w:={ m.w with L:=true,K:=m.w.K&&!aw } } (upd v i .out):=by
 have hW:=h.W
 refine⟨⟨hW.n0,hW.c0,λ _=>?_,λ q=>?_⟩,h.T.same hi (by rw [hv];rfl) (by rw [hv];rfl),h.L.same hi (by rw [hv];rfl),h.O.upd hi (.inl (Int.le_refl _)) (λ _ _ e=>by cases e) (λ _ _ _ e=>by cases e) (λ _ _ e=>by cases e),InvR.off (λ q=>by cases q.1)⟩
 . dsimp only
   obtain⟨a,b,c⟩:=hW.free hS
   cases aw
   . have eQ:=cnt_upd (p:=isQ) (v:=v) (x:=V.out) hi
     have eH:=cnt_upd (p:=isH) (v:=v) (x:=V.out) hi
     have eG:=cnt_upd (p:=isG) (v:=v) (x:=V.out) hi
     have eA:=cnt_upd (p:=isA) (v:=v) (x:=V.out) hi
     simp only [hv,isQ,isH,isG,isA,b1,Bool.false_eq_true,if_true,if_false,Int.sub_zero,Int.add_zero] at eQ eH eG eA
     exact⟨by omega,by simp only [Bool.not_false,Bool.and_true];omega,by omega⟩
   . have hk:=h.awake hi (by rw [hv];rfl)
     have eQ:=cnt_upd (p:=isQ) (v:=v) (x:=V.out) hi
     have eH:=cnt_upd (p:=isH) (v:=v) (x:=V.out) hi
     have eG:=cnt_upd (p:=isG) (v:=v) (x:=V.out) hi
     have eA:=cnt_upd (p:=isA) (v:=v) (x:=V.out) hi
     simp only [hv,isQ,isH,isG,isA,b1,Bool.false_eq_true,if_true,if_false,Int.sub_zero,Int.add_zero] at eQ eH eG eA
     exact⟨by omega,by simp only [Bool.not_true,Bool.and_false,b1,Bool.false_eq_true,if_false];omega,by omega⟩
 . have q:m.w.S=true:=q
   rw [hS] at q;cases q
end
end P16
end
section
namespace P16
section
variable {N i j:Nat} {v:Nat->V} {x:V} {m:Mx} {w w':Wd} {aw st told S':Bool} {old:Wd} {t:Int} {l':List Int}
theorem Inv.tickets (h:Inv N m v) (hi:i<N) (hQ:isQ x=isQ (v i)) (hH:isH x=isH (v i)) (hG:isG x=isG (v i)) (hA:isA x=isA (v i)) (hl:inL x=inL (v i)) {nx sv:Int} (hT:InvT N nx sv (upd v i x))
 (h0:∀ aw st,x≠.load aw st) (h1:∀ aw st old,x≠.want aw st old) (h2:∀ st old,x≠.hand st old) (hg:¬ good (v i)) :
 Inv N { m with nx:=nx,sv:=sv } (upd v i x):=by
 have eQ:=cnt_upd (p:=isQ) (v:=v) (x:=x) hi
 have eH:=cnt_upd (p:=isH) (v:=v) (x:=x) hi
 have eG:=cnt_upd (p:=isG) (v:=v) (x:=x) hi
 have eA:=cnt_upd (p:=isA) (v:=v) (x:=x) hi
 rw [hQ] at eQ
 rw [hH] at eH
 rw [hG] at eG
 rw [hA] at eA
 have hW:=h.W
 refine⟨⟨hW.n0,hW.c0,λ hS=>?_,λ hS=>?_⟩,hT,h.L.same hi hl,h.O.upd hi (.inl (Int.le_refl _)) (λ aw st e=>absurd e (h0 aw st)) (λ aw st old e=>absurd e (h1 aw st old)) (λ st old e=>absurd e (h2 st old)),h.R.keep hi id (λ _ q=>absurd q hg)⟩
 . dsimp only at hS ⊢
   obtain⟨a,b,c⟩:=hW.free hS
   exact⟨by omega,by omega,by omega⟩
 . dsimp only at hS ⊢
   obtain⟨a,b,c,d,e⟩:=hW.starve hS
   exact⟨a,by omega,by omega,λ q=>⟨by have:=(d q).1;omega,by have:=(d q).2;omega⟩,λ q=>by have:=e q;omega⟩
theorem ng {x:V} (h0:x≠.see) (h1:∀ old,x≠.give old):¬ good x:=by
 rintro (q | ⟨old,q,_⟩)
 . exact h0 q
 . exact h1 old q
theorem Inv.draws (h:Inv N m v) (hN:N<=8) (hi:i<N) (hv:v i=.draws):Inv N { m with nx:=(m.nx+1) % 4294967296,sv:=m.sv } (upd v i (.turns m.nx)) :=
 h.tickets hi (by rw [hv];rfl) (by rw [hv];rfl) (by rw [hv];rfl) (by rw [hv];rfl) (by rw [hv];rfl) (h.T.draw hN hi (by rw [hv];rfl) rfl rfl) (λ _ _ e=>by cases e) (λ _ _ _ e=>by cases e) (λ _ _ e=>by cases e) (ng (by rw [hv];intro q;cases q) (by rw [hv];intro _ q;cases q))
theorem Inv.sema (h:Inv N m v) (hN:N<=8) (hi:i<N) (hv:v i=.turn m.sv):Inv N m (upd v i (.sema m.sv)) :=
 h.tickets hi (by rw [hv];rfl) (by rw [hv];rfl) (by rw [hv];rfl) (by rw [hv];rfl) (by rw [hv];rfl) (h.T.turn hi (by rw [hv];rfl) rfl) (λ _ _ e=>by cases e) (λ _ _ _ e=>by cases e) (λ _ _ e=>by cases e) (ng (by rw [hv];intro q;cases q) (by rw [hv];intro _ q;cases q))
theorem Inv.serves (h:Inv N m v) (hN:N<=8) (hi:i<N) (hv:v i=.serves t):Inv N { m with nx:=m.nx,sv:=(m.sv+1) % 4294967296 } (upd v i (.out)) :=
 h.tickets hi (by rw [hv];rfl) (by rw [hv];rfl) (by rw [hv];rfl) (by rw [hv];rfl) (by rw [hv];rfl) (h.T.serve hN hi (by rw [hv];rfl) rfl rfl) (λ _ _ e=>by cases e) (λ _ _ _ e=>by cases e) (λ _ _ e=>by cases e) (ng (by rw [hv];intro q;cases q) (by rw [hv];intro _ q;cases q))
end
end P16
end
section
namespace P16
def wd (o:Int):Wd:=⟨decide (o % 2=1),decide (o / 2 % 2=1),decide (o / 4 % 2=1),o / 8⟩
def un (w:Wd):Int:=8*w.n+4*b1 w.S+2*b1 w.K+b1 w.L
def OkW (o:Int):Prop:=0<=o/\o<2147483648
theorem OkW.n {o:Int} (h:OkW o):0<=(wd o).n/\(wd o).n<268435456:=by unfold OkW at h;unfold wd;dsimp only;omega
theorem okW_un {w:Wd} (h0:0<=w.n) (h1:w.n<268435456):OkW (un w):=by
 unfold OkW un
 rcases b1_cases w.S with a | a<;>rcases b1_cases w.K with b | b<;>rcases b1_cases w.L with c | c<;>rw [a,b,c]<;>omega
structure Cl where
 gst:Int
 permit:Bool
 act:Int
 pc:Int
 worked:Int
 ticket:Int
 first:Bool
 told:Bool
 since:Int
 st:Bool
 aw:Bool
 rounds:Int
 old:Int
structure Cm where
 word:Int
 nx:Int
 sv:Int
 c:Int
 l:List Int
structure Mw where
 now:Int
 progs:List (List (Int×Int))
 cl:List Cl
 cm:Nat->Cm
 stop:Int
def first (gst:Int) (permit:Bool) (at_:Int) (len:Nat):Cl :=
 { gst:=if at_=len then 2 else gst,permit:=if at_=len then false else permit,act:=at_,pc:=0,worked:=0,ticket:=0,first:=false,told:=false,since:=-1,st:=false,aw:=false,rounds:=0,old:=0 }
def over (c:Cl) (len:Nat):Cl:=first c.gst c.permit (c.act+1) len
def runs (l:List Cl):Nat:=(l.filter λ c=>decide (c.gst=0)).length
structure Out where
 c:Cl
 m:Cm
 rdy:Option Int
 ev:Option Int
inductive Res where
 | bad
 | fault
 | ok (o:Out)
def go (c:Cl) (m:Cm) (ev:Option Int:=none):Res:=.ok ⟨c,m,none,ev⟩
def wants (c:Cl):Option Int :=
 let o:=wd c.old
 if c.aw=true/\o.K=false then none
 else if (o.L=true\/o.S=true)/\268435456<=o.n+1 then none
 else some (un { L:=o.L||!o.S,K:=o.K&&!c.aw,S:=o.S||(c.st&&o.L),n:=if o.L||o.S then o.n+1 else o.n })
def late (s now:Int):Bool:=decide (s≠-1/\1000000<max 0 (now-s))
def draw (c:Cl) (m:Cm) (pc:Int):Res :=
 if (m.nx-m.sv) % 4294967296=4294967295 then .bad else go { c with ticket:=m.nx,pc:=pc } { m with nx:=(m.nx+1) % 4294967296 }
def turn (c:Cl) (m:Cm) (pc:Int):Res:=go { c with pc:=if c.ticket=m.sv then pc else c.pc } m
def round (c:Cl) (m:Cm):Res :=
 let o:=wd c.old
 let sets:=c.aw=false/\o.K=false/\0<o.n/\m.word=c.old
 go { c with aw:=if sets then true else c.aw,rounds:=c.rounds+1,pc:=1 } { m with word:=if sets then un { wd m.word with K:=true } else m.word }
def want (now:Int) (run len:Nat) (c:Cl) (m:Cm):Res :=
 let o:=wd c.old
 if o.L=true/\o.S=false/\c.rounds<4/\1<run then round c m
 else match wants c with
  | none=>.bad
  | some n =>
   if m.word≠c.old then go { c with pc:=1 } m
   else if o.L=false/\o.S=false then go (over c len) { m with word:=n } (some 0)
   else go { c with since:=if c.since=-1 then now else c.since,first:=!decide (c.since=-1),pc:=3 } { m with word:=n }
def ask (who:Int) (c:Cl) (m:Cm):Res :=
 if who∈m.l then .bad
 else if 0<m.c then go { c with told:=true,pc:=6 } { m with c:=m.c-1 }
 else if 64<=m.l.length then .bad
 else go { c with told:=false,pc:=6 } { m with l:=if c.first then who::m.l else m.l++[who] }
def rest (c:Cl) (m:Cm):Res :=
 if (m.nx-m.sv) % 4294967296=0 then .bad
 else
  let m':={ m with sv:=(m.sv+1) % 4294967296 }
  if c.told=true then go { c with pc:=7 } m'
  else go { c with pc:=7,gst:=if c.permit=true then 0 else 1,permit:=false } m'
def woken (now:Int) (c:Cl) (m:Cm):Res :=
 let c:={ c with st:=c.st||late c.since now,old:=m.word }
 if (wd m.word).S=true then go { c with pc:=8 } m else go { c with aw:=true,rounds:=0,pc:=2 } m
def hands (c:Cl):Option Int :=
 let o:=wd c.old
 if o.L=true\/o.K=true\/o.n=0 then none else some (if c.st=false\/o.n=1 then -11 else -7)
def handed (len:Nat) (c:Cl) (m:Cm):Res :=
 match hands c with
 | none=>.bad
 | some d=>if 0<=m.word+d/\m.word+d<2147483648 then go (over c len) { m with word:=m.word+d } (some 0) else .bad
def lock (now:Int) (run len:Nat) (who:Int) (c:Cl) (m:Cm):Res :=
 if c.pc=0 then (if m.word=0 then go (over c len) { m with word:=1 } (some 0) else go { c with pc:=1 } m)
 else if c.pc=1 then go { c with old:=m.word,pc:=2 } m
 else if c.pc=2 then want now run len c m
 else if c.pc=3 then draw c m 4
 else if c.pc=4 then turn c m 5
 else if c.pc=5 then ask who c m
 else if c.pc=6 then rest c m
 else if c.pc=7 then woken now c m
 else handed len c m
def try_ (len:Nat) (c:Cl) (m:Cm):Res :=
 if c.pc=9 then (if m.word≠c.old then go (over c len) m (some 2) else go (over c len) { m with word:=un { wd m.word with L:=true } } (some 1))
 else if (wd m.word).L=true\/(wd m.word).S=true then go (over c len) m (some 2)
 else go { c with old:=m.word,pc:=9 } m
def unlock (len:Nat) (c:Cl) (m:Cm):Res :=
 if (wd m.word).L=false then .fault
 else
  let left:=m.word-1
  let m':={ m with word:=left }
  if left=0 then go (over c len) m' (some 3)
  else if (wd left).S=true then go { c with pc:=12 } m' (some 3)
  else go { c with old:=left,pc:=10 } m' (some 3)
def let_ (len:Nat) (c:Cl) (m:Cm):Res :=
 let o:=wd c.old
 if ¬ (o.L=false/\o.K=false/\o.S=false/\o.n≠0) then go (over c len) m
 else if m.word=c.old then go { c with pc:=12 } { m with word:=un { L:=false,K:=true,S:=false,n:=o.n-1 } }
 else go { c with pc:=11 } m
def grant (c:Cl) (m:Cm):Res :=
 match m.l with
 | y::rest=>.ok ⟨{ c with pc:=15 },{ m with l:=rest },some y,none⟩
 | []=>if m.c=2147483647 then .bad else go { c with pc:=15 } { m with c:=m.c+1 }
def give (len:Nat) (c:Cl) (m:Cm):Res :=
 if c.pc=0 then unlock len c m
 else if c.pc=10 then let_ len c m
 else if c.pc=11 then go { c with old:=m.word,pc:=10 } m
 else if c.pc=12 then draw c m 13
 else if c.pc=13 then turn c m 14
 else if c.pc=14 then grant c m
 else if (m.nx-m.sv) % 4294967296=0 then .bad
 else go (over c len) { m with sv:=(m.sv+1) % 4294967296 }
def touch (now:Int) (run len:Nat) (who k:Int) (c:Cl) (m:Cm):Res :=
 if k=0 then lock now run len who c m else if k=1 then try_ len c m else give len c m
def work (n:Int) (len:Nat) (c:Cl):Cl:=if n=0\/c.worked+1=n then over { c with worked:=c.worked+1 } len else { c with worked:=c.worked+1 }
def told (c:Cl):Option Cl :=
 if c.gst=2\/(c.gst=0/\c.permit=true) then none
 else if c.gst=0 then some { c with permit:=true } else some { c with gst:=0 }
def stp (w:Mw) (who:Nat):Mw×Option (Int×Int×Int) :=
 match w.cl[who]?,w.progs[who]? with
 | some c,some p =>
  if w.stop≠0\/c.gst≠0 then (w,none)
  else match p[c.act.toNat]? with
   | none=>(w,none)
   | some (k,n) =>
    if k=3 then ({ w with cl:=w.cl.set who (work n p.length c) },none)
    else match touch w.now (runs w.cl) p.length who k c (w.cm n.toNat) with
     | .bad=>({ w with stop:=12 },none)
     | .fault=>({ w with stop:=11 },some (who,4,n))
     | .ok o =>
      let cl:=w.cl.set who o.c
      let cm:=λ j=>if j=n.toNat then o.m else w.cm j
      match o.rdy with
      | none=>({ w with cl:=cl,cm:=cm },o.ev.map λ e=>(who,e,n))
      | some y =>
       match (cl[y.toNat]?).bind told with
       | none=>({ w with stop:=12 },none)
       | some d=>({ w with cl:=cl.set y.toNat d,cm:=cm },o.ev.map λ e=>(who,e,n))
 | _,_=>(w,none)
def tick (w:Mw) (d:Int):Mw:=if w.stop≠0 then w else { w with now:=w.now+d }
end P16
end
section
open Go.ChangeShapes Go.WideShapes Go.ChangeAt Go.RowKit Go.Joins
namespace P16
open P12 (PV PMem)
instance:Inhabited Cl:=⟨⟨0,false,0,0,0,0,false,false,0,false,false,0,0⟩⟩
abbrev clV (c:Cl):List Value :=
 [.int .i64 c.gst,.bool c.permit,.int .i64 c.act,.int .i64 c.pc,.int .i64 c.worked,.int .i64 c.ticket,.bool c.first,.bool c.told,.int .i64 c.since,.bool c.st,.bool c.aw,.int .i64 c.rounds,.int .i64 c.old]
structure CB (c:Cl):Prop where
 gst:B64 c.gst
 act:B64 c.act
 pc:B64 c.pc
 worked:B64 c.worked
 ticket:B64 c.ticket
 since:B64 c.since
 rounds:B64 c.rounds
 old:B64 c.old
abbrev T3:=Int×Int×Int
abbrev t3V (x:T3):List Value:=[.int .i64 x.1,.int .i64 x.2.1,.int .i64 x.2.2]
def TB3 (x:T3):Prop:=B64 x.1/\B64 x.2.1/\B64 x.2.2
abbrev CMem:=RMem clV 13 CB
abbrev T3Mem:=RMem t3V 3 TB3
section
variable {w w':World} {A:Option Addr} {n k:Nat}
theorem CMem.cells {l:List Cl} (h:CMem w A n l) (hk:k<n) :
 ∃ b off x,A=some ⟨b,off,none⟩/\b<w.heap.size/\l[k]?=some x/\CB x /\
  w.cell? ⟨b,off+k*13,none⟩=some (.int .i64 x.gst)/\w.cell? ⟨b,off+k*13+1,none⟩=some (.bool x.permit)/\w.cell? ⟨b,off+k*13+2,none⟩=some (.int .i64 x.act) /\
  w.cell? ⟨b,off+k*13+3,none⟩=some (.int .i64 x.pc)/\w.cell? ⟨b,off+k*13+4,none⟩=some (.int .i64 x.worked)/\w.cell? ⟨b,off+k*13+5,none⟩=some (.int .i64 x.ticket) /\
  w.cell? ⟨b,off+k*13+6,none⟩=some (.bool x.first)/\w.cell? ⟨b,off+k*13+7,none⟩=some (.bool x.told)/\w.cell? ⟨b,off+k*13+8,none⟩=some (.int .i64 x.since) /\
  w.cell? ⟨b,off+k*13+9,none⟩=some (.bool x.st)/\w.cell? ⟨b,off+k*13+10,none⟩=some (.bool x.aw)/\w.cell? ⟨b,off+k*13+11,none⟩=some (.int .i64 x.rounds) /\
  w.cell? ⟨b,off+k*13+12,none⟩=some (.int .i64 x.old):=by
 obtain⟨b,off,x,h1,h2,h3,h4,h5⟩:=h.at_ hk
 exact⟨b,off,x,h1,h2,h3,h4,h5 0 _ rfl,h5 1 _ rfl,h5 2 _ rfl,h5 3 _ rfl,h5 4 _ rfl,h5 5 _ rfl,h5 6 _ rfl,h5 7 _ rfl,h5 8 _ rfl,h5 9 _ rfl,h5 10 _ rfl,h5 11 _ rfl,h5 12 _ rfl⟩
theorem T3Mem.cells {l:List T3} (h:T3Mem w A n l) (hk:k<n) :
 ∃ b off x,A=some ⟨b,off,none⟩/\b<w.heap.size/\l[k]?=some x/\TB3 x /\
  w.cell? ⟨b,off+k*3,none⟩=some (.int .i64 x.1)/\w.cell? ⟨b,off+k*3+1,none⟩=some (.int .i64 x.2.1)/\w.cell? ⟨b,off+k*3+2,none⟩=some (.int .i64 x.2.2):=by
 obtain⟨b,off,x,h1,h2,h3,h4,h5⟩:=h.at_ hk
 exact⟨b,off,x,h1,h2,h3,h4,h5 0 _ rfl,h5 1 _ rfl,h5 2 _ rfl⟩
end
structure Sl where
 A:Option Addr
 n:Nat
 c:Nat
def Sl.ok (s:Sl):Prop:=s.n<=s.c/\s.c<=9223372036854775807
theorem Sl.ok.lt {s:Sl} (h:s.ok):s.n<=9223372036854775807:=by unfold Sl.ok at h;omega
structure WR where
 now:Int
 p:Sl
 c:Sl
 m:Sl
 t:Sl
 stop:Int
abbrev WR.a (r:WR):Array Value:=#[.int .i64 r.now,.slice r.p.A r.p.n r.p.c,.slice r.c.A r.c.n r.c.c,.slice r.m.A r.m.n r.m.c,.slice r.t.A r.t.n r.t.c,.int .i64 r.stop]
abbrev WR.v (r:WR):Value:=.agg r.a
abbrev Sp:=Int×Int×List Int
structure Wv where
 now:Int
 progs:List (List (Int×Int))
 cl:List Cl
 mx:List T3
 tb:List Sp
 stop:Int
structure WIs (W:World) (r:WR) (ω:Wv):Prop where
 now:r.now=ω.now
 stop:r.stop=ω.stop
 bn:B64 ω.now
 bs:B64 ω.stop
 p:∃ R,PMem W r.p.A r.p.n R/\P12.pl R=ω.progs
 c:CMem W r.c.A r.c.n ω.cl
 m:T3Mem W r.m.A r.m.n ω.mx
 t:∃ T,SMem W r.t.A r.t.n T/\T.map SV.pl=ω.tb
 op:r.p.ok
 oc:r.c.ok
 om:r.m.ok
 ot:r.t.ok
theorem WIs.gr {W W':World} {r:WR} {ω:Wv} (h:WIs W r ω) (g:Gr W W'):WIs W' r ω :=
 ⟨h.now,h.stop,h.bn,h.bs,h.p.imp λ _ q=>⟨q.1.gr g,q.2⟩,h.c.gr g,h.m.gr g,h.t.imp λ _ q=>⟨q.1.gr g,q.2⟩,h.op,h.oc,h.om,h.ot⟩
theorem WIs.lens {W:World} {r:WR} {ω:Wv} (h:WIs W r ω):ω.progs.length=r.p.n/\ω.cl.length=r.c.n/\ω.mx.length=r.m.n/\ω.tb.length=r.t.n:=by
 obtain⟨R,hR,e⟩:=h.p
 obtain⟨T,hT,e'⟩:=h.t
 refine⟨?_,h.c.len,h.m.len,?_⟩
 . rw [<- e];unfold P12.pl;rw [List.length_map];exact hR.len
 . rw [<- e',List.length_map];exact hT.1
section
variable {H:Type} {enc:TypeId×Value->H} {W:World} {sp:Nat->Bool}
variable {m:Nat} {cs:List Value} {y:DataW H×List MemPlace}
theorem array6 {α:Type} {cs:Array α} (h:cs.size=6):∃ c0 c1 c2 c3 c4 c5,cs=#[c0,c1,c2,c3,c4,c5]:=by
 obtain⟨l⟩:=cs
 match l,h with
 | [c0,c1,c2,c3,c4,c5],_=>exact⟨c0,c1,c2,c3,c4,c5,rfl⟩
end
end P16
end
section
namespace P16
abbrev Ac:=Int×Int
def OkA (a:Ac):Prop:=(a.1=0\/a.1=1\/a.1=2\/a.1=3)/\0<=a.2/\(a.1≠3->a.2<4)
def OkPc (k pc:Int):Prop:=pc=0\/(k=0/\1<=pc/\pc<=8)\/(k=1/\pc=9)\/(k=2/\10<=pc/\pc<=15)
structure CInv (p:List Ac) (c:Cl):Prop where
 a0:0<=c.act
 a1:c.act<=p.length
 pm:c.permit=false
 g:c.gst=0\/c.gst=1\/c.gst=2
 dn:c.gst=2↔c.act=p.length
 pk:c.gst=1->c.pc=7
 pcs:∀ k n,p[c.act.toNat]?=some (k,n)->OkPc k c.pc
 fin:c.act=p.length->c.pc=0
 tb:0<=c.ticket/\c.ticket<4294967296
 sc:c.since=-1\/(0<=c.since/\c.since<=4611686018427387904)
 rd:0<=c.rounds/\c.rounds<=4
 ol:OkW c.old
 fr:c.pc=0->c.aw=false/\c.st=false
 wk:c.worked=0\/(0<c.worked/\∃ n,p[c.act.toNat]?=some (3,n)/\c.worked<n)
 tr:c.pc=9->(wd c.old).L=false/\(wd c.old).S=false
def vw (k n:Int) (c:Cl) (m:Nat):V :=
 if n≠m then .out
 else if k=0 then
  (if c.pc=1 then .load c.aw c.st else if c.pc=2 then .want c.aw c.st (wd c.old) else if c.pc=3 then .draw else if c.pc=4 then .turn c.ticket else if c.pc=5 then .sema c.ticket
    else if c.pc=6 then .serve c.ticket c.told else if c.pc=7 then .wok (decide (c.gst=1)) else if c.pc=8 then .hand c.st (wd c.old) else .out)
 else if k=1 then (if c.pc=9 then .trying else .out)
 else if k=2 then
  (if c.pc=10 then .give (wd c.old) else if c.pc=11 then .see else if c.pc=12 then .draws else if c.pc=13 then .turns c.ticket else if c.pc=14 then .grant c.ticket else if c.pc=15 then .serves c.ticket else .out)
 else .out
def vwp (p:List Ac) (c:Cl) (m:Nat):V :=
 match p[c.act.toNat]? with
 | some a=>vw a.1 a.2 c m
 | none=>.out
def mx (m:Cm):Mx:=⟨wd m.word,m.nx,m.sv,m.c,m.l⟩
end P16
end
section
namespace P16
def view (w:Mw) (m:Nat) (i:Nat):V :=
 match w.cl[i]?,w.progs[i]? with
 | some c,some p=>vwp p c m
 | _,_=>.out
structure WInv (w:Mw):Prop where
 len:w.cl.length=w.progs.length
 l8:w.progs.length<=8
 pr:∀ p,p∈w.progs->∀ a,a∈p->OkA a
 ci:∀ (i:Nat) c p,w.cl[i]?=some c->w.progs[i]?=some p->CInv p c
 ow:∀ m,m<4->OkW (w.cm m).word
 iv:∀ m,m<4->Inv w.progs.length (mx (w.cm m)) (view w m)
 st:w.stop=0\/w.stop=11
 tm:0<=w.now/\w.now<=4611686018427387904
end P16
end
section
namespace P16
section
variable {l:List (List Ac)} {p:List Ac} {w:Mw} {who:Nat}
def cK (k:Int) (p:List Ac):Nat:=(p.filter λ a=>decide (a.1=k)).length
end
end P16
end
section
namespace P16
theorem WInv.tick {w:Mw} {d:Int} (h:WInv w) (h0:0<=d) (h1:w.now+d<=4611686018427387904):WInv (tick w d):=by
 unfold P16.tick
 split
 . exact h
 . have:=h.tm
   exact⟨h.len,h.l8,h.pr,h.ci,h.ow,h.iv,h.st,⟨by show 0<=w.now+d;omega,h1⟩⟩
def cAt (a k:Nat) (len:Nat):Cl:={ first 0 false a len with worked:=k }
def W1 (p:List Ac) (a k:Nat) (hd:Option Nat) (now:Int):Mw :=
 ⟨now,[p],[cAt a k p.length],λ m=>⟨if hd=some m then 1 else 0,0,0,0,[]⟩,0⟩
end P16
end
section
open Go.ChangeShapes Go.WideShapes Go.ChangeAt Go.RowKit
namespace P3
abbrev fl (a b c:Bool) (n:Int):Value:=.agg #[.bool a,.bool b,.bool c,.int .i64 n]
def b1 (a:Bool):Int:=if a then 1 else 0
def bitI (a:Bool) (b:Int):Int:=if a then b else 0
def pw (a b c:Bool) (n:Int):Int:=8*n+4*b1 c+2*b1 b+b1 a
theorem fbit_ok (is:Bool) (b:Int) (w:World):Calls Tryz.prog 234 #[.bool is,.int .i64 b] w λ e w'=>e=.returned (.int .i64 (bitI is b))/\w'=w:=by
 cases is
 . go_enter Tryz.func234,Tryz.ntmps234
   go_wp2
   go_ret
   exact⟨rfl,rfl⟩
 . go_enter Tryz.func234,Tryz.ntmps234
   go_wp2
   go_ret
   exact⟨rfl,rfl⟩
theorem i64_small {x:Nat} (h:x<2 ^ 63):IntKind.i64.wrap (x:Int)=x:=by
 rw [IntKind.wrap_i64];omega
theorem ofInt_i64 (a:Nat) (ha:a<2 ^ 63):(BitVec.ofInt 64 (a:Int)).toNat=a:=by
 rw [BitVec.toNat_ofInt];omega
theorem i64_or (i x y:Nat) (hx:x % 2 ^ i=0) (hy:y<2 ^ i) (h:x+y<2 ^ 63):bits .or .i64 (x:Int) (y:Int)=((x+y:Nat):Int):=by
 show IntKind.i64.wrap ((BitVec.ofInt 64 (x:Int) ||| BitVec.ofInt 64 (y:Int)).toNat:Int)=_
 rw [BitVec.toNat_or,ofInt_i64 x (by omega),ofInt_i64 y (by omega),nat_join i x y hx hy,i64_small h]
theorem i64_bit (i x:Nat) (hi:2 ^ i<2 ^ 63) (h:x<2 ^ 63):bits .and .i64 (x:Int) ((2 ^ i:Nat):Int)=((x / 2 ^ i % 2*2 ^ i:Nat):Int):=by
 have hl:x &&& 2 ^ i<2 ^ 63:=Nat.lt_of_le_of_lt Nat.and_le_left h
 show IntKind.i64.wrap ((BitVec.ofInt 64 (x:Int) &&& BitVec.ofInt 64 ((2 ^ i:Nat):Int)).toNat:Int)=_
 rw [BitVec.toNat_and,ofInt_i64 x h,ofInt_i64 _ hi,i64_small hl,nat_bit]
theorem i64_mask31 (n:Int):bits .and .i64 n 2147483647=n % 2147483648:=by
 have hm:(BitVec.ofInt 64 2147483647).toNat=2 ^ 31-1:=by decide
 have key:(BitVec.ofInt 64 n &&& BitVec.ofInt 64 2147483647).toNat=(n % ((2 ^ 64:Nat):Int)).toNat % 2 ^ 31:=by
  rw [BitVec.toNat_and,BitVec.toNat_ofInt,hm,Nat.and_two_pow_sub_one_eq_mod]
 show IntKind.i64.wrap ((BitVec.ofInt 64 n &&& BitVec.ofInt 64 2147483647).toNat:Nat)=n % 2147483648
 rw [key,IntKind.wrap_i64]
 omega
theorem b1_le (a:Bool):0<=b1 a/\b1 a<=1:=by cases a<;>decide
theorem pw_nat (a b c:Bool) (n:Int) (h:0<=n/\n<268435456):∃ x:Nat,pw a b c n=(x:Int)/\x<2147483648:=by
 have h1:=b1_le a
 have h2:=b1_le b
 have h3:=b1_le c
 refine⟨(pw a b c n).toNat,?_,?_⟩<;>unfold pw<;>omega
theorem and1 (a b c:Bool) (n:Int) (h:0<=n/\n<268435456):(bits .and .i64 (pw a b c n) 1 != 0)=a:=by
 obtain⟨x,hx,hl⟩:=pw_nat a b c n h
 have e:=i64_bit 0 x (by decide) (by omega)
 simp only [Nat.pow_zero,Nat.div_one,Nat.mul_one] at e
 rw [hx]
 rw [show (1:Int)=((1:Nat):Int) from rfl,e]
 have h2:pw a b c n=x:=hx
 unfold pw at h2
 cases a<;>cases b<;>cases c<;>simp [b1] at h2<;>simp<;>omega
theorem and2 (a b c:Bool) (n:Int) (h:0<=n/\n<268435456):(bits .and .i64 (pw a b c n) 2 != 0)=b:=by
 obtain⟨x,hx,hl⟩:=pw_nat a b c n h
 have e:=i64_bit 1 x (by decide) (by omega)
 simp only [Nat.pow_one] at e
 rw [hx]
 rw [show (2:Int)=((2:Nat):Int) from rfl,e]
 have h2:pw a b c n=x:=hx
 unfold pw at h2
 cases a<;>cases b<;>cases c<;>simp [b1] at h2<;>simp<;>omega
theorem and4 (a b c:Bool) (n:Int) (h:0<=n/\n<268435456):(bits .and .i64 (pw a b c n) 4 != 0)=c:=by
 obtain⟨x,hx,hl⟩:=pw_nat a b c n h
 have e:=i64_bit 2 x (by decide) (by omega)
 rw [show (2:Nat) ^ 2=4 from rfl] at e
 rw [hx]
 rw [show (4:Int)=((4:Nat):Int) from rfl,e]
 have h2:pw a b c n=x:=hx
 unfold pw at h2
 cases a<;>cases b<;>cases c<;>simp [b1] at h2<;>simp<;>omega
theorem div8 (a b c:Bool) (n:Int) (h:0<=n/\n<268435456):wrap64 ((pw a b c n).tdiv 8)=n:=by
 have h1:=b1_le a
 have h2:=b1_le b
 have h3:=b1_le c
 have h0:0<=pw a b c n:=by unfold pw;omega
 rw [Int.tdiv_eq_ediv_of_nonneg h0]
 unfold wrap64 pw
 omega
theorem ors (a b c:Bool) (n:Int):bits .or .i64 (bits .or .i64 (bits .or .i64 (bits .and .i64 (wrap64 (n*8)) 2147483647) (bitI c 4)) (bitI b 2)) (bitI a 1)=pw a b c (n % 268435456):=by
 rw [i64_mask31]
 obtain⟨x,hx⟩:∃ x:Nat,n % 268435456=(x:Int):=⟨(n % 268435456).toNat,by omega⟩
 have hl:x<268435456:=by omega
 have e:wrap64 (n*8) % 2147483648=((8*x:Nat):Int):=by unfold wrap64;omega
 rw [e,hx]
 have e3:bitI c 4=((if c=true then 4 else 0:Nat):Int):=by cases c<;>rfl
 have e2:bitI b 2=((if b=true then 2 else 0:Nat):Int):=by cases b<;>rfl
 have e1:bitI a 1=((if a=true then 1 else 0:Nat):Int):=by cases a<;>rfl
 rw [e3,e2,e1,i64_or 3 (8*x) _ (by omega) (by cases c<;>decide) (by cases c<;>simp<;>omega)]
 rw [i64_or 2 _ _ (by cases c<;>simp<;>omega) (by cases b<;>decide) (by cases b<;>cases c<;>simp<;>omega)]
 rw [i64_or 1 _ _ (by cases c<;>cases b<;>simp<;>omega) (by cases a<;>decide) (by cases a<;>cases b<;>cases c<;>simp<;>omega)]
 unfold pw
 cases a<;>cases b<;>cases c<;>simp [b1]<;>omega
theorem fl_eq {a b c a' b' c':Bool} {n n':Int} (h1:a=a') (h2:b=b') (h3:c=c') (h4:n=n'):fl a b c n=fl a' b' c' n':=by rw [h1,h2,h3,h4]
theorem split_ok (a b c:Bool) (n:Int) (h:0<=n/\n<268435456) (w:World):Calls Tryz.prog 38 #[.int .i64 (pw a b c n)] w λ e w'=>e=.returned (fl a b c n)/\Gr w w':=by
 have h1:=hid (and1 a b c n h)
 have h2:=hid (and2 a b c n h)
 have h3:=hid (and4 a b c n h)
 have h4:=hid (div8 a b c n h)
 generalize pw a b c n=v at *
 go_enter Tryz.func38,Tryz.ntmps38
 go_wp2
 refine bodyPost_ret (v:=fl (bits .and .i64 v 1 != 0) (bits .and .i64 v 2 != 0) (bits .and .i64 v 4 != 0) (wrap64 (v.tdiv 8))) (by simp [results,Tryz.results38,go_sem]) rfl ⟨?_,(Gr.refl _).al _⟩
 exact congrArg _ (fl_eq h1.out h2.out h3.out h4.out)
theorem join_ok (a b c:Bool) (n:Int) (w:World):Calls Tryz.prog 227 #[fl a b c n] w λ e w'=>e=.returned (.int .i64 (pw a b c (n % 268435456)))/\Gr w w':=by
 have h:=hid (ors a b c n)
 go_enter Tryz.func227,Tryz.ntmps227
 go_wp2_with fail
 go_quiet ((go_at_call 234;exact Calls.quiet_of_same (fbit_ok _ _ _)))
 go_wp2_with fail
 go_ret
 exact⟨congrArg _ (congrArg _ h.out),((Gr.refl _).al _).drN _⟩
def FlAt (w:World) (k:Nat) (a b c:Bool) (n:Int):Prop :=
 w.cell? ⟨k,0,none⟩=some (.bool a)/\w.cell? ⟨k,1,none⟩=some (.bool b)/\w.cell? ⟨k,2,none⟩=some (.bool c)/\w.cell? ⟨k,3,none⟩=some (.int .i64 n)/\k<w.heap.size
theorem FlAt.new (w:World) (a b c:Bool) (n:Int) (t:TypeId):FlAt (w.alloc (.cells #[.bool a,.bool b,.bool c,.int .i64 n] t)) w.heap.size a b c n :=
 ⟨by simp,by simp,by simp,by simp,by simp⟩
theorem FlAt.gr {w w':World} {k:Nat} {a b c:Bool} {n:Int} (h:FlAt w k a b c n) (g:Gr w w'):FlAt w' k a b c n:=by
 obtain⟨h0,h1,h2,h3,h4⟩:=h
 exact⟨(g.cell (p:=⟨k,0,none⟩) h4).trans h0,(g.cell (p:=⟨k,1,none⟩) h4).trans h1,(g.cell (p:=⟨k,2,none⟩) h4).trans h2,(g.cell (p:=⟨k,3,none⟩) h4).trans h3,Nat.lt_of_lt_of_le h4 g.size⟩
def Fz (w:World) (k:Nat):Prop:=w.frozen? ⟨k,0,none⟩=false/\w.frozen? ⟨k,1,none⟩=false/\w.frozen? ⟨k,2,none⟩=false/\w.frozen? ⟨k,3,none⟩=false/\k<w.heap.size
theorem Fz.new (w:World) (C:Array Value) (t:TypeId):Fz (w.alloc (.cells C t)) w.heap.size :=
 ⟨by simp [go_sem],by simp [go_sem],by simp [go_sem],by simp [go_sem],by simp⟩
theorem Fz.gr {w w':World} {k:Nat} (h:Fz w k) (g:Gr w w'):Fz w' k:=by
 obtain⟨h0,h1,h2,h3,h4⟩:=h
 exact⟨(g.frozen (p:=⟨k,0,none⟩) h4).trans h0,(g.frozen (p:=⟨k,1,none⟩) h4).trans h1,(g.frozen (p:=⟨k,2,none⟩) h4).trans h2,(g.frozen (p:=⟨k,3,none⟩) h4).trans h3,Nat.lt_of_lt_of_le h4 g.size⟩
theorem Pack_ok (a b c:Bool) (n:Int) (h:0<=n/\n<268435456) (w:World):Calls Tryz.prog 217 #[fl a b c n] w λ e w'=>e=.returned (.tuple #[.int .i64 (pw a b c n),.int .i64 0])/\Gr w w':=by
 have hm:n % 268435456=n:=by omega
 have c1:=λ w=>hid (hm▸join_ok a b c n w)
 have c2:=λ w=>hid (split_ok a b c n h w)
 clear hm h
 generalize pw a b c n=v at *
 go_enter Tryz.func217,Tryz.ntmps217
 go_wp2_with fail
 refine (c1 _).out.mono ?_
 rintro e w1 ⟨rfl,hb1⟩
 have F:=(FlAt.new w a b c n _).gr hb1
 have G:=((Gr.refl w).al _).trans hb1
 clear hb1
 obtain⟨K,hK⟩:∃ k,w.heap.size=k:=⟨_,rfl⟩
 rw [hK] at F
 simp only [hK]
 clear hK
 go_wp2_with fail
 go_region_held3 (λ w'=>w'.cell? ⟨K,0,none⟩=some (.bool a)/\w'.cell? ⟨K,1,none⟩=some (.bool b)/\w'.cell? ⟨K,2,none⟩=some (.bool c)/\w'.cell? ⟨K,3,none⟩=some (.int .i64 n)/\K<w'.heap.size/\Gr w w') (first | exact⟨F.1,F.2.1,F.2.2.1,F.2.2.2.1,F.2.2.2.2,G.dr⟩ | (go_split_ands;exact⟨(hb2.cell (p:=⟨K,0,none⟩) (by assumption)).trans (by assumption),(hb2.cell (p:=⟨K,1,none⟩) (by assumption)).trans (by assumption),(hb2.cell (p:=⟨K,2,none⟩) (by assumption)).trans (by assumption),(hb2.cell (p:=⟨K,3,none⟩) (by assumption)).trans (by assumption),Nat.lt_of_lt_of_le (by assumption) hb2.size,Gr.trans (by assumption) hb2⟩))
  (first | (go_at_call 38;refine (c2 _).out.mono ?_;rintro ee w2 ⟨rfl,hb2⟩))
 rename_i hH
 obtain⟨q0,q1,q2,q3,q4,q5⟩:=hH
 go_wp2_with fail
 go_ret2
 exact⟨rfl,q5⟩
theorem Pack_no (a b c:Bool) (n:Int) (h:¬ (0<=n/\n<268435456)) (w:World):Calls Tryz.prog 217 #[fl a b c n] w λ e w'=>e=.returned (.tuple #[.int .i64 0,.int .i64 1])/\Gr w w':=by
 obtain⟨m,hm⟩:∃ m,n % 268435456=m:=⟨_,rfl⟩
 have hmn:(m==n)=false:=beq_eq_false_iff_ne.2 (by omega)
 have c1:=λ w=>hid (hm▸join_ok a b c n w)
 have c2:=λ w=>hid (split_ok a b c m (by omega) w)
 clear hm h
 generalize pw a b c m=v at *
 go_enter Tryz.func217,Tryz.ntmps217
 go_wp2_with fail
 refine (c1 _).out.mono ?_
 rintro e w1 ⟨rfl,hb1⟩
 have F:=(FlAt.new w a b c n _).gr hb1
 have G:=((Gr.refl w).al _).trans hb1
 clear hb1
 obtain⟨K,hK⟩:∃ k,w.heap.size=k:=⟨_,rfl⟩
 rw [hK] at F
 simp only [hK]
 clear hK
 go_wp2_with fail
 go_region_held3 (λ w'=>w'.cell? ⟨K,0,none⟩=some (.bool a)/\w'.cell? ⟨K,1,none⟩=some (.bool b)/\w'.cell? ⟨K,2,none⟩=some (.bool c)/\w'.cell? ⟨K,3,none⟩=some (.int .i64 n)/\K<w'.heap.size/\Gr w w') (first | exact⟨F.1,F.2.1,F.2.2.1,F.2.2.2.1,F.2.2.2.2,G.dr⟩ | (go_split_ands;exact⟨(hb2.cell (p:=⟨K,0,none⟩) (by assumption)).trans (by assumption),(hb2.cell (p:=⟨K,1,none⟩) (by assumption)).trans (by assumption),(hb2.cell (p:=⟨K,2,none⟩) (by assumption)).trans (by assumption),(hb2.cell (p:=⟨K,3,none⟩) (by assumption)).trans (by assumption),Nat.lt_of_lt_of_le (by assumption) hb2.size,Gr.trans (by assumption) hb2⟩))
  (first | (go_at_call 38;refine (c2 _).out.mono ?_;rintro ee w2 ⟨rfl,hb2⟩))
 rename_i hH
 obtain⟨q0,q1,q2,q3,q4,q5⟩:=hH
 go_wp2_with fail
 go_ret2
 exact⟨rfl,q5⟩
theorem Unpack_ok (a b c:Bool) (n:Int) (h:0<=n/\n<268435456) (w:World):Calls Tryz.prog 17 #[.int .i64 (pw a b c n)] w λ e w'=>e=.returned (.tuple #[fl a b c n,.int .i64 0])/\Gr w w':=by
 have c2:=λ w=>hid (split_ok a b c n h w)
 obtain⟨x,hx,hl⟩:=pw_nat a b c n h
 have h0:¬ pw a b c n<0:=by omega
 have h1:¬ 2147483647<pw a b c n:=by omega
 clear hx hl x
 generalize pw a b c n=v at *
 go_enter Tryz.func17,Tryz.ntmps17
 go_wp2_with fail
 refine (c2 _).out.mono ?_
 rintro e w1 ⟨rfl,hb1⟩
 obtain⟨q0,q1,q2,q3,q4⟩:=(FlAt.new w false false false 0 _).gr hb1
 obtain⟨z0,z1,z2,z3,z4⟩:=(Fz.new w _ _).gr hb1
 have G:=((Gr.refl w).al _).trans hb1
 clear hb1
 go_wp2_with fail
 exact bodyPost_ret (v:=.tuple #[fl a b c n,.int .i64 0]) (by simp [results,Tryz.results17,go_sem,q0,q1,q2,q3]) rfl ⟨rfl,(((G.st (Nat.le_refl _) _).st (Nat.le_refl _) _).st (Nat.le_refl _) _).st (Nat.le_refl _) _⟩
theorem Unpack_no (v:Int) (h:¬ (0<=v/\v<2147483648)) (w:World):Calls Tryz.prog 17 #[.int .i64 v] w λ e w'=>e=.returned (.tuple #[fl false false false 0,.int .i64 1])/\Gr w w':=by
 by_cases h0:v<0
 . clear h
   go_enter Tryz.func17,Tryz.ntmps17
   go_wp2_with fail
   exact bodyPost_ret (v:=.tuple #[fl false false false 0,.int .i64 1]) (by simp [results,Tryz.results17,go_sem]) rfl ⟨rfl,(Gr.refl w).al _⟩
 . have h1:2147483647<v:=by omega
   clear h
   go_enter Tryz.func17,Tryz.ntmps17
   go_wp2_with fail
   exact bodyPost_ret (v:=.tuple #[fl false false false 0,.int .i64 1]) (by simp [results,Tryz.results17,go_sem]) rfl ⟨rfl,(Gr.refl w).al _⟩
theorem Waits_is (a b c:Bool) (n d m:Int) (r s:Int) (h:0<=n/\n<268435456) (hm:wrap64 (n+d)=m) (hp:∀ w,Calls Tryz.prog 217 #[fl a b c m] w λ e w'=>e=.returned (.tuple #[.int .i64 r,.int .i64 s])/\Gr w w') (r' s':Int) (hrs:(s=0/\r'=r/\s'=0)\/(s=1/\r'=0/\s'=10)) (w:World):Calls Tryz.prog 200 #[.int .i64 (pw a b c n),.int .i64 d] w λ e w'=>e=.returned (.tuple #[.int .i64 r',.int .i64 s'])/\Gr w w':=by
 have c1:=λ w=>hid (Unpack_ok a b c n h w)
 have c2:=λ w=>hid (hp w)
 have HM:=hid hm
 clear h hp hm
 generalize pw a b c n=v at *
 go_enter Tryz.func200,Tryz.ntmps200
 go_wp2_with fail
 refine (c1 _).out.mono ?_
 rintro e w1 ⟨rfl,hb1⟩
 go_wp2_with fail
 rw [HM.out]
 refine (c2 _).out.mono ?_
 rintro e w2 ⟨rfl,hb2⟩
 rcases hrs with ⟨rfl,rfl,rfl⟩ | ⟨rfl,rfl,rfl⟩
 . go_wp2_with fail
   go_ret2
   exact⟨rfl,(hb1.al _).trans hb2⟩
 . go_wp2_with fail
   go_ret2
   exact⟨rfl,(hb1.al _).trans hb2⟩
theorem Waits_ok (a b c:Bool) (n d m:Int) (h:0<=n/\n<268435456) (hm:wrap64 (n+d)=m) (hr:0<=m/\m<268435456) (w:World):Calls Tryz.prog 200 #[.int .i64 (pw a b c n),.int .i64 d] w λ e w'=>e=.returned (.tuple #[.int .i64 (pw a b c m),.int .i64 0])/\Gr w w' :=
 Waits_is a b c n d m (pw a b c m) 0 h hm (λ w=>Pack_ok a b c m hr w) _ _ (.inl ⟨rfl,rfl,rfl⟩) w
theorem Waits_no (a b c:Bool) (n d m:Int) (h:0<=n/\n<268435456) (hm:wrap64 (n+d)=m) (hr:¬ (0<=m/\m<268435456)) (w:World):Calls Tryz.prog 200 #[.int .i64 (pw a b c n),.int .i64 d] w λ e w'=>e=.returned (.tuple #[.int .i64 0,.int .i64 10])/\Gr w w' :=
 Waits_is a b c n d m 0 1 h hm (λ w=>Pack_no a b c m hr w) _ _ (.inr ⟨rfl,rfl,rfl⟩) w
theorem pw_of {v:Int} (h:0<=v/\v<2147483648):∃ a b c n,v=pw a b c n/\0<=n/\n<268435456:=by
 refine⟨decide (v % 2=1),decide (v / 2 % 2=1),decide (v / 4 % 2=1),v / 8,?_,by omega,by omega⟩
 unfold pw b1
 by_cases h1:v % 2=1<;>by_cases h2:v / 2 % 2=1<;>by_cases h3:v / 4 % 2=1<;>simp [h1,h2,h3]<;>omega
end P3
end
end Go.Proofs.YtainfijdhcehlaaGreatDoor
