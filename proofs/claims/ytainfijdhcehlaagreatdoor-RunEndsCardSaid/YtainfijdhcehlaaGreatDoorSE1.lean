/-
  A part of the proof.
-/
import Derived.Test.YtainfijdhcehlaaGreatDoorQC12
import Derived.Test.YtainfijdhcehlaaGreatDoorRows
set_option linter.unusedVariables false
set_option linter.unusedSimpArgs false
set_option maxRecDepth 100000
set_option maxHeartbeats 8000000
namespace Go.Proofs.YtainfijdhcehlaaGreatDoor
open Lib (hid)
open Go.Proofs.Tryz
open Go.ChangeAt Go.ChangeShapes Go.Deep Go.Joins Go.RowKit Go.WideShapes
theorem wfb {v:Int} (h:(Lit.int .i64 v).wf=true):-9223372036854775808<=v/\v<=9223372036854775807:=bounds_i64 h
theorem post_below {H:Type} {enc:TypeId×Value->H} {P:Program} {f:Func} {s:ChangeSpec} {apart fresh handsOn again:Bool} {W W':World} {args:Array Value} {v:Value} {ds gs:List (DataW H)} {before pa pv:List MemPlace}
 (hW:DataW.Whole enc P f.params.toList s.vars apart W args.toList ds gs before)
 (hres:∀ (b:Nat) (sp:Nat->Bool) (hd:Bool),DataW.TrodAll enc P W' b sp hd f.resultTypes.toList (v.resultList f.resultTypes.size) (s.fn H (ds++gs)).results [])
 (hargs:∀ sp:Nat->Bool,(∀ p∈before,sp p.block=true)->DataW.TrodAll enc P W' 0 sp true f.params.toList args.toList (s.fn H (ds++gs)).args pa)
 (hvars:∀ sp:Nat->Bool,(∀ p∈before,sp p.block=true)->DataW.TrodVars enc P W' sp s.vars (s.fn H (ds++gs)).vars pv)
 (hps:before=pa++pv) (hb:Below W.heap.size W W')
 (hok:∀ (j:Nat) (t:TypeId) (r:Value),f.resultTypes[j]?=some t->(v.resultList f.resultTypes.size)[j]?=some r->Value.okWide P W' .any 0 t r) :
 s.post enc P f apart fresh handsOn again W args v W':=by
 have old:∀ p∈before,(λ b=>decide (b<W.heap.size)) p.block=true:=λ p hp=>by simpa using hW.lt p hp
 refine⟨ds,gs,before,[],pa,pv,hW,hres _ _ _,hargs _ old,hvars _ old,World.keptBut_mono (λ p hp=>⟨hp,?_⟩) (hb.frame (·∈before)),λ _=>?_⟩
 . rw [hps,List.mem_append] at hp
   exact Or.inr hp
 . have hlt:∀ p∈before,p.block<W.heap.size:=λ p hp=>hW.lt p hp
   obtain⟨_,_,_,_,_,hz,hn⟩:=hW;refine⟨hok,_,_,([]++pa)++pv,⟨[]++pa,pv,trodAll_append (hargs _ (λ _ _=>rfl)) (hres _ _ _),hvars _ (λ _ _=>rfl),rfl,?_,?_⟩,?_⟩
   . intro b off hp
     have hin:MemPlace.cell b off∈before:=by rw [hps];simpa using hp
     rw [hb.frozen (hlt _ hin)];exact hz b off hin
   . intro ha
     have:=hn ha;rw [hps] at this;simpa using this
   . intro p hp _
     rw [hps];simpa using hp
section
namespace P16
section
variable {p:V->Bool} {v:Nat->V} {i j N:Nat} {x:V}
theorem cnt_two (h:i<N) (hp:p (v i)=true) (h':j<N) (hq:p (v j)=true) (hn:i≠j):2<=cnt p v N:=by
 induction N with
 | zero=>omega
 | succ N ih =>
  simp only [cnt];by_cases e:N=i
  . subst e
    have:=cnt_pos (p:=p) (v:=v) (i:=j) (N:=N) (by omega) hq;rw [hp];simp only [b1,if_true];omega
  . by_cases e':N=j
    . subst e'
      have:=cnt_pos (p:=p) (v:=v) (i:=i) (N:=N) (by omega) hp;rw [hq];simp only [b1,if_true];omega
    . have:=ih (by omega) (by omega)
      rcases b1_cases (p (v N)) with h | h<;>omega
theorem cnt_ex (h:1<=cnt p v N):∃ i,i<N/\p (v i)=true:=by
 induction N with
 | zero=>simp [cnt] at h
 | succ N ih =>
  simp only [cnt] at h;by_cases e:p (v N)=true
  . exact⟨N,by omega,e⟩
  . have e0:b1 (p (v N))=0:=by unfold b1;rw [if_neg e]
    obtain⟨i,hi,hp⟩:=ih (by omega);exact⟨i,by omega,hp⟩
theorem cnt_both {q:V->Bool} (h:∀ x,p x=true->q x=false):cnt p v N+cnt q v N<=N:=by
 induction N with
 | zero=>simp [cnt]
 | succ N ih =>
  simp only [cnt];have e:b1 (p (v N))+b1 (q (v N))<=1:=by
   cases hp:p (v N)
   . rcases b1_cases (q (v N)) with h | h<;>simp [b1] at*<;> omega
   . rw [h _ hp];simp [b1]
  omega
theorem cnt_zero (h:cnt p v N=0) (hi:i<N):p (v i)=false:=by
 cases e:p (v i)
 . rfl
 . have:=cnt_pos hi e;omega
end
end P16
end
section
namespace P16
section
variable {N i:Nat} {v:Nat->V} {x:V} {m:Mx} {w w':Wd} {aw st told:Bool} {old:Wd} {t:Int}
theorem Inv.bound (h:Inv N m v):m.w.n<=N:=by
 have hq:=cnt_le (p:=isQ) (v:=v) (N:=N);have hg:=cnt_nonneg (p:=isG) (v:=v) (N:=N);have hb:=cnt_both (p:=isQ) (q:=isH) (v:=v) (N:=N) (by intro x hx;cases x<;>simp [isQ,isH] at*);have c0:=h.W.c0;cases hS:m.w.S
 . have:=(h.W.free hS).2.2;omega
 . have:=(h.W.starve hS).2.2.1;omega
theorem Inv.no_hand (h:Inv N m v) (hS:m.w.S=false):∀ j st old,j<N->v j≠.hand st old:=λ j st old hj e=>by
 have:=cnt_zero (h.W.free hS).1 hj;rw [e] at this;cases this
theorem Inv.fast (h:Inv N m v) (hi:i<N) (hv:v i=.out) (hL:m.w.L=false) (hS:m.w.S=false) (hn:m.w.n=0) :
 Inv N { m with w:={ m.w with L:=true } } (upd v i .out):=by
 have eQ:=cnt_upd (p:=isQ) (v:=v) (x:=V.out) hi;have eH:=cnt_upd (p:=isH) (v:=v) (x:=V.out) hi;have eG:=cnt_upd (p:=isG) (v:=v) (x:=V.out) hi;have eA:=cnt_upd (p:=isA) (v:=v) (x:=V.out) hi;simp only [hv,isQ,isH,isG,isA,b1,Bool.false_eq_true,if_true,if_false,Int.sub_zero,Int.add_zero] at eQ eH eG eA;have hW:=h.W;refine⟨⟨hW.n0,hW.c0,λ _=>?_,λ q=>?_⟩,h.T.same hi (by rw [hv]) (by rw [hv]),h.L.same hi (by rw [hv]),h.O.upd hi (.inl (Int.le_refl _)) (λ _ _ e=>by cases e) (λ _ _ _ e=>by cases e) (λ _ _ e=>by cases e),InvR.off (λ q=>by cases q.1)⟩
 . dsimp only
   obtain⟨a,b,c⟩:=hW.free hS;exact⟨by omega,by omega,by omega⟩
 . have q:m.w.S=true:=q
   rw [hS] at q;cases q
theorem Inv.quiet (h:Inv N m v) (hi:i<N) (hQ:isQ x=isQ (v i)) (hH:isH x=isH (v i)) (hG:isG x=isG (v i)) (hA:isA x=isA (v i)) (ht:tk x=tk (v i)) (hT:inT x=inT (v i)) (hl:inL x=inL (v i))
 (h0:∀ aw st,x=.load aw st->st=true->aw=true)
 (h1:∀ aw st old,x=.want aw st old->(st=true->aw=true)/\(aw=true->old.K=true)/\0<=old.n/\old.n<=N) (h2:∀ st old,x≠.hand st old) (hg:wakes m.w->good (v i)->good x) :
 Inv N m (upd v i x):=by
 have eQ:=cnt_upd (p:=isQ) (v:=v) (x:=x) hi;have eH:=cnt_upd (p:=isH) (v:=v) (x:=x) hi;have eG:=cnt_upd (p:=isG) (v:=v) (x:=x) hi;have eA:=cnt_upd (p:=isA) (v:=v) (x:=x) hi;rw [hQ] at eQ;rw [hH] at eH;rw [hG] at eG;rw [hA] at eA;have hW:=h.W;refine⟨⟨hW.n0,hW.c0,λ hS=>?_,λ hS=>?_⟩,h.T.same hi ht hT,h.L.same hi hl,h.O.upd hi (.inl (Int.le_refl _)) h0 h1 (λ st old e=>absurd e (h2 st old)),h.R.keep hi id hg⟩
 . obtain⟨a,b,c⟩:=hW.free hS
   exact⟨by omega,by omega,by omega⟩
 . obtain⟨a,b,c,d,e⟩:=hW.starve hS
   exact⟨a,by omega,by omega,λ q=>⟨by have:=(d q).1;omega,by have:=(d q).2;omega⟩,λ q=>by have:=e q;omega⟩
theorem Inv.slow (h:Inv N m v) (hi:i<N) (hv:v i=.out):Inv N m (upd v i (.load false false)) :=
 h.quiet hi (by rw [hv];rfl) (by rw [hv];rfl) (by rw [hv];rfl) (by rw [hv];rfl) (by rw [hv];rfl) (by rw [hv];rfl) (by rw [hv];rfl) (λ _ _ e q=>by cases e;cases q) (λ _ _ _ e=>by cases e) (λ _ _ e=>by cases e)
  (λ _ q=>by rw [hv] at q;rcases q with q | ⟨_,q,_⟩<;>cases q)
theorem Inv.look (h:Inv N m v) (hi:i<N) (hv:v i=.load aw st):Inv N m (upd v i (.want aw st m.w)) :=
 h.quiet hi (by rw [hv];rfl) (by rw [hv];rfl) (by rw [hv];rfl) (by rw [hv];cases aw<;>rfl) (by rw [hv];rfl) (by rw [hv];rfl) (by rw [hv];rfl) (λ _ _ e=>by cases e)
  (λ _ _ _ e=>by
    cases e;exact⟨h.O.ol i aw st hi hv,λ q=>(h.awake hi (by rw [hv,q];rfl)).1,h.W.n0,h.bound⟩) (λ _ _ e=>by cases e)
  (λ _ q=>by rw [hv] at q;rcases q with q | ⟨_,q,_⟩<;>cases q)
theorem Inv.back (h:Inv N m v) (hi:i<N) (hv:v i=.want aw st old):Inv N m (upd v i (.load aw st)) :=
 h.quiet hi (by rw [hv];rfl) (by rw [hv];rfl) (by rw [hv];rfl) (by rw [hv];cases aw<;>rfl) (by rw [hv];rfl) (by rw [hv];rfl) (by rw [hv];rfl) (λ _ _ e=>by cases e;exact (h.O.ow i aw st old hi hv).1)
  (λ _ _ _ e=>by cases e) (λ _ _ e=>by cases e)
  (λ _ q=>by rw [hv] at q;rcases q with q | ⟨_,q,_⟩<;>cases q)
theorem Inv.spin (h:Inv N m v) (hi:i<N) (hv:v i=.want false st old) (hK:m.w.K=false) (hS:m.w.S=false) (hst:st=false) (hL:m.w.L=true) :
 Inv N { m with w:={ m.w with K:=true } } (upd v i (.load true st)):=by
 have eQ:=cnt_upd (p:=isQ) (v:=v) (x:=V.load true st) hi;have eH:=cnt_upd (p:=isH) (v:=v) (x:=V.load true st) hi;have eG:=cnt_upd (p:=isG) (v:=v) (x:=V.load true st) hi;have eA:=cnt_upd (p:=isA) (v:=v) (x:=V.load true st) hi;simp only [hv,isQ,isH,isG,isA,b1,Bool.false_eq_true,if_true,if_false,Int.sub_zero,Int.add_zero] at eQ eH eG eA;have hW:=h.W;refine⟨⟨hW.n0,hW.c0,λ _=>?_,λ q=>?_⟩,h.T.same hi (by rw [hv];rfl) (by rw [hv];rfl),h.L.same hi (by rw [hv];rfl),h.O.upd hi (.inl (Int.le_refl _)) (λ _ _ e _=>by cases e;rfl) (λ _ _ _ e=>by cases e) (λ _ _ e=>by cases e),InvR.off (λ q=>by cases q.2.1)⟩
 . dsimp only
   obtain⟨a,b,c⟩:=hW.free hS;rw [hK] at b;simp only [b1,Bool.false_eq_true,if_false] at b;exact⟨by omega,by simp only [b1,if_true];omega,by omega⟩
 . have q:m.w.S=true:=q
   rw [hS] at q;cases q
theorem Inv.wait (h:Inv N m v) (hi:i<N) (hv:v i=.want aw st old) (hLS:m.w.L=true\/m.w.S=true) :
 Inv N { m with w:={ L:=m.w.L,K:=m.w.K&&!aw,S:=m.w.S||(st&&m.w.L),n:=m.w.n+1 } } (upd v i .draw):=by
 have hW:=h.W;have n0:=hW.n0;obtain⟨hst,-⟩:=h.O.ow i aw st old hi hv;refine⟨⟨by show 0<=m.w.n+1;omega,hW.c0,λ q=>?_,λ q=>?_⟩,h.T.same hi (by rw [hv];rfl) (by rw [hv];rfl),h.L.same hi (by rw [hv];rfl),h.O.upd hi (.inl (by show m.w.n<=m.w.n+1;omega)) (λ _ _ e=>by cases e) (λ _ _ _ e=>by cases e) (λ _ _ e=>by cases e),InvR.off (λ q=>?_)⟩
 . have q:(m.w.S||(st&&m.w.L))=false:=q
   dsimp only;have hS:m.w.S=false:=by cases e:m.w.S<;>simp_all
   obtain⟨a,b,c⟩:=hW.free hS;cases aw
   . have eQ:=cnt_upd (p:=isQ) (v:=v) (x:=V.draw) hi
     have eH:=cnt_upd (p:=isH) (v:=v) (x:=V.draw) hi;have eG:=cnt_upd (p:=isG) (v:=v) (x:=V.draw) hi;have eA:=cnt_upd (p:=isA) (v:=v) (x:=V.draw) hi;simp only [hv,isQ,isH,isG,isA,b1,Bool.false_eq_true,if_true,if_false,Int.sub_zero,Int.add_zero] at eQ eH eG eA;exact⟨by omega,by simp only [Bool.not_false,Bool.and_true];omega,by omega⟩
   . have hk:=h.awake hi (by rw [hv];rfl)
     have eQ:=cnt_upd (p:=isQ) (v:=v) (x:=V.draw) hi;have eH:=cnt_upd (p:=isH) (v:=v) (x:=V.draw) hi;have eG:=cnt_upd (p:=isG) (v:=v) (x:=V.draw) hi;have eA:=cnt_upd (p:=isA) (v:=v) (x:=V.draw) hi;simp only [hv,isQ,isH,isG,isA,b1,Bool.false_eq_true,if_true,if_false,Int.sub_zero,Int.add_zero] at eQ eH eG eA;exact⟨by omega,by simp only [Bool.not_true,Bool.and_false,b1,Bool.false_eq_true,if_false];omega,by omega⟩
 . have q:(m.w.S||(st&&m.w.L))=true:=q
   dsimp only;cases aw
   . have hst':st=false:=by cases st;rfl;exact absurd (hst rfl) (by decide)
     have hS:m.w.S=true:=by rw [hst'] at q;simpa using q
     obtain⟨a,b,c,d,e⟩:=hW.starve hS;have eQ:=cnt_upd (p:=isQ) (v:=v) (x:=V.draw) hi;have eH:=cnt_upd (p:=isH) (v:=v) (x:=V.draw) hi;have eG:=cnt_upd (p:=isG) (v:=v) (x:=V.draw) hi;have eA:=cnt_upd (p:=isA) (v:=v) (x:=V.draw) hi;simp only [hv,isQ,isH,isG,isA,b1,Bool.false_eq_true,if_true,if_false,Int.sub_zero,Int.add_zero] at eQ eH eG eA;exact⟨by rw [a];rfl,by omega,by omega,λ q=>⟨by have:=(d q).1;omega,by have:=(d q).2;omega⟩,λ q=>by have:=e q;omega⟩
   . have hk:=h.awake hi (by rw [hv];rfl)
     have hL:m.w.L=true:=hLS.resolve_right (by rw [hk.2.1];decide);obtain⟨a,b,c⟩:=hW.free hk.2.1;have eQ:=cnt_upd (p:=isQ) (v:=v) (x:=V.draw) hi;have eH:=cnt_upd (p:=isH) (v:=v) (x:=V.draw) hi;have eG:=cnt_upd (p:=isG) (v:=v) (x:=V.draw) hi;have eA:=cnt_upd (p:=isA) (v:=v) (x:=V.draw) hi;simp only [hv,isQ,isH,isG,isA,b1,Bool.false_eq_true,if_true,if_false,Int.sub_zero,Int.add_zero] at eQ eH eG eA;exact⟨by simp,by omega,by omega,λ q=>⟨by omega,by omega⟩,λ q=>by rw [show m.w.L=false from q] at hL;cases hL⟩
 . obtain⟨q1,-,q3,-⟩:=q
   have q1:m.w.L=false:=q1;have q3:(m.w.S||(st&&m.w.L))=false:=q3;rcases hLS with e | e
   . rw [e] at q1;cases q1
   . rw [e] at q3;cases q3
end
end P16
end
section
namespace P16
section
variable {N i j:Nat} {v:Nat->V} {x:V} {m:Mx} {w w':Wd} {aw st told S':Bool} {old:Wd} {t:Int} {l':List Int}
theorem Inv.draw (h:Inv N m v) (hN:N<=8) (hi:i<N) (hv:v i=.draw):Inv N { m with nx:=(m.nx+1) % 4294967296,sv:=m.sv } (upd v i (.turn m.nx)) :=
 h.tickets hi (by rw [hv];rfl) (by rw [hv];rfl) (by rw [hv];rfl) (by rw [hv];rfl) (by rw [hv];rfl) (h.T.draw hN hi (by rw [hv];rfl) rfl rfl) (λ _ _ e=>by cases e) (λ _ _ _ e=>by cases e) (λ _ _ e=>by cases e) (ng (by rw [hv];intro q;cases q) (by rw [hv];intro _ q;cases q))
theorem Inv.grant (h:Inv N m v) (hN:N<=8) (hi:i<N) (hv:v i=.turns m.sv):Inv N m (upd v i (.grant m.sv)) :=
 h.tickets hi (by rw [hv];rfl) (by rw [hv];rfl) (by rw [hv];rfl) (by rw [hv];rfl) (by rw [hv];rfl) (h.T.turn hi (by rw [hv];rfl) rfl) (λ _ _ e=>by cases e) (λ _ _ _ e=>by cases e) (λ _ _ e=>by cases e) (ng (by rw [hv];intro q;cases q) (by rw [hv];intro _ q;cases q))
theorem Inv.served (h:Inv N m v) (hN:N<=8) (hi:i<N) (hv:v i=.serve t told):Inv N { m with nx:=m.nx,sv:=(m.sv+1) % 4294967296 } (upd v i (.wok (!told))) :=
 h.tickets hi (by rw [hv];cases told<;>rfl) (by rw [hv];rfl) (by rw [hv];cases told<;>rfl) (by rw [hv];rfl) (by rw [hv];cases told<;>rfl) (h.T.serve hN hi (by rw [hv];rfl) rfl rfl) (λ _ _ e=>by cases e) (λ _ _ _ e=>by cases e) (λ _ _ e=>by cases e) (ng (by rw [hv];intro q;cases q) (by rw [hv];intro _ q;cases q))
theorem Inv.let_ (h:Inv N m v) (hi:i<N) (hv:v i=.sema t) (hc:0<m.c):Inv N { m with c:=m.c-1 } (upd v i (.serve t true)):=by
 have eQ:=cnt_upd (p:=isQ) (v:=v) (x:=V.serve t true) hi;have eH:=cnt_upd (p:=isH) (v:=v) (x:=V.serve t true) hi;have eG:=cnt_upd (p:=isG) (v:=v) (x:=V.serve t true) hi;have eA:=cnt_upd (p:=isA) (v:=v) (x:=V.serve t true) hi;simp only [hv,isQ,isH,isG,isA,b1,Bool.false_eq_true,if_true,if_false,Int.sub_zero,Int.add_zero] at eQ eH eG eA;have hW:=h.W;refine⟨⟨hW.n0,by show 0<=m.c-1;omega,λ hS=>?_,λ hS=>?_⟩,h.T.same hi (by rw [hv];rfl) (by rw [hv];rfl),⟨h.L.nd,(h.L.same (x:=V.serve t true) hi (by rw [hv];rfl)).lm,λ q=>h.L.le (by have q:0<m.c-1:=q;omega)⟩,h.O.upd hi (.inl (Int.le_refl _)) (λ _ _ e=>by cases e) (λ _ _ _ e=>by cases e) (λ _ _ e=>by cases e),h.R.keep hi id (λ _ q=>by rw [hv] at q;rcases q with q | ⟨_,q,_⟩<;>cases q)⟩
 . dsimp only at hS ⊢
   obtain⟨a,b,c⟩:=hW.free hS;exact⟨by omega,by omega,by omega⟩
 . dsimp only at hS ⊢
   obtain⟨a,b,c,d,e⟩:=hW.starve hS;exact⟨a,by omega,by omega,λ q=>⟨by have:=(d q).1;omega,by have:=(d q).2;omega⟩,λ q=>by have:=e q;omega⟩
theorem Inv.comes (h:Inv N m v) (hi:i<N) (hv:v i=.sema t) (hc:m.c=0) (hl:l'.Perm ((i:Int)::m.l)):Inv N { m with l:=l' } (upd v i (.serve t false)):=by
 have eQ:=cnt_upd (p:=isQ) (v:=v) (x:=V.serve t false) hi;have eH:=cnt_upd (p:=isH) (v:=v) (x:=V.serve t false) hi;have eG:=cnt_upd (p:=isG) (v:=v) (x:=V.serve t false) hi;have eA:=cnt_upd (p:=isA) (v:=v) (x:=V.serve t false) hi;simp only [hv,isQ,isH,isG,isA,b1,Bool.false_eq_true,if_true,if_false,Int.sub_zero,Int.add_zero] at eQ eH eG eA;have hW:=h.W;have hno:(i:Int) ∉ m.l:=λ q=>by
  obtain⟨k,hk,e,hx⟩:=(h.L.lm _).1 q;obtain rfl:k=i:=by omega
  rw [hv] at hx;cases hx
 refine⟨⟨hW.n0,hW.c0,λ hS=>?_,λ hS=>?_⟩,h.T.same hi (by rw [hv];rfl) (by rw [hv];rfl),⟨?_,λ y=>?_,λ q=>?_⟩,h.O.upd hi (.inl (Int.le_refl _)) (λ _ _ e=>by cases e) (λ _ _ _ e=>by cases e) (λ _ _ e=>by cases e),h.R.keep hi id (λ _ q=>by rw [hv] at q;rcases q with q | ⟨_,q,_⟩<;>cases q)⟩
 . dsimp only at hS ⊢
   obtain⟨a,b,c⟩:=hW.free hS;exact⟨by omega,by omega,by omega⟩
 . dsimp only at hS ⊢
   obtain⟨a,b,c,d,e⟩:=hW.starve hS;exact⟨a,by omega,by omega,λ q=>⟨by have:=(d q).1;omega,by have:=(d q).2;omega⟩,λ q=>by have:=e q;omega⟩
 . exact hl.nodup_iff.2 (List.nodup_cons.2 ⟨hno,h.L.nd⟩)
 . rw [hl.mem_iff,List.mem_cons,h.L.lm]
   constructor
   . rintro (e | ⟨k,hk,e,hx⟩)
     . exact⟨i,hi,e,by rw [upd_at];rfl⟩
     . refine⟨k,hk,e,?_⟩
       by_cases q:k=i
       . subst q;rw [upd_at];rfl
       . rw [upd_off q];exact hx
   . rintro⟨k,hk,e,hx⟩
     by_cases q:k=i
     . subst q;exact .inl e
     . rw [upd_off q] at hx;exact .inr ⟨k,hk,e,hx⟩
 . have q:0<m.c:=q
   omega
theorem Inv.let_word (h:Inv N m v) (hi:i<N) (hg:isG (v i)=true):(m.w.S=false->m.w.K=true)/\(m.w.S=true->m.w.L=false):=by
 have hp:=cnt_pos hi hg;have ha:=cnt_nonneg (p:=isA) (v:=v) (N:=N);have c0:=h.W.c0;constructor
 . intro hS
   have e:=(h.W.free hS).2.1;cases hK:m.w.K
   . rw [hK] at e;simp only [b1,Bool.false_eq_true,if_false] at e;omega
   . rfl
 . intro hS
   obtain⟨a,b,c,d,e⟩:=h.W.starve hS;cases hL:m.w.L
   . rfl
   . have:=(d hL).1;omega
theorem Inv.goes (h:Inv N m v) (hi:i<N) (hv:v i=.wok false) (hS:m.w.S=false):Inv N m (upd v i (.want true st m.w)):=by
 have hb:=h.bound;have hlw:=h.let_word hi (by rw [hv];rfl);have eQ:=cnt_upd (p:=isQ) (v:=v) (x:=V.want true st m.w) hi;have eH:=cnt_upd (p:=isH) (v:=v) (x:=V.want true st m.w) hi;have eG:=cnt_upd (p:=isG) (v:=v) (x:=V.want true st m.w) hi;have eA:=cnt_upd (p:=isA) (v:=v) (x:=V.want true st m.w) hi;simp only [hv,isQ,isH,isG,isA,b1,Bool.false_eq_true,if_true,if_false,Int.sub_zero,Int.add_zero] at eQ eH eG eA;have hW:=h.W;refine⟨⟨hW.n0,hW.c0,λ _=>?_,λ q=>?_⟩,h.T.same hi (by rw [hv];rfl) (by rw [hv];rfl),h.L.same hi (by rw [hv];rfl),h.O.upd hi (.inl (Int.le_refl _)) (λ _ _ e=>by cases e) (λ _ _ _ e=>by cases e;exact⟨λ _=>rfl,λ _=>hlw.1 hS,hW.n0,hb⟩) (λ _ _ e=>by cases e),h.R.keep hi id (λ _ q=>by rw [hv] at q;rcases q with q | ⟨_,q,_⟩<;>cases q)⟩
 . obtain⟨a,b,c⟩:=hW.free hS
   exact⟨by omega,by omega,by omega⟩
 . rw [hS] at q;cases q
theorem Inv.handed (h:Inv N m v) (hi:i<N) (hv:v i=.wok false) (hS:m.w.S=true):Inv N m (upd v i (.hand st m.w)):=by
 have hlw:=h.let_word hi (by rw [hv];rfl);have hq:=cnt_pos (p:=isQ) (v:=v) hi (by rw [hv];rfl);have hh:=cnt_nonneg (p:=isH) (v:=v) (N:=N);have eQ:=cnt_upd (p:=isQ) (v:=v) (x:=V.hand st m.w) hi;have eH:=cnt_upd (p:=isH) (v:=v) (x:=V.hand st m.w) hi;have eG:=cnt_upd (p:=isG) (v:=v) (x:=V.hand st m.w) hi;have eA:=cnt_upd (p:=isA) (v:=v) (x:=V.hand st m.w) hi;simp only [hv,isQ,isH,isG,isA,b1,Bool.false_eq_true,if_true,if_false,Int.sub_zero,Int.add_zero] at eQ eH eG eA;have hW:=h.W;obtain⟨a,b,c,d,e⟩:=hW.starve hS;refine⟨⟨hW.n0,hW.c0,λ q=>?_,λ q=>?_⟩,h.T.same hi (by rw [hv];rfl) (by rw [hv];rfl),h.L.same hi (by rw [hv];rfl),h.O.upd hi (.inl (Int.le_refl _)) (λ _ _ e=>by cases e) (λ _ _ _ e=>by cases e) (λ _ _ e=>by cases e;exact⟨hlw.2 hS,a,hS,by omega,Int.le_refl _⟩),h.R.keep hi id (λ _ q=>by rw [hv] at q;rcases q with q | ⟨_,q,_⟩<;>cases q)⟩
 . rw [hS] at q;cases q
 . exact⟨a,by omega,by omega,(λ q=>by rw [hlw.2 hS] at q;cases q),λ q=>by have:=e q;omega⟩
theorem Inv.hand_word (h:Inv N m v) (hi:i<N) (hv:v i=.hand st old):m.w.L=false/\m.w.S=true/\m.w.K=false/\1<=m.w.n/\cnt isH v N=1/\cnt isG v N+m.c=0/\cnt isA v N=0/\m.w.n=cnt isQ v N+1:=by
 have hp:=cnt_pos (p:=isH) (v:=v) hi (by rw [hv];rfl);have hg:=cnt_nonneg (p:=isG) (v:=v) (N:=N);have hq:=cnt_nonneg (p:=isQ) (v:=v) (N:=N);have c0:=h.W.c0;cases hS:m.w.S
 . have:=(h.W.free hS).1;omega
 . obtain⟨a,b,c,d,e⟩:=h.W.starve hS
   cases hL:m.w.L
   . have:=e hL
     exact⟨rfl,rfl,a,by omega,by omega,by omega,b,by omega⟩
   . have:=(d hL).2;omega
theorem Inv.takes (h:Inv N m v) (hi:i<N) (hv:v i=.hand st old):Inv N { m with w:={ L:=true,K:=false,S:=S',n:=m.w.n-1 } } (upd v i .out):=by
 obtain⟨hL,hS,hK,hn,hH,hG,hA,hQ⟩:=h.hand_word hi hv;have eQ:=cnt_upd (p:=isQ) (v:=v) (x:=V.out) hi;have eH:=cnt_upd (p:=isH) (v:=v) (x:=V.out) hi;have eG:=cnt_upd (p:=isG) (v:=v) (x:=V.out) hi;have eA:=cnt_upd (p:=isA) (v:=v) (x:=V.out) hi;simp only [hv,isQ,isH,isG,isA,b1,Bool.false_eq_true,if_true,if_false,Int.sub_zero,Int.add_zero] at eQ eH eG eA;have hW:=h.W;refine⟨⟨by show 0<=m.w.n-1;omega,hW.c0,λ _=>?_,λ _=>?_⟩,h.T.same hi (by rw [hv];rfl) (by rw [hv];rfl),h.L.same hi (by rw [hv];rfl),h.O.upd hi (.inr λ k st' old' hk hne e=>?_) (λ _ _ e=>by cases e) (λ _ _ _ e=>by cases e) (λ _ _ e=>by cases e),InvR.off (λ q=>by cases q.1)⟩
 . dsimp only
   exact⟨by omega,by simp only [b1,Bool.false_eq_true,if_false];omega,by omega⟩
 . dsimp only
   exact⟨rfl,by omega,by omega,λ _=>⟨by omega,by omega⟩,λ q=>by cases q⟩
 . have:=cnt_two (p:=isH) (v:=v) hi (by rw [hv];rfl) hk (by rw [e];rfl) (λ q=>hne q.symm)
   omega
theorem Inv.tries (h:Inv N m v) (hi:i<N) (hv:v i=.out):Inv N m (upd v i .trying) :=
 h.quiet hi (by rw [hv];rfl) (by rw [hv];rfl) (by rw [hv];rfl) (by rw [hv];rfl) (by rw [hv];rfl) (by rw [hv];rfl) (by rw [hv];rfl) (λ _ _ e=>by cases e) (λ _ _ _ e=>by cases e) (λ _ _ e=>by cases e) (λ _ q=>by rw [hv] at q;rcases q with q | ⟨_,q,_⟩<;>cases q)
theorem Inv.fails (h:Inv N m v) (hi:i<N) (hv:v i=.trying):Inv N m (upd v i .out) :=
 h.quiet hi (by rw [hv];rfl) (by rw [hv];rfl) (by rw [hv];rfl) (by rw [hv];rfl) (by rw [hv];rfl) (by rw [hv];rfl) (by rw [hv];rfl) (λ _ _ e=>by cases e) (λ _ _ _ e=>by cases e) (λ _ _ e=>by cases e) (λ _ q=>by rw [hv] at q;rcases q with q | ⟨_,q,_⟩<;>cases q)
theorem Inv.tried (h:Inv N m v) (hi:i<N) (hv:v i=.trying) (hS:m.w.S=false):Inv N { m with w:={ m.w with L:=true } } (upd v i .out):=by
 have eQ:=cnt_upd (p:=isQ) (v:=v) (x:=V.out) hi;have eH:=cnt_upd (p:=isH) (v:=v) (x:=V.out) hi;have eG:=cnt_upd (p:=isG) (v:=v) (x:=V.out) hi;have eA:=cnt_upd (p:=isA) (v:=v) (x:=V.out) hi;simp only [hv,isQ,isH,isG,isA,b1,Bool.false_eq_true,if_true,if_false,Int.sub_zero,Int.add_zero] at eQ eH eG eA;have hW:=h.W;refine⟨⟨hW.n0,hW.c0,λ _=>?_,λ q=>?_⟩,h.T.same hi (by rw [hv];rfl) (by rw [hv];rfl),h.L.same hi (by rw [hv];rfl),h.O.upd hi (.inl (Int.le_refl _)) (λ _ _ e=>by cases e) (λ _ _ _ e=>by cases e) (λ _ _ e=>by cases e),InvR.off (λ q=>by cases q.1)⟩
 . dsimp only
   obtain⟨a,b,c⟩:=hW.free hS;exact⟨by omega,by omega,by omega⟩
 . have q:m.w.S=true:=q
   rw [hS] at q;cases q
theorem Inv.gives (h:Inv N m v) (hi:i<N) (hv:v i=.out) (hL:m.w.L=true)
 (hx:(x=.out/\¬ wakes { m.w with L:=false }/\m.w.S=false)\/(x=.draws/\m.w.S=true)\/(x=.give { m.w with L:=false }/\m.w.S=false)) :
 Inv N { m with w:={ m.w with L:=false } } (upd v i x):=by
 have hW:=h.W;rcases hx with ⟨rfl,hnw,hS⟩ | ⟨rfl,hS⟩ | ⟨rfl,hS⟩
 . have eQ:=cnt_upd (p:=isQ) (v:=v) (x:=V.out) hi
   have eH:=cnt_upd (p:=isH) (v:=v) (x:=V.out) hi;have eG:=cnt_upd (p:=isG) (v:=v) (x:=V.out) hi;have eA:=cnt_upd (p:=isA) (v:=v) (x:=V.out) hi;simp only [hv,isQ,isH,isG,isA,b1,Bool.false_eq_true,if_true,if_false,Int.sub_zero,Int.add_zero] at eQ eH eG eA;refine⟨⟨hW.n0,hW.c0,λ _=>?_,λ q=>?_⟩,h.T.same hi (by rw [hv]) (by rw [hv]),h.L.same hi (by rw [hv]),h.O.upd hi (.inl (Int.le_refl _)) (λ _ _ e=>by cases e) (λ _ _ _ e=>by cases e) (λ _ _ e=>by cases e),InvR.off hnw⟩
   . dsimp only
     obtain⟨a,b,c⟩:=hW.free hS;exact⟨by omega,by omega,by omega⟩
   . have q:m.w.S=true:=q
     rw [hS] at q;cases q
 . have eQ:=cnt_upd (p:=isQ) (v:=v) (x:=V.draws) hi
   have eH:=cnt_upd (p:=isH) (v:=v) (x:=V.draws) hi;have eG:=cnt_upd (p:=isG) (v:=v) (x:=V.draws) hi;have eA:=cnt_upd (p:=isA) (v:=v) (x:=V.draws) hi;simp only [hv,isQ,isH,isG,isA,b1,Bool.false_eq_true,if_true,if_false,Int.sub_zero,Int.add_zero] at eQ eH eG eA;refine⟨⟨hW.n0,hW.c0,λ q=>?_,λ _=>?_⟩,h.T.same hi (by rw [hv];rfl) (by rw [hv];rfl),h.L.same hi (by rw [hv];rfl),h.O.upd hi (.inl (Int.le_refl _)) (λ _ _ e=>by cases e) (λ _ _ _ e=>by cases e) (λ _ _ e=>by cases e),InvR.off (λ q=>by have q:=q.2.2.1;dsimp only at q;rw [hS] at q;cases q)⟩
   . have q:m.w.S=false:=q
     rw [hS] at q;cases q
   . dsimp only
     obtain⟨a,b,c,d,e⟩:=hW.starve hS;have d:=d hL;exact⟨a,by omega,by omega,(λ q=>by cases q),λ _=>by omega⟩
 . have eQ:=cnt_upd (p:=isQ) (v:=v) (x:=(V.give { m.w with L:=false })) hi
   have eH:=cnt_upd (p:=isH) (v:=v) (x:=(V.give { m.w with L:=false })) hi;have eG:=cnt_upd (p:=isG) (v:=v) (x:=(V.give { m.w with L:=false })) hi;have eA:=cnt_upd (p:=isA) (v:=v) (x:=(V.give { m.w with L:=false })) hi;simp only [hv,isQ,isH,isG,isA,b1,Bool.false_eq_true,if_true,if_false,Int.sub_zero,Int.add_zero] at eQ eH eG eA;refine⟨⟨hW.n0,hW.c0,λ _=>?_,λ q=>?_⟩,h.T.same hi (by rw [hv];rfl) (by rw [hv];rfl),h.L.same hi (by rw [hv];rfl),h.O.upd hi (.inl (Int.le_refl _)) (λ _ _ e=>by cases e) (λ _ _ _ e=>by cases e) (λ _ _ e=>by cases e),InvR.got hi (λ q=>.inr ⟨_,rfl,q⟩)⟩
   . dsimp only
     obtain⟨a,b,c⟩:=hW.free hS;exact⟨by omega,by omega,by omega⟩
   . have q:m.w.S=true:=q
     rw [hS] at q;cases q
theorem Inv.leaves (h:Inv N m v) (hi:i<N) (hv:v i=.give old) (hn:¬ wakes old):Inv N m (upd v i .out) :=
 h.quiet hi (by rw [hv];rfl) (by rw [hv];rfl) (by rw [hv];rfl) (by rw [hv];rfl) (by rw [hv];rfl) (by rw [hv];rfl) (by rw [hv];rfl) (λ _ _ e=>by cases e) (λ _ _ _ e=>by cases e) (λ _ _ e=>by cases e)
  (λ _ q=>by rw [hv] at q;rcases q with q | ⟨_,q,hw⟩;cases q;cases q;exact absurd hw hn)
theorem Inv.wakes_ (h:Inv N m v) (hi:i<N) (hv:v i=.give old) (hw:wakes m.w):Inv N { m with w:={ L:=false,K:=true,S:=false,n:=m.w.n-1 } } (upd v i .draws):=by
 obtain⟨hL,hK,hS,hn⟩:=hw;have eQ:=cnt_upd (p:=isQ) (v:=v) (x:=V.draws) hi;have eH:=cnt_upd (p:=isH) (v:=v) (x:=V.draws) hi;have eG:=cnt_upd (p:=isG) (v:=v) (x:=V.draws) hi;have eA:=cnt_upd (p:=isA) (v:=v) (x:=V.draws) hi;simp only [hv,isQ,isH,isG,isA,b1,Bool.false_eq_true,if_true,if_false,Int.sub_zero,Int.add_zero] at eQ eH eG eA;have hW:=h.W;obtain⟨a,b,c⟩:=hW.free hS;rw [hK] at b;simp only [b1,Bool.false_eq_true,if_false] at b;refine⟨⟨by show 0<=m.w.n-1;omega,hW.c0,λ _=>?_,λ q=>by cases q⟩,h.T.same hi (by rw [hv];rfl) (by rw [hv];rfl),h.L.same hi (by rw [hv];rfl),h.O.upd hi (.inr λ k st' old' hk _=>h.no_hand hS k st' old' hk) (λ _ _ e=>by cases e) (λ _ _ _ e=>by cases e) (λ _ _ e=>by cases e),InvR.off (λ q=>by cases q.2.1)⟩;dsimp only;exact⟨by omega,by simp only [b1,if_true];omega,by omega⟩
theorem Inv.again (h:Inv N m v) (hi:i<N) (hv:v i=.give old):Inv N m (upd v i .see) :=
 h.quiet hi (by rw [hv];rfl) (by rw [hv];rfl) (by rw [hv];rfl) (by rw [hv];rfl) (by rw [hv];rfl) (by rw [hv];rfl) (by rw [hv];rfl) (λ _ _ e=>by cases e) (λ _ _ _ e=>by cases e) (λ _ _ e=>by cases e) (λ _ _=>.inl rfl)
theorem Inv.sees (h:Inv N m v) (hi:i<N) (hv:v i=.see):Inv N m (upd v i (.give m.w)) :=
 h.quiet hi (by rw [hv];rfl) (by rw [hv];rfl) (by rw [hv];rfl) (by rw [hv];rfl) (by rw [hv];rfl) (by rw [hv];rfl) (by rw [hv];rfl) (λ _ _ e=>by cases e) (λ _ _ _ e=>by cases e) (λ _ _ e=>by cases e) (λ q _=>.inr ⟨_,rfl,q⟩)
theorem Inv.granted (h:Inv N m v) (hi:i<N) (hv:v i=.grant t) (hl:m.l=[]):Inv N { m with c:=m.c+1 } (upd v i (.serves t)):=by
 have eQ:=cnt_upd (p:=isQ) (v:=v) (x:=V.serves t) hi;have eH:=cnt_upd (p:=isH) (v:=v) (x:=V.serves t) hi;have eG:=cnt_upd (p:=isG) (v:=v) (x:=V.serves t) hi;have eA:=cnt_upd (p:=isA) (v:=v) (x:=V.serves t) hi;simp only [hv,isQ,isH,isG,isA,b1,Bool.false_eq_true,if_true,if_false,Int.sub_zero,Int.add_zero] at eQ eH eG eA;have hW:=h.W;have c0:=hW.c0;refine⟨⟨hW.n0,by show 0<=m.c+1;omega,λ hS=>?_,λ hS=>?_⟩,h.T.same hi (by rw [hv];rfl) (by rw [hv];rfl),⟨h.L.nd,(h.L.same (x:=V.serves t) hi (by rw [hv];rfl)).lm,λ _=>hl⟩,h.O.upd hi (.inl (Int.le_refl _)) (λ _ _ e=>by cases e) (λ _ _ _ e=>by cases e) (λ _ _ e=>by cases e),h.R.keep hi id (λ _ q=>by rw [hv] at q;rcases q with q | ⟨_,q,_⟩<;>cases q)⟩
 . dsimp only at hS ⊢
   obtain⟨a,b,c⟩:=hW.free hS;exact⟨by omega,by omega,by omega⟩
 . dsimp only at hS ⊢
   obtain⟨a,b,c,d,e⟩:=hW.starve hS;exact⟨a,by omega,by omega,λ q=>⟨by have:=(d q).1;omega,by have:=(d q).2;omega⟩,λ q=>by have:=e q;omega⟩
theorem Inv.next (h:Inv N m v) (hi:i<N) (hv:v i=.grant t) {y:Int} {rest:List Int} (hl:m.l=y::rest):∃ j,j<N/\y=(j:Int)/\j≠i/\v j=.wok true:=by
 obtain⟨j,hj,e,hx⟩:=(h.L.lm y).1 (by rw [hl];exact List.mem_cons_self);have hti:=h.T.t4 i hi (by rw [hv];rfl);have hne:j≠i:=λ q=>by subst q;rw [hv] at hx;cases hx
 refine⟨j,hj,e,hne,?_⟩
 cases hvj:v j with
 | serve t' told =>
  exfalso;have htj:=h.T.t4 j hj (by rw [hvj];rfl);exact h.T.t2 i j m.sv hi hj (λ q=>hne q.symm) hti htj
 | wok pk =>
  cases pk
  . rw [hvj] at hx;cases hx
  . rfl
 | _=>rw [hvj] at hx;cases hx
theorem Inv.tells (h:Inv N m v) (hi:i<N) (hv:v i=.grant t) (hj:j<N) (hne:j≠i) (hvj:v j=.wok true) {rest:List Int} (hl:m.l=(j:Int)::rest) :
 Inv N { m with l:=rest } (upd (upd v j (.wok false)) i (.serves t)):=by
 have hvi:upd v j (.wok false) i=.grant t:=by rw [upd_off (λ q=>hne q.symm)];exact hv
 have aQ:=cnt_upd (p:=isQ) (v:=v) (x:=V.wok false) hj;have aH:=cnt_upd (p:=isH) (v:=v) (x:=V.wok false) hj;have aG:=cnt_upd (p:=isG) (v:=v) (x:=V.wok false) hj;have aA:=cnt_upd (p:=isA) (v:=v) (x:=V.wok false) hj;have eQ:=cnt_upd (p:=isQ) (v:=upd v j (.wok false)) (x:=V.serves t) hi;have eH:=cnt_upd (p:=isH) (v:=upd v j (.wok false)) (x:=V.serves t) hi;have eG:=cnt_upd (p:=isG) (v:=upd v j (.wok false)) (x:=V.serves t) hi;have eA:=cnt_upd (p:=isA) (v:=upd v j (.wok false)) (x:=V.serves t) hi;simp only [hvi,hvj,isQ,isH,isG,isA,b1,Bool.false_eq_true,if_true,if_false,Int.sub_zero,Int.add_zero] at aQ aH aG aA eQ eH eG eA;have hW:=h.W;have hnd:=h.L.nd;rw [hl] at hnd;obtain⟨hno,hnd⟩:=List.nodup_cons.1 hnd;refine⟨⟨hW.n0,hW.c0,λ hS=>?_,λ hS=>?_⟩,(h.T.same hj (by rw [hvj];rfl) (by rw [hvj];rfl)).same hi (by rw [hvi];rfl) (by rw [hvi];rfl),⟨hnd,λ y=>?_,λ q=>?_⟩,
  (h.O.upd hj (.inl (Int.le_refl _)) (λ _ _ e=>by cases e) (λ _ _ _ e=>by cases e) (λ _ _ e=>by cases e)).upd hi (.inl (Int.le_refl _)) (λ _ _ e=>by cases e) (λ _ _ _ e=>by cases e) (λ _ _ e=>by cases e),(h.R.keep hj id (λ _ q=>by rw [hvj] at q;rcases q with q | ⟨_,q,_⟩<;>cases q)).keep hi id (λ _ q=>by rw [hvi] at q;rcases q with q | ⟨_,q,_⟩<;>cases q)⟩
 . dsimp only at hS ⊢
   obtain⟨a,b,c⟩:=hW.free hS;exact⟨by omega,by omega,by omega⟩
 . dsimp only at hS ⊢
   obtain⟨a,b,c,d,e⟩:=hW.starve hS;exact⟨a,by omega,by omega,λ q=>⟨by have:=(d q).1;omega,by have:=(d q).2;omega⟩,λ q=>by have:=e q;omega⟩
 . dsimp only
   constructor
   . intro hy
     obtain⟨k,hk,e,hx⟩:=(h.L.lm y).1 (by rw [hl];exact List.mem_cons_of_mem _ hy);have hkj:k≠j:=λ q=>by subst q;rw [e] at hy;exact hno hy
     have hki:k≠i:=λ q=>by subst q;rw [hv] at hx;cases hx
     exact⟨k,hk,e,by rw [upd_off hki,upd_off hkj];exact hx⟩
   . rintro⟨k,hk,e,hx⟩
     by_cases hki:k=i
     . subst hki;rw [upd_at] at hx;cases hx
     . rw [upd_off hki] at hx
       by_cases hkj:k=j
       . subst hkj;rw [upd_at] at hx;cases hx
       . rw [upd_off hkj] at hx
         have:=(h.L.lm y).2 ⟨k,hk,e,hx⟩;rw [hl] at this;rcases List.mem_cons.1 this with q | q
         . exact absurd (by omega) hkj
         . exact q
 . have q:0<m.c:=q
   have:=h.L.le q;rw [hl] at this;cases this
def locking:V->Bool
 | .load _ _ | .want _ _ _ | .draw | .turn _ | .sema _ | .serve _ _ | .wok _ | .hand _ _=>true
 | _=>false
theorem Inv.goes_on (h:Inv N m v) (hL:m.w.L=false) (hi:i<N) (hv:locking (v i)=true):∃ j,j<N/\v j≠.out/\v j≠.wok true:=by
 apply Classical.byContradiction;intro hno;have hall:∀ j,j<N->v j=.out\/v j=.wok true:=λ j hj=>by
  by_cases e:v j=.out
  . exact .inl e
  . by_cases e':v j=.wok true
    . exact .inr e'
    . exact absurd ⟨j,hj,e,e'⟩ hno
 have z:∀ p:V->Bool,p .out=false->p (.wok true)=false->cnt p v N=0:=λ p h1 h2=>by
  have h0:=cnt_nonneg (p:=p) (v:=v) (N:=N);by_cases e:cnt p v N=0
  . exact e
  . obtain⟨j,hj,hp⟩:=cnt_ex (p:=p) (v:=v) (N:=N) (by omega)
    rcases hall j hj with q | q<;>rw [q] at hp<;>simp_all
 have zG:=z isG rfl rfl;have zA:=z isA rfl rfl;have zH:=z isH rfl rfl;have hvi:v i=.wok true:=by
  rcases hall i hi with q | q
  . rw [q] at hv;cases hv
  . exact q
 have hq:=cnt_pos (p:=isQ) (v:=v) hi (by rw [hvi];rfl);have hmem:=(h.L.lm (i:Int)).2 ⟨i,hi,rfl,by rw [hvi];rfl⟩;have c0:=h.W.c0;have hc:m.c=0:=by
  by_cases q:0<m.c
  . rw [h.L.le q] at hmem;cases hmem
  . omega
 cases hS:m.w.S
 . obtain⟨a,b,c⟩:=h.W.free hS
   have hK:m.w.K=false:=by
    cases hK:m.w.K
    . rfl
    . rw [hK] at b;simp only [b1,if_true] at b;omega
   obtain⟨j,hj,hg⟩:=h.R ⟨hL,hK,hS,by omega⟩;rcases hall j hj with q | q<;>rw [q] at hg<;>rcases hg with hg | ⟨_,hg,_⟩<;>cases hg
 . have:=(h.W.starve hS).2.2.2.2 hL
   omega
theorem Inv.first (hv:∀ i,i<N->v i=.out):Inv N { w:={ L:=false,K:=false,S:=false,n:=0 },nx:=0,sv:=0,c:=0,l:=[] } v:=by
 have z:∀ p:V->Bool,p .out=false->cnt p v N=0:=λ p h1=>by
  have h0:=cnt_nonneg (p:=p) (v:=v) (N:=N);by_cases e:cnt p v N=0
  . exact e
  . obtain⟨j,hj,hp⟩:=cnt_ex (p:=p) (v:=v) (N:=N) (by omega)
    rw [hv j hj,h1] at hp;cases hp
 have zG:=z isG rfl;have zA:=z isA rfl;have zH:=z isH rfl;have zQ:=z isQ rfl;have zT:=z isT rfl;refine⟨⟨by simp,by simp,λ _=>⟨zH,by simp [zG,zA,b1],by simp [zG,zQ]⟩,λ q=>by cases q⟩,⟨by simp,by simp,λ i t hi e=>?_,λ i j t hi _ _ e=>?_,by simp [zT],λ i hi e=>?_⟩,⟨by simp,λ x=>?_,λ _=>rfl⟩,⟨λ i _ _ hi e=>?_,λ i _ _ _ hi e=>?_,λ i _ _ hi e=>?_⟩,InvR.off (λ q=>by have:=q.2.2.2;simp at this)⟩
 . rw [hv i hi] at e;cases e
 . rw [hv i hi] at e;cases e
 . rw [hv i hi] at e;cases e
 . constructor
   . intro q;cases q
   . rintro⟨i,hi,_,e⟩;rw [hv i hi] at e;cases e
 . rw [hv i hi] at e;cases e
 . rw [hv i hi] at e;cases e
 . rw [hv i hi] at e;cases e
end
end P16
end
namespace P16
theorem wd_un (w:Wd):wd (un w)=w:=by
 obtain⟨L,K,S,n⟩:=w;have e:un ⟨L,K,S,n⟩=8*n+4*b1 S+2*b1 K+b1 L:=rfl;unfold wd;rw [e];cases L<;>cases K<;>cases S<;>simp only [b1,Bool.false_eq_true,if_true,if_false]<;>congr 1<;>first | omega | (simp;try omega)
def new (l:List (List (Int×Int))):Mw :=
 { now:=0,progs:=l,cl:=l.map λ p=>first 0 false 0 p.length,cm:=λ _=>⟨0,0,0,0,[]⟩,stop:=0 }
end P16
section
namespace P16
section
variable {p:List Ac} {c c':Cl} {k n:Int} {m m':Nat}
theorem vwp_at (h:p[c.act.toNat]?=some (k,n)):vwp p c m=vw k n c m:=by unfold vwp;rw [h]
theorem vw_far (h:n≠m):vw k n c m=.out:=by unfold vw;rw [if_pos h]
theorem vw_start (h:c.pc=0):vw k n c m=.out:=by
 unfold vw;rw [h];by_cases h1:n≠m
 . rw [if_pos h1]
 . rw [if_neg h1]
   by_cases h2:k=0
   . rw [if_pos h2];rfl
   . rw [if_neg h2]
     by_cases h3:k=1
     . rw [if_pos h3];rfl
     . rw [if_neg h3]
       by_cases h4:k=2
       . rw [if_pos h4];rfl
       . rw [if_neg h4]
theorem vwp_start (h:c.pc=0):vwp p c m=.out:=by
 unfold vwp
 split
 . exact vw_start h
 . rfl
theorem vwp_over {len:Nat}:vwp p (over c len) m=.out:=vwp_start rfl
theorem CInv.lt (h:CInv p c) (hg:c.gst≠2):c.act.toNat<p.length:=by
 have:=h.a0;have:=h.a1;have:c.act≠p.length:=λ e=>hg (h.dn.2 e)
 omega
theorem CInv.over (h:CInv p c) (hg:c.gst=0):CInv p (over c p.length):=by
 have hlt:=h.lt (by omega);have a0:=h.a0;have hp:=h.pm;refine⟨by show 0<=c.act+1;omega,by show c.act+1<=_;omega,?_,?_,?_,?_,λ k n _=>.inl rfl,λ _=>rfl,⟨Int.le_refl _,by show (0:Int)<4294967296;decide⟩,.inl rfl,⟨Int.le_refl _,by show (0:Int)<=4;decide⟩,⟨Int.le_refl _,by show (0:Int)<2147483648;decide⟩,λ _=>⟨rfl,rfl⟩,.inl rfl,λ q=>by cases q⟩
 . show (if c.act+1=p.length then false else c.permit)=false
   rw [hp];split<;>rfl
 . show (if c.act+1=p.length then (2:Int) else c.gst)=0\/(if c.act+1=p.length then (2:Int) else c.gst)=1\/(if c.act+1=p.length then (2:Int) else c.gst)=2
   split
   . exact .inr (.inr rfl)
   . exact .inl hg
 . show (if c.act+1=p.length then (2:Int) else c.gst)=2↔c.act+1=p.length
   split
   . rename_i e;exact⟨λ _=>e,λ _=>rfl⟩
   . rename_i e;exact⟨λ q=>by omega,λ q=>absurd q e⟩
 . show (if c.act+1=p.length then (2:Int) else c.gst)=1->_
   split
   . intro q;omega
   . intro q;omega
theorem CInv.stay (h:CInv p c) (hg:c.gst=0) (ha:p[c.act.toNat]?=some (k,n)) (hk:k≠3) (e1:c'.act=c.act) (e2:c'.permit=false) (e3:c'.gst=0\/(c'.gst=1/\c'.pc=7)) (e4:OkPc k c'.pc) (e5:0<=c'.ticket/\c'.ticket<4294967296)
 (e6:c'.since=-1\/(0<=c'.since/\c'.since<=4611686018427387904)) (e7:0<=c'.rounds/\c'.rounds<=4) (e8:OkW c'.old) (e9:c'.pc≠0) (e10:c'.worked=c.worked) (e11:c'.pc=9->(wd c'.old).L=false/\(wd c'.old).S=false:=by intro q;cases q):CInv p c':=by
 have hlt:=h.lt (by omega);have a0:=h.a0;refine⟨by rw [e1];exact a0,by rw [e1];exact h.a1,e2,by rcases e3 with e | ⟨e,_⟩<;>omega,⟨λ q=>by rcases e3 with e | ⟨e,_⟩<;>omega,λ q=>by rw [e1] at q;omega⟩,λ q=>by rcases e3 with e | ⟨_,e⟩;omega;exact e,
  λ k' n' q=>by rw [e1,ha] at q;cases q;exact e4,λ q=>by rw [e1] at q;omega,e5,e6,e7,e8,λ q=>absurd q e9,?_,e11⟩
 rw [e1,e10];exact h.wk
end
def HeldR (ev:Option Int) (L L':Bool):Prop :=
 (ev=none/\L'=L)\/(ev=some 0/\L=false/\L'=true)\/(ev=some 1/\L=false/\L'=true)\/(ev=some 2/\L'=L)\/(ev=some 3/\L=true/\L'=false)
def HandsR (ev:Option Int) (k pc:Int) (st:Bool) (S S':Bool):Prop :=
 (S=false->S'=true->k=0/\pc=2/\st=true)/\(S=true->S'=false->k=0/\pc=8)/\(S=true->ev≠some 1)/\(S=true->ev=some 0->k=0/\pc=8)
theorem HandsR.same {ev:Option Int} {k pc:Int} {st S:Bool} (h1:S=true->ev≠some 1) (h2:S=true->ev=some 0->k=0/\pc=8):HandsR ev k pc st S S :=
 ⟨(λ a b=>by rw [a] at b;cases b),(λ a b=>by rw [a] at b;cases b),h1,h2⟩
structure StepOk (N i m:Nat) (p:List Ac) (k:Int) (c:Cl) (a:Cm) (v:Nat->V) (o:Out):Prop where
 ci:CInv p o.c
 ow:OkW o.m.word
 iv:(o.rdy=none/\Inv N (mx o.m) (upd v i (vwp p o.c m)))\/(∃ j,j<N/\j≠i/\o.rdy=some (j:Int)/\v j=.wok true/\Inv N (mx o.m) (upd (upd v j (.wok false)) i (vwp p o.c m)))
 far:∀ m',m'≠m->vwp p o.c m'=.out
 he:HeldR o.ev (wd a.word).L (wd o.m.word).L
 ha:HandsR o.ev k c.pc c.st (wd a.word).S (wd o.m.word).S
end P16
end
section
namespace P16
theorem wd0:wd 0=⟨false,false,false,0⟩:=by simp [wd]
theorem wd1:wd 1=⟨true,false,false,0⟩:=by simp [wd]
theorem wd_less {o:Int} (h:(wd o).L=true):wd (o-1)={ wd o with L:=false }:=by
 have h:decide (o % 2=1)=true:=h;have h:=of_decide_eq_true h;unfold wd;dsimp only;congr 1
 . exact decide_eq_false (by omega)
 . exact decide_eq_decide.2 (by omega)
 . exact decide_eq_decide.2 (by omega)
 . omega
theorem wd_hand {o:Int} (hL:(wd o).L=false) (hK:(wd o).K=false) (hS:(wd o).S=true):wd (o+-11)=⟨true,false,false,(wd o).n-1⟩/\wd (o+-7)=⟨true,false,true,(wd o).n-1⟩:=by
 have hL:=of_decide_eq_false (show decide (o % 2=1)=false from hL);have hK:=of_decide_eq_false (show decide (o / 2 % 2=1)=false from hK);have hS:=of_decide_eq_true (show decide (o / 4 % 2=1)=true from hS);constructor
 . unfold wd
   dsimp only;congr 1
   . exact decide_eq_true (by omega)
   . exact decide_eq_false (by omega)
   . exact decide_eq_false (by omega)
   . omega
 . unfold wd
   dsimp only;congr 1
   . exact decide_eq_true (by omega)
   . exact decide_eq_false (by omega)
   . exact decide_eq_true (by omega)
   . omega
theorem mx_un {a:Cm} {w:Wd}:mx { a with word:=un w }={ mx a with w:=w }:=by
 show (⟨wd (un w),a.nx,a.sv,a.c,a.l⟩:Mx)=_;rw [wd_un];rfl
section
variable {N i m run:Nat} {p:List Ac} {c:Cl} {a:Cm} {v:Nat->V} {now:Int}
theorem vwp_same {c':Cl} {k n:Int} {m:Nat} (h:p[c.act.toNat]?=some (k,n)) (e:c'.act=c.act):vwp p c' m=vw k n c' m:=by unfold vwp;rw [e,h]
theorem vl1 {c:Cl} {m:Nat} (h:c.pc=1):vw 0 (m:Int) c m=.load c.aw c.st:=by unfold vw;rw [if_neg (by simp),if_pos rfl,h];rfl
theorem vl2 {c:Cl} {m:Nat} (h:c.pc=2):vw 0 (m:Int) c m=.want c.aw c.st (wd c.old):=by unfold vw;rw [if_neg (by simp),if_pos rfl,h];rfl
theorem vl3 {c:Cl} {m:Nat} (h:c.pc=3):vw 0 (m:Int) c m=.draw:=by unfold vw;rw [if_neg (by simp),if_pos rfl,h];rfl
theorem vl4 {c:Cl} {m:Nat} (h:c.pc=4):vw 0 (m:Int) c m=.turn c.ticket:=by unfold vw;rw [if_neg (by simp),if_pos rfl,h];rfl
theorem vl5 {c:Cl} {m:Nat} (h:c.pc=5):vw 0 (m:Int) c m=.sema c.ticket:=by unfold vw;rw [if_neg (by simp),if_pos rfl,h];rfl
theorem vl6 {c:Cl} {m:Nat} (h:c.pc=6):vw 0 (m:Int) c m=.serve c.ticket c.told:=by unfold vw;rw [if_neg (by simp),if_pos rfl,h];rfl
theorem vl7 {c:Cl} {m:Nat} (h:c.pc=7):vw 0 (m:Int) c m=.wok (decide (c.gst=1)):=by unfold vw;rw [if_neg (by simp),if_pos rfl,h];rfl
theorem vl8 {c:Cl} {m:Nat} (h:c.pc=8):vw 0 (m:Int) c m=.hand c.st (wd c.old):=by unfold vw;rw [if_neg (by simp),if_pos rfl,h];rfl
theorem vt9 {c:Cl} {m:Nat} (h:c.pc=9):vw 1 (m:Int) c m=.trying:=by unfold vw;rw [if_neg (by simp),if_neg (by decide),if_pos rfl,h];rfl
theorem vg10 {c:Cl} {m:Nat} (h:c.pc=10):vw 2 (m:Int) c m=.give (wd c.old):=by unfold vw;rw [if_neg (by simp),if_neg (by decide),if_neg (by decide),if_pos rfl,h];rfl
theorem vg11 {c:Cl} {m:Nat} (h:c.pc=11):vw 2 (m:Int) c m=.see:=by unfold vw;rw [if_neg (by simp),if_neg (by decide),if_neg (by decide),if_pos rfl,h];rfl
theorem vg12 {c:Cl} {m:Nat} (h:c.pc=12):vw 2 (m:Int) c m=.draws:=by unfold vw;rw [if_neg (by simp),if_neg (by decide),if_neg (by decide),if_pos rfl,h];rfl
theorem vg13 {c:Cl} {m:Nat} (h:c.pc=13):vw 2 (m:Int) c m=.turns c.ticket:=by unfold vw;rw [if_neg (by simp),if_neg (by decide),if_neg (by decide),if_pos rfl,h];rfl
theorem vg14 {c:Cl} {m:Nat} (h:c.pc=14):vw 2 (m:Int) c m=.grant c.ticket:=by unfold vw;rw [if_neg (by simp),if_neg (by decide),if_neg (by decide),if_pos rfl,h];rfl
theorem vg15 {c:Cl} {m:Nat} (h:c.pc=15):vw 2 (m:Int) c m=.serves c.ticket:=by unfold vw;rw [if_neg (by simp),if_neg (by decide),if_neg (by decide),if_pos rfl,h];rfl
theorem step_go {k:Int} {c':Cl} {a':Cm} {ev:Option Int} (hc:CInv p c) (hg:c.gst=0) (ha:p[c.act.toNat]?=some (k,(m:Int))) (hk:k≠3) (e1:c'.act=c.act) (e2:c'.permit=false) (e3:c'.gst=0\/(c'.gst=1/\c'.pc=7)) (e4:OkPc k c'.pc) (e5:0<=c'.ticket/\c'.ticket<4294967296)
 (e6:c'.since=-1\/(0<=c'.since/\c'.since<=4611686018427387904)) (e7:0<=c'.rounds/\c'.rounds<=4) (e8:OkW c'.old) (e9:c'.pc≠0) (e10:c'.worked=c.worked)
 (ow:OkW a'.word) (iv:Inv N (mx a') (upd v i (vw k (m:Int) c' m))) (he:HeldR ev (wd a.word).L (wd a'.word).L) (hh:HandsR ev k c.pc c.st (wd a.word).S (wd a'.word).S) (e11:c'.pc=9->(wd c'.old).L=false/\(wd c'.old).S=false:=by intro q;cases q) :
 ∃ o,go c' a' ev=.ok o/\StepOk N i m p k c a v o :=
 ⟨_,rfl,hc.stay hg ha hk e1 e2 e3 e4 e5 e6 e7 e8 e9 e10 e11,ow,.inl ⟨rfl,by rw [vwp_same ha e1];exact iv⟩,λ m' hm'=>by rw [vwp_same ha e1];exact vw_far (by omega),he,hh⟩
theorem step_over {k:Int} {a':Cm} {ev:Option Int} (hc:CInv p c) (hg:c.gst=0) (ow:OkW a'.word) (iv:Inv N (mx a') (upd v i .out)) (he:HeldR ev (wd a.word).L (wd a'.word).L) (hh:HandsR ev k c.pc c.st (wd a.word).S (wd a'.word).S) :
 ∃ o,go (over c p.length) a' ev=.ok o/\StepOk N i m p k c a v o :=
 ⟨_,rfl,hc.over hg,ow,.inl ⟨rfl,by rw [vwp_over];exact iv⟩,λ _ _=>vwp_over,he,hh⟩
theorem HandsR.none_ {k pc:Int} {st S:Bool}:HandsR none k pc st S S:=HandsR.same (λ _ q=>by cases q) (λ _ q=>by cases q)
theorem upd_self {v:Nat->V}:upd v i (v i)=v:=by
 funext j;by_cases q:j=i
 . subst q;exact upd_at
 . exact upd_off q
theorem line_len (h:Inv N (mx a) v):a.l.length<=N:=by
 have hsub:∀ x∈a.l,x∈(List.range N).map (λ k:Nat=>(k:Int)):=λ x hx=>by
  obtain⟨k,hk,e,_⟩:=(h.L.lm x).1 hx;exact List.mem_map.2 ⟨k,List.mem_range.2 hk,e.symm⟩
 have q:=List.Nodup.length_le_of_subset h.L.nd hsub;rw [List.length_map,List.length_range] at q;exact q
theorem lock_start (hN:N<=8) (hi:i<N) (h:Inv N (mx a) v) (hw:OkW a.word) (hc:CInv p c) (hg:c.gst=0) (ha:p[c.act.toNat]?=some (0,(m:Int))) (hv:v i=vwp p c m) (hpc:c.pc=0):∃ o,lock now run p.length i c a=.ok o/\StepOk N i m p 0 c a v o:=by
 have hv:v i=.out:=hv.trans (vwp_start hpc);unfold lock;rw [if_pos hpc];by_cases h0:a.word=0
 . rw [if_pos h0]
   have e0:wd a.word=⟨false,false,false,0⟩:=by rw [h0,wd0]
   have q:=h.fast hi hv (by show (wd a.word).L=false;rw [e0]) (by show (wd a.word).S=false;rw [e0]) (by show (wd a.word).n=0;rw [e0]);have e:mx { a with word:=1 }={ mx a with w:={ (mx a).w with L:=true } }:=by
    show (⟨wd 1,a.nx,a.sv,a.c,a.l⟩:Mx)=⟨{ wd a.word with L:=true },a.nx,a.sv,a.c,a.l⟩;rw [e0,wd1]
   refine step_over hc hg (by show OkW 1;exact⟨by decide,by decide⟩) (e▸q) (.inr (.inl ⟨rfl,by rw [e0],by show (wd 1).L=true;rw [wd1]⟩)) ?_;show HandsR _ _ _ _ (wd a.word).S (wd 1).S;rw [e0,wd1];exact HandsR.same (λ q=>by cases q) (λ q=>by cases q)
 . rw [if_neg h0]
   have f:=hc.fr hpc;exact step_go hc hg ha (by decide) rfl hc.pm (.inl hg) (.inr (.inl ⟨rfl,by show (1:Int)<=1;decide,by show (1:Int)<=8;decide⟩)) hc.tb hc.sc hc.rd hc.ol (by intro q;cases q) rfl hw (by rw [vl1 rfl,f.1,f.2];exact h.slow hi hv) (.inl ⟨rfl,rfl⟩) HandsR.none_
theorem lock_load (hN:N<=8) (hi:i<N) (h:Inv N (mx a) v) (hw:OkW a.word) (hc:CInv p c) (hg:c.gst=0) (ha:p[c.act.toNat]?=some (0,(m:Int))) (hv:v i=vwp p c m) (hpc:c.pc=1):∃ o,lock now run p.length i c a=.ok o/\StepOk N i m p 0 c a v o:=by
 have hv:v i=.load c.aw c.st:=by rw [hv,vwp_at ha,vl1 hpc]
 unfold lock;rw [if_neg (by rw [hpc];decide),if_pos hpc];exact step_go hc hg ha (by decide) rfl hc.pm (.inl hg) (.inr (.inl ⟨rfl,by show (1:Int)<=2;decide,by show (2:Int)<=8;decide⟩)) hc.tb hc.sc hc.rd hw (by intro q;cases q) rfl hw (by rw [vl2 rfl];exact h.look hi hv) (.inl ⟨rfl,rfl⟩) HandsR.none_
theorem lock_draw (hN:N<=8) (hi:i<N) (h:Inv N (mx a) v) (hw:OkW a.word) (hc:CInv p c) (hg:c.gst=0) (ha:p[c.act.toNat]?=some (0,(m:Int))) (hv:v i=vwp p c m) (hpc:c.pc=3):∃ o,lock now run p.length i c a=.ok o/\StepOk N i m p 0 c a v o:=by
 have hv:v i=.draw:=by rw [hv,vwp_at ha,vl3 hpc]
 unfold lock draw;have t3:=h.T.t3;have hle:=cnt_le (p:=isT) (v:=v) (N:=N);have t3:(a.nx-a.sv) % 4294967296=cnt isT v N:=t3;rw [if_neg (by rw [hpc];decide),if_neg (by rw [hpc];decide),if_neg (by rw [hpc];decide),if_pos hpc,if_neg (by omega)];exact step_go hc hg ha (by decide) rfl hc.pm (.inl hg) (.inr (.inl ⟨rfl,by show (1:Int)<=4;decide,by show (4:Int)<=8;decide⟩)) h.T.nb hc.sc hc.rd hc.ol (by intro q;cases q) rfl hw (by rw [vl4 rfl];exact h.draw hN hi hv) (.inl ⟨rfl,rfl⟩) HandsR.none_
theorem lock_turn (hN:N<=8) (hi:i<N) (h:Inv N (mx a) v) (hw:OkW a.word) (hc:CInv p c) (hg:c.gst=0) (ha:p[c.act.toNat]?=some (0,(m:Int))) (hv:v i=vwp p c m) (hpc:c.pc=4):∃ o,lock now run p.length i c a=.ok o/\StepOk N i m p 0 c a v o:=by
 have hv:v i=.turn c.ticket:=by rw [hv,vwp_at ha,vl4 hpc]
 unfold lock turn;rw [if_neg (by rw [hpc];decide),if_neg (by rw [hpc];decide),if_neg (by rw [hpc];decide),if_neg (by rw [hpc];decide),if_pos hpc];by_cases ht:c.ticket=a.sv
 . rw [if_pos ht]
   exact step_go hc hg ha (by decide) rfl hc.pm (.inl hg) (.inr (.inl ⟨rfl,by show (1:Int)<=5;decide,by show (5:Int)<=8;decide⟩)) hc.tb hc.sc hc.rd hc.ol (by intro q;cases q) rfl hw (by rw [vl5 rfl];show Inv N (mx a) (upd v i (.sema c.ticket));rw [ht];exact h.sema hN hi (by rw [hv,ht];rfl)) (.inl ⟨rfl,rfl⟩) HandsR.none_
 . rw [if_neg ht]
   exact step_go hc hg ha (by decide) rfl hc.pm (.inl hg) (.inr (.inl ⟨rfl,by rw [hpc];decide,by rw [hpc];decide⟩)) hc.tb hc.sc hc.rd hc.ol (by show c.pc≠0;rw [hpc];decide) rfl hw
    (by
      have e:vw 0 (m:Int) { c with pc:=c.pc } m=v i:=by rw [hv];exact vl4 hpc
      rw [e];have e2:upd v i (v i)=v:=upd_self;rw [e2];exact h) (.inl ⟨rfl,rfl⟩) HandsR.none_ (λ q=>by have q:c.pc=9:=q;omega)
theorem lock_sema (hN:N<=8) (hi:i<N) (h:Inv N (mx a) v) (hw:OkW a.word) (hc:CInv p c) (hg:c.gst=0) (ha:p[c.act.toNat]?=some (0,(m:Int))) (hv:v i=vwp p c m) (hpc:c.pc=5):∃ o,lock now run p.length i c a=.ok o/\StepOk N i m p 0 c a v o:=by
 have hv:v i=.sema c.ticket:=by rw [hv,vwp_at ha,vl5 hpc]
 unfold lock ask;have hno:¬ (i:Int)∈a.l:=λ q=>by
  obtain⟨k,hk,e,hx⟩:=(h.L.lm _).1 q;obtain rfl:k=i:=by omega
  rw [hv] at hx;cases hx
 rw [if_neg (by rw [hpc];decide),if_neg (by rw [hpc];decide),if_neg (by rw [hpc];decide),if_neg (by rw [hpc];decide),if_neg (by rw [hpc];decide),if_pos hpc,if_neg hno];have c0:0<=a.c:=h.W.c0;by_cases h0:0<a.c
 . rw [if_pos h0]
   exact step_go hc hg ha (by decide) rfl hc.pm (.inl hg) (.inr (.inl ⟨rfl,by show (1:Int)<=6;decide,by show (6:Int)<=8;decide⟩)) hc.tb hc.sc hc.rd hc.ol (by intro q;cases q) rfl hw (by rw [vl6 rfl];exact h.let_ hi hv h0) (.inl ⟨rfl,rfl⟩) HandsR.none_
 . have hlen:a.l.length<=8:=Nat.le_trans (line_len h) hN
   rw [if_neg h0,if_neg (by omega)];have hperm:(if c.first then (i:Int)::a.l else a.l++[(i:Int)]).Perm ((i:Int)::a.l):=by
    split
    . exact List.Perm.refl _
    . exact List.perm_append_singleton _ _
   exact step_go hc hg ha (by decide) rfl hc.pm (.inl hg) (.inr (.inl ⟨rfl,by show (1:Int)<=6;decide,by show (6:Int)<=8;decide⟩)) hc.tb hc.sc hc.rd hc.ol (by intro q;cases q) rfl hw (by rw [vl6 rfl];exact h.comes hi hv (by show a.c=0;omega) hperm) (.inl ⟨rfl,rfl⟩) HandsR.none_
theorem lock_serve (hN:N<=8) (hi:i<N) (h:Inv N (mx a) v) (hw:OkW a.word) (hc:CInv p c) (hg:c.gst=0) (ha:p[c.act.toNat]?=some (0,(m:Int))) (hv:v i=vwp p c m) (hpc:c.pc=6):∃ o,lock now run p.length i c a=.ok o/\StepOk N i m p 0 c a v o:=by
 have hv:v i=.serve c.ticket c.told:=by rw [hv,vwp_at ha,vl6 hpc]
 unfold lock rest;have t3:(a.nx-a.sv) % 4294967296=cnt isT v N:=h.T.t3;have hp:=cnt_pos (p:=isT) (v:=v) hi (by rw [hv];rfl);rw [if_neg (by rw [hpc];decide),if_neg (by rw [hpc];decide),if_neg (by rw [hpc];decide),if_neg (by rw [hpc];decide),if_neg (by rw [hpc];decide),if_neg (by rw [hpc];decide),if_pos hpc,if_neg (by omega)];have q:=h.served hN hi hv;by_cases ht:c.told=true
 . rw [ht] at q
   dsimp only;rw [if_pos ht];exact step_go hc hg ha (by decide) rfl hc.pm (.inl hg) (.inr (.inl ⟨rfl,by show (1:Int)<=7;decide,by show (7:Int)<=8;decide⟩)) hc.tb hc.sc hc.rd hc.ol (by intro q;cases q) rfl hw (by rw [vl7 rfl];show Inv N _ (upd v i (.wok (decide (c.gst=1))));rw [hg];exact q) (.inl ⟨rfl,rfl⟩) HandsR.none_
 . have hf:c.told=false:=by cases e:c.told;rfl;exact absurd e ht
   rw [hf] at q;dsimp only;rw [if_neg ht];have hpm:=hc.pm;refine step_go hc hg ha (by decide) rfl rfl (.inr ⟨by rw [hpm];rfl,rfl⟩) (.inr (.inl ⟨rfl,by show (1:Int)<=7;decide,by show (7:Int)<=8;decide⟩)) hc.tb hc.sc hc.rd hc.ol (by intro q;cases q) rfl hw ?_ (.inl ⟨rfl,rfl⟩) HandsR.none_;rw [vl7 rfl];show Inv N _ (upd v i (.wok (decide ((if c.permit=true then (0:Int) else 1)=1))));rw [hpm];exact q
theorem lock_woken (hN:N<=8) (hi:i<N) (h:Inv N (mx a) v) (hw:OkW a.word) (hc:CInv p c) (hg:c.gst=0) (ha:p[c.act.toNat]?=some (0,(m:Int))) (hv:v i=vwp p c m) (hpc:c.pc=7):∃ o,lock now run p.length i c a=.ok o/\StepOk N i m p 0 c a v o:=by
 have hv:v i=.wok false:=by rw [hv,vwp_at ha,vl7 hpc,hg];rfl
 unfold lock woken;rw [if_neg (by rw [hpc];decide),if_neg (by rw [hpc];decide),if_neg (by rw [hpc];decide),if_neg (by rw [hpc];decide),if_neg (by rw [hpc];decide),if_neg (by rw [hpc];decide),if_neg (by rw [hpc];decide),if_pos hpc];dsimp only;by_cases hS:(wd a.word).S=true
 . rw [if_pos hS]
   exact step_go hc hg ha (by decide) rfl hc.pm (.inl hg) (.inr (.inl ⟨rfl,by show (1:Int)<=8;decide,by show (8:Int)<=8;decide⟩)) hc.tb hc.sc hc.rd hw (by intro q;cases q) rfl hw (by rw [vl8 rfl];exact h.handed hi hv hS) (.inl ⟨rfl,rfl⟩) HandsR.none_
 . have hS':(wd a.word).S=false:=by cases e:(wd a.word).S;rfl;exact absurd e hS
   rw [if_neg hS];exact step_go hc hg ha (by decide) rfl hc.pm (.inl hg) (.inr (.inl ⟨rfl,by show (1:Int)<=2;decide,by show (2:Int)<=8;decide⟩)) hc.tb hc.sc ⟨Int.le_refl _,by show (0:Int)<=4;decide⟩ hw (by intro q;cases q) rfl hw (by rw [vl2 rfl];exact h.goes hi hv hS') (.inl ⟨rfl,rfl⟩) HandsR.none_
theorem lock_handed (hN:N<=8) (hi:i<N) (h:Inv N (mx a) v) (hw:OkW a.word) (hc:CInv p c) (hg:c.gst=0) (ha:p[c.act.toNat]?=some (0,(m:Int))) (hv:v i=vwp p c m) (hpc:c.pc=8):∃ o,lock now run p.length i c a=.ok o/\StepOk N i m p 0 c a v o:=by
 have hv:v i=.hand c.st (wd c.old):=by rw [hv,vwp_at ha,vl8 hpc]
 obtain⟨hL,hS,hK,hn,-⟩:=h.hand_word hi hv;obtain⟨oL,oK,oS,o1,o2⟩:=h.O.oh i c.st (wd c.old) hi hv;have hL:(wd a.word).L=false:=hL;have hS:(wd a.word).S=true:=hS;have hK:(wd a.word).K=false:=hK;have hn:1<=(wd a.word).n:=hn;have hh:=wd_hand hL hK hS;have hw8:8<=a.word:=by have:1<=a.word / 8:=hn;omega
 have hw12:12<=a.word:=by
  have q:=of_decide_eq_true (show decide (a.word / 4 % 2=1)=true from hS);omega
 have hw1:=hw.2;have hand:hands c=some (if c.st=false\/(wd c.old).n=1 then -11 else -7):=by
  unfold hands;dsimp only;rw [if_neg (by rw [oL,oK];rintro (q | q | q);cases q;cases q;omega)]
 unfold lock handed;rw [if_neg (by rw [hpc];decide),if_neg (by rw [hpc];decide),if_neg (by rw [hpc];decide),if_neg (by rw [hpc];decide),if_neg (by rw [hpc];decide),if_neg (by rw [hpc];decide),if_neg (by rw [hpc];decide),if_neg (by rw [hpc];decide),hand];dsimp only;have fin:∀ (d:Int) (S':Bool),(d=-11\/d=-7)->wd (a.word+d)=⟨true,false,S',(wd a.word).n-1⟩->∃ o,(if 0<=a.word+d/\a.word+d<2147483648 then go (over c p.length) { a with word:=a.word+d } (some 0) else .bad)=.ok o/\StepOk N i m p 0 c a v o:=λ d S' hd e=>by
  rw [if_pos ⟨by omega,by omega⟩];have q:=h.takes (S':=S') hi hv;have em:mx { a with word:=a.word+d }={ mx a with w:=⟨true,false,S',(wd a.word).n-1⟩ }:=by
   show (⟨wd (a.word+d),a.nx,a.sv,a.c,a.l⟩:Mx)=_;rw [e];rfl
  refine step_over hc hg (by show OkW (a.word+d);exact⟨by omega,by omega⟩) (em▸q) (.inr (.inl ⟨rfl,hL,by show (wd (a.word+d)).L=true;rw [e]⟩)) ?_;show HandsR _ _ _ _ (wd a.word).S (wd (a.word+d)).S;rw [hS,e];exact⟨λ q=>(by cases q),λ _ _=>⟨rfl,hpc⟩,λ _ q=>(by cases q),λ _ _=>⟨rfl,hpc⟩⟩
 split
 . exact fin _ _ (.inl rfl) hh.1
 . exact fin _ _ (.inr rfl) hh.2
end
end P16
end
section
namespace P16
section
variable {N i m run:Nat} {p:List Ac} {c:Cl} {a:Cm} {v:Nat->V} {now:Int}
theorem lock_want (hN:N<=8) (hi:i<N) (h:Inv N (mx a) v) (hw:OkW a.word) (hc:CInv p c) (hg:c.gst=0) (ha:p[c.act.toNat]?=some (0,(m:Int))) (hv:v i=vwp p c m) (hnow:0<=now/\now<=4611686018427387904) (hpc:c.pc=2):∃ o,lock now run p.length i c a=.ok o/\StepOk N i m p 0 c a v o:=by
 have hv:v i=.want c.aw c.st (wd c.old):=by rw [hv,vwp_at ha,vl2 hpc]
 obtain⟨hst,hawk,n0,n1⟩:=h.O.ow i c.aw c.st (wd c.old) hi hv;have hwn:=hw.n;unfold lock want;rw [if_neg (by rw [hpc];decide),if_neg (by rw [hpc];decide),if_pos hpc];dsimp only;by_cases hsp:(wd c.old).L=true/\(wd c.old).S=false/\c.rounds<4/\1<run
 . rw [if_pos hsp]
   have r0:=hc.rd;unfold round;dsimp only;by_cases hset:c.aw=false/\(wd c.old).K=false/\0<(wd c.old).n/\a.word=c.old
   . obtain⟨k1,k2,k3,k4⟩:=hset
     have hst':c.st=false:=by cases e:c.st;rfl;rw [hst e] at k1;cases k1
     have q:=h.spin hi (k1▸hv) (by show (wd a.word).K=false;rw [k4];exact k2) (by show (wd a.word).S=false;rw [k4];exact hsp.2.1) hst' (by show (wd a.word).L=true;rw [k4];exact hsp.1);rw [if_pos ⟨k1,k2,k3,k4⟩,if_pos ⟨k1,k2,k3,k4⟩];exact step_go hc hg ha (by decide) rfl hc.pm (.inl hg) (.inr (.inl ⟨rfl,by show (1:Int)<=1;decide,by show (1:Int)<=8;decide⟩)) hc.tb hc.sc ⟨by show 0<=c.rounds+1;omega,by show c.rounds+1<=4;omega⟩ hc.ol (by intro q;cases q) rfl (okW_un hwn.1 hwn.2) (by rw [vl1 rfl,mx_un];exact q) (.inl ⟨rfl,by show (wd (un _)).L=_;rw [wd_un]⟩) (by show HandsR none 0 c.pc c.st _ (wd (un _)).S;rw [wd_un];exact HandsR.none_)
   . rw [if_neg hset,if_neg hset]
     exact step_go hc hg ha (by decide) rfl hc.pm (.inl hg) (.inr (.inl ⟨rfl,by show (1:Int)<=1;decide,by show (1:Int)<=8;decide⟩)) hc.tb hc.sc ⟨by show 0<=c.rounds+1;omega,by show c.rounds+1<=4;omega⟩ hc.ol (by intro q;cases q) rfl hw (by rw [vl1 rfl];exact h.back hi hv) (.inl ⟨rfl,rfl⟩) HandsR.none_
 . rw [if_neg hsp]
   have hwants:wants c=some (un { L:=(wd c.old).L||!(wd c.old).S,K:=(wd c.old).K&&!c.aw,S:=(wd c.old).S||(c.st&&(wd c.old).L),n:=if (wd c.old).L||(wd c.old).S then (wd c.old).n+1 else (wd c.old).n }):=by
    unfold wants;dsimp only;rw [if_neg (λ q=>by rw [hawk q.1] at q;cases q.2),if_neg (λ q=>by omega)]
   rw [hwants];dsimp only;by_cases hne:a.word≠c.old
   . rw [if_pos hne]
     exact step_go hc hg ha (by decide) rfl hc.pm (.inl hg) (.inr (.inl ⟨rfl,by show (1:Int)<=1;decide,by show (1:Int)<=8;decide⟩)) hc.tb hc.sc hc.rd hc.ol (by intro q;cases q) rfl hw (by rw [vl1 rfl];exact h.back hi hv) (.inl ⟨rfl,rfl⟩) HandsR.none_
   . have heq:a.word=c.old:=Classical.not_not.1 hne
     rw [if_neg hne];rw [<- heq] at n0 n1 hv ⊢;by_cases hfree:(wd a.word).L=false/\(wd a.word).S=false
     . rw [if_pos hfree]
       obtain⟨hL,hS⟩:=hfree;have q:=h.got hi hv hL hS;have ew:({ L:=(wd a.word).L||!(wd a.word).S,K:=(wd a.word).K&&!c.aw,S:=(wd a.word).S||(c.st&&(wd a.word).L),n:=if (wd a.word).L||(wd a.word).S then (wd a.word).n+1 else (wd a.word).n }:Wd)={ (wd a.word) with L:=true,K:=(wd a.word).K&&!c.aw }:=by
        rw [hL,hS];congr 1<;>simp [hS]
       rw [ew];refine step_over hc hg (okW_un hwn.1 hwn.2) (by rw [mx_un];exact q) (.inr (.inl ⟨rfl,hL,by show (wd (un _)).L=_;rw [wd_un]⟩)) ?_;show HandsR _ _ _ _ (wd a.word).S (wd (un _)).S;rw [wd_un];exact HandsR.same (λ q=>by rw [hS] at q;cases q) (λ q=>by rw [hS] at q;cases q)
     . rw [if_neg hfree]
       have hLS:(wd a.word).L=true\/(wd a.word).S=true:=by
        cases e1:(wd a.word).L
        . cases e2:(wd a.word).S
          . exact absurd ⟨e1,e2⟩ hfree
          . exact .inr rfl
        . exact .inl rfl
       have q:=h.wait hi hv hLS;have ew:({ L:=(wd a.word).L||!(wd a.word).S,K:=(wd a.word).K&&!c.aw,S:=(wd a.word).S||(c.st&&(wd a.word).L),n:=if (wd a.word).L||(wd a.word).S then (wd a.word).n+1 else (wd a.word).n }:Wd)={ L:=(wd a.word).L,K:=(wd a.word).K&&!c.aw,S:=(wd a.word).S||(c.st&&(wd a.word).L),n:=(wd a.word).n+1 }:=by
        rcases hLS with e | e<;>rw [e]<;>congr 1<;>simp
       have hn8:(wd a.word).n+1<268435456:=by omega
       rw [ew];refine step_go hc hg ha (by decide) rfl hc.pm (.inl hg) (.inr (.inl ⟨rfl,by show (1:Int)<=3;decide,by show (3:Int)<=8;decide⟩)) hc.tb ?_ hc.rd hw (by intro q;cases q) rfl (okW_un (by show 0<=(wd a.word).n+1;omega) hn8) (by rw [vl3 rfl,mx_un];exact q) (.inl ⟨rfl,by show (wd (un _)).L=_;rw [wd_un]⟩) ?_
       . show (if c.since=-1 then now else c.since)=-1\/(0<=(if c.since=-1 then now else c.since)/\(if c.since=-1 then now else c.since)<=4611686018427387904)
         split
         . exact .inr hnow
         . exact hc.sc
       . show HandsR none 0 c.pc c.st (wd a.word).S (wd (un _)).S
         rw [wd_un];refine⟨λ e1 e2=>⟨rfl,hpc,?_⟩,λ e1 e2=>?_,λ _ q=>(by cases q),λ _ q=>(by cases q)⟩
         . dsimp only at e2
           rw [e1] at e2;cases e3:c.st
           . rw [e3] at e2;simp at e2
           . rfl
         . dsimp only at e2
           rw [e1] at e2;simp at e2
theorem lock_any (hN:N<=8) (hi:i<N) (h:Inv N (mx a) v) (hw:OkW a.word) (hc:CInv p c) (hg:c.gst=0) (ha:p[c.act.toNat]?=some (0,(m:Int))) (hv:v i=vwp p c m) (hnow:0<=now/\now<=4611686018427387904):∃ o,lock now run p.length i c a=.ok o/\StepOk N i m p 0 c a v o:=by
 have hp:=hc.pcs 0 m ha;have:c.pc=0\/c.pc=1\/c.pc=2\/c.pc=3\/c.pc=4\/c.pc=5\/c.pc=6\/c.pc=7\/c.pc=8:=by
  rcases hp with e | ⟨_,e1,e2⟩ | ⟨e,_⟩ | ⟨e,_⟩<;>omega
 rcases this with e | e | e | e | e | e | e | e | e
 . exact lock_start hN hi h hw hc hg ha hv e
 . exact lock_load hN hi h hw hc hg ha hv e
 . exact lock_want hN hi h hw hc hg ha hv hnow e
 . exact lock_draw hN hi h hw hc hg ha hv e
 . exact lock_turn hN hi h hw hc hg ha hv e
 . exact lock_sema hN hi h hw hc hg ha hv e
 . exact lock_serve hN hi h hw hc hg ha hv e
 . exact lock_woken hN hi h hw hc hg ha hv e
 . exact lock_handed hN hi h hw hc hg ha hv e
theorem try_any (hN:N<=8) (hi:i<N) (h:Inv N (mx a) v) (hw:OkW a.word) (hc:CInv p c) (hg:c.gst=0) (ha:p[c.act.toNat]?=some (1,(m:Int))) (hv:v i=vwp p c m):∃ o,try_ p.length c a=.ok o/\StepOk N i m p 1 c a v o:=by
 have hp:=hc.pcs 1 m ha;have hwn:=hw.n;have:c.pc=0\/c.pc=9:=by
  rcases hp with e | ⟨e,_⟩ | ⟨_,e⟩ | ⟨e,_⟩<;>omega
 unfold try_;rcases this with hpc | hpc
 . have hv:v i=.out:=hv.trans (vwp_start hpc)
   rw [if_neg (by rw [hpc];decide)];by_cases hb:(wd a.word).L=true\/(wd a.word).S=true
   . rw [if_pos hb]
     exact step_over hc hg hw (by rw [show V.out=v i from hv.symm,upd_self];exact h) (.inr (.inr (.inr (.inl ⟨rfl,rfl⟩)))) (HandsR.same (λ _ q=>by cases q) (λ _ q=>by cases q))
   . rw [if_neg hb]
     exact step_go hc hg ha (by decide) rfl hc.pm (.inl hg) (.inr (.inr (.inl ⟨rfl,rfl⟩))) hc.tb hc.sc hc.rd hw (by intro q;cases q) rfl hw (by rw [vt9 rfl];exact h.tries hi hv) (.inl ⟨rfl,rfl⟩) HandsR.none_ (λ _=>⟨by cases e:(wd a.word).L;rfl;exact absurd (.inl e) hb,by cases e:(wd a.word).S;rfl;exact absurd (.inr e) hb⟩)
 . have hv:v i=.trying:=by rw [hv,vwp_at ha,vt9 hpc]
   rw [if_pos hpc];by_cases hne:a.word≠c.old
   . rw [if_pos hne]
     exact step_over hc hg hw (h.fails hi hv) (.inr (.inr (.inr (.inl ⟨rfl,rfl⟩)))) (HandsR.same (λ _ q=>by cases q) (λ _ q=>by cases q))
   . have heq:a.word=c.old:=Classical.not_not.1 hne
     obtain⟨hL,hS⟩:=hc.tr hpc;rw [<- heq] at hL hS;rw [if_neg hne];refine step_over hc hg (okW_un hwn.1 hwn.2) (by rw [mx_un];exact h.tried hi hv hS) (.inr (.inr (.inl ⟨rfl,hL,by show (wd (un _)).L=_;rw [wd_un]⟩))) ?_;show HandsR _ _ _ _ (wd a.word).S (wd (un _)).S;rw [wd_un];exact HandsR.same (λ q=>by rw [hS] at q;cases q) (λ q=>by rw [hS] at q;cases q)
theorem give_any (hN:N<=8) (hi:i<N) (h:Inv N (mx a) v) (hw:OkW a.word) (hc:CInv p c) (hg:c.gst=0) (ha:p[c.act.toNat]?=some (2,(m:Int))) (hv:v i=vwp p c m):(give p.length c a=.fault/\(wd a.word).L=false/\c.pc=0)\/∃ o,give p.length c a=.ok o/\StepOk N i m p 2 c a v o:=by
 have hp:=hc.pcs 2 m ha;have hwn:=hw.n;have t3:(a.nx-a.sv) % 4294967296=cnt isT v N:=h.T.t3;have hle:=cnt_le (p:=isT) (v:=v) (N:=N);have:c.pc=0\/c.pc=10\/c.pc=11\/c.pc=12\/c.pc=13\/c.pc=14\/c.pc=15:=by
  rcases hp with e | ⟨e,_⟩ | ⟨e,_⟩ | ⟨_,e1,e2⟩<;>omega
 unfold give;rcases this with hpc | hpc | hpc | hpc | hpc | hpc | hpc
 . have hv:v i=.out:=hv.trans (vwp_start hpc)
   rw [if_pos hpc];unfold unlock;cases hL:(wd a.word).L
   . exact .inl ⟨by rw [if_pos rfl],rfl,hpc⟩
   . refine .inr ?_
     rw [if_neg (by decide)];dsimp only;have el:=wd_less hL;have em:mx { a with word:=a.word-1 }={ mx a with w:={ (wd a.word) with L:=false } }:=by
      show (⟨wd (a.word-1),a.nx,a.sv,a.c,a.l⟩:Mx)=_;rw [el];rfl
     have ow:OkW (a.word-1):=by
      have q:=of_decide_eq_true (show decide (a.word % 2=1)=true from hL);have:=hw.1;have:=hw.2;exact⟨by omega,by omega⟩
     have heL:(wd (a.word-1)).L=false:=by rw [el]
     have heS:(wd (a.word-1)).S=(wd a.word).S:=by rw [el]
     have hh:HandsR (some 3) 2 c.pc c.st (wd a.word).S (wd (a.word-1)).S:=by
      rw [heS];exact HandsR.same (λ _ q=>by cases q) (λ _ q=>by cases q)
     by_cases h0:a.word-1=0
     . rw [if_pos h0]
       have hz:wd (a.word-1)=⟨false,false,false,0⟩:=by rw [h0,wd0]
       rw [el] at hz;exact step_over hc hg ow (by rw [em];exact h.gives hi hv hL (.inl ⟨rfl,by show ¬ wakes { (wd a.word) with L:=false };rw [hz];intro q;have:=q.2.2.2;simp at this,by show (wd a.word).S=false;rw [<- heS,h0,wd0]⟩)) (.inr (.inr (.inr (.inr ⟨rfl,hL,heL⟩)))) hh
     . rw [if_neg h0,heS]
       by_cases hS:(wd a.word).S=true
       . rw [if_pos hS]
         exact step_go hc hg ha (by decide) rfl hc.pm (.inl hg) (.inr (.inr (.inr ⟨rfl,by show (10:Int)<=12;decide,by show (12:Int)<=15;decide⟩))) hc.tb hc.sc hc.rd hc.ol (by intro q;cases q) rfl ow (by rw [vg12 rfl,em];exact h.gives hi hv hL (.inr (.inl ⟨rfl,hS⟩))) (.inr (.inr (.inr (.inr ⟨rfl,hL,heL⟩)))) hh
       . have hS':(wd a.word).S=false:=by cases e:(wd a.word).S;rfl;exact absurd e hS
         rw [if_neg hS];exact step_go hc hg ha (by decide) rfl hc.pm (.inl hg) (.inr (.inr (.inr ⟨rfl,by show (10:Int)<=10;decide,by show (10:Int)<=15;decide⟩))) hc.tb hc.sc hc.rd ow (by intro q;cases q) rfl ow (by rw [vg10 rfl,em];show Inv N _ (upd v i (.give (wd (a.word-1))));rw [el];exact h.gives hi hv hL (.inr (.inr ⟨rfl,hS'⟩))) (.inr (.inr (.inr (.inr ⟨rfl,hL,heL⟩)))) hh
 all_goals refine .inr ?_
 . have hv:v i=.give (wd c.old):=by rw [hv,vwp_at ha,vg10 hpc]
   have on:=hc.ol.n;rw [if_neg (by rw [hpc];decide),if_pos hpc];unfold let_;dsimp only;by_cases hwk:(wd c.old).L=false/\(wd c.old).K=false/\(wd c.old).S=false/\(wd c.old).n≠0
   . have hwk':wakes (wd c.old):=⟨hwk.1,hwk.2.1,hwk.2.2.1,by have:=hwk.2.2.2;omega⟩
     rw [if_neg (λ q=>q hwk)];by_cases heq:a.word=c.old
     . rw [if_pos heq]
       rw [<- heq] at hwk' on hwk ⊢;have n1:=hwk'.2.2.2;exact step_go hc hg ha (by decide) rfl hc.pm (.inl hg) (.inr (.inr (.inr ⟨rfl,by show (10:Int)<=12;decide,by show (12:Int)<=15;decide⟩))) hc.tb hc.sc hc.rd hw (by intro q;cases q) rfl (okW_un (by show 0<=(wd a.word).n-1;omega) (by show (wd a.word).n-1<_;omega)) (by rw [vg12 rfl,mx_un];exact h.wakes_ hi hv hwk') (.inl ⟨rfl,by show (wd (un _)).L=_;rw [wd_un,hwk.1]⟩) (by show HandsR none 2 c.pc c.st _ (wd (un _)).S;rw [wd_un,hwk.2.2.1];exact HandsR.none_)
     . rw [if_neg heq]
       exact step_go hc hg ha (by decide) rfl hc.pm (.inl hg) (.inr (.inr (.inr ⟨rfl,by show (10:Int)<=11;decide,by show (11:Int)<=15;decide⟩))) hc.tb hc.sc hc.rd hc.ol (by intro q;cases q) rfl hw (by rw [vg11 rfl];exact h.again hi hv) (.inl ⟨rfl,rfl⟩) HandsR.none_
   . rw [if_pos hwk]
     exact step_over hc hg hw (h.leaves hi hv (λ q=>hwk ⟨q.1,q.2.1,q.2.2.1,by have:=q.2.2.2;omega⟩)) (.inl ⟨rfl,rfl⟩) HandsR.none_
 . have hv:v i=.see:=by rw [hv,vwp_at ha,vg11 hpc]
   rw [if_neg (by rw [hpc];decide),if_neg (by rw [hpc];decide),if_pos hpc];exact step_go hc hg ha (by decide) rfl hc.pm (.inl hg) (.inr (.inr (.inr ⟨rfl,by show (10:Int)<=10;decide,by show (10:Int)<=15;decide⟩))) hc.tb hc.sc hc.rd hw (by intro q;cases q) rfl hw (by rw [vg10 rfl];exact h.sees hi hv) (.inl ⟨rfl,rfl⟩) HandsR.none_
 . have hv:v i=.draws:=by rw [hv,vwp_at ha,vg12 hpc]
   rw [if_neg (by rw [hpc];decide),if_neg (by rw [hpc];decide),if_neg (by rw [hpc];decide),if_pos hpc];unfold draw;rw [if_neg (by omega)];exact step_go hc hg ha (by decide) rfl hc.pm (.inl hg) (.inr (.inr (.inr ⟨rfl,by show (10:Int)<=13;decide,by show (13:Int)<=15;decide⟩))) h.T.nb hc.sc hc.rd hc.ol (by intro q;cases q) rfl hw (by rw [vg13 rfl];exact h.draws hN hi hv) (.inl ⟨rfl,rfl⟩) HandsR.none_
 . have hv:v i=.turns c.ticket:=by rw [hv,vwp_at ha,vg13 hpc]
   rw [if_neg (by rw [hpc];decide),if_neg (by rw [hpc];decide),if_neg (by rw [hpc];decide),if_neg (by rw [hpc];decide),if_pos hpc];unfold turn;by_cases ht:c.ticket=a.sv
   . rw [if_pos ht]
     exact step_go hc hg ha (by decide) rfl hc.pm (.inl hg) (.inr (.inr (.inr ⟨rfl,by show (10:Int)<=14;decide,by show (14:Int)<=15;decide⟩))) hc.tb hc.sc hc.rd hc.ol (by intro q;cases q) rfl hw (by rw [vg14 rfl];show Inv N (mx a) (upd v i (.grant c.ticket));rw [ht];exact h.grant hN hi (by rw [hv,ht];rfl)) (.inl ⟨rfl,rfl⟩) HandsR.none_
   . rw [if_neg ht]
     exact step_go hc hg ha (by decide) rfl hc.pm (.inl hg) (.inr (.inr (.inr ⟨rfl,by rw [hpc];decide,by rw [hpc];decide⟩))) hc.tb hc.sc hc.rd hc.ol (by show c.pc≠0;rw [hpc];decide) rfl hw
      (by
        have e:vw 2 (m:Int) { c with pc:=c.pc } m=v i:=by rw [hv];exact vg13 hpc
        rw [e,upd_self];exact h) (.inl ⟨rfl,rfl⟩) HandsR.none_ (λ q=>by have q:c.pc=9:=q;omega)
 . have hv:v i=.grant c.ticket:=by rw [hv,vwp_at ha,vg14 hpc]
   rw [if_neg (by rw [hpc];decide),if_neg (by rw [hpc];decide),if_neg (by rw [hpc];decide),if_neg (by rw [hpc];decide),if_neg (by rw [hpc];decide),if_pos hpc];unfold grant;have ci:CInv p { c with pc:=15 }:=hc.stay hg ha (by decide) rfl hc.pm (.inl hg) (.inr (.inr (.inr ⟨rfl,by show (10:Int)<=15;decide,by show (15:Int)<=15;decide⟩))) hc.tb hc.sc hc.rd hc.ol (by intro q;cases q) rfl
   cases hl:a.l with
   | nil =>
    dsimp only;have c1:a.c<=1:=by
     have hg0:=cnt_nonneg (p:=isG) (v:=v) (N:=N);have ha0:=cnt_nonneg (p:=isA) (v:=v) (N:=N);have hh0:=cnt_nonneg (p:=isH) (v:=v) (N:=N);have hW:=h.W;cases hS:(wd a.word).S
     . have q:cnt isG v N+a.c+cnt isA v N=b1 (wd a.word).K:=(hW.free hS).2.1
       rcases b1_cases (wd a.word).K with e | e<;>omega
     . obtain⟨q1,q2,q3,q4,q5⟩:=hW.starve hS
       cases hL:(wd a.word).L
       . have q:cnt isG v N+a.c+cnt isH v N=1:=q5 hL
         omega
       . have q:cnt isG v N+a.c=0:=(q4 hL).1
         omega
    rw [if_neg (by omega)];have q:=h.granted hi hv (show (mx a).l=[] from hl);rw [show (mx a).l=[] from hl] at q;exact step_go hc hg ha (by decide) rfl hc.pm (.inl hg) (.inr (.inr (.inr ⟨rfl,by show (10:Int)<=15;decide,by show (15:Int)<=15;decide⟩))) hc.tb hc.sc hc.rd hc.ol (by intro q;cases q) rfl hw (by rw [vg15 rfl];exact q) (.inl ⟨rfl,rfl⟩) HandsR.none_
   | cons y rest =>
    dsimp only;have hl':(mx a).l=y::rest:=hl;obtain⟨j,hj,ey,hne,hvj⟩:=h.next hi hv hl';subst ey;refine⟨_,rfl,ci,hw,.inr ⟨j,hj,hne,rfl,hvj,?_⟩,λ m' hm'=>?_,.inl ⟨rfl,rfl⟩,HandsR.none_⟩
    . rw [vwp_same (c':={ c with pc:=15 }) ha rfl,vg15 rfl]
      exact h.tells hi hv hj hne hvj hl'
    . rw [vwp_same (c':={ c with pc:=15 }) ha rfl];exact vw_far (by omega)
 . have hv:v i=.serves c.ticket:=by rw [hv,vwp_at ha,vg15 hpc]
   have hpos:=cnt_pos (p:=isT) (v:=v) hi (by rw [hv];rfl);rw [if_neg (by rw [hpc];decide),if_neg (by rw [hpc];decide),if_neg (by rw [hpc];decide),if_neg (by rw [hpc];decide),if_neg (by rw [hpc];decide),if_neg (by rw [hpc];decide),if_neg (by omega)];exact step_over hc hg hw (h.serves hN hi hv) (.inl ⟨rfl,rfl⟩) HandsR.none_
end
end P16
end
section
namespace P16
def Lk (w:Mw) (m:Nat):Bool:=(wd (w.cm m).word).L
def Sv (w:Mw) (m:Nat):Bool:=(wd (w.cm m).word).S
structure StpR (w:Mw) (who:Nat) (w':Mw) (ev:Option (Int×Int×Int)):Prop where
 inv:WInv w'
 pr:w'.progs=w.progs
 nw:w'.now=w.now
 still:w.stop≠0->w'=w/\ev=none
 kind:(ev=none/\w'.stop=w.stop/\∀ m,m<4->Lk w' m=Lk w m) \/
  (∃ n:Nat,n<4/\ev=some ((who:Int),4,(n:Int))/\w.stop=0/\w'={ w with stop:=11 }/\Lk w n=false) \/
  (∃ (n:Nat) (e:Int),n<4/\ev=some ((who:Int),e,(n:Int))/\w.stop=0/\w'.stop=0/\HeldR (some e) (Lk w n) (Lk w' n)/\∀ m,m≠n->w'.cm m=w.cm m)
 hands:(∀ m,m<4->w'.cm m=w.cm m)\/∃ c,w.cl[who]?=some c/\∀ m,m<4 ->
  (Sv w m=false->Sv w' m=true->c.pc=2/\c.st=true)/\(Sv w m=true->Sv w' m=false->c.pc=8) /\
  (∀ e,ev=some ((who:Int),e,(m:Int))->Sv w m=true->e≠1/\(e=0->c.pc=8))
section
variable {w:Mw} {who i m:Nat} {c:Cl} {p:List Ac}
theorem view_at (hc:w.cl[i]?=some c) (hp:w.progs[i]?=some p):view w m i=vwp p c m:=by unfold view;rw [hc,hp]
theorem StpR.same (h:WInv w) (he:w.stop≠0->True):StpR w who w none :=
 ⟨h,rfl,rfl,λ _=>⟨rfl,rfl⟩,.inl ⟨rfl,rfl,λ _ _=>rfl⟩,.inl λ _ _=>rfl⟩
theorem view_set (hi:who<w.cl.length) {c':Cl} {cm:Nat->Cm} (hp:w.progs[who]?=some p):view { w with cl:=w.cl.set who c',cm:=cm } m=upd (view w m) who (vwp p c' m):=by
 funext j;by_cases e:j=who
 . subst e
   rw [upd_at];unfold view;dsimp only;rw [zss hi,hp]
 . rw [upd_off e]
   unfold view;dsimp only;rw [zsn (λ q=>e q.symm)]
theorem stp_inv (h:WInv w) (who:Nat):StpR w who (stp w who).1 (stp w who).2:=by
 unfold stp
 cases hcw:w.cl[who]? with
 | none=>exact StpR.same h (λ _=>trivial)
 | some c =>
  have hlt:who<w.cl.length:=(zgl hcw);have hlt':who<w.progs.length:=by rw [<- h.len];exact hlt
  cases hpw:w.progs[who]? with
  | none=>exact absurd hpw (by rw [zge hlt'];intro q;cases q)
  | some p =>
   dsimp only;have hc:=h.ci who c p hcw hpw;by_cases hst:w.stop≠0\/c.gst≠0
   . rw [if_pos hst];exact StpR.same h (λ _=>trivial)
   . rw [if_neg hst]
     have hs0:w.stop=0:=Classical.not_not.1 λ q=>hst (.inl q)
     have hg:c.gst=0:=Classical.not_not.1 λ q=>hst (.inr q)
     cases hact:p[c.act.toNat]? with
     | none=>exact StpR.same h (λ _=>trivial)
     | some a =>
      obtain⟨k,n⟩:=a;dsimp only;have hok:=h.pr p (zmo hpw) (k,n) (zmo hact);by_cases hk3:k=3
      . rw [if_pos hk3]
        subst hk3;have cw:CInv p (work n p.length c)/\(work n p.length c).pc=0:=by
         unfold work;have hpc:c.pc=0:=by
          rcases hc.pcs 3 n hact with e | ⟨e,_⟩ | ⟨e,_⟩ | ⟨e,_⟩
          . exact e
          . cases e
          . cases e
          . cases e
         split
         . exact⟨(show CInv p (over { c with worked:=c.worked+1 } p.length) from hc.over hg),rfl⟩
         . rename_i hn
           refine⟨⟨hc.a0,hc.a1,hc.pm,hc.g,hc.dn,hc.pk,hc.pcs,hc.fin,hc.tb,hc.sc,hc.rd,hc.ol,hc.fr,.inr ⟨?_,n,hact,?_⟩,hc.tr⟩,hpc⟩
           . show 0<c.worked+1
             rcases hc.wk with e | ⟨e,_⟩<;>omega
           . show c.worked+1<n
             have n0:0<=n:=hok.2.1;have h1:n≠0:=λ q=>hn (.inl q)
             have h2:c.worked+1≠n:=λ q=>hn (.inr q)
             rcases hc.wk with e | ⟨e,n',e',e''⟩
             . omega
             . rw [hact] at e';cases e';omega
        have hv:∀ m,view { w with cl:=w.cl.set who (work n p.length c) } m=view w m:=λ m=>by
         have e:=view_set (m:=m) (c':=work n p.length c) (cm:=w.cm) hlt hpw;have e2:vwp p (work n p.length c) m=view w m who:=by
          rw [vwp_start cw.2,view_at hcw hpw,vwp_at hact];unfold vw
          split
          . rfl
          . rw [if_neg (by decide),if_neg (by decide),if_neg (by decide)]
         rw [e2,upd_self] at e;exact e
        refine⟨⟨by show (w.cl.set who _).length=_;rw [List.length_set];exact h.len,h.l8,h.pr,λ j c' p' hj hp'=>?_,h.ow,λ m hm=>?_,h.st,h.tm⟩,rfl,rfl,λ q=>absurd hs0 q,.inl ⟨rfl,rfl,λ _ _=>rfl⟩,.inl λ _ _=>rfl⟩
        . by_cases e:j=who
          . subst e
            rw [zss hlt] at hj;cases hj;rw [hpw] at hp';cases hp';exact cw.1
          . rw [zsn (λ q=>e q.symm)] at hj
            exact h.ci j c' p' hj hp'
        . rw [hv m];exact h.iv m hm
      . rw [if_neg hk3]
        have hn:0<=n/\n<4:=⟨hok.2.1,hok.2.2 hk3⟩;obtain⟨m,rfl⟩:∃ m:Nat,n=(m:Int):=⟨n.toNat,by omega⟩;have hm:m<4:=by omega
        rw [Int.toNat_natCast];have hiv:=h.iv m hm;have how:=h.ow m hm;have hvi:view w m who=vwp p c m:=view_at hcw hpw;have hres:(touch w.now (runs w.cl) p.length who k c (w.cm m)=.fault/\Lk w m=false)\/∃ o,touch w.now (runs w.cl) p.length who k c (w.cm m)=.ok o/\StepOk w.progs.length who m p k c (w.cm m) (view w m) o:=by
         unfold touch;rcases hok.1 with e | e | e | e
         . have e:k=0:=e
           subst e;rw [if_pos rfl];exact .inr (lock_any h.l8 hlt' hiv how hc hg hact hvi h.tm)
         . have e:k=1:=e
           subst e;rw [if_neg (by decide),if_pos rfl];exact .inr (try_any h.l8 hlt' hiv how hc hg hact hvi)
         . have e:k=2:=e
           subst e;rw [if_neg (by decide),if_neg (by decide)];rcases give_any h.l8 hlt' hiv how hc hg hact hvi with ⟨e1,e2,_⟩ | q
           . exact .inl ⟨e1,e2⟩
           . exact .inr q
         . exact absurd e hk3
        rcases hres with ⟨hf,hL⟩ | ⟨o,ho,hs⟩
        . rw [hf]
          refine⟨⟨h.len,h.l8,h.pr,h.ci,h.ow,h.iv,.inr rfl,h.tm⟩,rfl,rfl,λ q=>absurd hs0 q,.inr (.inl ⟨m,hm,rfl,hs0,rfl,hL⟩),.inl λ _ _=>rfl⟩
        . rw [ho]
          dsimp only;have hcm:∀ m',(if m'=m then o.m else w.cm m')=if m'=m then o.m else w.cm m':=λ _=>rfl
          have kindR:∀ w':Mw,w'.stop=w.stop->(∀ m',w'.cm m'=if m'=m then o.m else w.cm m') ->
           (o.ev.map (λ e=>((who:Int),e,(m:Int)))=none/\w'.stop=w.stop/\∀ m',m'<4->Lk w' m'=Lk w m') \/
           (∃ n:Nat,n<4/\o.ev.map (λ e=>((who:Int),e,(m:Int)))=some ((who:Int),4,(n:Int))/\w.stop=0/\w'={ w with stop:=11 }/\Lk w n=false) \/
           (∃ (n:Nat) (e:Int),n<4/\o.ev.map (λ e=>((who:Int),e,(m:Int)))=some ((who:Int),e,(n:Int))/\w.stop=0/\w'.stop=0/\HeldR (some e) (Lk w n) (Lk w' n)/\∀ m',m'≠n->w'.cm m'=w.cm m'):=λ w' hw1 hw2=>by
           have hL':Lk w' m=(wd o.m.word).L:=by unfold Lk;rw [hw2,if_pos rfl]
           cases hev:o.ev with
           | none =>
            refine .inl ⟨rfl,hw1,λ m' _=>?_⟩;by_cases e:m'=m
            . subst e
              rw [hL'];have q:=hs.he;rw [hev] at q;rcases q with ⟨_,q⟩ | ⟨q,_⟩ | ⟨q,_⟩ | ⟨q,_⟩ | ⟨q,_⟩
              . exact q
              all_goals cases q
            . unfold Lk;rw [hw2,if_neg e]
           | some e =>
            refine .inr (.inr ⟨m,e,hm,rfl,hs0,by rw [hw1,hs0],?_,λ m' hne=>by rw [hw2,if_neg hne]⟩);rw [hL',<- hev];exact hs.he
          have handsR:∀ w':Mw,(∀ m',w'.cm m'=if m'=m then o.m else w.cm m')->∃ c,w.cl[who]?=some c/\∀ m',m'<4 ->
           (Sv w m'=false->Sv w' m'=true->c.pc=2/\c.st=true)/\(Sv w m'=true->Sv w' m'=false->c.pc=8) /\
           (∀ e,o.ev.map (λ e=>((who:Int),e,(m:Int)))=some ((who:Int),e,(m':Int))->Sv w m'=true->e≠1/\(e=0->c.pc=8)):=λ w' hw2=>by
           refine⟨c,hcw,λ m' _=>?_⟩;by_cases e:m'=m
           . subst e
             have hS':Sv w' m'=(wd o.m.word).S:=by unfold Sv;rw [hw2,if_pos rfl]
             obtain⟨q1,q2,q3,q4⟩:=hs.ha;refine⟨λ a b=>(q1 a (hS'▸b)).2,λ a b=>(q2 a (hS'▸b)).2,λ e he hS=>?_⟩
             cases hev:o.ev with
             | none=>rw [hev] at he;cases he
             | some e' =>
              rw [hev] at he;cases he;exact⟨λ q=>q3 hS (by rw [hev,q]),λ q=>(q4 hS (by rw [hev,q])).2⟩
           . have hS':Sv w' m'=Sv w m':=by unfold Sv;rw [hw2,if_neg e]
             refine⟨(λ a b=>by rw [hS',a] at b;cases b),(λ a b=>by rw [hS',a] at b;cases b),λ e' he _=>?_⟩
             cases hev:o.ev with
             | none=>rw [hev] at he;cases he
             | some e'' =>
              rw [hev] at he;injection he with he
              injection he with _ he
              injection he with _ he
              exact absurd (by omega) e
          have ciW:∀ (j:Nat) c' p',(w.cl.set who o.c)[j]?=some c'->w.progs[j]?=some p'->CInv p' c':=λ j c' p' hj hp'=>by
           by_cases e:j=who
           . subst e
             rw [zss hlt] at hj;cases hj;rw [hpw] at hp';cases hp';exact hs.ci
           . rw [zsn (λ q=>e q.symm)] at hj
             exact h.ci j c' p' hj hp'
          have owW:∀ m',m'<4->OkW (if m'=m then o.m else w.cm m').word:=λ m' hm'=>by
           by_cases e:m'=m
           . rw [if_pos e];exact hs.ow
           . rw [if_neg e];exact h.ow m' hm'
          rcases hs.iv with ⟨hr,hinv⟩ | ⟨j,hj,hne,hr,hvj,hinv⟩
          . rw [hr]
            dsimp only;refine⟨⟨by show (w.cl.set who _).length=_;rw [List.length_set];exact h.len,h.l8,h.pr,ciW,owW,λ m' hm'=>?_,h.st,h.tm⟩,rfl,rfl,λ q=>absurd hs0 q,kindR _ rfl (λ _=>rfl),.inr (handsR _ (λ _=>rfl))⟩;rw [view_set hlt hpw];show Inv w.progs.length (mx (if m'=m then o.m else w.cm m')) _;by_cases e:m'=m
            . subst e;rw [if_pos rfl];exact hinv
            . rw [if_neg e,hs.far m' e]
              have e2:view w m' who=.out:=by rw [view_at hcw hpw,vwp_at hact];exact vw_far (by omega)
              rw [<- e2,upd_self];exact h.iv m' hm'
          . have hjl:j<w.cl.length:=by rw [h.len];exact hj
            obtain⟨cj,hcj⟩:∃ cj,w.cl[j]?=some cj:=⟨_,zge hjl⟩;obtain⟨pj,hpj⟩:∃ pj,w.progs[j]?=some pj:=⟨_,zge hj⟩;have hcij:=h.ci j cj pj hcj hpj;rw [view_at hcj hpj] at hvj;have hvj0:=hvj;obtain⟨kj,nj,haj,hkj⟩:∃ kj nj,pj[cj.act.toNat]?=some (kj,nj)/\vw kj nj cj m=.wok true:=by
             unfold vwp at hvj
             cases haj:pj[cj.act.toNat]? with
             | none=>rw [haj] at hvj;cases hvj
             | some a=>rw [haj] at hvj;exact⟨a.1,a.2,rfl,hvj⟩
            obtain⟨rfl,rfl,hpcj,hgj⟩:nj=(m:Int)/\kj=0/\cj.pc=7/\cj.gst=1:=by
             unfold vw at hkj;by_cases h1:nj≠m
             . rw [if_pos h1] at hkj;cases hkj
             . rw [if_neg h1] at hkj
               by_cases h2:kj=0
               . rw [if_pos h2] at hkj
                 refine⟨Classical.not_not.1 h1,h2,?_⟩;by_cases h7:cj.pc=7
                 . rw [h7] at hkj
                   refine⟨h7,?_⟩;have hkj:V.wok (decide (cj.gst=1))=.wok true:=hkj;injection hkj with hkj
                   exact of_decide_eq_true hkj
                 . exfalso
                   revert hkj
                   split
                   . intro q;cases q
                   . split
                     . intro q;cases q
                     . split
                       . intro q;cases q
                       . split
                         . intro q;cases q
                         . split
                           . intro q;cases q
                           . split
                             . intro q;cases q
                             . split<;>(intro q;cases q)
               . rw [if_neg h2] at hkj
                 by_cases h3:kj=1
                 . rw [if_pos h3] at hkj;split at hkj<;>cases hkj
                 . rw [if_neg h3] at hkj
                   by_cases h4:kj=2
                   . rw [if_pos h4] at hkj
                     revert hkj
                     split
                     . intro q;cases q
                     . split
                       . intro q;cases q
                       . split
                         . intro q;cases q
                         . split
                           . intro q;cases q
                           . split
                             . intro q;cases q
                             . split<;>(intro q;cases q)
                   . rw [if_neg h4] at hkj;cases hkj
            rw [hr];dsimp only;have hget:(w.cl.set who o.c)[((j:Int)).toNat]?=some cj:=by
             rw [Int.toNat_natCast,zsn (λ q=>hne q.symm)];exact hcj
            have htold:told cj=some { cj with gst:=0 }:=by
             unfold told;rw [if_neg (by rw [hgj];rintro (q | ⟨q,_⟩)<;>cases q),if_neg (by rw [hgj];decide)]
            rw [hget];simp only [Option.bind_some,htold,Int.toNat_natCast];have hlj:j<(w.cl.set who o.c).length:=by rw [List.length_set];exact hjl
            have vj:∀ m',vwp pj { cj with gst:=0 } m'=if m'=m then .wok false else .out:=λ m'=>by
             rw [vwp_same (c':={ cj with gst:=0 }) haj rfl];by_cases e:m'=m
             . subst e;rw [if_pos rfl];exact vl7 (c:={ cj with gst:=0 }) hpcj
             . rw [if_neg e];exact vw_far (by omega)
            refine⟨⟨by show ((w.cl.set who _).set j _).length=_;rw [List.length_set,List.length_set];exact h.len,h.l8,h.pr,λ i c' p' hi hp'=>?_,owW,λ m' hm'=>?_,h.st,h.tm⟩,rfl,rfl,λ q=>absurd hs0 q,kindR _ rfl (λ _=>rfl),.inr (handsR _ (λ _=>rfl))⟩
            . by_cases e:i=j
              . subst e
                rw [zss hlj] at hi;cases hi;rw [hpj] at hp';cases hp';have ne:cj.act≠pj.length:=λ q=>by
                 have:=hcij.dn.2 q;omega
                exact⟨hcij.a0,hcij.a1,hcij.pm,.inl rfl,⟨λ q=>(by cases q),λ q=>absurd q ne⟩,λ q=>(by cases q),hcij.pcs,hcij.fin,hcij.tb,hcij.sc,hcij.rd,hcij.ol,hcij.fr,hcij.wk,hcij.tr⟩
              . rw [zsn (λ q=>e q.symm)] at hi
                exact ciW i c' p' hi hp'
            . have hvw:view { w with cl:=(w.cl.set who o.c).set j { cj with gst:=0 },cm:=λ j=>if j=m then o.m else w.cm j } m'=upd (upd (view w m') j (vwp pj { cj with gst:=0 } m')) who (vwp p o.c m'):=by
               have e1:=view_set (w:={ w with cl:=w.cl.set who o.c }) (who:=j) (m:=m') (c':={ cj with gst:=0 }) (cm:=λ j=>if j=m then o.m else w.cm j) (p:=pj) hlj hpj;have e2:=view_set (m:=m') (c':=o.c) (cm:=w.cm) hlt hpw;refine e1.trans ?_;have e2:view { w with cl:=w.cl.set who o.c } m'=upd (view w m') who (vwp p o.c m'):=e2;rw [e2];funext x;by_cases x1:x=who
               . subst x1;rw [upd_off (λ q=>hne q.symm),upd_at,upd_at]
               . by_cases x2:x=j
                 . subst x2;rw [upd_at,upd_off x1,upd_at]
                 . rw [upd_off x2,upd_off x1,upd_off x1,upd_off x2]
              rw [hvw,vj m'];show Inv w.progs.length (mx (if m'=m then o.m else w.cm m')) _;by_cases e:m'=m
              . subst e;rw [if_pos rfl,if_pos rfl];exact hinv
              . rw [if_neg e,if_neg e,hs.far m' e]
                have e2:view w m' who=.out:=by rw [view_at hcw hpw,vwp_at hact];exact vw_far (by omega)
                have e3:view w m' j=.out:=by rw [view_at hcj hpj,vwp_at haj];exact vw_far (by omega)
                have e4:upd (view w m') j .out=view w m':=by rw [<- e3];exact upd_self
                rw [e4,<- e2,upd_self];exact h.iv m' hm'
end
end P16
end
section
namespace P16
def actC (a:Ac):Int:=if a.1=0 then 12 else if a.1=1 then 2 else if a.1=2 then 16 else max 1 a.2
def restC:List Ac->Nat->Int
 | [],_=>0
 | a::l,0=>actC a+restC l 0
 | _::l,n+1=>restC l n
def nowC (k n:Int) (c:Cl):Int :=
 if k=3 then max 1 n-c.worked
 else if c.pc=0 then (if k=0 then 12 else if k=1 then 2 else 16)
 else if c.pc=1 then 11-c.rounds else if c.pc=2 then 11-c.rounds else if c.pc=3 then 6 else if c.pc=4 then 5 else if c.pc=5 then 4
 else if c.pc=6 then (if c.told=true then 13 else 3) else if c.pc=7 then (if c.gst=0 then 12 else 2) else if c.pc=8 then 1
 else if c.pc=9 then 1
 else if c.pc=10 then 15 else if c.pc=11 then 15 else if c.pc=12 then 14 else if c.pc=13 then 13 else if c.pc=14 then 12 else 1
def phi (p:List Ac) (c:Cl):Int :=
 match p[c.act.toNat]? with
 | some a=>restC p (c.act.toNat+1)+nowC a.1 a.2 c
 | none=>0
theorem restC_step {p:List Ac} {i:Nat} {a:Ac} (h:p[i]?=some a):restC p i=actC a+restC p (i+1):=by
 induction p generalizing i with
 | nil=>simp at h
 | cons b l ih =>
  cases i with
  | zero =>
   simp at h;subst h;cases l<;>rfl
  | succ i =>
   have h:l[i]?=some a:=by simpa using h
   exact ih h
theorem restC_end {p:List Ac} {i:Nat} (h:p.length<=i):restC p i=0:=by
 induction p generalizing i with
 | nil=>rfl
 | cons b l ih =>
  cases i with
  | zero=>simp at h
  | succ i=>exact ih (by simpa using h)
section
variable {p:List Ac} {c:Cl} {k n:Int} {a:Cm} {o:Out} {now:Int} {run:Nat} {who:Int}
theorem phi_at (h:p[c.act.toNat]?=some (k,n)):phi p c=restC p (c.act.toNat+1)+nowC k n c:=by unfold phi;rw [h]
theorem phi_over (hok:∀ a,a∈p->OkA a) (h0:0<=c.act):phi p (over c p.length)=restC p (c.act.toNat+1):=by
 have e:(over c p.length).act.toNat=c.act.toNat+1:=by show (c.act+1).toNat=_;omega
 unfold phi;rw [e]
 cases ha:p[c.act.toNat+1]? with
 | none =>
  dsimp only;rw [restC_end];exact List.getElem?_eq_none_iff.1 ha
 | some a =>
  dsimp only;rw [restC_step ha];have hk:=(hok a (zmo ha)).1;unfold nowC actC;have e1:(over c p.length).pc=0:=rfl;have e2:(over c p.length).worked=0:=rfl;rw [e1,e2];rcases hk with q | q | q | q<;>rw [q]<;>simp<;>omega
def dist (k:Int) (c:Cl) (a:Cm):Option Nat :=
 if k=0/\c.pc=1 then some 2
 else if k=0/\c.pc=2 then (if a.word=c.old then some 1 else some 3)
 else if k=0/\c.pc=4 then (if c.ticket=a.sv then some 1 else none)
 else if k=2/\c.pc=10 then (if ((wd c.old).L=false/\(wd c.old).K=false/\(wd c.old).S=false/\(wd c.old).n≠0)/\a.word≠c.old then some 3 else some 1)
 else if k=2/\c.pc=11 then some 2
 else if k=2/\c.pc=13 then (if c.ticket=a.sv then some 1 else none)
 else some 1
def Less (p:List Ac) (k n:Int) (c:Cl) (a:Cm) (o:Out):Prop :=
 (phi p o.c+10*o.m.c+(if o.rdy.isSome then 10 else 0)+1<=phi p c+10*a.c) \/
 (o.m=a/\o.rdy=none/\o.ev=none/\phi p o.c=phi p c/\o.c.act=c.act/\o.c.gst=c.gst/\((∃ d,dist k c a=some (d+2)/\dist k o.c a=some (d+1))\/(dist k c a=none/\o.c=c)))
theorem phi_same {c':Cl} (ha:p[c.act.toNat]?=some (k,n)) (e:c'.act=c.act):phi p c'=restC p (c.act.toNat+1)+nowC k n c':=by unfold phi;rw [e,ha]
theorem lock_less (hok:∀ a,a∈p->OkA a) (hc:CInv p c) (hg:c.gst=0) (ha:p[c.act.toNat]?=some (0,n)) (h:lock now run p.length who c a=.ok o):Less p 0 n c a o:=by
 have hp:=hc.pcs 0 n ha;have hr:=hc.rd;have a0:=hc.a0;have hpm:=hc.pm;have e0:=phi_at ha;have PH:=λ (c':Cl) (e:c'.act=c.act)=>phi_same (c':=c') ha e
 have over_:=phi_over (c:=c) hok a0;have hpc:c.pc=0\/c.pc=1\/c.pc=2\/c.pc=3\/c.pc=4\/c.pc=5\/c.pc=6\/c.pc=7\/c.pc=8:=by
  rcases hp with e | ⟨_,e1,e2⟩ | ⟨e,_⟩ | ⟨e,_⟩<;>omega
 unfold lock at h;rcases hpc with q | q | q | q | q | q | q | q | q
 . rw [if_pos q] at h
   split at h
   . cases h
     left;simp only [over_,e0];simp [nowC,q];omega
   . cases h
     left;simp only [PH];simp [nowC,q];omega
 . rw [if_neg (by omega),if_pos q] at h
   cases h
   right
   refine⟨rfl,rfl,rfl,by simp only [PH];simp [nowC,q],rfl,rfl,.inl ⟨0,by simp [dist,q],by simp [dist]⟩⟩
 . rw [if_neg (by omega),if_neg (by omega),if_pos q] at h
   unfold want at h;dsimp only at h
   split at h
   . unfold round at h
     cases h
     left;simp only [PH];simp [nowC,q];omega
   . split at h
     . cases h
     . split at h
       . rename_i hne
         cases h
         right
         refine⟨rfl,rfl,rfl,by simp only [PH];simp [nowC,q],rfl,rfl,.inl ⟨1,by simp [dist,q,hne],by simp [dist]⟩⟩
       . split at h
         . cases h
           left;simp only [over_,e0];simp [nowC,q];omega
         . cases h
           left;simp only [PH];simp [nowC,q];omega
 . rw [if_neg (by omega),if_neg (by omega),if_neg (by omega),if_pos q] at h
   unfold draw at h
   split at h
   . cases h
   . cases h
     left;simp only [PH];simp [nowC,q];omega
 . rw [if_neg (by omega),if_neg (by omega),if_neg (by omega),if_neg (by omega),if_pos q] at h
   unfold turn at h;by_cases ht:c.ticket=a.sv
   . rw [if_pos ht] at h
     cases h
     left;simp only [PH];simp [nowC,q];omega
   . rw [if_neg ht] at h
     cases h
     right
     refine⟨rfl,rfl,rfl,rfl,rfl,rfl,.inr ⟨by simp [dist,q,ht],rfl⟩⟩
 . rw [if_neg (by omega),if_neg (by omega),if_neg (by omega),if_neg (by omega),if_neg (by omega),if_pos q] at h
   unfold ask at h
   split at h
   . cases h
   . split at h
     . cases h
       left;simp only [PH];simp [nowC,q];omega
     . split at h
       . cases h
       . cases h
         left;simp only [PH];simp [nowC,q];omega
 . rw [if_neg (by omega),if_neg (by omega),if_neg (by omega),if_neg (by omega),if_neg (by omega),if_neg (by omega),if_pos q] at h
   unfold rest at h;dsimp only at h
   split at h
   . cases h
   . split at h
     . rename_i ht
       cases h
       left;simp only [PH];simp [nowC,q,ht,hg];omega
     . rename_i ht
       cases h
       left;simp only [PH];simp [nowC,q,ht,hpm];omega
 . rw [if_neg (by omega),if_neg (by omega),if_neg (by omega),if_neg (by omega),if_neg (by omega),if_neg (by omega),if_neg (by omega),if_pos q] at h
   unfold woken at h;dsimp only at h
   split at h
   . cases h
     left;simp only [PH];simp [nowC,q,hg];omega
   . cases h
     left;simp only [PH];simp [nowC,q,hg];omega
 . rw [if_neg (by omega),if_neg (by omega),if_neg (by omega),if_neg (by omega),if_neg (by omega),if_neg (by omega),if_neg (by omega),if_neg (by omega)] at h
   unfold handed at h
   split at h
   . cases h
   . split at h
     . cases h
       left;simp only [over_,e0];simp [nowC,q];omega
     . cases h
theorem try_less (hok:∀ a,a∈p->OkA a) (hc:CInv p c) (ha:p[c.act.toNat]?=some (1,n)) (h:try_ p.length c a=.ok o):Less p 1 n c a o:=by
 have hp:=hc.pcs 1 n ha;have a0:=hc.a0;have e0:=phi_at ha;have PH:=λ (c':Cl) (e:c'.act=c.act)=>phi_same (c':=c') ha e
 have over_:=phi_over (c:=c) hok a0;have hpc:c.pc=0\/c.pc=9:=by
  rcases hp with e | ⟨e,_⟩ | ⟨_,e⟩ | ⟨e,_⟩<;>omega
 unfold try_ at h;rcases hpc with q | q
 . rw [if_neg (by omega)] at h
   split at h
   . cases h
     left;simp only [over_,e0];simp [nowC,q];omega
   . cases h
     left;simp only [PH];simp [nowC,q];omega
 . rw [if_pos q] at h
   split at h
   . cases h
     left;simp only [over_,e0];simp [nowC,q];omega
   . cases h
     left;simp only [over_,e0];simp [nowC,q];omega
theorem give_less (hok:∀ a,a∈p->OkA a) (hc:CInv p c) (ha:p[c.act.toNat]?=some (2,n)) (h:give p.length c a=.ok o):Less p 2 n c a o:=by
 have hp:=hc.pcs 2 n ha;have a0:=hc.a0;have e0:=phi_at ha;have PH:=λ (c':Cl) (e:c'.act=c.act)=>phi_same (c':=c') ha e
 have over_:=phi_over (c:=c) hok a0;have hpc:c.pc=0\/c.pc=10\/c.pc=11\/c.pc=12\/c.pc=13\/c.pc=14\/c.pc=15:=by
  rcases hp with e | ⟨e,_⟩ | ⟨e,_⟩ | ⟨_,e1,e2⟩<;>omega
 unfold give at h;rcases hpc with q | q | q | q | q | q | q
 . rw [if_pos q] at h
   unfold unlock at h;dsimp only at h
   split at h
   . cases h
   . split at h
     . cases h
       left;simp only [over_,e0];simp [nowC,q];omega
     . split at h
       . cases h
         left;simp only [PH];simp [nowC,q];omega
       . cases h
         left;simp only [PH];simp [nowC,q];omega
 . rw [if_neg (by omega),if_pos q] at h
   unfold let_ at h;dsimp only at h
   split at h
   . cases h
     left;simp only [over_,e0];simp [nowC,q];omega
   . rename_i hw
     have hw:=Classical.not_not.1 hw
     split at h
     . cases h
       left;simp only [PH];simp [nowC,q];omega
     . rename_i hne
       cases h
       right
       refine⟨rfl,rfl,rfl,by simp only [PH];simp [nowC,q],rfl,rfl,.inl ⟨1,?_,by simp [dist]⟩⟩;unfold dist;rw [if_neg (by omega),if_neg (by omega),if_neg (by omega),if_pos ⟨rfl,q⟩,if_pos ⟨hw,hne⟩]
 . rw [if_neg (by omega),if_neg (by omega),if_pos q] at h
   cases h
   right
   refine⟨rfl,rfl,rfl,by simp only [PH];simp [nowC,q],rfl,rfl,.inl ⟨0,by simp [dist,q],by simp [dist]⟩⟩
 . rw [if_neg (by omega),if_neg (by omega),if_neg (by omega),if_pos q] at h
   unfold draw at h
   split at h
   . cases h
   . cases h
     left;simp only [PH];simp [nowC,q];omega
 . rw [if_neg (by omega),if_neg (by omega),if_neg (by omega),if_neg (by omega),if_pos q] at h
   unfold turn at h;by_cases ht:c.ticket=a.sv
   . rw [if_pos ht] at h
     cases h
     left;simp only [PH];simp [nowC,q];omega
   . rw [if_neg ht] at h
     cases h
     right
     refine⟨rfl,rfl,rfl,rfl,rfl,rfl,.inr ⟨by simp [dist,q,ht],rfl⟩⟩
 . rw [if_neg (by omega),if_neg (by omega),if_neg (by omega),if_neg (by omega),if_neg (by omega),if_pos q] at h
   unfold grant at h
   split at h
   . cases h
     left;simp only [PH];simp [nowC,q];omega
   . split at h
     . cases h
     . cases h
       left;simp only [PH];simp [nowC,q];omega
 . rw [if_neg (by omega),if_neg (by omega),if_neg (by omega),if_neg (by omega),if_neg (by omega),if_neg (by omega)] at h
   split at h
   . cases h
   . cases h
     left;simp only [over_,e0];simp [nowC,q];omega
theorem touch_less (hok:∀ a,a∈p->OkA a) (hc:CInv p c) (hg:c.gst=0) (ha:p[c.act.toNat]?=some (k,n)) (hk:k≠3) (h:touch now run p.length who k c a=.ok o):Less p k n c a o:=by
 have hkk:=(hok _ (zmo ha)).1;unfold touch at h;rcases hkk with e | e | e | e
 . have e:k=0:=e
   subst e;rw [if_pos rfl] at h;exact lock_less hok hc hg ha h
 . have e:k=1:=e
   subst e;rw [if_neg (by decide),if_pos rfl] at h;exact try_less hok hc ha h
 . have e:k=2:=e
   subst e;rw [if_neg (by decide),if_neg (by decide)] at h;exact give_less hok hc ha h
 . exact absurd e hk
theorem work_less (hok:∀ a,a∈p->OkA a) (hc:CInv p c) (ha:p[c.act.toNat]?=some (3,n)):phi p (work n p.length c)+1<=phi p c:=by
 have a0:=hc.a0;have e0:=phi_at ha;have PH:=λ (c':Cl) (e:c'.act=c.act)=>phi_same (c':=c') ha e
 have n0:0<=n:=(hok _ (zmo ha)).2.1;have over_:=phi_over (c:={ c with worked:=c.worked+1 }) hok a0;have hw:c.worked=0\/(0<c.worked/\c.worked<n):=by
  rcases hc.wk with e | ⟨e,n',e',e''⟩
  . exact .inl e
  . rw [ha] at e';cases e';exact .inr ⟨e,e''⟩
 unfold work
 split
 . rename_i h
   rw [over_,e0];simp [nowC];omega
 . rw [phi_same (c':={ c with worked:=c.worked+1 }) ha rfl,e0]
   simp [nowC];omega
end
end P16
end
namespace P16
inductive Way (w:Mw) (who:Nat):Prop where
 | still (h:stp w who=(w,none)) (hn:w.stop=0->∀ c,w.cl[who]?=some c->c.gst≠0)
 | work (c:Cl) (p:List Ac) (n:Int) (hs:w.stop=0) (hc:w.cl[who]?=some c) (hp:w.progs[who]?=some p) (hg:c.gst=0) (ha:p[c.act.toNat]?=some (3,n)) (hpc:c.pc=0)
  (h:stp w who=({ w with cl:=w.cl.set who (work n p.length c) },none))
 | fault (c:Cl) (p:List Ac) (m:Nat) (hs:w.stop=0) (hc:w.cl[who]?=some c) (hp:w.progs[who]?=some p) (hg:c.gst=0) (ha:p[c.act.toNat]?=some (2,(m:Int))) (hm:m<4) (hpc:c.pc=0) (hL:Lk w m=false)
  (h:stp w who=({ w with stop:=11 },some ((who:Int),4,(m:Int))))
 | alone (c:Cl) (p:List Ac) (k:Int) (m:Nat) (o:Out) (hs:w.stop=0) (hc:w.cl[who]?=some c) (hp:w.progs[who]?=some p) (hg:c.gst=0) (ha:p[c.act.toNat]?=some (k,(m:Int))) (hk:k≠3) (hm:m<4)
  (ht:touch w.now (runs w.cl) p.length who k c (w.cm m)=.ok o) (hso:StepOk w.progs.length who m p k c (w.cm m) (view w m) o) (hr:o.rdy=none)
  (h:stp w who=({ w with cl:=w.cl.set who o.c,cm:=λ j=>if j=m then o.m else w.cm j },o.ev.map λ e=>((who:Int),e,(m:Int))))
 | tells (c:Cl) (p:List Ac) (k:Int) (m:Nat) (o:Out) (j:Nat) (cj:Cl) (pj:List Ac) (hs:w.stop=0) (hc:w.cl[who]?=some c) (hp:w.progs[who]?=some p) (hg:c.gst=0) (ha:p[c.act.toNat]?=some (k,(m:Int))) (hk:k≠3) (hm:m<4)
  (ht:touch w.now (runs w.cl) p.length who k c (w.cm m)=.ok o) (hso:StepOk w.progs.length who m p k c (w.cm m) (view w m) o) (hr:o.rdy=some (j:Int)) (hne:j≠who) (hcj:w.cl[j]?=some cj) (hpj:w.progs[j]?=some pj)
  (haj:pj[cj.act.toNat]?=some (0,(m:Int))) (hpcj:cj.pc=7) (hgj:cj.gst=1)
  (h:stp w who=({ w with cl:=(w.cl.set who o.c).set j { cj with gst:=0 },cm:=λ j=>if j=m then o.m else w.cm j },o.ev.map λ e=>((who:Int),e,(m:Int))))
theorem parked_of {p:List Ac} {c:Cl} {m:Nat} (hv:vwp p c m=.wok true):p[c.act.toNat]?=some (0,(m:Int))/\c.pc=7/\c.gst=1:=by
 unfold vwp at hv
 cases ha:p[c.act.toNat]? with
 | none=>rw [ha] at hv;cases hv
 | some a =>
  rw [ha] at hv;obtain⟨k,n⟩:=a;replace hv:vw k n c m=.wok true:=hv;unfold vw at hv;by_cases h1:n≠m
  . rw [if_pos h1] at hv;cases hv
  . rw [if_neg h1] at hv
    have h1:=Classical.not_not.1 h1;by_cases h2:k=0
    . rw [if_pos h2] at hv
      subst h1 h2;refine⟨rfl,?_⟩;by_cases h7:c.pc=7
      . rw [h7] at hv
        refine⟨h7,?_⟩;have hv:V.wok (decide (c.gst=1))=.wok true:=hv;injection hv with hv
        exact of_decide_eq_true hv
      . exfalso
        revert hv
        split
        . intro q;cases q
        . split
          . intro q;cases q
          . split
            . intro q;cases q
            . split
              . intro q;cases q
              . split
                . intro q;cases q
                . split
                  . intro q;cases q
                  . split<;>(intro q;cases q)
    . rw [if_neg h2] at hv
      by_cases h3:k=1
      . rw [if_pos h3] at hv;split at hv<;>cases hv
      . rw [if_neg h3] at hv
        by_cases h4:k=2
        . rw [if_pos h4] at hv
          revert hv
          split
          . intro q;cases q
          . split
            . intro q;cases q
            . split
              . intro q;cases q
              . split
                . intro q;cases q
                . split
                  . intro q;cases q
                  . split<;>(intro q;cases q)
        . rw [if_neg h4] at hv;cases hv
theorem stp_way {w:Mw} (h:WInv w) (who:Nat):Way w who:=by
 cases hcw:w.cl[who]? with
 | none=>exact .still (by unfold stp;rw [hcw]) (λ _ c q=>by rw [hcw] at q;cases q)
 | some c =>
  have hlt:who<w.cl.length:=(zgl hcw);have hlt':who<w.progs.length:=by rw [<- h.len];exact hlt
  obtain⟨p,hpw⟩:∃ p,w.progs[who]?=some p:=⟨_,zge hlt'⟩;have hc:=h.ci who c p hcw hpw;by_cases hst:w.stop≠0\/c.gst≠0
  . refine .still (by unfold stp;rw [hcw,hpw];dsimp only;rw [if_pos hst]) (λ q c' q'=>?_)
    rw [hcw] at q';cases q';rcases hst with e | e
    . exact absurd q e
    . exact e
  . have hs0:w.stop=0:=Classical.not_not.1 λ q=>hst (.inl q)
    have hg:c.gst=0:=Classical.not_not.1 λ q=>hst (.inr q)
    obtain⟨⟨k,n⟩,hact⟩:∃ a,p[c.act.toNat]?=some a:=⟨_,zge (hc.lt (by omega))⟩;have hok:=h.pr p (zmo hpw) (k,n) (zmo hact);by_cases hk3:k=3
    . subst hk3
      have hpc:c.pc=0:=by
       rcases hc.pcs 3 n hact with e | ⟨e,_⟩ | ⟨e,_⟩ | ⟨e,_⟩
       . exact e
       . cases e
       . cases e
       . cases e
      exact .work c p n hs0 hcw hpw hg hact hpc (by unfold stp;rw [hcw,hpw];dsimp only;rw [if_neg hst,hact];dsimp only;rw [if_pos rfl])
    . have hn:0<=n/\n<4:=⟨hok.2.1,hok.2.2 hk3⟩
      obtain⟨m,rfl⟩:∃ m:Nat,n=(m:Int):=⟨n.toNat,by omega⟩;have hm:m<4:=by omega
      have hiv:=h.iv m hm;have how:=h.ow m hm;have hvi:view w m who=vwp p c m:=view_at hcw hpw;have hres:(touch w.now (runs w.cl) p.length who k c (w.cm m)=.fault/\Lk w m=false/\k=2/\c.pc=0)\/∃ o,touch w.now (runs w.cl) p.length who k c (w.cm m)=.ok o/\StepOk w.progs.length who m p k c (w.cm m) (view w m) o:=by
       unfold touch;rcases hok.1 with e | e | e | e
       . have e:k=0:=e
         subst e;rw [if_pos rfl];exact .inr (lock_any h.l8 hlt' hiv how hc hg hact hvi h.tm)
       . have e:k=1:=e
         subst e;rw [if_neg (by decide),if_pos rfl];exact .inr (try_any h.l8 hlt' hiv how hc hg hact hvi)
       . have e:k=2:=e
         subst e;rw [if_neg (by decide),if_neg (by decide)];rcases give_any h.l8 hlt' hiv how hc hg hact hvi with ⟨e1,e2,e3⟩ | q
         . exact .inl ⟨e1,e2,rfl,e3⟩
         . exact .inr q
       . exact absurd e hk3
      rcases hres with ⟨hf,hL,rfl,hpc⟩ | ⟨o,ho,hs⟩
      . exact .fault c p m hs0 hcw hpw hg hact hm hpc hL (by unfold stp;rw [hcw,hpw];dsimp only;rw [if_neg hst,hact];dsimp only;rw [if_neg hk3,Int.toNat_natCast,hf])
      . rcases hs.iv with ⟨hr,hinv⟩ | ⟨j,hj,hne,hr,hvj,hinv⟩
        . exact .alone c p k m o hs0 hcw hpw hg hact hk3 hm ho hs hr (by
           unfold stp;rw [hcw,hpw];dsimp only;rw [if_neg hst,hact];dsimp only;rw [if_neg hk3,Int.toNat_natCast,ho];dsimp only;rw [hr])
        . have hjl:j<w.cl.length:=by rw [h.len];exact hj
          obtain⟨cj,hcj⟩:∃ cj,w.cl[j]?=some cj:=⟨_,zge hjl⟩;obtain⟨pj,hpj⟩:∃ pj,w.progs[j]?=some pj:=⟨_,zge hj⟩;rw [view_at hcj hpj] at hvj;obtain⟨haj,hpcj,hgj⟩:=parked_of hvj;have hget:(w.cl.set who o.c)[((j:Int)).toNat]?=some cj:=by
           rw [Int.toNat_natCast,zsn (λ q=>hne q.symm)];exact hcj
          have htold:told cj=some { cj with gst:=0 }:=by
           unfold told;rw [if_neg (by rw [hgj];rintro (q | ⟨q,_⟩)<;>cases q),if_neg (by rw [hgj];decide)]
          exact .tells c p k m o j cj pj hs0 hcw hpw hg hact hk3 hm ho hs hr hne hcj hpj haj hpcj hgj (by
           unfold stp;rw [hcw,hpw];dsimp only;rw [if_neg hst,hact];dsimp only;rw [if_neg hk3,Int.toNat_natCast,ho];dsimp only;rw [hr];dsimp only;rw [hget];simp only [Option.bind_some,htold,Int.toNat_natCast])
end P16
section
namespace P16
def hold (p:List Ac):Nat->Option Int
 | 0=>none
 | a+1=>match p[a]? with
  | some x=>if x.1=0 then some x.2 else if x.1=2 then none else hold p a
  | none=>hold p a
structure Tidy (p:List Ac):Prop where
 tr:∀ (a:Nat) (n:Int),p[a]?≠some (1,n)
 lk:∀ (a:Nat) (n:Int),p[a]?=some (0,n)->hold p a=none
 ul:∀ (a:Nat) (n:Int),p[a]?=some (2,n)->hold p a=some n
 fin:hold p p.length=none
def crit (p:List Ac) (c:Cl) (m:Nat):Prop:=hold p c.act.toNat=some (m:Int)/\¬ (∃ n,p[c.act.toNat]?=some (2,n)/\c.pc≠0)
def critW (w:Mw) (i m:Nat):Prop:=∃ c p,w.cl[i]?=some c/\w.progs[i]?=some p/\crit p c m
structure Own (w:Mw):Prop where
 td:∀ p,p∈w.progs->Tidy p
 iff:∀ m,m<4->(Lk w m=true↔∃ i,critW w i m)
 one:∀ m i j,m<4->critW w i m->critW w j m->i=j
theorem Own.step {w w':Mw} {who:Nat} (h:Own w) (hp:w'.progs=w.progs) (hoth:∀ i m,i≠who->(critW w' i m↔critW w i m))
 (hm:∀ m,m<4->((critW w' who m↔critW w who m)/\Lk w' m=Lk w m)\/(¬ critW w who m/\critW w' who m/\Lk w m=false/\Lk w' m=true)\/(critW w who m/\¬ critW w' who m/\Lk w m=true/\Lk w' m=false)):Own w':=by
 have hnone:∀ m,m<4->Lk w m=false->∀ i,¬ critW w i m:=λ m hm4 hL i q=>by
  have:=(h.iff m hm4).2 ⟨i,q⟩;rw [hL] at this;cases this
 refine⟨by rw [hp];exact h.td,λ m hm4=>?_,λ m i j hm4 hi hj=>?_⟩
 . rcases hm m hm4 with ⟨hs,hL⟩ | ⟨h1,h2,h3,h4⟩ | ⟨h1,h2,h3,h4⟩
   . rw [hL,h.iff m hm4]
     constructor
     . rintro⟨i,hi⟩
       by_cases e:i=who
       . subst e;exact⟨i,hs.2 hi⟩
       . exact⟨i,(hoth i m e).2 hi⟩
     . rintro⟨i,hi⟩
       by_cases e:i=who
       . subst e;exact⟨i,hs.1 hi⟩
       . exact⟨i,(hoth i m e).1 hi⟩
   . exact⟨λ _=>⟨who,h2⟩,λ _=>h4⟩
   . rw [h4]
     refine⟨(λ q=>by cases q),?_⟩;rintro⟨i,hi⟩;by_cases e:i=who
     . subst e;exact absurd hi h2
     . exact absurd (h.one m i who hm4 ((hoth i m e).1 hi) h1) e
 . rcases hm m hm4 with ⟨hs,hL⟩ | ⟨h1,h2,h3,h4⟩ | ⟨h1,h2,h3,h4⟩
   . have a:critW w i m:=by
      by_cases e:i=who
      . subst e;exact hs.1 hi
      . exact (hoth i m e).1 hi
     have b:critW w j m:=by
      by_cases e:j=who
      . subst e;exact hs.1 hj
      . exact (hoth j m e).1 hj
     exact h.one m i j hm4 a b
   . have a:i=who:=by
      by_cases e:i=who
      . exact e
      . exact absurd ((hoth i m e).1 hi) (hnone m hm4 h3 i)
     have b:j=who:=by
      by_cases e:j=who
      . exact e
      . exact absurd ((hoth j m e).1 hj) (hnone m hm4 h3 j)
     rw [a,b]
   . have a:i≠who:=λ e=>by subst e;exact h2 hi
     have b:=h.one m i who hm4 ((hoth i m a).1 hi) h1;exact absurd b a
section
variable {p:List Ac} {c:Cl} {k n:Int} {a:Cm} {o:Out} {now:Int} {run m:Nat} {who:Int}
theorem lock_ev (h:lock now run p.length who c a=.ok o):(o.ev=some 0/\o.c=over c p.length)\/(o.ev=none/\o.c.act=c.act):=by
 unfold lock at h
 split at h
 . split at h
   . cases h;exact .inl ⟨rfl,rfl⟩
   . cases h;exact .inr ⟨rfl,rfl⟩
 . split at h
   . cases h;exact .inr ⟨rfl,rfl⟩
   . split at h
     . unfold want at h
       dsimp only at h
       split at h
       . unfold round at h;cases h;exact .inr ⟨rfl,rfl⟩
       . split at h
         . cases h
         . split at h
           . cases h;exact .inr ⟨rfl,rfl⟩
           . split at h
             . cases h;exact .inl ⟨rfl,rfl⟩
             . cases h;exact .inr ⟨rfl,rfl⟩
     . split at h
       . unfold draw at h
         split at h
         . cases h
         . cases h;exact .inr ⟨rfl,rfl⟩
       . split at h
         . unfold turn at h;cases h;exact .inr ⟨rfl,rfl⟩
         . split at h
           . unfold ask at h
             split at h
             . cases h
             . split at h
               . cases h;exact .inr ⟨rfl,rfl⟩
               . split at h
                 . cases h
                 . cases h;exact .inr ⟨rfl,rfl⟩
           . split at h
             . unfold rest at h
               dsimp only at h
               split at h
               . cases h
               . split at h
                 . cases h;exact .inr ⟨rfl,rfl⟩
                 . cases h;exact .inr ⟨rfl,rfl⟩
             . split at h
               . unfold woken at h
                 dsimp only at h
                 split at h
                 . cases h;exact .inr ⟨rfl,rfl⟩
                 . cases h;exact .inr ⟨rfl,rfl⟩
               . unfold handed at h
                 split at h
                 . cases h
                 . split at h
                   . cases h;exact .inl ⟨rfl,rfl⟩
                   . cases h
theorem give_ev (hc:CInv p c) (ha:p[c.act.toNat]?=some (2,n)) (h:give p.length c a=.ok o) :
 (c.pc=0/\o.ev=some 3/\(o.c=over c p.length\/(o.c.act=c.act/\o.c.pc≠0)))\/(c.pc≠0/\o.ev=none/\(o.c=over c p.length\/(o.c.act=c.act/\o.c.pc≠0))):=by
 unfold give at h
 split at h
 . rename_i q
   unfold unlock at h;dsimp only at h
   split at h
   . cases h
   . split at h
     . cases h;exact .inl ⟨q,rfl,.inl rfl⟩
     . split at h
       . cases h;exact .inl ⟨q,rfl,.inr ⟨rfl,by show (12:Int)≠0;decide⟩⟩
       . cases h;exact .inl ⟨q,rfl,.inr ⟨rfl,by show (10:Int)≠0;decide⟩⟩
 . rename_i q
   refine .inr ⟨q,?_⟩
   split at h
   . unfold let_ at h
     dsimp only at h
     split at h
     . cases h;exact⟨rfl,.inl rfl⟩
     . split at h
       . cases h;exact⟨rfl,.inr ⟨rfl,by show (12:Int)≠0;decide⟩⟩
       . cases h;exact⟨rfl,.inr ⟨rfl,by show (11:Int)≠0;decide⟩⟩
   . split at h
     . cases h;exact⟨rfl,.inr ⟨rfl,by show (10:Int)≠0;decide⟩⟩
     . split at h
       . unfold draw at h
         split at h
         . cases h
         . cases h;exact⟨rfl,.inr ⟨rfl,by show (13:Int)≠0;decide⟩⟩
       . split at h
         . unfold turn at h
           cases h;refine⟨rfl,.inr ⟨rfl,?_⟩⟩;show (if c.ticket=a.sv then (14:Int) else c.pc)≠0
           split
           . decide
           . exact q
         . split at h
           . unfold grant at h
             split at h
             . cases h;exact⟨rfl,.inr ⟨rfl,by show (15:Int)≠0;decide⟩⟩
             . split at h
               . cases h
               . cases h;exact⟨rfl,.inr ⟨rfl,by show (15:Int)≠0;decide⟩⟩
           . split at h
             . cases h
             . cases h;exact⟨rfl,.inl rfl⟩
theorem hold_next (ha:p[c.act.toNat]?=some (k,n)) (h0:0<=c.act):hold p (over c p.length).act.toNat=if k=0 then some n else if k=2 then none else hold p c.act.toNat:=by
 have e:(over c p.length).act.toNat=c.act.toNat+1:=by show (c.act+1).toNat=_;omega
 rw [e];show (match p[c.act.toNat]? with | some x=>if x.1=0 then some x.2 else if x.1=2 then none else hold p c.act.toNat | none=>_)=_;rw [ha]
theorem crit_over:crit p (over c p.length) m↔hold p (over c p.length).act.toNat=some (m:Int) :=
 ⟨λ h=>h.1,λ h=>⟨h,λ ⟨_,_,q⟩=>q rfl⟩⟩
theorem crit_same {c':Cl} (e:c'.act=c.act) (e':c'.pc=c.pc):crit p c' m↔crit p c m:=by unfold crit;rw [e,e']
end
section
variable {w:Mw} {who:Nat}
theorem critW_at {c:Cl} {p:List Ac} {m:Nat} (hc:w.cl[who]?=some c) (hp:w.progs[who]?=some p):critW w who m↔crit p c m:=by
 constructor
 . rintro⟨c',p',q1,q2,q3⟩
   rw [hc] at q1;cases q1;rw [hp] at q2;cases q2;exact q3
 . exact λ q=>⟨c,p,hc,hp,q⟩
theorem critW_off {i m:Nat} {c':Cl} {cm:Nat->Cm} (h:i≠who):critW { w with cl:=w.cl.set who c',cm:=cm } i m↔critW w i m:=by
 unfold critW;dsimp only;rw [zsn (λ q=>h q.symm)]
theorem own_step (h:WInv w) (ho:Own w) (hs:w.stop=0):Own (stp w who).1/\(stp w who).1.stop=0/\(∀ x,(stp w who).2=some x->x.2.1=0\/x.2.1=3):=by
 rcases stp_way h who with ⟨he,_⟩ | ⟨c,p,n,_,hc,hp,hg,ha,hpc,he⟩ | ⟨c,p,m,_,hc,hp,hg,ha,hm,hpc,hL,he⟩ | ⟨c,p,k,m,o,_,hc,hp,hg,ha,hk,hm,ht,hso,hr,he⟩ | ⟨c,p,k,m,o,j,cj,pj,_,hc,hp,hg,ha,hk,hm,ht,hso,hr,hne,hcj,hpj,haj,hpcj,hgj,he⟩
 . rw [he];exact⟨ho,hs,λ x q=>by cases q⟩
 . rw [he]
   have hlt:who<w.cl.length:=(zgl hc);have hci:=h.ci who c p hc hp;refine⟨ho.step (who:=who) rfl (λ i m hi=>critW_off hi) (λ m _=>.inl ⟨?_,rfl⟩),hs,λ x q=>by cases q⟩;rw [critW_at (w:={ w with cl:=w.cl.set who (work n p.length c) }) (zss hlt) hp,critW_at hc hp];have hn2:¬ (∃ n,p[c.act.toNat]?=some (2,n)/\c.pc≠0):=λ ⟨_,q,_⟩=>by rw [ha] at q;cases q
   unfold work
   split
   . have e:=hold_next (c:={ c with worked:=c.worked+1 }) ha hci.a0
     rw [crit_over,e,if_neg (by decide),if_neg (by decide)];exact⟨λ q=>⟨q,hn2⟩,λ q=>q.1⟩
   . exact crit_same rfl rfl
 . exfalso
   have hci:=h.ci who c p hc hp;have hcr:crit p c m:=⟨(ho.td p (zmo hp)).ul _ _ ha,λ ⟨_,_,q⟩=>q hpc⟩;have:=(ho.iff m hm).2 ⟨who,(critW_at hc hp).2 hcr⟩;rw [hL] at this;cases this
 all_goals (
  have hlt:who<w.cl.length:=(zgl hc);have hci:=h.ci who c p hc hp;have htd:=ho.td p (zmo hp);have hkk:=(h.pr p (zmo hp) _ (zmo ha)).1;have hk02:k=0\/k=2:=by
   rcases hkk with q | q | q | q
   . exact .inl q
   . have q:k=1:=q
     subst q;exact absurd ha (htd.tr _ _)
   . exact .inr q
   . exact absurd q hk
  have core:(o.ev=some 0\/o.ev=some 3\/o.ev=none)/\∀ m',m'<4->((crit p o.c m'↔crit p c m')/\(wd (if m'=m then o.m else w.cm m').word).L=Lk w m')\/(¬ crit p c m'/\crit p o.c m'/\Lk w m'=false/\(wd (if m'=m then o.m else w.cm m').word).L=true)\/(crit p c m'/\¬ crit p o.c m'/\Lk w m'=true/\(wd (if m'=m then o.m else w.cm m').word).L=false):=by
   have hhe:=hso.he;unfold touch at ht;rcases hk02 with q | q
   . subst q
     rw [if_pos rfl] at ht;have hnone:=htd.lk _ _ ha;have hno:∀ m',¬ crit p c m':=λ m' q=>by have:=q.1;rw [hnone] at this;cases this
     rcases lock_ev ht with ⟨e1,e2⟩ | ⟨e1,e2⟩
     . refine⟨.inl e1,λ m' _=>?_⟩
       have hcr:crit p o.c m'↔(m:Int)=(m':Int):=by
        rw [e2,crit_over,hold_next ha hci.a0,if_pos rfl];exact⟨λ q=>by cases q;rfl,λ q=>by rw [q]⟩
       rw [e1] at hhe;by_cases hmm:m'=m
       . subst hmm
         rw [if_pos rfl];rcases hhe with ⟨q,_⟩ | ⟨_,q1,q2⟩ | ⟨q,_⟩ | ⟨q,_⟩ | ⟨q,_⟩
         . cases q
         . exact .inr (.inl ⟨hno _,hcr.2 rfl,q1,q2⟩)
         all_goals cases q
       . rw [if_neg hmm]
         exact .inl ⟨⟨λ q=>absurd (by have:=hcr.1 q;omega) hmm,λ q=>absurd q (hno _)⟩,rfl⟩
     . refine⟨.inr (.inr e1),λ m' _=>.inl ⟨⟨λ q=>?_,λ q=>absurd q (hno _)⟩,?_⟩⟩
       . have:=q.1;rw [e2,hnone] at this;cases this
       . rw [e1] at hhe
         by_cases hmm:m'=m
         . subst hmm
           rw [if_pos rfl];rcases hhe with ⟨_,q⟩ | ⟨q,_⟩ | ⟨q,_⟩ | ⟨q,_⟩ | ⟨q,_⟩
           . exact q
           all_goals cases q
         . rw [if_neg hmm];rfl
   . subst q
     rw [if_neg (by decide),if_neg (by decide)] at ht;have hhold:=htd.ul _ _ ha;have hafter:(o.c=over c p.length\/(o.c.act=c.act/\o.c.pc≠0))->∀ m',¬ crit p o.c m':=λ q m' hcr=>by
      rcases q with q | ⟨q1,q2⟩
      . rw [q,crit_over,hold_next ha hci.a0,if_neg (by decide),if_pos rfl] at hcr
        cases hcr
      . exact hcr.2 ⟨_,by rw [q1];exact ha,q2⟩
     rcases give_ev hci ha ht with ⟨e0,e1,e2⟩ | ⟨e0,e1,e2⟩
     . refine⟨.inr (.inl e1),λ m' _=>?_⟩
       rw [e1] at hhe;by_cases hmm:m'=m
       . subst hmm
         rw [if_pos rfl];rcases hhe with ⟨q,_⟩ | ⟨q,_⟩ | ⟨q,_⟩ | ⟨q,_⟩ | ⟨_,q1,q2⟩
         . cases q
         . cases q
         . cases q
         . cases q
         . exact .inr (.inr ⟨⟨hhold,λ ⟨_,_,q⟩=>q e0⟩,hafter e2 _,q1,q2⟩)
       . rw [if_neg hmm]
         refine .inl ⟨⟨λ q=>absurd q (hafter e2 _),λ q=>?_⟩,rfl⟩;have:=q.1;rw [hhold] at this;injection this with this
         omega
     . refine⟨.inr (.inr e1),λ m' _=>.inl ⟨⟨λ q=>absurd q (hafter e2 _),λ q=>absurd ⟨_,ha,e0⟩ q.2⟩,?_⟩⟩
       rw [e1] at hhe;by_cases hmm:m'=m
       . subst hmm
         rw [if_pos rfl];rcases hhe with ⟨_,q⟩ | ⟨q,_⟩ | ⟨q,_⟩ | ⟨q,_⟩ | ⟨q,_⟩
         . exact q
         all_goals cases q
       . rw [if_neg hmm];rfl
  obtain⟨hev,core⟩:=core;have evs:∀ x,(o.ev.map λ e=>((who:Int),e,(m:Int)))=some x->x.2.1=0\/x.2.1=3:=λ x q=>by
   rcases hev with e | e | e<;>rw [e] at q<;>cases q
   . exact .inl rfl
   . exact .inr rfl)
 . rw [he]
   refine⟨ho.step (who:=who) rfl (λ i m' hi=>critW_off hi) (λ m' hm'=>?_),hs,evs⟩;rw [critW_at (w:={ w with cl:=w.cl.set who o.c,cm:=λ j=>if j=m then o.m else w.cm j }) (zss hlt) hp,critW_at hc hp];exact core m' hm'
 . rw [he]
   have hlj:j<(w.cl.set who o.c).length:=by rw [List.length_set];exact (zgl hcj)
   refine⟨ho.step (who:=who) rfl (λ i m' hi=>?_) (λ m' hm'=>?_),hs,evs⟩
   . by_cases e:i=j
     . subst e
       rw [critW_at (w:={ w with cl:=(w.cl.set who o.c).set i { cj with gst:=0 },cm:=λ j=>if j=m then o.m else w.cm j }) (zss hlj) hpj,critW_at hcj hpj];exact crit_same rfl rfl
     . unfold critW
       dsimp only;rw [zsn (λ q=>e q.symm),zsn (λ q=>hi q.symm)]
   . rw [critW_at (w:={ w with cl:=(w.cl.set who o.c).set j { cj with gst:=0 },cm:=λ j=>if j=m then o.m else w.cm j }) (who:=who) (c:=o.c) (by dsimp only;rw [zsn hne,zss hlt]) hp,critW_at hc hp]
     exact core m' hm'
end
end P16
end
section
namespace P16
def sm (f:Nat->Int):Nat->Int
 | 0=>0
 | n+1=>sm f n+f n
theorem sm_off {f g:Nat->Int} {N:Nat} (h:∀ j,j<N->g j=f j):sm g N=sm f N:=by
 induction N with
 | zero=>rfl
 | succ N ih=>simp only [sm];rw [ih (λ j hj=>h j (by omega)),h N (by omega)]
theorem sm_upd {f g:Nat->Int} {N i:Nat} (hi:i<N) (h:∀ j,j<N->j≠i->g j=f j):sm g N=sm f N-f i+g i:=by
 induction N with
 | zero=>omega
 | succ N ih =>
  simp only [sm];by_cases e:N=i
  . subst e
    rw [sm_off (λ j hj=>h j (by omega) (by omega))];omega
  . rw [ih (by omega) (λ j hj hn=>h j (by omega) hn),h N (by omega) e]
    omega
theorem sm_nonneg {f:Nat->Int} {N:Nat} (h:∀ j,j<N->0<=f j):0<=sm f N:=by
 induction N with
 | zero=>simp [sm]
 | succ N ih=>simp only [sm];have:=ih (λ j hj=>h j (by omega));have:=h N (by omega);omega
def phiW (w:Mw) (i:Nat):Int :=
 match w.cl[i]?,w.progs[i]? with
 | some c,some p=>phi p c
 | _,_=>0
def tot (w:Mw):Int:=sm (phiW w) w.progs.length+10*((w.cm 0).c+(w.cm 1).c+(w.cm 2).c+(w.cm 3).c)
def dW (w:Mw) (i:Nat):Option Nat :=
 match w.cl[i]?,w.progs[i]? with
 | some c,some p=>match p[c.act.toNat]? with
  | some a=>if a.1=3 then some 1 else dist a.1 c (w.cm a.2.toNat)
  | none=>none
 | _,_=>none
def Run (w:Mw) (i:Nat):Prop:=∃ c,w.cl[i]?=some c/\c.gst=0
section
variable {w u:Mw} {who i:Nat}
theorem phiW_at {c:Cl} {p:List Ac} (hc:w.cl[i]?=some c) (hp:w.progs[i]?=some p):phiW w i=phi p c:=by unfold phiW;rw [hc,hp]
theorem dW_at {c:Cl} {p:List Ac} {k:Int} {m:Nat} (hc:w.cl[i]?=some c) (hp:w.progs[i]?=some p) (ha:p[c.act.toNat]?=some (k,(m:Int))) (hk:k≠3):dW w i=dist k c (w.cm m):=by
 unfold dW;rw [hc,hp];dsimp only;rw [ha];dsimp only;rw [if_neg hk,Int.toNat_natCast]
theorem dW_congr (h1:u.cl[i]?=w.cl[i]?) (h2:u.progs=w.progs) (h3:u.cm=w.cm):dW u i=dW w i:=by unfold dW;rw [h1,h2,h3]
theorem dist_pos {k:Int} {c:Cl} {a:Cm} {e:Nat} (h:dist k c a=some e):1<=e/\e<=3:=by
 unfold dist at h
 repeat' (split at h)
 all_goals (first | (cases h;omega) | cases h)
theorem dW_pos {e:Nat} (h:dW w i=some e):1<=e/\e<=3:=by
 unfold dW at h
 split at h
 . split at h
   . split at h
     . cases h;omega
     . exact dist_pos h
   . cases h
 . cases h
theorem step_less (h:WInv w) (hr:Run w who) (hs:w.stop=0) (hs':(stp w who).1.stop=0):tot (stp w who).1+1<=tot w \/
 (tot (stp w who).1=tot w/\(stp w who).1.cm=w.cm/\(∀ j,j≠who->(stp w who).1.cl[j]?=w.cl[j]?)/\Run (stp w who).1 who/\((∃ d,dW w who=some (d+2)/\dW (stp w who).1 who=some (d+1))\/(dW w who=none/\dW (stp w who).1 who=none))/\(stp w who).2=none):=by
 obtain⟨c0,hc0,hg0⟩:=hr;have hlt:who<w.cl.length:=(zgl hc0);have hlt':who<w.progs.length:=by rw [<- h.len];exact hlt
 have four:∀ (m:Nat) (o:Cm),m<4->((if 0=m then o else w.cm 0).c+(if 1=m then o else w.cm 1).c+(if 2=m then o else w.cm 2).c+(if 3=m then o else w.cm 3).c)=(w.cm 0).c+(w.cm 1).c+(w.cm 2).c+(w.cm 3).c-(w.cm m).c+o.c:=λ m o hm=>by
  have:m=0\/m=1\/m=2\/m=3:=by omega
  rcases this with e | e | e | e<;>subst e<;>simp<;>omega
 rcases stp_way h who with ⟨he,hn⟩ | ⟨c,p,n,_,hc,hp,hg,ha,hpc,he⟩ | ⟨c,p,m,_,hc,hp,hg,ha,hm,hpc,hL,he⟩ | ⟨c,p,k,m,o,_,hc,hp,hg,ha,hk,hm,ht,hso,hr,he⟩ | ⟨c,p,k,m,o,j,cj,pj,_,hc,hp,hg,ha,hk,hm,ht,hso,hr,hne,hcj,hpj,haj,hpcj,hgj,he⟩
 . exact absurd hg0 (hn hs c0 hc0)
 . left
   rw [he];have hl:=work_less (h.pr p (zmo hp)) (h.ci who c p hc hp) ha;have e:=sm_upd (f:=phiW w) (g:=phiW { w with cl:=w.cl.set who (work n p.length c) }) hlt' (λ j _ hj=>by unfold phiW;dsimp only;rw [zsn (λ q=>hj q.symm)]);rw [phiW_at hc hp,phiW_at (w:={ w with cl:=w.cl.set who (work n p.length c) }) (zss hlt) hp] at e;unfold tot;dsimp only;rw [e];omega
 . rw [he] at hs'
   cases hs'
 . rw [he]
   have hl:=touch_less (h.pr p (zmo hp)) (h.ci who c p hc hp) hg ha hk ht;have e:=sm_upd (f:=phiW w) (g:=phiW { w with cl:=w.cl.set who o.c,cm:=λ j=>if j=m then o.m else w.cm j }) hlt' (λ j _ hj=>by unfold phiW;dsimp only;rw [zsn (λ q=>hj q.symm)]);rw [phiW_at hc hp,phiW_at (w:={ w with cl:=w.cl.set who o.c,cm:=λ j=>if j=m then o.m else w.cm j }) (zss hlt) hp] at e;have f4:=four m o.m hm;rcases hl with hl | ⟨e1,e2,e3,e4,e5,e6,e7⟩
   . left
     rw [hr] at hl;simp only [Option.isSome_none,Bool.false_eq_true,if_false,Int.add_zero] at hl;unfold tot;dsimp only;rw [e,f4];omega
   . right
     have hcm:(λ j=>if j=m then o.m else w.cm j)=w.cm:=by
      funext j;by_cases q:j=m
      . subst q;rw [if_pos rfl,e1]
      . rw [if_neg q]
     have hd:dW { w with cl:=w.cl.set who o.c,cm:=λ j=>if j=m then o.m else w.cm j } who=dist k o.c (w.cm m):=by
      rw [dW_at (w:={ w with cl:=w.cl.set who o.c,cm:=λ j=>if j=m then o.m else w.cm j }) (c:=o.c) (p:=p) (m:=m) (zss hlt) hp (by rw [e5];exact ha) hk];dsimp only;rw [if_pos rfl,e1]
     refine⟨?_,hcm,λ j hj=>by dsimp only;rw [zsn (λ q=>hj q.symm)],⟨o.c,zss hlt,by rw [e6];exact hg⟩,?_,by rw [e3];rfl⟩
     . unfold tot
       dsimp only;rw [e,f4,e1];omega
     . rw [hd,dW_at hc hp ha hk]
       rcases e7 with e7 | ⟨e7,e8⟩
       . exact .inl e7
       . exact .inr ⟨e7,by rw [e8];exact e7⟩
 . left
   rw [he];have hl:=touch_less (h.pr p (zmo hp)) (h.ci who c p hc hp) hg ha hk ht;have hjl:j<w.cl.length:=(zgl hcj);have hjl':j<w.progs.length:=by rw [<- h.len];exact hjl
   have hlj:j<(w.cl.set who o.c).length:=by rw [List.length_set];exact hjl
   have e:=sm_upd (f:=phiW w) (g:=phiW { w with cl:=w.cl.set who o.c,cm:=λ j=>if j=m then o.m else w.cm j }) hlt' (λ j _ hj=>by unfold phiW;dsimp only;rw [zsn (λ q=>hj q.symm)]);rw [phiW_at hc hp,phiW_at (w:={ w with cl:=w.cl.set who o.c,cm:=λ j=>if j=m then o.m else w.cm j }) (zss hlt) hp] at e;have e':=sm_upd (f:=phiW { w with cl:=w.cl.set who o.c,cm:=λ j=>if j=m then o.m else w.cm j }) (g:=phiW { w with cl:=(w.cl.set who o.c).set j { cj with gst:=0 },cm:=λ j=>if j=m then o.m else w.cm j }) hjl' (λ x _ hx=>by unfold phiW;dsimp only;rw [zsn (λ q=>hx q.symm)]);rw [phiW_at (w:={ w with cl:=w.cl.set who o.c,cm:=λ j=>if j=m then o.m else w.cm j }) (c:=cj) (by dsimp only;rw [zsn (λ q=>hne q.symm)];exact hcj) hpj,phiW_at (w:={ w with cl:=(w.cl.set who o.c).set j { cj with gst:=0 },cm:=λ j=>if j=m then o.m else w.cm j }) (zss hlj) hpj] at e';have hj1:phi pj cj=restC pj (cj.act.toNat+1)+2:=by rw [phi_at haj];simp [nowC,hpcj,hgj]
   have hj2:phi pj { cj with gst:=0 }=restC pj (cj.act.toNat+1)+12:=by rw [phi_same (c':={ cj with gst:=0 }) haj rfl];simp [nowC,hpcj]
   have f4:=four m o.m hm;rcases hl with hl | ⟨e1,e2,_⟩
   . rw [hr] at hl
     simp only [Option.isSome_some,if_true] at hl;unfold tot;dsimp only;rw [e',e,hj1,hj2,f4];omega
   . rw [hr] at e2;cases e2
end
theorem cnt_filter {p:V->Bool} {v:Nat->V} {N:Nat}:cnt p v N=(((List.range N).filter λ i=>p (v i)).length:Int):=by
 induction N with
 | zero=>rfl
 | succ N ih =>
  rw [List.range_succ,List.filter_append,List.length_append,cnt,ih];by_cases e:p (v N)=true
  . simp [e,b1]
  . simp [e,b1]
theorem InvT.served_one {N:Nat} {nx sv:Int} {v:Nat->V} (h:InvT N nx sv v) (h1:1<=cnt isT v N):∃ j,j<N/\tk (v j)=some sv:=by
 apply Classical.byContradiction;intro hno;have hno:∀ j t,j<N->tk (v j)=some t->t≠sv:=λ j t hj ht e=>hno ⟨j,hj,by rw [<- e];exact ht⟩
 have hlen:=cnt_filter (p:=isT) (v:=v) (N:=N)
 let f:Nat->Int:=λ i=>((tk (v i)).getD 0-sv) % 4294967296
 let L:=((List.range N).filter λ i=>isT (v i))
 have hmem:∀ i,i∈L->i<N/\∃ t,tk (v i)=some t:=λ i hi=>by
  obtain⟨a,b⟩:=List.mem_filter.1 hi;exact⟨List.mem_range.1 a,Option.isSome_iff_exists.1 b⟩
 have hnd:(L.map f).Nodup:=by
  have h0:L.Pairwise (·≠·):=List.Pairwise.filter _ List.nodup_range;refine List.pairwise_map.2 (List.Pairwise.imp_of_mem (λ {a b} ha hb hab=>?_) h0);obtain⟨ha1,t,hat⟩:=hmem a ha;obtain⟨hb1,s,hbs⟩:=hmem b hb;have ht:=(h.t1 a t ha1 hat).1;have hs:=(h.t1 b s hb1 hbs).1;have hts:t≠s:=λ e=>h.t2 a b t ha1 hb1 hab hat (by rw [e];exact hbs)
  show f a≠f b;show ((tk (v a)).getD 0-sv) % 4294967296≠((tk (v b)).getD 0-sv) % 4294967296;rw [hat,hbs];simp only [Option.getD_some];have:=h.sb;omega
 have hsub:∀ x∈L.map f,x∈(List.range (L.length-1)).map (λ k:Nat=>(k:Int)+1):=λ x hx=>by
  obtain⟨i,hi,rfl⟩:=List.mem_map.1 hx;obtain⟨hi1,t,ht⟩:=hmem i hi;have h1:=h.t1 i t hi1 ht;have h2:=hno i t hi1 ht;have hsb:=h.sb;have hfi:f i=(t-sv) % 4294967296:=by show ((tk (v i)).getD 0-sv) % 4294967296=_;rw [ht];rfl
  have hL:(L.length:Int)=cnt isT v N:=hlen.symm;rw [hfi];refine List.mem_map.2 ⟨((t-sv) % 4294967296-1).toNat,List.mem_range.2 (by omega),by omega⟩
 have hle:=List.Nodup.length_le_of_subset hnd hsub;rw [List.length_map,List.length_map,List.length_range] at hle;have hL:(L.length:Int)=cnt isT v N:=hlen.symm;omega
section
variable {w:Mw} {i m:Nat}
theorem ticket_runs (h:WInv w) {c:Cl} {p:List Ac} {t:Int} (hc:w.cl[i]?=some c) (hp:w.progs[i]?=some p) (hv:tk (vwp p c m)=some t):c.gst=0/\∃ k,p[c.act.toNat]?=some (k,(m:Int))/\k≠3/\c.ticket=t:=by
 have hci:=h.ci i c p hc hp;unfold vwp at hv
 cases ha:p[c.act.toNat]? with
 | none=>rw [ha] at hv;cases hv
 | some a =>
  rw [ha] at hv;obtain⟨k,n⟩:=a;replace hv:tk (vw k n c m)=some t:=hv;have hg2:c.gst≠2:=λ q=>by
   have:=hci.dn.1 q;have a0:=hci.a0;rw [List.getElem?_eq_none (by omega)] at ha;cases ha
  unfold vw at hv;by_cases h1:n≠m
  . rw [if_pos h1] at hv;cases hv
  . rw [if_neg h1] at hv
    have h1:=Classical.not_not.1 h1;subst h1;have fin:c.pc≠7->c.gst=0:=λ q=>by
     rcases hci.g with e | e | e
     . exact e
     . exact absurd (hci.pk e) q
     . exact absurd e hg2
    by_cases h2:k=0
    . rw [if_pos h2] at hv
      refine⟨?_,k,rfl,by omega,?_⟩
      . apply fin
        intro q;rw [q] at hv;cases hv
      . revert hv
        repeat' split
        all_goals (intro q;first | (cases q;rfl) | cases q)
    . rw [if_neg h2] at hv
      by_cases h3:k=1
      . rw [if_pos h3] at hv;split at hv<;>cases hv
      . rw [if_neg h3] at hv
        by_cases h4:k=2
        . rw [if_pos h4] at hv
          refine⟨?_,k,rfl,by omega,?_⟩
          . apply fin
            intro q;rw [q] at hv;cases hv
          . revert hv
            repeat' split
            all_goals (intro q;first | (cases q;rfl) | cases q)
        . rw [if_neg h4] at hv;cases hv
theorem near (h:WInv w) (ho:Own w) (hnd:∃ (i:Nat) (c:Cl),w.cl[i]?=some c/\c.gst≠2):∃ i e,i<w.progs.length/\Run w i/\dW w i=some e:=by
 have hN:∀ i c,w.cl[i]?=some c->i<w.progs.length/\∃ p,w.progs[i]?=some p:=λ i c hc=>by
  have hi:=(zgl hc);rw [h.len] at hi;exact⟨hi,_,zge hi⟩
 have runs_:(∃ (i:Nat) (c:Cl),w.cl[i]?=some c/\c.gst=0)->∃ i e,i<w.progs.length/\Run w i/\dW w i=some e:=by
  rintro⟨i,c,hc,hg⟩;obtain⟨hi,p,hp⟩:=hN i c hc;have hci:=h.ci i c p hc hp
  cases hd:dW w i with
  | some e=>exact⟨i,e,hi,⟨c,hc,hg⟩,hd⟩
  | none =>
   obtain⟨⟨k,n⟩,ha⟩:∃ a,p[c.act.toNat]?=some a:=⟨_,zge (hci.lt (by omega))⟩;have hok:=h.pr p (zmo hp) (k,n) (zmo ha);by_cases hk3:k=3
   . exfalso
     unfold dW at hd;rw [hc,hp] at hd;dsimp only at hd;rw [ha] at hd;dsimp only at hd;rw [if_pos hk3] at hd;cases hd
   . obtain⟨m,rfl⟩:∃ m:Nat,n=(m:Int):=⟨n.toNat,by have:=hok.2.1;omega⟩
     have hm:m<4:=by have:=hok.2.2 hk3;have:((m:Int))<4:=this;omega
     rw [dW_at hc hp ha hk3] at hd;have htk:tk (view w m i)=some c.ticket:=by
      rw [view_at hc hp,vwp_at ha];unfold dist at hd
      split at hd
      . cases hd
      . split at hd
        . split at hd<;>cases hd
        . split at hd
          . rename_i q
            rw [q.1,vl4 q.2];rfl
          . split at hd
            . split at hd<;>cases hd
            . split at hd
              . cases hd
              . split at hd
                . rename_i q
                  rw [q.1,vg13 q.2];rfl
                . cases hd
     have hT:=(h.iv m hm).T;have hpos:=cnt_pos (p:=isT) (v:=view w m) hi (by unfold isT;rw [htk];rfl);obtain⟨j,hj,htj⟩:=hT.served_one hpos;have hjl:j<w.cl.length:=by rw [h.len];exact hj
     obtain⟨cj,hcj⟩:∃ cj,w.cl[j]?=some cj:=⟨_,zge hjl⟩;obtain⟨pj,hpj⟩:∃ pj,w.progs[j]?=some pj:=⟨_,zge hj⟩;rw [view_at hcj hpj] at htj;obtain⟨hgj,kj,haj,hkj,htt⟩:=ticket_runs h hcj hpj htj;have htt:cj.ticket=(w.cm m).sv:=htt;refine⟨j,1,hj,⟨cj,hcj,hgj⟩,?_⟩;rw [dW_at hcj hpj haj hkj];rw [vwp_at haj] at htj;have hpcj:¬ (kj=0/\cj.pc=1)/\¬ (kj=0/\cj.pc=2)/\¬ (kj=2/\cj.pc=10)/\¬ (kj=2/\cj.pc=11):=by
      refine⟨λ q=>?_,λ q=>?_,λ q=>?_,λ q=>?_⟩
      . rw [q.1,vl1 q.2] at htj;cases htj
      . rw [q.1,vl2 q.2] at htj;cases htj
      . rw [q.1,vg10 q.2] at htj;cases htj
      . rw [q.1,vg11 q.2] at htj;cases htj
     unfold dist;rw [if_neg hpcj.1,if_neg hpcj.2.1]
     split
     . first | rfl | rw [if_pos htt]
     . rw [if_neg hpcj.2.2.1,if_neg hpcj.2.2.2]
       split
       . first | rfl | rw [if_pos htt]
       . rfl
 obtain⟨i,c,hc,hg⟩:=hnd;by_cases hrun:∃ (i:Nat) (c:Cl),w.cl[i]?=some c/\c.gst=0
 . exact runs_ hrun
 . exfalso
   have hnr:∀ (j:Nat) (cj:Cl),w.cl[j]?=some cj->cj.gst≠0:=λ j cj q q'=>hrun ⟨j,cj,q,q'⟩
   obtain⟨hi,p,hp⟩:=hN i c hc;have hci:=h.ci i c p hc hp;have hg1:c.gst=1:=by
    rcases hci.g with e | e | e
    . exact absurd e (hnr i c hc)
    . exact e
    . exact absurd e hg
   have hpc:=hci.pk hg1;obtain⟨⟨k,n⟩,ha⟩:∃ a,p[c.act.toNat]?=some a:=⟨_,zge (hci.lt hg)⟩;have hok:=h.pr p (zmo hp) (k,n) (zmo ha);have hk0:k=0:=by
    rcases hci.pcs k n ha with e | ⟨e,_⟩ | ⟨_,e⟩ | ⟨_,e,_⟩
    . omega
    . exact e
    . omega
    . omega
   subst hk0;obtain⟨m,rfl⟩:∃ m:Nat,n=(m:Int):=⟨n.toNat,by have:=hok.2.1;omega⟩;have hm:m<4:=by have:=hok.2.2 (by show (0:Int)≠3;decide);have:((m:Int))<4:=this;omega
   have hvi:view w m i=.wok true:=by rw [view_at hc hp,vwp_at ha,vl7 hpc,hg1];rfl
   cases hL:Lk w m with
   | false =>
    obtain⟨j,hj,hv1,hv2⟩:=(h.iv m hm).goes_on hL hi (by rw [hvi];rfl);have hjl:j<w.cl.length:=by rw [h.len];exact hj
    obtain⟨cj,hcj⟩:∃ cj,w.cl[j]?=some cj:=⟨_,zge hjl⟩;obtain⟨pj,hpj⟩:∃ pj,w.progs[j]?=some pj:=⟨_,zge hj⟩;have hcij:=h.ci j cj pj hcj hpj;rw [view_at hcj hpj] at hv1 hv2;rcases hcij.g with e | e | e
    . exact hnr j cj hcj e
    . have hpcj:=hcij.pk e
      cases haj:pj[cj.act.toNat]? with
      | none=>exact hv1 (by unfold vwp;rw [haj])
      | some a =>
       obtain⟨kj,nj⟩:=a;have hkj:kj=0:=by
        rcases hcij.pcs kj nj haj with e | ⟨e,_⟩ | ⟨_,e⟩ | ⟨_,e,_⟩
        . omega
        . exact e
        . omega
        . omega
       subst hkj;by_cases hnm:nj=(m:Int)
       . subst hnm
         exact hv2 (by rw [vwp_at haj,vl7 hpcj,e];rfl)
       . exact hv1 (by rw [vwp_at haj];exact vw_far hnm)
    . have:=hcij.dn.1 e
      have a0:=hcij.a0;exact hv1 (by unfold vwp;rw [List.getElem?_eq_none (by omega)])
   | true =>
    obtain⟨j,cj,pj,hcj,hpj,hcr1,hcr2⟩:=(ho.iff m hm).1 hL;have hcij:=h.ci j cj pj hcj hpj;have htd:=ho.td pj (zmo hpj);rcases hcij.g with e | e | e
    . exact hnr j cj hcj e
    . have hpcj:=hcij.pk e
      obtain⟨⟨kj,nj⟩,haj⟩:∃ a,pj[cj.act.toNat]?=some a:=⟨_,zge (hcij.lt (by omega))⟩;have hkj:kj=0:=by
       rcases hcij.pcs kj nj haj with e | ⟨e,_⟩ | ⟨_,e⟩ | ⟨_,e,_⟩
       . omega
       . exact e
       . omega
       . omega
      subst hkj;have:=htd.lk _ _ haj;rw [hcr1] at this;cases this
    . have hq:=hcij.dn.1 e
      have a0:=hcij.a0;have:cj.act.toNat=pj.length:=by omega
      rw [this,htd.fin] at hcr1;cases hcr1
end
end P16
end
section
namespace P16
structure Good (w:Mw):Prop where
 wi:WInv w
 ow:Own w
 st:w.stop=0
def sweep (w:Mw):Nat->Mw
 | 0=>w
 | k+1=>(stp (sweep w k) k).1
def tickR (w:Mw) (d:Int):Mw:=if w.stop=0/\w.now+d<=4611686018427387904 then { w with now:=w.now+d } else w
def rnd (d:Int) (w:Mw):Mw:=tickR (sweep w w.progs.length) d
def rnds (d:Int):Nat->Mw->Mw
 | 0,w=>w
 | k+1,w=>rnds d k (rnd d w)
def Done (w:Mw):Prop:=∀ (i:Nat) (c:Cl),w.cl[i]?=some c->c.gst=2
section
variable {w u:Mw} {d:Int} {who:Nat}
theorem Good.step (h:Good w) (who:Nat):Good (stp w who).1/\(stp w who).1.progs=w.progs:=by
 have a:=stp_inv h.wi who;have b:=own_step h.wi h.ow h.st (who:=who);exact⟨⟨a.inv,b.1,b.2.1⟩,a.pr⟩
theorem stp_still (hr:¬ Run w who):stp w who=(w,none):=by
 unfold stp
 cases hc:w.cl[who]? with
 | none=>rfl
 | some c =>
  cases hp:w.progs[who]? with
  | none=>rfl
  | some p =>
   dsimp only;rw [if_pos (.inr λ e=>hr ⟨c,hc,e⟩)]
def J (w:Mw) (k:Nat) (u:Mw):Prop :=
 tot u+1<=tot w\/(tot u=tot w/\u.cm=w.cm/\(∀ j,k<=j->u.cl[j]?=w.cl[j]?)/\∀ j,j<k->Run w j->Run u j/\((∃ d,dW w j=some (d+2)/\dW u j=some (d+1))\/(dW w j=none/\dW u j=none)))
theorem sweep_J (h:Good w) (k:Nat):Good (sweep w k)/\(sweep w k).progs=w.progs/\J w k (sweep w k)/\tot (sweep w k)<=tot w:=by
 induction k with
 | zero=>exact⟨h,rfl,.inr ⟨rfl,rfl,λ _ _=>rfl,λ j hj=>absurd hj (by omega)⟩,Int.le_refl _⟩
 | succ k ih =>
  obtain⟨hg,hp,hJ,hle⟩:=ih;obtain⟨hg',hp'⟩:=hg.step k;have hp2:(sweep w (k+1)).progs=w.progs:=hp'.trans hp;by_cases hr:Run (sweep w k) k
  . rcases step_less hg.wi hr hg.st hg'.st with e | ⟨e1,e2,e3,e4,e5,_⟩
    . have e:tot (sweep w (k+1))+1<=tot (sweep w k):=e
      refine⟨hg',hp2,.inl ?_,by omega⟩;omega
    . have e1:tot (sweep w (k+1))=tot (sweep w k):=e1
      refine⟨hg',hp2,?_,by omega⟩;rcases hJ with j | ⟨j1,j2,j3,j4⟩
      . exact .inl (by omega)
      . refine .inr ⟨by omega,e2.trans j2,λ j hj=>(e3 j (by omega)).trans (j3 j (by omega)),λ j hj hrj=>?_⟩
        by_cases q:j=k
        . subst q
          have hd:dW (sweep w j) j=dW w j:=dW_congr (j3 j (Nat.le_refl _)) hp j2;rw [hd] at e5;exact⟨e4,e5⟩
        . obtain⟨r1,r2⟩:=j4 j (by omega) hrj
          have hd:dW (sweep w (k+1)) j=dW (sweep w k) j:=dW_congr (e3 j q) hp' e2;rw [hd];refine⟨?_,r2⟩;obtain⟨c,hc,hgc⟩:=r1;exact⟨c,(e3 j q).trans hc,hgc⟩
  . have e:sweep w (k+1)=sweep w k:=by
     show (stp (sweep w k) k).1=_;rw [stp_still hr]
    rw [e];refine⟨hg,hp,?_,hle⟩;rcases hJ with j | ⟨j1,j2,j3,j4⟩
    . exact .inl j
    . refine .inr ⟨j1,j2,λ j hj=>j3 j (by omega),λ j hj hrj=>?_⟩
      by_cases q:j=k
      . subst q
        exfalso;obtain⟨c,hc,hgc⟩:=hrj;exact hr ⟨c,(j3 j (Nat.le_refl _)).trans hc,hgc⟩
      . exact j4 j (by omega) hrj
theorem tickR_cl:(tickR w d).cl=w.cl/\(tickR w d).progs=w.progs/\(tickR w d).cm=w.cm/\(tickR w d).stop=w.stop:=by
 unfold tickR
 split<;>exact⟨rfl,rfl,rfl,rfl⟩
theorem WInv.tickR (h:WInv w) (hd:0<=d):WInv (tickR w d):=by
 unfold P16.tickR
 split
 . rename_i q
   have tm:=h.tm;exact⟨h.len,h.l8,h.pr,h.ci,h.ow,h.iv,h.st,by show 0<=w.now+d;omega,q.2⟩
 . exact h
theorem Good.tickR (h:Good w) (hd:0<=d):Good (tickR w d):=by
 obtain⟨e1,e2,e3,e4⟩:=tickR_cl (w:=w) (d:=d);have hcr:∀ i m,critW (P16.tickR w d) i m↔critW w i m:=λ i m=>by unfold critW;rw [e1,e2]
 have hL:∀ m,Lk (P16.tickR w d) m=Lk w m:=λ m=>by unfold Lk;rw [e3]
 refine⟨h.wi.tickR hd,⟨by rw [e2];exact h.ow.td,λ m hm=>?_,λ m i j hm hi hj=>h.ow.one m i j hm ((hcr i m).1 hi) ((hcr j m).1 hj)⟩,e4.trans h.st⟩;rw [hL,h.ow.iff m hm];exact⟨λ ⟨i,q⟩=>⟨i,(hcr i m).2 q⟩,λ ⟨i,q⟩=>⟨i,(hcr i m).1 q⟩⟩
theorem tot_congr (h1:u.cl=w.cl) (h2:u.progs=w.progs) (h3:u.cm=w.cm):tot u=tot w:=by
 unfold tot;rw [h2,h3];congr 1;exact sm_off λ j _=>by unfold phiW;rw [h1,h2]
theorem Good.rnd (h:Good w) (hd:0<=d):Good (rnd d w)/\(P16.rnd d w).progs=w.progs/\tot (P16.rnd d w)<=tot w:=by
 obtain⟨a,b,_,c⟩:=sweep_J h w.progs.length;obtain⟨e1,e2,e3,e4⟩:=tickR_cl (w:=sweep w w.progs.length) (d:=d);refine⟨a.tickR hd,e2.trans b,?_⟩;have:tot (P16.rnd d w)=tot (sweep w w.progs.length):=tot_congr e1 e2 e3;omega
theorem Good.rnds (h:Good w) (hd:0<=d) (k:Nat):Good (rnds d k w)/\(P16.rnds d k w).progs=w.progs/\tot (P16.rnds d k w)<=tot w:=by
 induction k generalizing w with
 | zero=>exact⟨h,rfl,Int.le_refl _⟩
 | succ k ih =>
  obtain⟨a,b,c⟩:=h.rnd hd;obtain⟨a',b',c'⟩:=ih a;exact⟨a',b'.trans b,by show tot (P16.rnds d k (P16.rnd d w))<=_;omega⟩
theorem within (hd:0<=d):∀ (K:Nat) (w:Mw),Good w->(∃ i e,i<w.progs.length/\Run w i/\dW w i=some e/\e<=K)->∃ j,j<=K/\tot (rnds d j w)+1<=tot w:=by
 intro K
 induction K with
 | zero =>
  rintro w _ ⟨i,e,_,_,he,hle⟩;have:=dW_pos he;omega
 | succ K ih =>
  rintro w h ⟨i,e,hi,hr,he,hle⟩;obtain⟨hg,hp,hJ,_⟩:=sweep_J h w.progs.length;obtain⟨e1,e2,e3,e4⟩:=tickR_cl (w:=sweep w w.progs.length) (d:=d);have ht:tot (rnd d w)=tot (sweep w w.progs.length):=tot_congr e1 e2 e3;rcases hJ with q | ⟨q1,q2,q3,q4⟩
  . exact⟨1,by omega,by show tot (rnd d w)+1<=_;omega⟩
  . obtain⟨r1,r2⟩:=q4 i hi hr
    rcases r2 with ⟨x,x1,x2⟩ | ⟨x1,_⟩
    . rw [he] at x1
      cases x1;have hg':=(h.rnd hd).1;have hp':=(h.rnd hd).2.1;obtain⟨j,hj,hl⟩:=ih (rnd d w) hg' ⟨i,x+1,by rw [hp'];exact hi,by
       obtain⟨c,hc,hgc⟩:=r1;exact⟨c,by show (tickR _ d).cl[i]?=_;rw [e1];exact hc,hgc⟩,(dW_congr (u:=rnd d w) (w:=sweep w w.progs.length) (by show (tickR _ d).cl[i]?=_;rw [e1]) e2 e3).trans x2,by omega⟩
      exact⟨j+1,by omega,by show tot (rnds d j (rnd d w))+1<=_;omega⟩
    . rw [he] at x1;cases x1
theorem Done.step (h:Done w) (who:Nat):stp w who=(w,none):=stp_still λ ⟨c,hc,hg⟩=>by have:=h who c hc;omega
theorem Done.rnd (h:Done w):Done (rnd d w):=by
 have e:∀ k,sweep w k=w:=λ k=>by
  induction k with
  | zero=>rfl
  | succ k ih=>show (stp (sweep w k) k).1=w;rw [ih,h.step]
 intro i c hc;obtain⟨e1,_⟩:=tickR_cl (w:=sweep w w.progs.length) (d:=d);have hc:(tickR (sweep w w.progs.length) d).cl[i]?=some c:=hc;rw [e1,e] at hc;exact h i c hc
theorem Done.rnds (h:Done w) (k:Nat):Done (rnds d k w):=by
 induction k generalizing w with
 | zero=>exact h
 | succ k ih=>exact ih h.rnd
theorem rnds_add (a b:Nat):rnds d (a+b) w=rnds d b (rnds d a w):=by
 induction a generalizing w with
 | zero=>rw [Nat.zero_add];rfl
 | succ a ih=>rw [Nat.succ_add];exact ih
theorem ite_nn {P:Prop} [Decidable P] {a b:Int} (ha:0<=a) (hb:0<=b):0<=if P then a else b:=by split<;>assumption
theorem restC_nonneg {p:List Ac} {i:Nat}:0<=restC p i:=by
 induction p generalizing i with
 | nil=>exact Int.le_refl _
 | cons a l ih =>
  cases i with
  | zero =>
   have:=ih (i:=0);show 0<=actC a+restC l 0;have:0<=actC a:=by unfold actC;(repeat' (with_reducible apply ite_nn));all_goals omega
   omega
  | succ i=>exact ih
theorem phi_nonneg {p:List Ac} {c:Cl} (h:CInv p c):0<=phi p c:=by
 unfold phi
 split
 . rename_i a ha
   have:=restC_nonneg (p:=p) (i:=c.act.toNat+1);have:0<=nowC a.1 a.2 c:=by
    unfold nowC;have hr:=h.rd;by_cases h3:a.1=3
    . rw [if_pos h3]
      rcases h.wk with e | ⟨e,n',e',e''⟩
      . omega
      . rw [ha] at e';cases e';omega
    . rw [if_neg h3]
      repeat' (with_reducible apply ite_nn)
      all_goals omega
   omega
 . exact Int.le_refl _
theorem tot_nonneg (h:WInv w):0<=tot w:=by
 unfold tot;have h1:0<=sm (phiW w) w.progs.length:=sm_nonneg λ j hj=>by
  unfold phiW
  split
  . rename_i c p hc hp;exact phi_nonneg (h.ci j c p hc hp)
  . exact Int.le_refl _
 have c0:=(h.iv 0 (by omega)).W.c0;have c1:=(h.iv 1 (by omega)).W.c0;have c2:=(h.iv 2 (by omega)).W.c0;have c3:=(h.iv 3 (by omega)).W.c0;have c0:0<=(w.cm 0).c:=c0;have c1:0<=(w.cm 1).c:=c1;have c2:0<=(w.cm 2).c:=c2;have c3:0<=(w.cm 3).c:=c3;omega
theorem ends (hd:0<=d):∀ (T:Nat) (w:Mw),Good w->tot w<=T->Done (rnds d (3*(T+1)) w):=by
 intro T
 induction T with
 | zero =>
  intro w h ht;by_cases hdn:Done w
  . exact hdn.rnds _
  . exfalso
    have hex:∃ (i:Nat) (c:Cl),w.cl[i]?=some c/\c.gst≠2:=Classical.byContradiction λ q=>hdn λ i c hc=>Classical.byContradiction λ q'=>q ⟨i,c,hc,q'⟩
    obtain⟨i,e,hi,hr,he⟩:=near h.wi h.ow hex;obtain⟨j,hj,hl⟩:=within hd 3 w h ⟨i,e,hi,hr,he,(dW_pos he).2⟩;have:=tot_nonneg (h.rnds hd j).1.wi;omega
 | succ T ih =>
  intro w h ht;by_cases hdn:Done w
  . exact hdn.rnds _
  . have hex:∃ (i:Nat) (c:Cl),w.cl[i]?=some c/\c.gst≠2:=Classical.byContradiction λ q=>hdn λ i c hc=>Classical.byContradiction λ q'=>q ⟨i,c,hc,q'⟩
    obtain⟨i,e,hi,hr,he⟩:=near h.wi h.ow hex;obtain⟨j,hj,hl⟩:=within hd 3 w h ⟨i,e,hi,hr,he,(dW_pos he).2⟩;have q:=ih (rnds d j w) (h.rnds hd j).1 (by omega);have e3:3*(T+1+1)=j+(3*(T+1)+(3-j)):=by omega
    rw [e3,rnds_add,rnds_add];exact q.rnds _
end
end P16
end
section
namespace P16
section
variable {l:List (List Ac)} {p:List Ac} {w:Mw} {who:Nat}
theorem new_cl {i:Nat} {c:Cl} (h:(new l).cl[i]?=some c):∃ p,l[i]?=some p/\c=first 0 false 0 p.length:=by
 have h:(l.map λ p=>first 0 false 0 p.length)[i]?=some c:=h;rw [List.getElem?_map] at h
 cases hp:l[i]? with
 | none=>rw [hp] at h;cases h
 | some p=>rw [hp] at h;cases h;exact⟨p,rfl,rfl⟩
theorem first_inv (p:List Ac):CInv p (first 0 false 0 p.length):=by
 refine⟨Int.le_refl _,by show (0:Int)<=_;omega,?_,?_,?_,?_,λ k n _=>.inl rfl,λ _=>rfl,⟨Int.le_refl _,by show (0:Int)<4294967296;decide⟩,.inl rfl,⟨Int.le_refl _,by show (0:Int)<=4;decide⟩,⟨Int.le_refl _,by show (0:Int)<2147483648;decide⟩,λ _=>⟨rfl,rfl⟩,.inl rfl,λ q=>by cases q⟩
 . show (if (0:Int)=p.length then false else false)=false
   split<;>rfl
 . show (if (0:Int)=p.length then (2:Int) else 0)=0\/(if (0:Int)=p.length then (2:Int) else 0)=1\/(if (0:Int)=p.length then (2:Int) else 0)=2
   split
   . exact .inr (.inr rfl)
   . exact .inl rfl
 . show (if (0:Int)=p.length then (2:Int) else 0)=2↔(0:Int)=p.length
   split
   . rename_i e;exact⟨λ _=>e,λ _=>rfl⟩
   . rename_i e;exact⟨(λ q=>by cases q),λ q=>absurd q e⟩
 . show (if (0:Int)=p.length then (2:Int) else 0)=1->_
   split
   . intro q;cases q
   . intro q;cases q
theorem WInv.new (h8:l.length<=8) (hok:∀ p,p∈l->∀ a,a∈p->OkA a):WInv (new l):=by
 refine⟨by show (l.map _).length=l.length;rw [List.length_map],h8,hok,λ i c p hc hp=>?_,λ m _=>⟨Int.le_refl _,by show (0:Int)<2147483648;decide⟩,λ m _=>?_,.inl rfl,⟨Int.le_refl _,by show (0:Int)<=4611686018427387904;decide⟩⟩
 . obtain⟨p',hp',rfl⟩:=new_cl hc
   have hp:l[i]?=some p:=hp;rw [hp] at hp';cases hp';exact first_inv p
 . have e:mx ((P16.new l).cm m)={ w:={ L:=false,K:=false,S:=false,n:=0 },nx:=0,sv:=0,c:=0,l:=[] }:=by
    show (⟨wd 0,0,0,0,[]⟩:Mx)=_;rw [wd0]
   rw [e];refine Inv.first λ i _=>?_
   unfold view
   split
   . rename_i c p hc hp
     obtain⟨p',_,rfl⟩:=new_cl hc;exact vwp_start rfl
   . rfl
theorem Good.new (h8:l.length<=8) (hok:∀ p,p∈l->∀ a,a∈p->OkA a) (ht:∀ p,p∈l->Tidy p):Good (new l):=by
 have hno:∀ i m,¬ critW (P16.new l) i m:=λ i m=>by
  rintro⟨c,p,hc,hp,h1,_⟩;obtain⟨p',_,rfl⟩:=new_cl hc;cases h1
 refine⟨WInv.new h8 hok,⟨ht,λ m _=>?_,λ m i j _ hi _=>absurd hi (hno i m)⟩,rfl⟩;have e:Lk (P16.new l) m=false:=by show (wd 0).L=false;rw [wd0]
 rw [e];exact⟨(λ q=>by cases q),λ ⟨i,q⟩=>absurd q (hno i m)⟩
theorem cK_append {k:Int} {a b:List Ac}:cK k (a++b)=cK k a+cK k b:=by unfold cK;rw [List.filter_append,List.length_append]
theorem tidy_counts (ht:Tidy p):∀ a,a<=p.length->cK 0 (p.take a)=cK 2 (p.take a)+(if (hold p a).isSome then 1 else 0):=by
 intro a
 induction a with
 | zero=>intro _;rfl
 | succ a ih =>
  intro ha;obtain⟨⟨k,n⟩,hk⟩:∃ x,p[a]?=some x:=⟨_,zge (by omega)⟩;have e:p.take (a+1)=p.take a++[(k,n)]:=by rw [List.take_add_one,hk];rfl
  have ih:=ih (by omega);have hh:hold p (a+1)=if k=0 then some n else if k=2 then none else hold p a:=by
   show (match p[a]? with | some x=>if x.1=0 then some x.2 else if x.1=2 then none else hold p a | none=>_)=_;rw [hk]
  rw [e,cK_append,cK_append,hh];by_cases h0:k=0
  . subst h0
    have:=ht.lk a n hk;rw [this] at ih;simp [cK] at ih ⊢;omega
  . by_cases h2:k=2
    . subst h2
      have:=ht.ul a n hk;rw [this] at ih;simp [cK] at ih ⊢;omega
    . rw [if_neg h0,if_neg h2]
      simp [cK,h0,h2] at ih ⊢;omega
theorem tidy_even (ht:Tidy p):cK 0 p=cK 2 p:=by
 have:=tidy_counts ht p.length (Nat.le_refl _);rw [List.take_length,ht.fin] at this;simpa using this
theorem restC_bound (hw:∀ a,a∈p->a.1≠1/\(a.1=3->a.2<=5)) (hok:∀ a,a∈p->OkA a):restC p 0<=5*p.length+7*cK 0 p+11*cK 2 p:=by
 induction p with
 | nil=>simp [restC,cK]
 | cons a p ih =>
  have ih:=ih (λ x hx=>hw x (List.mem_cons_of_mem _ hx)) (λ x hx=>hok x (List.mem_cons_of_mem _ hx));obtain⟨h1,h3⟩:=hw a List.mem_cons_self;have hk:=(hok a List.mem_cons_self).1;have e0:cK 0 (a::p)=cK 0 [a]+cK 0 p:=cK_append (a:=[a]);have e2:cK 2 (a::p)=cK 2 [a]+cK 2 p:=cK_append (a:=[a]);show actC a+restC p 0<=_;rw [e0,e2,List.length_cons];unfold actC;rcases hk with q | q | q | q
  . have x0:cK 0 [a]=1:=by simp [cK,q]
    have x2:cK 2 [a]=0:=by simp [cK,q]
    rw [x0,x2,if_pos q];omega
  . exact absurd q h1
  . have x0:cK 0 [a]=0:=by simp [cK,q]
    have x2:cK 2 [a]=1:=by simp [cK,q]
    rw [x0,x2,if_neg (by omega),if_neg (by omega),if_pos q];omega
  . have:=h3 q
    have x0:cK 0 [a]=0:=by simp [cK,q]
    have x2:cK 2 [a]=0:=by simp [cK,q]
    rw [x0,x2,if_neg (by omega),if_neg (by omega),if_neg (by omega)];omega
theorem left_few (ht:Tidy p) (h10:p.length<=10) (h3:cK 0 p<=3) (hw:∀ a,a∈p->a.1=3->a.2<=5) (hok:∀ a,a∈p->OkA a):restC p 0<=104:=by
 have hb:=restC_bound (p:=p) (λ a ha=>⟨λ q=>by
  obtain⟨i,hi,e⟩:=List.mem_iff_getElem.1 ha;obtain⟨k,n⟩:=a;have q:k=1:=q;subst q;exact ht.tr i n (by rw [zge hi,e]),hw a ha⟩) hok
 have he:=tidy_even ht;omega
theorem sm_le {f:Nat->Int} {N:Nat} {b:Int} (h:∀ j,j<N->f j<=b):sm f N<=N*b:=by
 induction N with
 | zero=>simp [sm]
 | succ N ih =>
  simp only [sm];have h1:=ih (λ j hj=>h j (by omega));have h2:=h N (by omega);have:((N+1:Nat):Int)*b=N*b+b:=by rw [Int.natCast_add,Int.add_mul];simp
  omega
theorem phi_first (hok:∀ a,a∈p->OkA a):phi p (first 0 false 0 p.length)=restC p 0:=by
 unfold phi;show (match p[(0:Int).toNat]? with | some a=>_ | none=>_)=_
 cases ha:p[(0:Int).toNat]? with
 | none =>
  have:p.length<=0:=List.getElem?_eq_none_iff.1 ha;dsimp only;rw [restC_end this]
 | some a =>
  dsimp only;rw [restC_step (i:=0) ha];have hk:=(hok a (zmo ha)).1;unfold nowC actC;have e1:(first 0 false 0 p.length).pc=0:=rfl;have e2:(first 0 false 0 p.length).worked=0:=rfl;have e3:(first 0 false 0 p.length).act=0:=rfl;rw [e1,e2,e3];rcases hk with q | q | q | q<;>rw [q]<;>simp<;>first | exact Int.add_comm _ _ | omega
theorem tot_new (hok:∀ p,p∈l->∀ a,a∈p->OkA a) (h:∀ p,p∈l->restC p 0<=104):tot (new l)<=l.length*104:=by
 unfold tot;have e:∀ m,((P16.new l).cm m).c=0:=λ _=>rfl
 rw [e,e,e,e];have hb:sm (phiW (P16.new l)) (P16.new l).progs.length<=l.length*104:=by
  show sm (phiW (P16.new l)) l.length<=_;refine sm_le λ j hj=>?_
  unfold phiW
  split
  . rename_i c p hc hp
    have hp:l[j]?=some p:=hp;obtain⟨p',hp',rfl⟩:=new_cl hc;rw [hp] at hp';cases hp';rw [phi_first (hok p (zmo hp))];exact h p (zmo hp)
  . decide
 omega
def nwC:List Ac->Nat->Int
 | [],_=>0
 | a::l,0=>(if a.1=3 then 0 else 1)+nwC l 0
 | _::l,n+1=>nwC l n
theorem nwC_step {p:List Ac} {i:Nat} {a:Ac} (h:p[i]?=some a):nwC p i=(if a.1=3 then 0 else 1)+nwC p (i+1):=by
 induction p generalizing i with
 | nil=>simp at h
 | cons b l ih =>
  cases i with
  | zero=>simp at h;subst h;cases l<;>rfl
  | succ i=>exact ih (by simpa using h)
theorem nwC_end {p:List Ac} {i:Nat} (h:p.length<=i):nwC p i=0:=by
 induction p generalizing i with
 | nil=>rfl
 | cons b l ih =>
  cases i with
  | zero=>simp at h
  | succ i=>exact ih (by simpa using h)
def evC (p:List Ac) (c:Cl):Int:=nwC p c.act.toNat-(match p[c.act.toNat]? with | some a=>if a.1=2/\c.pc≠0 then 1 else 0 | none=>0)
def evW (w:Mw) (i:Nat):Int :=
 match w.cl[i]?,w.progs[i]? with
 | some c,some p=>evC p c
 | _,_=>0
def evT (w:Mw):Int:=sm (evW w) w.progs.length
theorem evC_start {c:Cl} (h:c.pc=0):evC p c=nwC p c.act.toNat:=by
 unfold evC
 split
 . rw [if_neg (λ q=>q.2 h)];omega
 . omega
theorem evC_over {c:Cl} (h0:0<=c.act):evC p (over c p.length)=nwC p (c.act.toNat+1):=by
 rw [evC_start rfl];congr 1;show (c.act+1).toNat=_;omega
theorem evC_in {c:Cl} {k n:Int} (ha:p[c.act.toNat]?=some (k,n)) (hk:k≠2):evC p c=nwC p c.act.toNat:=by
 unfold evC;rw [ha];dsimp only;rw [if_neg (λ q=>hk q.1)];omega
theorem evC_give {c:Cl} {n:Int} (ha:p[c.act.toNat]?=some (2,n)) (hpc:c.pc≠0):evC p c=nwC p (c.act.toNat+1):=by
 unfold evC;rw [ha];dsimp only;rw [if_pos ⟨rfl,hpc⟩,nwC_step ha];show 1+_-1=_;omega
theorem evW_at {i:Nat} {c:Cl} {p:List Ac} (hc:w.cl[i]?=some c) (hp:w.progs[i]?=some p):evW w i=evC p c:=by unfold evW;rw [hc,hp]
theorem step_ev (h:Good w):evT (stp w who).1+(if (stp w who).2.isSome then 1 else 0)=evT w:=by
 have hos:=own_step h.wi h.ow h.st (who:=who);rcases stp_way h.wi who with ⟨he,hn⟩ | ⟨c,p,n,_,hc,hp,hg,ha,hpc,he⟩ | ⟨c,p,m,_,hc,hp,hg,ha,hm,hpc,hL,he⟩ | ⟨c,p,k,m,o,_,hc,hp,hg,ha,hk,hm,ht,hso,hr,he⟩ | ⟨c,p,k,m,o,j,cj,pj,_,hc,hp,hg,ha,hk,hm,ht,hso,hr,hne,hcj,hpj,haj,hpcj,hgj,he⟩
 . rw [he];simp
 . rw [he]
   have hlt:who<w.cl.length:=(zgl hc);have hlt':who<w.progs.length:=by rw [<- h.wi.len];exact hlt
   have e:=sm_upd (f:=evW w) (g:=evW { w with cl:=w.cl.set who (work n p.length c) }) hlt' (λ j _ hj=>by unfold evW;dsimp only;rw [zsn (λ q=>hj q.symm)]);rw [evW_at hc hp,evW_at (w:={ w with cl:=w.cl.set who (work n p.length c) }) (zss hlt) hp] at e;have e1:evC p (work n p.length c)=evC p c:=by
    rw [evC_in ha (by decide)];unfold work
    split
    . rw [evC_over (c:={ c with worked:=c.worked+1 }) (h.wi.ci who c p hc hp).a0,nwC_step ha]
      simp
    . exact evC_in (c:={ c with worked:=c.worked+1 }) ha (by decide)
   unfold evT;dsimp only;rw [e,e1];simp
 . rw [he] at hos
   cases hos.2.1
 all_goals (
  have hlt:who<w.cl.length:=(zgl hc);have hlt':who<w.progs.length:=by rw [<- h.wi.len];exact hlt
  have hci:=h.wi.ci who c p hc hp;have htd:=h.ow.td p (zmo hp);have hkk:=(h.wi.pr p (zmo hp) _ (zmo ha)).1;have hk02:k=0\/k=2:=by
   rcases hkk with q | q | q | q
   . exact .inl q
   . have q:k=1:=q
     subst q;exact absurd ha (htd.tr _ _)
   . exact .inr q
   . exact absurd q hk
  have core:evC p o.c+(if o.ev.isSome then 1 else 0)=evC p c:=by
   unfold touch at ht;rcases hk02 with q | q
   . subst q
     rw [if_pos rfl] at ht;rw [evC_in ha (by decide)];rcases lock_ev ht with ⟨e1,e2⟩ | ⟨e1,e2⟩
     . rw [e1,e2,evC_over hci.a0,nwC_step ha]
       simp;omega
     . rw [e1,evC_in (c:=o.c) (by rw [e2];exact ha) (by decide),e2]
       simp
   . subst q
     rw [if_neg (by decide),if_neg (by decide)] at ht;have after:(o.c=over c p.length\/(o.c.act=c.act/\o.c.pc≠0))->evC p o.c=nwC p (c.act.toNat+1):=λ q=>by
      rcases q with q | ⟨q1,q2⟩
      . rw [q,evC_over hci.a0]
      . rw [evC_give (c:=o.c) (by rw [q1];exact ha) q2,q1]
     rcases give_ev hci ha ht with ⟨e0,e1,e2⟩ | ⟨e0,e1,e2⟩
     . rw [e1,after e2,evC_start e0,nwC_step ha]
       simp;omega
     . rw [e1,after e2,evC_give ha e0]
       simp
  have eo:=sm_upd (f:=evW w) (g:=evW { w with cl:=w.cl.set who o.c,cm:=λ j=>if j=m then o.m else w.cm j }) hlt' (λ j _ hj=>by unfold evW;dsimp only;rw [zsn (λ q=>hj q.symm)]);rw [evW_at hc hp,evW_at (w:={ w with cl:=w.cl.set who o.c,cm:=λ j=>if j=m then o.m else w.cm j }) (zss hlt) hp] at eo;have hmap:(o.ev.map λ e=>((who:Int),e,(m:Int))).isSome=o.ev.isSome:=by cases o.ev<;>rfl)
 . rw [he]
   unfold evT;dsimp only;rw [eo,hmap];omega
 . rw [he]
   have hjl:j<w.cl.length:=(zgl hcj);have hjl':j<w.progs.length:=by rw [<- h.wi.len];exact hjl
   have hlj:j<(w.cl.set who o.c).length:=by rw [List.length_set];exact hjl
   have e':=sm_upd (f:=evW { w with cl:=w.cl.set who o.c,cm:=λ j=>if j=m then o.m else w.cm j }) (g:=evW { w with cl:=(w.cl.set who o.c).set j { cj with gst:=0 },cm:=λ j=>if j=m then o.m else w.cm j }) hjl' (λ x _ hx=>by unfold evW;dsimp only;rw [zsn (λ q=>hx q.symm)]);rw [evW_at (w:={ w with cl:=w.cl.set who o.c,cm:=λ j=>if j=m then o.m else w.cm j }) (c:=cj) (by dsimp only;rw [zsn (λ q=>hne q.symm)];exact hcj) hpj,evW_at (w:={ w with cl:=(w.cl.set who o.c).set j { cj with gst:=0 },cm:=λ j=>if j=m then o.m else w.cm j }) (zss hlj) hpj] at e';have ej:evC pj { cj with gst:=0 }=evC pj cj:=rfl;unfold evT;dsimp only;rw [e',ej,eo,hmap];omega
theorem evT_done (h:WInv w) (hd:Done w):evT w=0:=by
 have e:sm (evW w) w.progs.length=sm (λ _=>0) w.progs.length:=sm_off λ j hj=>by
  unfold evW
  split
  . rename_i c p hc hp
    have hci:=h.ci j c p hc hp;have ha:=hci.dn.1 (hd j c hc);have a0:=hci.a0;rw [evC_start (hci.fin ha),nwC_end (by omega)]
  . rfl
 have z:∀ N,sm (λ _=>0) N=0:=λ N=>by
  induction N with
  | zero=>rfl
  | succ N ih=>simp only [sm];rw [ih];rfl
 unfold evT;rw [e,z]
theorem evT_new:evT (new l)=sm (λ i=>match l[i]? with | some p=>nwC p 0 | none=>0) l.length:=by
 unfold evT;show sm (evW (P16.new l)) l.length=_;refine sm_off λ j hj=>?_
 have hp:l[j]?=some l[j]:=zge hj;have hc:(P16.new l).cl[j]?=some (first 0 false 0 l[j].length):=by
  show (l.map _)[j]?=_;rw [List.getElem?_map,hp];rfl
 rw [evW_at (w:=P16.new l) hc hp,hp];exact evC_start rfl
end
end P16
end
section
section
variable {H:Type} {enc:TypeId×Value->H} {P:Program} {W:World} {base:Nat} {sp:Nat->Bool}
theorem open_rowK {t e:TypeId} {v:Value} {d:DataW H} {ps:List MemPlace} (ht:P.underlying t=some (.slice e)) (hval:Value.okWide P W .any base t v) (h:DataW.Trod enc P W 0 sp true t v d ps) :
 ∃ (A:Option Addr) (n c:Nat),v=.slice A n c/\n<=c/\c<=maxLen/\∀ i,i<n->∃ (a:Addr) (cs:List Value) (y:DataW H×List MemPlace) (m:Nat),A=some a/\W.cells? 0 (a.add (i*P.cellsOf e)) (P.cellsOf e)=some cs/\DataW.trod enc P W 0 sp true m e cs=some y:=by
 obtain⟨a0,len,cap,rfl⟩:=okWide_slice ht hval;obtain⟨fuel,hf⟩:=h;rcases DataW.trod_slice ht hf with ⟨hcs,_⟩ | ⟨a,len',cap',elems,rest,m,_,hcs,_,_,hl,hm,hlen,hel,_,_⟩
 . simp [Value.cells] at hcs
   obtain⟨rfl,rfl,rfl⟩:=hcs;exact⟨none,0,0,rfl,Nat.le_refl _,Nat.zero_le _,λ i hi=>by omega⟩
 . simp [Value.cells] at hcs
   obtain⟨rfl,rfl,rfl⟩:=hcs;refine⟨some a,len,cap,rfl,hl,hm,λ i hi=>?_⟩;have hy:=hel i hi;rw [zge (by omega),Option.bind_eq_some_iff] at hy;obtain⟨cs,h1,h2⟩:=hy;exact⟨a,cs,_,m,rfl,h1,h2⟩
variable {α:Type} [Inhabited α] {en:α->Value} {ok:α->Prop}
theorem open_emem {t e:TypeId} {v:Value} {d:DataW H} {ps:List MemPlace} (ht:P.underlying t=some (.slice e)) (hc:P.cellsOf e=1)
 (he:∀ m cs y,DataW.trod enc P W 0 sp true m e cs=some y->∃ x,cs=[en x]/\ok x)
 (hval:Value.okWide P W .any base t v) (h:DataW.Trod enc P W 0 sp true t v d ps) :
 ∃ (A:Option Addr) (n c:Nat) (l:List α),v=.slice A n c/\n<=c/\n<=9223372036854775807/\EMem en ok W A n l:=by
 obtain⟨A,n,c,rfl,hnc,hcm,hel⟩:=open_rowK ht hval h;unfold maxLen at hcm;rw [hc] at hel;have hx:∀ i,i<n->∃ x,ok x/\∃ a,A=some a/\W.cell? (a.add i)=some (en x):=λ i hi=>by
  obtain⟨a,cs,y,m,ha,h1,h2⟩:=hel i hi;obtain⟨x,rfl,hx⟩:=he m cs y h2;rw [Nat.mul_one] at h1;exact⟨x,hx,a,ha,cell_of_cells?_one h1⟩
 obtain⟨f,hf⟩:=Deep.choose_lt hx;refine⟨A,n,c,(List.range n).map f,rfl,hnc,by omega,by rw [List.length_map,List.length_range],λ x hx=>?_,λ hn=>?_⟩
 . obtain⟨i,hi,rfl⟩:=List.mem_map.1 hx
   exact (hf i (List.mem_range.1 hi)).1
 . obtain⟨_,a,rfl,h0⟩:=hf 0 hn
   obtain⟨b,off,spot⟩:=a;have hspot:spot=none:=by simpa [Addr.add] using World.cell?_spot h0
   subst hspot;refine⟨b,off,rfl,World.block_lt_of_cell? W _ (by simpa [Addr.add] using h0),λ j x hj=>?_⟩;rw [List.getElem?_map,Option.map_eq_some_iff] at hj;obtain⟨i,hi,rfl⟩:=hj;obtain⟨hi1,rfl⟩:=List.getElem?_eq_some_iff.1 hi;rw [List.length_range] at hi1;rw [List.getElem_range];obtain⟨_,a',ha',h1⟩:=hf j hi1;cases ha';rw [add_plain] at h1;exact h1
end
end
namespace P12
def wd (k:Int):Bs:=if k=0 then [108,111,99,107] else if k=1 then [116,114,121] else if k=2 then [117,110,108,111,99,107] else [119,111,114,107]
def dgs (n:Int):Bs:=Lib.decDigits n.toNat
theorem dig_digits (u:Nat):∀ c∈Lib.decDigits u,48<=c.toNat/\c.toNat<=57:=by
 induction u using Nat.strongRecOn with
 | ind u ih =>
  rw [Lib.decDigits];have hd:∀ k,k<10->(UInt8.ofNat (48+k)).toNat=48+k:=λ k hk=>by
   rw [UInt8.toNat_ofNat'];omega
  by_cases h:u<10
  . rw [dif_pos h]
    intro c hc;rw [List.mem_singleton.1 hc,hd u h];omega
  . rw [dif_neg h]
    intro c hc;rcases List.mem_append.1 hc with h1 | h1
    . exact ih (u / 10) (by omega) c h1
    . rw [List.mem_singleton.1 h1,hd _ (by omega)]
      omega
def dval (l:Bs):Nat:=l.foldl (λ acc c=>acc*10+(c.toNat-48)) 0
theorem dval_dec (u:Nat):dval (Lib.decDigits u)=u:=by
 induction u using Nat.strongRecOn with
 | ind u ih =>
  have hd:∀ k,k<10->(UInt8.ofNat (48+k)).toNat=48+k:=λ k hk=>by
   rw [UInt8.toNat_ofNat'];omega
  rw [Lib.decDigits];by_cases h:u<10
  . rw [dif_pos h]
    simp [dval];omega
  . rw [dif_neg h]
    have e:=ih (u / 10) (by omega);unfold dval at e ⊢;rw [List.foldl_append,e];simp only [List.foldl_cons,List.foldl_nil,hd _ (Nat.mod_lt u (by omega:0<10))];omega
theorem dec_inj {u v:Nat} (h:Lib.decDigits u=Lib.decDigits v):u=v:=by rw [<- dval_dec u,<- dval_dec v,h]
def NumR (s:Bs) (n:Int):Prop:=0<=n/\n<=999999/\s=dgs n
theorem NumR.inj {s:Bs} {m n:Int} (h:NumR s m) (k:NumR s n):m=n:=by
 have:=dec_inj (h.2.2.symm.trans k.2.2);have:=h.1;have:=k.1;omega
def WordR (s:Bs) (k:Int) (d:Bs):Prop:=0<=k/\k<=3/\d≠[]/\s=wd k++32::d
theorem wd_blank (k:Int):(32:UInt8) ∉ wd k:=by unfold wd;split<;>(try split)<;>(try split)<;>decide
theorem split_first {c:UInt8} {a b x y:Bs} (ha:c ∉ a) (hb:c ∉ b) (h:a++c::x=b++c::y):a=b/\x=y:=by
 induction a generalizing b with
 | nil =>
  cases b with
  | nil=>simpa using h
  | cons u b=>simp at h;exact absurd (by rw [h.1];simp) hb
 | cons v a ih =>
  cases b with
  | nil=>simp at h;exact absurd (by rw [h.1];simp) ha
  | cons u b =>
   simp at h ha hb;obtain⟨h1,h2⟩:=ih ha.2 hb.2 h.2;exact⟨by rw [h.1,h1],h2⟩
theorem wd_inj {j k:Int} (hj:0<=j/\j<=3) (hk:0<=k/\k<=3) (h:wd j=wd k):j=k:=by
 have e1:j=0\/j=1\/j=2\/j=3:=by omega
 have e2:k=0\/k=1\/k=2\/k=3:=by omega
 rcases e1 with rfl | rfl | rfl | rfl<;>rcases e2 with rfl | rfl | rfl | rfl<;>first | rfl | (revert h;decide)
theorem WordR.inj {s:Bs} {j k:Int} {c d:Bs} (h:WordR s j c) (g:WordR s k d):j=k/\c=d:=by
 obtain⟨e,f⟩:=split_first (wd_blank j) (wd_blank k) (h.2.2.2.symm.trans g.2.2.2);exact⟨wd_inj ⟨h.1,h.2.1⟩ ⟨g.1,g.2.1⟩ e,f⟩
def held:Option Int->List Ac->Option (Option Int)
 | h,[]=>some h
 | h,a::r=>if a.1=1 then none else if a.1=0 then (if h.isSome then none else held (some a.2) r) else if a.1=2 then (if h=some a.2 then held none r else none) else held h r
def tidyB (l:List Ac):Bool:=held none l==some none
theorem held_append:∀ (a b:List Ac) (h:Option Int),held h (a++b)=(held h a).bind λ g=>held g b
 | [],b,h=>rfl
 | x::a,b,h=>by
  show held h (x::(a++b))=_;rw [held,held];by_cases h1:x.1=1
  . rw [if_pos h1,if_pos h1];rfl
  . rw [if_neg h1,if_neg h1]
    by_cases h0:x.1=0
    . rw [if_pos h0,if_pos h0]
      by_cases hs:h.isSome=true
      . rw [if_pos hs,if_pos hs];rfl
      . rw [if_neg hs,if_neg hs];exact held_append a b _
    . rw [if_neg h0,if_neg h0]
      by_cases h2:x.1=2
      . rw [if_pos h2,if_pos h2]
        by_cases hs:h=some x.2
        . rw [if_pos hs,if_pos hs];exact held_append a b _
        . rw [if_neg hs,if_neg hs];rfl
      . rw [if_neg h2,if_neg h2];exact held_append a b _
end P12
theorem flat_append (l m:List (Int×Int)):flat (l++m)=flat l++flat m:=by
 induction l with
 | nil=>rfl
 | cons x r ih=>simp [flat,ih]
section
section
variable {P:Program} (w:World) {α:Type} (enc:α->Value) (ok:α->Prop)
theorem wp_append_omem2 {o:Oper} {a:Act} {K:Act->World->Prop} {Q:Exit->Act->World->Prop} (s x:Operand) (t:TypeId)
 (ho:o.op=.call { callee:=.builtin .append,args:=#[s,x],argTypes:=#[t,t] })
 (h1c:∀ x,(enc x).oneCell'=true) (base:Nat) (e:TypeId) (i:TypeInfo) (z:Value) (bytes:Nat) (ht:P.underlying t=some (.slice e)) (hi:P.info? e=some i) (hz:i.zero=some z)
 (hsize:i.size=1) (hby:i.bytes=bytes) (hzs:z.cells.size=1)
 (A0:Option Addr) (n c0:Nat) (xs:List α) (hs:a.eval s=.slice A0 n c0) (hown:OMem enc ok base w A0 n c0 xs) (A:Option Addr) (m c:Nat) (news:List α) (hx:a.eval x=.slice A m c) (hr:EMem enc ok w A m news)
 (h63:n+m<=maxLen) (hbytes:(n+m)*bytes<=140737488355328) (hbase:base<=w.heap.size)
 (h:∀ A' c' w',OMem enc ok base w' A' (n+m) c' (xs++news)->w.grownBy w' (A0.map (·.block))->(∀ k,A'.map (·.block)=some k->A0.map (·.block)=some k\/w.heap.size<=k)->K (a.put o.dst (.slice A' (n+m) c')) w'):o.wp P a w K Q:=by
 obtain⟨A',c',w',hrun,h2,h3,h4⟩:=run_append_omem2 (P:=P) w enc ok h1c base t o.type e i z bytes ht hi hz hsize hby hzs A0 n c0 xs hown A m c news hr h63 hbytes hbase;unfold Oper.wp execOp;simp only [ho,resolve,invoke,builtin,Sem.run_bind,Sem.run_pure,Result.andThen_ok,List.map_toArray,List.map_cons,List.map_nil,hs,hx,hrun];exact h A' c' w' h2 h3 h4
theorem wpList_append_omem2 {ops:Array Oper} {rest:List Oper} {o:Oper} {a:Act} {Q:Exit->Act->World->Prop} (hgd:o.guard=none) (s x:Operand) (t:TypeId)
 (ho:o.op=.call { callee:=.builtin .append,args:=#[s,x],argTypes:=#[t,t] })
 (h1c:∀ x,(enc x).oneCell'=true) (base:Nat) (e:TypeId) (i:TypeInfo) (z:Value) (bytes:Nat) (ht:P.underlying t=some (.slice e)) (hi:P.info? e=some i) (hz:i.zero=some z)
 (hsize:i.size=1) (hby:i.bytes=bytes) (hzs:z.cells.size=1)
 (A0:Option Addr) (n c0:Nat) (xs:List α) (hs:a.eval s=.slice A0 n c0) (hown:OMem enc ok base w A0 n c0 xs) (A:Option Addr) (m c:Nat) (news:List α) (hx:a.eval x=.slice A m c) (hr:EMem enc ok w A m news)
 (h63:n+m<=maxLen) (hbytes:(n+m)*bytes<=140737488355328) (hbase:base<=w.heap.size)
 (h:∀ A' c' w',OMem enc ok base w' A' (n+m) c' (xs++news)->w.grownBy w' (A0.map (·.block))->(∀ k,A'.map (·.block)=some k->A0.map (·.block)=some k\/w.heap.size<=k)->wpList P ops Q rest (a.put o.dst (.slice A' (n+m) c')) w'):wpList P ops Q (o::rest) a w :=
 wpList_plain hgd λ _ hK=>wp_append_omem2 w enc ok s x t ho h1c base e i z bytes ht hi hz hsize hby hzs A0 n c0 xs hs hown A m c news hx hr h63 hbytes hbase λ A' c' w' h2 h3 h4=>hK _ _ (h A' c' w' h2 h3 h4)
end
end
section
namespace P12
theorem cellsOfAct:prog.cellsOf 67=2:=by kernel_rfl
theorem cellsOfInt:prog.cellsOf 3=1:=by kernel_rfl
theorem cellsOfActs:prog.cellsOf 64=1:=by kernel_rfl
theorem infoAct:(prog.info? 67).map (λ i=>(i.zero,i.size,i.bytes))=some (some (.agg #[.int .i64 0,.int .i64 0]),2,16):=by kernel_rfl
theorem flat_inv:∀ (l:List (Int×Int)) (j:Nat) (u:Value),(flat l)[j]?=some u->∃ i x,l[i]?=some x/\((j=i*2/\u=.int .i64 x.1)\/(j=i*2+1/\u=.int .i64 x.2))
 | [],j,u,h=>by simp [flat] at h
 | x::r,0,u,h=>by simp [flat] at h;exact⟨0,x,rfl,.inl ⟨rfl,h.symm⟩⟩
 | x::r,1,u,h=>by simp [flat] at h;exact⟨0,x,rfl,.inr ⟨rfl,h.symm⟩⟩
 | x::r,j+2,u,h=>by
  obtain⟨i,y,hy,h⟩:=flat_inv r j u (by simpa [flat] using h);refine⟨i+1,y,by simpa using hy,?_⟩;rcases h with ⟨rfl,rfl⟩ | ⟨rfl,rfl⟩
  . exact .inl ⟨by omega,rfl⟩
  . exact .inr ⟨by omega,rfl⟩
section
variable {w w':World} {A:Option Addr} {n:Nat} {l:List Ac}
theorem mem_blk {g:Nat} {vs:Array Value} {t:TypeId} (h:Blk w g vs t) (hv:vs.toList=flat l) (hb:∀ x∈l,Inb x.1/\Inb x.2):Mem w (some ⟨g,0,none⟩) l.length l :=
 ⟨rfl,hb,λ _=>⟨g,0,rfl,h.lt,λ j u hu=>by
   rw [Nat.zero_add];refine (h.at_ ?_).1;rw [<- hv] at hu;simpa using hu⟩⟩
end
section
variable {w:World} {base:Nat} {v:Value} {l:List Ac} {A:Option Addr} {m c:Nat} {news:List Ac}
theorem run_append_acts (h:AOwn w base v l) (hr:Mem w A m news) (hl:l.length+m<=1000000) (hbase:base<=w.heap.size) (ty:TypeId) (c:Nat) :
 ∃ v' w',(Builtin.append_ #[64,64] ty #[v,.slice A m c]).run prog w=.ok v' w'/\AOwn w' base v' (l++news)/\w.grownBy w' v.ownBlock:=by
 obtain⟨i,hi,hz,hs,hb⟩:=info_parts infoAct;unfold AOwn;rw [List.length_append,hr.1,flat_append];rcases A with _ | ad
 . have hm:m=0:=by
    rcases Nat.eq_zero_or_pos m with h0 | h0
    . exact h0
    . obtain⟨b,off,h,_⟩:=hr.2.2 h0
      cases h
   subst hm;have hn:news=[]:=zen hr.1;subst hn;exact⟨v,w,run_append_of_nil w base 64 ty 67 i 2 underlying64 hi v _ _ h c,by simpa [flat] using h,World.grownBy.refl w _⟩
 . have hcells:∀ j u,(flat news)[j]?=some u->w.cell? (ad.add j)=some u:=by
    intro j u hu;rcases Nat.eq_zero_or_pos m with h0 | h0
    . subst h0
      have hn:news=[]:=zen hr.1;subst hn;simp [flat] at hu
    . obtain⟨b,off,h,_,hc⟩:=hr.2.2 h0
      injection h with h
      subst h;rw [add_plain];exact hc j u hu
   obtain⟨v',w',hrun,h2,h3,_⟩:=run_append_own (P:=prog) w base 64 ty 67 i (.agg #[.int .i64 0,.int .i64 0]) 2 16 underlying64 hi hz hs hb rfl (by decide) v _ _ h ad m c (flat news) (by rw [flat_len,hr.1]) hcells (flat_one news) (by unfold maxLen;omega) (by omega) hbase;exact⟨v',w',hrun,h2,h3⟩
theorem wp_append_acts {o:Oper} {a:Act} {K:Act->World->Prop} {Q:Exit->Act->World->Prop} (s x:Operand)
 (ho:o.op=.call { callee:=.builtin .append,args:=#[s,x],argTypes:=#[64,64] }) (hs:a.eval s=v) (hx:a.eval x=.slice A m c)
 (h:AOwn w base v l) (hr:Mem w A m news) (hl:l.length+m<=1000000) (hbase:base<=w.heap.size)
 (hK:∀ v' w',AOwn w' base v' (l++news)->w.grownBy w' v.ownBlock->K (a.put o.dst v') w'):o.wp prog a w K Q:=by
 obtain⟨v',w',h1,h2,h3⟩:=run_append_acts h hr hl hbase o.type c;unfold Oper.wp execOp;simp only [ho,resolve,invoke,builtin,Sem.run_bind,Sem.run_pure,Result.andThen_ok,List.map_toArray,List.map_cons,List.map_nil,hs,hx,h1];exact hK v' w' h2 h3
theorem wpList_append_acts {ops:Array Oper} {rest:List Oper} {o:Oper} {a:Act} {Q:Exit->Act->World->Prop} (hgd:o.guard=none) (s x:Operand)
 (ho:o.op=.call { callee:=.builtin .append,args:=#[s,x],argTypes:=#[64,64] }) (hs:a.eval s=v) (hx:a.eval x=.slice A m c)
 (h:AOwn w base v l) (hr:Mem w A m news) (hl:l.length+m<=1000000) (hbase:base<=w.heap.size)
 (hK:∀ v' w',AOwn w' base v' (l++news)->w.grownBy w' v.ownBlock->wpList prog ops Q rest (a.put o.dst v') w'):wpList prog ops Q (o::rest) a w :=
 wpList_plain hgd λ _ hK'=>wp_append_acts s x ho hs hx h hr hl hbase λ v' w' h1 h2=>hK' _ _ (hK v' w' h1 h2)
end
theorem AOwn.kept {w w':World} {base:Nat} {v:Value} {l:List Ac} {row:Option Nat} (h:AOwn w base v l) (hg:w.grownBy w' row) (hr:v.ownBlock=none\/v.ownBlock≠row):AOwn w' base v l:=World.ownsRow.kept h hg hr
theorem AOwn.gr {w w':World} {base:Nat} {v:Value} {l:List Ac} (h:AOwn w base v l) (g:Gr w w'):AOwn w' base v l :=
 h.kept (row:=none) ⟨g.os,g.tape,g.output,g.size,λ k hk _=>g.block k hk⟩ (by cases v.ownBlock<;>simp)
theorem AOwn.late {w:World} {base:Nat} {v:Value} {l:List Ac} (h:AOwn w base v l) {k:Nat} (hk:v.ownBlock=some k):base<=k:=by
 rcases h.2 with ⟨rfl,_⟩ | ⟨g,cap,cur,rfl,hb,_⟩
 . cases hk
 . simp only [Value.ownBlock] at hk
   cases hk;exact hb
section
variable {w w':World} {base lo:Nat} {A:Option Addr} {n c:Nat} {R:List PV}
theorem POwn.mem (h:POwn w base lo A n c R):PMem w A n R:=⟨h.row.mem,h.ok⟩
theorem POwn.len (h:POwn w base lo A n c R):R.length=n:=h.row.1.1
theorem POwn.gr (h:POwn w base lo A n c R) (g:Gr w w'):POwn w' base lo A n c R :=
 ⟨h.row.gr g,λ x hx=>(h.ok x hx).gr g,λ x hx h0 k hk=>by
   obtain⟨h1,h2,h3⟩:=h.off x hx h0 k hk;exact⟨h1,zlt h2 g.size,h3⟩⟩
variable {B:Option Addr} {m d:Nat} {news:List PV}
end
section
variable {H:Type} {enc:TypeId×Value->H} {W:World}
theorem trod_acts {sp:Nat->Bool} {k:Nat} {cs:List Value} {y:DataW H×List MemPlace} (hf:DataW.trod enc prog W 0 sp true k 64 cs=some y) :
 ∃ x:PV,cs=[x.enc]/\x.ok W:=by
 rcases open_slice_pairs underlying64 underlying67 cellsOfAct rfl rfl cellsOfInt cellsOfInt hf with ⟨hcs,hx⟩ | ⟨a,len,cap,m,k,V0,V1,D0,D1,P0,P1,hcs,_,hl,hm,hmm,hx,hcell⟩
 . exact⟨⟨none,0,0,[]⟩,hcs,Mem.nil_,Nat.le_refl _,by show 0<=_;omega⟩
 . unfold maxLen at hm
   have hlm:len<=m:=by rw [hmm];split<;>omega
   have each:∀ i,i<len->∃ q:Int×Int,W.cell? (a.add (i*2))=some (.int .i64 q.1)/\W.cell? (a.add (i*2+1))=some (.int .i64 q.2)/\Inb q.1/\Inb q.2:=by
    intro i hi;obtain⟨c0,c1,t0,t1⟩:=hcell i (by omega);obtain⟨x,e0,_,w0⟩:=DataW.trod_int underlying3 t0;obtain⟨y,e1,_,w1⟩:=DataW.trod_int underlying3 t1;simp only [List.cons.injEq,and_true] at e0 e1;rw [e0] at c0;rw [e1] at c1;exact⟨(x,y),c0,c1,bounds_i64 w0,bounds_i64 w1⟩
   obtain⟨q,hq⟩:=choose_lt each;refine⟨⟨some a,len,cap,(List.range len).map q⟩,hcs,⟨by simp,?_,?_⟩,hl,by show cap<=_;omega⟩
   . intro x hx
     simp only [List.mem_map,List.mem_range] at hx;obtain⟨i,hi,rfl⟩:=hx;exact (hq i hi).2.2
   . intro h0
     obtain⟨b,off,spot⟩:=a;have hspot:spot=none:=by simpa [Addr.add] using World.cell?_spot (hq 0 h0).1
     subst hspot;refine⟨b,off,rfl,World.block_lt_of_cell? W _ (by simpa [Addr.add] using (hq 0 h0).1),λ j u hu=>?_⟩;obtain⟨i,x,hx,h⟩:=flat_inv _ j u hu;have hi:i<len:=by have:=(zgl hx);simpa using this
     have hxq:x=q i:=by simpa [hi] using hx.symm
     subst hxq;rcases h with ⟨rfl,rfl⟩ | ⟨rfl,rfl⟩
     . have:=(hq i hi).1;rwa [add_plain] at this
     . have:=(hq i hi).2.1;rwa [add_plain] at this
theorem open_acts2 {base:Nat} {sp:Nat->Bool} {v:Value} {d:DataW H} {ps:List MemPlace}
 (hval:Value.okWide prog W .any base 22 v) (h:DataW.Trod enc prog W 0 sp true 22 v d ps) :
 ∃ (A:Option Addr) (n c:Nat) (R:List PV),v=.slice A n c/\n<=c/\n<=9223372036854775807/\PMem W A n R:=by
 obtain⟨A,n,c,R,h1,h2,h3,h4⟩:=open_emem (en:=PV.enc) (ok:=λ x=>x.ok W) underlying22 cellsOfActs (λ m cs y h=>trod_acts h) hval h;exact⟨A,n,c,R,h1,h2,h3,⟨h4.1,λ _ _=>trivial,h4.2.2⟩,h4.2.1⟩
end
end P12
end
theorem Tab.nil:Tab []:=⟨by simp,TOk.nil⟩
section
namespace P16
section
variable {p:List Ac} {a k:Nat} {n now:Int} {hd:Option Nat}
theorem cAt_lt (h:a<p.length):cAt a k p.length={ gst:=0,permit:=false,act:=a,pc:=0,worked:=k,ticket:=0,first:=false,told:=false,since:=-1,st:=false,aw:=false,rounds:=0,old:=0 }:=by
 have:¬ (a:Int)=p.length:=by omega
 unfold cAt first;simp [this]
theorem over_cAt (h:a<p.length):over (cAt a k p.length) p.length=cAt (a+1) 0 p.length:=by
 rw [cAt_lt h];unfold over cAt;simp only [Int.natCast_add];unfold first;congr 1
theorem new_one:P16.new [p]=W1 p 0 0 none 0:=by
 unfold P16.new W1 cAt;congr 1
theorem cAt_facts (h:a<p.length):(cAt a k p.length).gst=0/\(cAt a k p.length).pc=0/\(cAt a k p.length).worked=k/\(cAt a k p.length).act.toNat=a:=by
 rw [cAt_lt h];exact⟨rfl,rfl,rfl,by simp⟩
theorem alone_touch {kk e:Int} {hd':Option Nat} (ha:p[a]?=some (kk,n)) (hk:kk≠3)
 (ht:∀ r:Nat,touch now r p.length ((0:Nat):Int) kk (cAt a 0 p.length) ⟨if hd=some n.toNat then 1 else 0,0,0,0,[]⟩=.ok ⟨cAt (a+1) 0 p.length,⟨if hd'=some n.toNat then 1 else 0,0,0,0,[]⟩,none,some e⟩)
 (hh:∀ m,m≠n.toNat->(hd=some m↔hd'=some m)):stp (W1 p a 0 hd now) 0=(W1 p (a+1) 0 hd' now,some (0,e,n)):=by
 have hlt:a<p.length:=(zgl ha);obtain⟨f1,f2,f3,f4⟩:=cAt_facts (p:=p) (k:=0) hlt;have hcm:(λ j=>if j=n.toNat then (⟨if hd'=some n.toNat then 1 else 0,0,0,0,[]⟩:Cm) else ⟨if hd=some j then 1 else 0,0,0,0,[]⟩)=λ m=>⟨if hd'=some m then 1 else 0,0,0,0,[]⟩:=by
  funext j;by_cases e:j=n.toNat
  . rw [if_pos e,e]
  . rw [if_neg e]
    have:=hh j e;by_cases q:hd=some j
    . rw [if_pos q,if_pos (this.1 q)]
    . rw [if_neg q,if_neg (λ q'=>q (this.2 q'))]
 unfold stp W1;simp only [List.getElem?_cons_zero,List.set_cons_zero,f1,f4,ha,ht,ne_eq,not_true_eq_false,or_self,if_false,if_neg hk,hcm,Option.map];rfl
theorem alone_lock (ha:p[a]?=some (0,n)):stp (W1 p a 0 none now) 0=(W1 p (a+1) 0 (some n.toNat) now,some (0,0,n)):=by
 have hlt:a<p.length:=(zgl ha);obtain⟨f1,f2,f3,f4⟩:=cAt_facts (p:=p) (k:=0) hlt;refine alone_touch ha (by decide) (λ r=>?_) (λ m hm=>⟨(λ q=>by cases q),(λ q=>by cases q;exact absurd rfl hm)⟩);unfold touch lock;rw [if_pos rfl,if_pos f2,over_cAt hlt];simp [go]
theorem alone_give (ha:p[a]?=some (2,n)):stp (W1 p a 0 (some n.toNat) now) 0=(W1 p (a+1) 0 none now,some (0,3,n)):=by
 have hlt:a<p.length:=(zgl ha);obtain⟨f1,f2,f3,f4⟩:=cAt_facts (p:=p) (k:=0) hlt;refine alone_touch ha (by decide) (λ r=>?_) (λ m hm=>⟨(λ q=>by cases q;exact absurd rfl hm),(λ q=>by cases q)⟩);unfold touch give unlock;rw [if_neg (by decide),if_neg (by decide),if_pos f2,over_cAt hlt];simp [go,wd]
end
end P16
end
section
theorem laidOut:laidOutB prog=true:=by kernel_rfl
section
variable {H:Type} {enc:TypeId×Value->H} {P:Program} {W W':World}
theorem trodAll_stays (hl:laidOutB P=true) (hb:Below W.heap.size W W') (sp:Nat->Bool):∀ {ts:List TypeId} {vs:List Value} {ds:List (DataW H)} {ps:List MemPlace},
 (ts.all λ t=>P.readableRec t&&decide (t<P.types.size))=true->DataW.TrodAll enc P W 0 (λ _=>true) true ts vs ds ps->(∀ x∈ps,x.block<W.heap.size)->(∀ x∈ps,sp x.block=true) ->
 DataW.TrodAll enc P W' 0 sp true ts vs ds ps
 | [],[],[],_,_,h,_,_=>h
 | t::ts,v::vs,d::ds,_,hr,⟨p,q,h1,h2,e⟩,hlt,hs=>by
  simp only [List.all_cons,Bool.and_eq_true,decide_eq_true_eq] at hr;exact⟨p,q,WideElems.Trod_stays hl hr.1.1 hr.1.2 h1 (λ x hx=>hb.same (hlt x (by rw [e];exact List.mem_append_left _ hx))) (λ x hx=>hs x (by rw [e];exact List.mem_append_left _ hx)),
   trodAll_stays hl hb sp hr.2 h2 (λ x hx=>hlt x (by rw [e];exact List.mem_append_right _ hx)) (λ x hx=>hs x (by rw [e];exact List.mem_append_right _ hx)),e⟩
end
end
namespace LW
theorem returns_laid_shaped {H:Type} {enc:TypeId×Value->H} {a:Assume} {C:Checked} {os:Os} {f:FuncId} {fn:Func} {s:ChangeSpec} {conds:List PathCond} {apart fresh handsOn again:Bool} {X:World->Array Value->Prop}
 (hX:∀ (w w':World) (args:Array Value),w.heap=w'.heap->X w args->X w' args)
 (ow:ownKnob C.prog.godebug=none) (started:os.Started) (noInit:C.prog.inits.idxOf? f=none) (hfn:C.prog.funcs[f]?=some fn)
 (witness:∃ (w:World) (tape:Tape) (i:Input),w.os=os/\(w.forCall tape i).Shaped C.prog/\i.vars=[]/\Input.okWide C.prog (w.forCall tape i) .any w.heap.size f i /\
   ((s.pre enc C.prog fn conds apart (w.forCall tape i).memory i.args/\X (w.forCall tape i).memory i.args)/\sizedMet enc C.prog fn (OpenSpec.ofChange s) apart (w.forCall tape i).memory i.args)/\a.holds C.prog (lone (Frame.enter C.prog f i.args .normal) [] (w.forCall tape i)))
 (contract:∀ (W:World) (base:Nat) (args:Array Value) (ds gs:List (DataW H)) (before:List MemPlace),
   (∀ (j:Nat) t v,fn.params[j]?=some t->args[j]?=some v->Value.okWide C.prog W .any base t v) ->
   DataW.Whole enc C.prog fn.params.toList s.vars apart W args.toList ds gs before->X W args->W.ShapedOpen C.prog ->
   Calls C.prog f args W λ e W'=>∃ v,e=.returned v/\s.post enc C.prog fn apart fresh handsOn again W args v W') :
 ReturnsInHanded a C os f .any (λ w args=>(s.pre enc C.prog fn conds apart w args/\X w args)/\sizedMet enc C.prog fn (OpenSpec.ofChange s) apart w args) (s.post enc C.prog fn apart fresh handsOn again):=by
 refine returnsInHanded_of_calls ow started noInit witness ?_;intro w tape i _ hsh _ hok hpre _;obtain⟨_,_,_,fn',hfn',_,_,_,_,hval⟩:=hok;obtain rfl:fn'=fn:=Option.some.inj (hfn'.symm.trans hfn);obtain⟨⟨⟨ds,gs,before,hw,_⟩,hx⟩,_⟩:=hpre;refine (contract (w.forCall tape i) w.heap.size i.args ds gs before hval (DataW.Whole.of_heap (w':=w.forCall tape i) (by rfl) hw) (hX _ _ _ (by rfl) hx) hsh).mono λ e W' ⟨v,he,hp⟩=>?_
 subst he;exact ChangeSpec.post_blind hp
end LW
section
namespace P16
open P12 (PV PMem)
theorem mxAt_zero (m:Nat):mxAt [(0,0,0),(0,0,0),(0,0,0),(0,0,0)] m=(0,0,0):=by
 unfold mxAt
 match m with
 | 0=>rfl
 | 1=>rfl
 | 2=>rfl
 | 3=>rfl
 | n+4=>rfl
theorem mw_new (l:List (List Ac)):mw (newW l)=P16.new l:=by
 unfold mw newW P16.new;congr 1;funext m;dsimp only;rw [mxAt_zero];rfl
structure Fine (ω:Wv):Prop where
 inv:WInv (mw ω)
 progs:P12.rightB ω.progs=true
 m4:ω.mx.length=4
 tab:TabA ω.tb
theorem okA_OkA {a:Ac} (h:P12.okA a=true):OkA a:=by
 rcases P12.okA_iff.1 h with h | h<;>unfold OkA<;>omega
theorem Fine.new {l:List (List Ac)} (h:P12.rightB l=true):Fine (newW l):=by
 refine⟨?_,h,rfl,Tab.nil,λ s hs=>by cases hs⟩;rw [mw_new];obtain⟨h1,h2⟩:=right_facts h;exact WInv.new h1 λ p hp a ha=>okA_OkA ((h2 p hp).2 a ha)
section
variable {ω ψ:Wv} {who d:Int} {ev:List T3} {x:Int}
theorem Fine.right (h:Fine ω):RightW ω:=by
 have hi:=h.inv;refine⟨hi.tm,h.progs,hi.len,h.m4,h.tab,λ s hs y hy=>?_,λ c hc=>?_,λ i c p hc hp=>?_,λ y hy=>?_,?_⟩
 . obtain⟨m,hm,e⟩:=h.tab.2 s hs
   have hmem:(⟨s.1,s.2.1,none,0,0,s.2.2⟩:SV)∈svs ω.tb:=List.mem_map.2 ⟨s,hs,rfl⟩;have hg:=gt_mem h.tab.1.2 hmem;have hL:=(hi.iv m hm).L.lm y;have e2:(mw ω).cm m=⟨(mxAt ω.mx m).1,(mxAt ω.mx m).2.1,(mxAt ω.mx m).2.2,s.2.1,s.2.2⟩:=by
    show (⟨_,_,_,(gtA ω.tb m).1,(gtA ω.tb m).2⟩:Cm)=_;unfold gtA;rw [<- e];rw [hg]
   rw [e2] at hL;obtain⟨i,hi1,rfl,_⟩:=hL.1 hy;have:ω.cl.length=ω.progs.length:=hi.len;have hi1:i<ω.progs.length:=hi1;omega
 . obtain⟨i,hc⟩:=List.getElem?_of_mem hc
   have hlt:=(zgl hc);have hl:ω.cl.length=ω.progs.length:=hi.len;have hci:=hi.ci i c (ω.progs[i]'(by omega)) hc (zge _);exact⟨hci.g,λ q=>by rw [hci.pm] at q;cases q⟩
 . have hci:=hi.ci i c p hc hp
   refine⟨hci.a0,hci.a1,hci.dn.symm,hci.tb,hci.sc,hci.rd,hci.ol,λ e=>⟨hci.fin e,?_⟩,λ k n ha=>⟨hci.pcs k n ha,?_⟩⟩
   . rcases hci.wk with q | ⟨_,n,q,_⟩
     . exact q
     . have:=(zgl q)
       omega
   . rcases hci.wk with q | ⟨q0,n',q,q2⟩
     . exact .inl q
     . rw [ha] at q
       cases q;exact .inr ⟨rfl,q0,q2⟩
 . obtain⟨m,hy⟩:=List.getElem?_of_mem hy
   have hlt:=(zgl hy);have hm:m<4:=by rw [<- h.m4];exact hlt
   have e:mxAt ω.mx m=y:=mxAt_get hy;have h1:=hi.ow m hm;have h2:=(hi.iv m hm).T.nb;have h3:=(hi.iv m hm).T.sb;have h1:OkW (mxAt ω.mx m).1:=h1;have h2:0<=(mxAt ω.mx m).2.1/\(mxAt ω.mx m).2.1<4294967296:=h2;have h3:0<=(mxAt ω.mx m).2.2/\(mxAt ω.mx m).2.2<4294967296:=h3;rw [e] at h1 h2 h3;exact⟨h1,h2,h3⟩
 . rcases hi.st with q | q
   . exact .inl q
   . exact .inr (.inl q)
theorem still_stp (h:RightW ω) (hs:Still ω who) (h0:0<=who):stp (mw ω) who.toNat=(mw ω,none):=by
 unfold stp
 cases hc:(mw ω).cl[who.toNat]? with
 | none=>rfl
 | some c =>
  cases hp:(mw ω).progs[who.toNat]? with
  | none=>rfl
  | some p =>
   have hc:ω.cl[who.toNat]?=some c:=hc;have hlt:=(zgl hc);dsimp only;rw [if_pos];rcases hs with q | q | q | ⟨c',q1,q2⟩
   . exact .inl q
   . omega
   . omega
   . rw [hc] at q1;cases q1;exact .inr q2
theorem StepM.fine (h:Fine ω) (hs:StepM ω who ψ ev x):Fine ψ/\x=0/\ψ.progs=ω.progs/\((who<0/\ψ=ω/\ev=[])\/(0<=who/\StpR (mw ω) who.toNat (mw ψ) ((stp (mw ω) who.toNat).2)/\(ω.stop≠0->ψ=ω)/\mw ψ=(stp (mw ω) who.toNat).1/\ev=(stp (mw ω) who.toNat).2.toList)):=by
 have hr:=h.right;rcases hs with ⟨q,_⟩ | ⟨_,q,rfl,rfl,rfl⟩ | ⟨_,q,m4,tab,e1,rfl,rfl⟩
 . exact absurd hr q
 . refine⟨h,rfl,rfl,?_⟩
   by_cases h0:who<0
   . exact .inl ⟨h0,rfl,rfl⟩
   . have e:=still_stp hr q (by omega)
     have hi:=stp_inv h.inv who.toNat
     rw [e] at hi ⊢;exact .inr ⟨by omega,hi,λ _=>rfl,rfl,rfl⟩
 . have hi:=stp_inv h.inv who.toNat
   rw [<- e1] at hi;have hp:ψ.progs=ω.progs:=hi.pr;have h0:0<=who:=by
    by_cases h0:0<=who
    . exact h0
    . exact absurd (.inr (.inl (by omega))) q
   exact⟨⟨hi.inv,by rw [hp];exact h.progs,m4,tab⟩,rfl,hp,.inr ⟨h0,hi,λ hn=>absurd (.inl hn) q,e1,rfl⟩⟩
theorem TickM.fine (h:Fine ω) (hd:Tim d) (hn:ω.now+d<=4611686018427387904) (hs:TickM ω d ψ x):Fine ψ/\x=0/\((ω.stop≠0/\ψ=ω)\/(ω.stop=0/\ψ={ ω with now:=ω.now+d })):=by
 have hr:=h.right;rcases hs with ⟨q,_⟩ | ⟨_,_,q,rfl,rfl⟩ | ⟨_,_,q,_,rfl,rfl⟩ | ⟨_,_,_,q,_⟩
 . exact absurd ⟨hr,hd⟩ q
 . exact⟨h,rfl,.inl ⟨q,rfl⟩⟩
 . have e:mw { ω with now:=ω.now+d }=tick (mw ω) d:=by
    unfold tick;rw [if_neg (by show ¬ ω.stop≠0;omega)];rfl
   exact⟨⟨by rw [e];exact h.inv.tick hd.1 hn,h.progs,h.m4,h.tab⟩,rfl,.inr ⟨q,rfl⟩⟩
 . omega
end
end P16
end
namespace P12
theorem take_snoc {α:Type} {l:List α} {k:Nat} {x:α} (h:l[k]?=some x):l.take (k+1)=l.take k++[x]:=by
 rw [List.take_add_one,h];rfl
end P12
namespace P12
theorem held_try {b:Bool} {m:Int} {a:Ac} {r:List Ac} (h:a.1=1):held (ho b m) (a::r)=none:=by rw [held,if_pos h]
theorem held_lock_no {m:Int} {a:Ac} {r:List Ac} (h:a.1=0):held (ho true m) (a::r)=none:=by rw [held,if_neg (by omega),if_pos h];rfl
theorem held_lock {m:Int} {a:Ac} {r:List Ac} (h:a.1=0):held (ho false m) (a::r)=held (ho true a.2) r:=by rw [held,if_neg (by omega),if_pos h];rfl
theorem held_unlock_no {b:Bool} {m:Int} {a:Ac} {r:List Ac} (h:a.1=2) (hb:b=false\/a.2≠m):held (ho b m) (a::r)=none:=by
 rw [held,if_neg (by omega),if_neg (by omega),if_pos h,if_neg];intro e;cases b
 . cases e
 . rcases hb with hb | hb
   . cases hb
   . exact hb (Option.some.inj e).symm
theorem held_unlock {m:Int} {a:Ac} {r:List Ac} (h:a.1=2) (hm:a.2=m):held (ho true m) (a::r)=held (ho false m) r:=by
 rw [held,if_neg (by omega),if_neg (by omega),if_pos h,if_pos (by rw [hm];rfl)];rfl
theorem held_other {b:Bool} {m:Int} {a:Ac} {r:List Ac} (h0:a.1≠0) (h1:a.1≠1) (h2:a.1≠2):held (ho b m) (a::r)=held (ho b m) r:=by
 rw [held,if_neg h1,if_neg h0,if_neg h2]
theorem tidy_end (b:Bool) (m:Int):(held (ho b m) []==some none)=!b:=by cases b<;>rfl
end P12
namespace P12
theorem take_more {α:Type} {l:List α} {k:Nat} {x:α} (h:l[k]?=some x):l.take (k+1)=l.take k++[x]:=by
 rw [List.take_add_one,h];rfl
theorem rAct_is {a:Ac} {B:Bool} (hB:okA a=B) (w:World):Calls prog 50 #[.agg #[.int .i64 a.1,.int .i64 a.2]] w λ e w'=>e=.returned (.bool B)/\Gr w w':=by
 obtain⟨k,n⟩:=a;have key:∀ B',okA (k,n)=B'->Hid (B'=B):=λ B' h=>hid (by rw [<- h,hB])
 clear hB;by_cases h3:k=3
 . subst h3
   by_cases h0:0<=n
   . by_cases h1:n<=1000
     . have HB:=key true (by unfold okA;simp;omega)
       clear key;go_enter func50,ntmps50;go_wp2_with fail;go_ret;rw [<- HB.out];exact⟨rfl,(zr w).al _⟩
     . have HB:=key false (by unfold okA;simp;omega)
       clear key;go_enter func50,ntmps50;go_wp2_with fail;go_ret;rw [<- HB.out];exact⟨rfl,(zr w).al _⟩
   . have HB:=key false (by unfold okA;simp;omega)
     clear key;go_enter func50,ntmps50;go_wp2_with fail;go_ret;rw [<- HB.out];exact⟨rfl,(zr w).al _⟩
 . have n3:(k==3)=false:=by simpa using h3
   by_cases h0:0<=k
   . by_cases h1:k<=2
     . by_cases h4:0<=n
       . by_cases h5:n<=3
         . have HB:=key true (by unfold okA;rw [if_neg (by simpa using h3)];simp;omega)
           clear key;go_enter func50,ntmps50;go_wp2_with fail;go_ret;rw [<- HB.out];exact⟨rfl,(zr w).al _⟩
         . have HB:=key false (by unfold okA;rw [if_neg (by simpa using h3)];simp;omega)
           clear key;go_enter func50,ntmps50;go_wp2_with fail;go_ret;rw [<- HB.out];exact⟨rfl,(zr w).al _⟩
       . have HB:=key false (by unfold okA;rw [if_neg (by simpa using h3)];simp;omega)
         clear key;go_enter func50,ntmps50;go_wp2_with fail;go_ret;rw [<- HB.out];exact⟨rfl,(zr w).al _⟩
     . have HB:=key false (by unfold okA;rw [if_neg (by simpa using h3)];simp;omega)
       clear key;go_enter func50,ntmps50;go_wp2_with fail;go_ret;rw [<- HB.out];exact⟨rfl,(zr w).al _⟩
   . have HB:=key false (by unfold okA;rw [if_neg (by simpa using h3)];simp;omega)
     clear key;go_enter func50,ntmps50;go_wp2_with fail;go_ret;rw [<- HB.out];exact⟨rfl,(zr w).al _⟩
theorem rTidy_is {A:Option Addr} {n c:Nat} {l:List Ac} {B:Bool} (hB:tidyB l=B) (hn:n<=9223372036854775807) (w:World) (hm:Mem w A n l) :
 Calls prog 23 #[.slice A n c] w λ e w'=>e=.returned (.bool B)/\Gr w w':=by
 have HB0:=hid (show (held (ho false (-1)) l==some none)=B from hB);clear hB;go_enter func23,ntmps23;go_wp2_with fail
 go_loopw [3,4,9] (λ m b i wr=>∃ (k:Nat) (v:Bool) (u:Int),k<=n/\b=.bool v/\m=.int .i64 u/\i=.int .i64 k/\Hid ((held (ho v u) (l.drop k)==some none)=B)/\Gr w wr) (λ _ _ i _=>n-(intOf i).toNat)
 case atStart=>exact⟨0,false,-1,Nat.zero_le _,rfl,rfl,rfl,HB0,zr _⟩
 case round =>
  obtain⟨k,v,u,hk,rfl,rfl,rfl,HB,hg⟩:=hrel;by_cases hlt:k<n
  . obtain⟨b,off,x,rfl,hbl,hx,h1,h2,c0,c1⟩:=(hm.gr hg).at_ hlt
    have hd:l.drop k=x::l.drop (k+1):=by
     obtain⟨hl,rfl⟩:=List.getElem?_eq_some_iff.1 hx;exact List.drop_eq_getElem_cons hl
    have HK:=HB.out;rw [hd] at HK;obtain⟨x0,x1⟩:=x;clear hd hx HB hm HB0;dsimp only at c0 c1 h1 h2;by_cases e1:x0=1
    . rw [held_try e1] at HK
      have HK:=hid HK;subst e1;go_wp2_with fail;go_ret;exact⟨ret_bool HK.out,hg.al _⟩
    . have n1:(x0==1)=false:=by simpa using e1
      by_cases e0:x0=0
      . cases v
        . rw [held_lock e0] at HK
          have HK:=hid HK;subst e0;clear e1;go_wp2_with fail;go_roundw
          case rel=>exact⟨k+1,true,_,by omega,rfl,rfl,by go_num,HK,hg.al _⟩
          case measure=>simp [intOf];omega
        . rw [held_lock_no e0] at HK
          have HK:=hid HK;subst e0;clear e1;go_wp2_with fail;go_ret;exact⟨ret_bool HK.out,hg.al _⟩
      . have n0:(x0==0)=false:=by simpa using e0
        by_cases e2:x0=2
        . by_cases hv:v=true/\x1=u
          . obtain⟨rfl,rfl⟩:=hv
            rw [held_unlock (a:=(x0,x1)) e2 rfl] at HK;have HK:=hid HK;subst e2;clear e0 e1;have nb:(x1 != x1)=false:=by simp
            go_wp2_with fail;go_roundw
            case rel=>exact⟨k+1,false,_,by omega,rfl,rfl,by go_num,HK,hg.al _⟩
            case measure=>simp [intOf];omega
          . rw [held_unlock_no e2 (by cases v;exact .inl rfl;exact .inr λ e=>hv ⟨rfl,e⟩)] at HK
            have HK:=hid HK;subst e2;clear e0 e1;cases v
            . go_wp2_with fail
              go_ret;exact⟨ret_bool HK.out,hg.al _⟩
            . have hu:(x1==u)=false:=by simpa using λ e=>hv ⟨rfl,e⟩
              have hu':(x1 != u)=true:=by simp [bne,hu]
              go_wp2_with fail;go_ret;exact⟨ret_bool HK.out,hg.al _⟩
        . have n2:(x0==2)=false:=by simpa using e2
          rw [held_other e0 e1 e2] at HK;have HK:=hid HK;clear e0 e1 e2;go_wp2_with fail;go_roundw
          case rel=>exact⟨k+1,v,u,by omega,rfl,rfl,by go_num,HK,hg.al _⟩
          case measure=>simp [intOf];omega
  . obtain rfl:k=n:=by omega
    have HK:=HB.out;rw [List.drop_of_length_le (by have:=hm.1;omega),tidy_end] at HK;have HK:=hid HK;clear HB hm HB0;go_wp2_with fail;go_ret;exact⟨rfl,hg⟩
end P12
end Go.Proofs.YtainfijdhcehlaaGreatDoor
