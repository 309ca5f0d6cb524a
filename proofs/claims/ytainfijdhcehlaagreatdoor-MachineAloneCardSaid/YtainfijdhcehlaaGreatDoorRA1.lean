/-
  A part of the proof.
-/
import Derived.Test.YtainfijdhcehlaaGreatDoorQB1
import Derived.Test.YtainfijdhcehlaaGreatDoorQB2
import Derived.Test.YtainfijdhcehlaaGreatDoorQB3
import Derived.Test.YtainfijdhcehlaaGreatDoorQB4
import Derived.Test.YtainfijdhcehlaaGreatDoorQB5
import Derived.Test.YtainfijdhcehlaaGreatDoorQB6
import Derived.Test.YtainfijdhcehlaaGreatDoorQB7
import Derived.Test.YtainfijdhcehlaaGreatDoorQB8
import Derived.Test.YtainfijdhcehlaaGreatDoorQB9
import Derived.Test.YtainfijdhcehlaaGreatDoorQB10
import Derived.Test.YtainfijdhcehlaaGreatDoorQB11
import Derived.Test.YtainfijdhcehlaaGreatDoorQB12
import Derived.Test.YtainfijdhcehlaaGreatDoorQB13
import Derived.Test.YtainfijdhcehlaaGreatDoorQB14
import Derived.Test.YtainfijdhcehlaaGreatDoorQB15
import Derived.Test.YtainfijdhcehlaaGreatDoorQB16
import Derived.Test.YtainfijdhcehlaaGreatDoorQB17
import Derived.Test.YtainfijdhcehlaaGreatDoorQB18
import Derived.Test.YtainfijdhcehlaaGreatDoorQB19
import Derived.Test.YtainfijdhcehlaaGreatDoorQB20
import Derived.Test.YtainfijdhcehlaaGreatDoorQB21
import Derived.Test.YtainfijdhcehlaaGreatDoorQB22
import Derived.Test.YtainfijdhcehlaaGreatDoorQB23
import Derived.Test.YtainfijdhcehlaaGreatDoorQB24
import Derived.Test.YtainfijdhcehlaaGreatDoorQB25
import Derived.Test.YtainfijdhcehlaaGreatDoorQB26
import Derived.Test.YtainfijdhcehlaaGreatDoorQB27
import Derived.Test.YtainfijdhcehlaaGreatDoorQB28
import Derived.Test.YtainfijdhcehlaaGreatDoorQB29
import Derived.Test.YtainfijdhcehlaaGreatDoorQB30
import Derived.Test.YtainfijdhcehlaaGreatDoorQB31
import Derived.ChangeSlices
import Derived.ChangeArms
import Derived.Deep.Slices
import Derived.Lib.SmallJoins
import Derived.Deep.Fields
import Derived.Laws.StructEq
import Derived.OwnWalk
import Derived.Test.YtainfijdhcehlaaGreatDoorRows
import Derived.WalkKit
import Derived.ProofKit
import Derived.OpenShut
import Derived.Lib.Hide
import Derived.Handy
import Derived.Deep.Draws
import Derived.Lib.ItoaNum
import Derived.Lib.Split
import Derived.Lib.SplitLaws
import Derived.Lib.Join
import Derived.Lib.Strings
import Derived.Deep.SlicePairs
import Derived.Deep.AppendLies
import Derived.OwnWalkIn
set_option linter.unusedVariables false
set_option linter.unusedSimpArgs false
set_option maxRecDepth 100000
set_option maxHeartbeats 8000000
namespace Go.Proofs.YtainfijdhcehlaaGreatDoor
open Lib (hid)
section
open Go.ChangeShapes Go.WideShapes Go.ChangeAt Go.RowKit
theorem post_below {H:Type} {enc:TypeId×Value->H} {P:Program} {f:Func} {s:ChangeSpec} {apart fresh handsOn again:Bool} {W W':World} {args:Array Value} {v:Value} {ds gs:List (DataW H)} {before pa pv:List MemPlace}
 (hW:DataW.Whole enc P f.params.toList s.vars apart W args.toList ds gs before)
 (hres:∀ (b:Nat) (sp:Nat->Bool) (hd:Bool),DataW.TrodAll enc P W' b sp hd f.resultTypes.toList (v.resultList f.resultTypes.size) (s.fn H (ds++gs)).results [])
 (hargs:∀ sp:Nat->Bool,(∀ p∈before,sp p.block=true)->DataW.TrodAll enc P W' 0 sp true f.params.toList args.toList (s.fn H (ds++gs)).args pa)
 (hvars:∀ sp:Nat->Bool,(∀ p∈before,sp p.block=true)->DataW.TrodVars enc P W' sp s.vars (s.fn H (ds++gs)).vars pv)
 (hps:before=pa++pv) (hb:Below W.heap.size W W')
 (hok:∀ (j:Nat) (t:TypeId) (r:Value),f.resultTypes[j]?=some t->(v.resultList f.resultTypes.size)[j]?=some r->Value.okWide P W' .any 0 t r) :
 s.post enc P f apart fresh handsOn again W args v W':=by
 have old:∀ p∈before,(λ b=>decide (b<W.heap.size)) p.block=true:=λ p hp=>by simpa using hW.lt p hp
 refine⟨ds,gs,before,[],pa,pv,hW,hres _ _ _,hargs _ old,hvars _ old,World.keptBut_mono (λ p hp=>⟨hp,?_⟩) (hb.frame (·∈before)),λ _=>?_⟩
 . rw [hps,List.mem_append] at hp
   exact Or.inr hp
 . have hlt:∀ p∈before,p.block<W.heap.size:=λ p hp=>hW.lt p hp
   obtain⟨_,_,_,_,_,hz,hn⟩:=hW
   refine⟨hok,_,_,([]++pa)++pv,⟨[]++pa,pv,trodAll_append (hargs _ (λ _ _=>rfl)) (hres _ _ _),hvars _ (λ _ _=>rfl),rfl,?_,?_⟩,?_⟩
   . intro b off hp
     have hin:MemPlace.cell b off∈before:=by rw [hps];simpa using hp
     rw [hb.frozen (hlt _ hin)]
     exact hz b off hin
   . intro ha
     have:=hn ha
     rw [hps] at this
     simpa using this
   . intro p hp _
     rw [hps]
     simpa using hp
end
section
namespace P12
def wd (k:Int):Bs:=if k=0 then [108,111,99,107] else if k=1 then [116,114,121] else if k=2 then [117,110,108,111,99,107] else [119,111,114,107]
def dgs (n:Int):Bs:=Lib.decDigits n.toNat
theorem dig_digits (u:Nat):∀ c∈Lib.decDigits u,48<=c.toNat/\c.toNat<=57:=by
 induction u using Nat.strongRecOn with
 | ind u ih =>
  rw [Lib.decDigits]
  have hd:∀ k,k<10->(UInt8.ofNat (48+k)).toNat=48+k:=λ k hk=>by
   rw [UInt8.toNat_ofNat'];omega
  by_cases h:u<10
  . rw [dif_pos h]
    intro c hc
    rw [List.mem_singleton.1 hc,hd u h]
    omega
  . rw [dif_neg h]
    intro c hc
    rcases List.mem_append.1 hc with h1 | h1
    . exact ih (u / 10) (by omega) c h1
    . rw [List.mem_singleton.1 h1,hd _ (by omega)]
      omega
def dval (l:Bs):Nat:=l.foldl (λ acc c=>acc*10+(c.toNat-48)) 0
theorem dval_dec (u:Nat):dval (Lib.decDigits u)=u:=by
 induction u using Nat.strongRecOn with
 | ind u ih =>
  have hd:∀ k,k<10->(UInt8.ofNat (48+k)).toNat=48+k:=λ k hk=>by
   rw [UInt8.toNat_ofNat'];omega
  rw [Lib.decDigits]
  by_cases h:u<10
  . rw [dif_pos h]
    simp [dval]
    omega
  . rw [dif_neg h]
    have e:=ih (u / 10) (by omega)
    unfold dval at e ⊢
    rw [List.foldl_append,e]
    simp only [List.foldl_cons,List.foldl_nil,hd _ (Nat.mod_lt u (by omega:0<10))]
    omega
theorem dec_inj {u v:Nat} (h:Lib.decDigits u=Lib.decDigits v):u=v:=by rw [<- dval_dec u,<- dval_dec v,h]
def NumR (s:Bs) (n:Int):Prop:=0<=n/\n<=999999/\s=dgs n
theorem NumR.inj {s:Bs} {m n:Int} (h:NumR s m) (k:NumR s n):m=n:=by
 have:=dec_inj (h.2.2.symm.trans k.2.2)
 have:=h.1
 have:=k.1
 omega
def WordR (s:Bs) (k:Int) (d:Bs):Prop:=0<=k/\k<=3/\d≠[]/\s=wd k++32::d
theorem wd_blank (k:Int):(32:UInt8) ∉ wd k:=by unfold wd;split<;>(try split)<;>(try split)<;>decide
theorem split_first {c:UInt8} {a b x y:Bs} (ha:c ∉ a) (hb:c ∉ b) (h:a++c::x=b++c::y):a=b/\x=y:=by
 induction a generalizing b with
 | nil =>
  cases b with
  | nil=>simpa using h
  | cons u b=>simp at h;exact absurd (by rw [h.1];simp) hb
 | cons v a ih =>
  cases b with
  | nil=>simp at h;exact absurd (by rw [h.1];simp) ha
  | cons u b =>
   simp at h ha hb
   obtain⟨h1,h2⟩:=ih ha.2 hb.2 h.2
   exact⟨by rw [h.1,h1],h2⟩
theorem wd_inj {j k:Int} (hj:0<=j/\j<=3) (hk:0<=k/\k<=3) (h:wd j=wd k):j=k:=by
 have e1:j=0\/j=1\/j=2\/j=3:=by omega
 have e2:k=0\/k=1\/k=2\/k=3:=by omega
 rcases e1 with rfl | rfl | rfl | rfl<;>rcases e2 with rfl | rfl | rfl | rfl<;>first | rfl | (revert h;decide)
theorem WordR.inj {s:Bs} {j k:Int} {c d:Bs} (h:WordR s j c) (g:WordR s k d):j=k/\c=d:=by
 obtain⟨e,f⟩:=split_first (wd_blank j) (wd_blank k) (h.2.2.2.symm.trans g.2.2.2)
 exact⟨wd_inj ⟨h.1,h.2.1⟩ ⟨g.1,g.2.1⟩ e,f⟩
def held:Option Int->List Ac->Option (Option Int)
 | h,[]=>some h
 | h,a::r=>if a.1=1 then none else if a.1=0 then (if h.isSome then none else held (some a.2) r) else if a.1=2 then (if h=some a.2 then held none r else none) else held h r
def tidyB (l:List Ac):Bool:=held none l==some none
theorem held_append:∀ (a b:List Ac) (h:Option Int),held h (a++b)=(held h a).bind λ g=>held g b
 | [],b,h=>rfl
 | x::a,b,h=>by
  show held h (x::(a++b))=_
  rw [held,held]
  by_cases h1:x.1=1
  . rw [if_pos h1,if_pos h1];rfl
  . rw [if_neg h1,if_neg h1]
    by_cases h0:x.1=0
    . rw [if_pos h0,if_pos h0]
      by_cases hs:h.isSome=true
      . rw [if_pos hs,if_pos hs];rfl
      . rw [if_neg hs,if_neg hs];exact held_append a b _
    . rw [if_neg h0,if_neg h0]
      by_cases h2:x.1=2
      . rw [if_pos h2,if_pos h2]
        by_cases hs:h=some x.2
        . rw [if_pos hs,if_pos hs];exact held_append a b _
        . rw [if_neg hs,if_neg hs];rfl
      . rw [if_neg h2,if_neg h2];exact held_append a b _
end P12
end
section
open Go.ChangeShapes Go.WideShapes Go.ChangeAt Go.RowKit Go.Deep
namespace P12
theorem cellsOfAct:Tryz.prog.cellsOf 67=2:=by kernel_rfl
theorem cellsOfInt:Tryz.prog.cellsOf 3=1:=by kernel_rfl
theorem flat_inv:∀ (l:List (Int×Int)) (j:Nat) (u:Value),(flat l)[j]?=some u->∃ i x,l[i]?=some x/\((j=i*2/\u=.int .i64 x.1)\/(j=i*2+1/\u=.int .i64 x.2))
 | [],j,u,h=>by simp [flat] at h
 | x::r,0,u,h=>by simp [flat] at h;exact⟨0,x,rfl,.inl ⟨rfl,h.symm⟩⟩
 | x::r,1,u,h=>by simp [flat] at h;exact⟨0,x,rfl,.inr ⟨rfl,h.symm⟩⟩
 | x::r,j+2,u,h=>by
  obtain⟨i,y,hy,h⟩:=flat_inv r j u (by simpa [flat] using h)
  refine⟨i+1,y,by simpa using hy,?_⟩
  rcases h with ⟨rfl,rfl⟩ | ⟨rfl,rfl⟩
  . exact .inl ⟨by omega,rfl⟩
  . exact .inr ⟨by omega,rfl⟩
section
variable {w w':World} {A:Option Addr} {n:Nat} {l:List Ac}
theorem mem_blk {g:Nat} {vs:Array Value} {t:TypeId} (h:Blk w g vs t) (hv:vs.toList=flat l) (hb:∀ x∈l,Inb x.1/\Inb x.2):Mem w (some ⟨g,0,none⟩) l.length l :=
 ⟨rfl,hb,λ _=>⟨g,0,rfl,h.lt,λ j u hu=>by
   rw [Nat.zero_add]
   refine (h.at_ ?_).1
   rw [<- hv] at hu
   simpa using hu⟩⟩
end
section
variable {H:Type} {enc:TypeId×Value->H} {W:World}
theorem trod_acts {sp:Nat->Bool} {k:Nat} {cs:List Value} {y:DataW H×List MemPlace} (hf:DataW.trod enc Tryz.prog W 0 sp true k 64 cs=some y) :
 ∃ x:PV,cs=[x.enc]/\x.ok W:=by
 rcases open_slice_pairs Tryz.underlying64 Tryz.underlying67 cellsOfAct rfl rfl cellsOfInt cellsOfInt hf with ⟨hcs,hx⟩ | ⟨a,len,cap,m,k,V0,V1,D0,D1,P0,P1,hcs,_,hl,hm,hmm,hx,hcell⟩
 . exact⟨⟨none,0,0,[]⟩,hcs,Mem.nil_,Nat.le_refl _,by show 0<=_;omega⟩
 . unfold maxLen at hm
   have hlm:len<=m:=by rw [hmm];split<;>omega
   have each:∀ i,i<len->∃ q:Int×Int,W.cell? (a.add (i*2))=some (.int .i64 q.1)/\W.cell? (a.add (i*2+1))=some (.int .i64 q.2)/\Inb q.1/\Inb q.2:=by
    intro i hi
    obtain⟨c0,c1,t0,t1⟩:=hcell i (by omega)
    obtain⟨x,e0,_,w0⟩:=DataW.trod_int Tryz.underlying3 t0
    obtain⟨y,e1,_,w1⟩:=DataW.trod_int Tryz.underlying3 t1
    simp only [List.cons.injEq,and_true] at e0 e1
    rw [e0] at c0
    rw [e1] at c1
    exact⟨(x,y),c0,c1,bounds_i64 w0,bounds_i64 w1⟩
   obtain⟨q,hq⟩:=choose_lt each
   refine⟨⟨some a,len,cap,(List.range len).map q⟩,hcs,⟨by simp,?_,?_⟩,hl,by show cap<=_;omega⟩
   . intro x hx
     simp only [List.mem_map,List.mem_range] at hx
     obtain⟨i,hi,rfl⟩:=hx
     exact (hq i hi).2.2
   . intro h0
     obtain⟨b,off,spot⟩:=a
     have hspot:spot=none:=by simpa [Addr.add] using World.cell?_spot (hq 0 h0).1
     subst hspot
     refine⟨b,off,rfl,World.block_lt_of_cell? W _ (by simpa [Addr.add] using (hq 0 h0).1),λ j u hu=>?_⟩
     obtain⟨i,x,hx,h⟩:=flat_inv _ j u hu
     have hi:i<len:=by have:=(List.getElem?_eq_some_iff.1 hx).1;simpa using this
     have hxq:x=q i:=by simpa [hi] using hx.symm
     subst hxq
     rcases h with ⟨rfl,rfl⟩ | ⟨rfl,rfl⟩
     . have:=(hq i hi).1;rwa [add_plain] at this
     . have:=(hq i hi).2.1;rwa [add_plain] at this
theorem open_acts {base:Nat} {sp:Nat->Bool} {v:Value} {d:DataW H} {ps:List MemPlace}
 (hval:Value.okWide Tryz.prog W .any base 64 v) (h:DataW.Trod enc Tryz.prog W 0 sp true 64 v d ps) :
 ∃ x:PV,v=.slice x.A x.n x.c/\x.ok W:=by
 obtain⟨a0,len,cap,rfl⟩:=okWide_slice Tryz.underlying64 hval
 obtain⟨fuel,hf⟩:=h
 obtain⟨x,hx,ho⟩:=trod_acts hf
 simp [Value.cells,PV.enc] at hx
 obtain⟨rfl,rfl,rfl⟩:=hx
 exact⟨x,rfl,ho⟩
end
end P12
end
section
theorem Tab.nil:Tab []:=⟨by simp,TOk.nil⟩
end
section
namespace P16
section
variable {p:V->Bool} {v:Nat->V} {i j N:Nat} {x:V}
theorem cnt_two (h:i<N) (hp:p (v i)=true) (h':j<N) (hq:p (v j)=true) (hn:i≠j):2<=cnt p v N:=by
 induction N with
 | zero=>omega
 | succ N ih =>
  simp only [cnt]
  by_cases e:N=i
  . subst e
    have:=cnt_pos (p:=p) (v:=v) (i:=j) (N:=N) (by omega) hq
    rw [hp];simp only [b1,if_true];omega
  . by_cases e':N=j
    . subst e'
      have:=cnt_pos (p:=p) (v:=v) (i:=i) (N:=N) (by omega) hp
      rw [hq];simp only [b1,if_true];omega
    . have:=ih (by omega) (by omega)
      rcases b1_cases (p (v N)) with h | h<;>omega
theorem cnt_ex (h:1<=cnt p v N):∃ i,i<N/\p (v i)=true:=by
 induction N with
 | zero=>simp [cnt] at h
 | succ N ih =>
  simp only [cnt] at h
  by_cases e:p (v N)=true
  . exact⟨N,by omega,e⟩
  . have e0:b1 (p (v N))=0:=by unfold b1;rw [if_neg e]
    obtain⟨i,hi,hp⟩:=ih (by omega)
    exact⟨i,by omega,hp⟩
theorem cnt_both {q:V->Bool} (h:∀ x,p x=true->q x=false):cnt p v N+cnt q v N<=N:=by
 induction N with
 | zero=>simp [cnt]
 | succ N ih =>
  simp only [cnt]
  have e:b1 (p (v N))+b1 (q (v N))<=1:=by
   cases hp:p (v N)
   . rcases b1_cases (q (v N)) with h | h<;>simp [b1] at*<;> omega
   . rw [h _ hp];simp [b1]
  omega
theorem cnt_zero (h:cnt p v N=0) (hi:i<N):p (v i)=false:=by
 cases e:p (v i)
 . rfl
 . have:=cnt_pos hi e;omega
end
end P16
end
section
namespace P16
section
variable {N i:Nat} {v:Nat->V} {x:V} {m:Mx} {w w':Wd} {aw st told:Bool} {old:Wd} {t:Int}
theorem Inv.bound (h:Inv N m v):m.w.n<=N:=by
 have hq:=cnt_le (p:=isQ) (v:=v) (N:=N)
 have hg:=cnt_nonneg (p:=isG) (v:=v) (N:=N)
 have hb:=cnt_both (p:=isQ) (q:=isH) (v:=v) (N:=N) (by intro x hx;cases x<;>simp [isQ,isH] at*)
 have c0:=h.W.c0
 cases hS:m.w.S
 . have:=(h.W.free hS).2.2;omega
 . have:=(h.W.starve hS).2.2.1;omega
theorem Inv.no_hand (h:Inv N m v) (hS:m.w.S=false):∀ j st old,j<N->v j≠.hand st old:=λ j st old hj e=>by
 have:=cnt_zero (h.W.free hS).1 hj
 rw [e] at this
 cases this
theorem Inv.fast (h:Inv N m v) (hi:i<N) (hv:v i=.out) (hL:m.w.L=false) (hS:m.w.S=false) (hn:m.w.n=0) :
 Inv N { m with w:={ m.w with L:=true } } (upd v i .out):=by
 have eQ:=cnt_upd (p:=isQ) (v:=v) (x:=V.out) hi
 have eH:=cnt_upd (p:=isH) (v:=v) (x:=V.out) hi
 have eG:=cnt_upd (p:=isG) (v:=v) (x:=V.out) hi
 have eA:=cnt_upd (p:=isA) (v:=v) (x:=V.out) hi
 simp only [hv,isQ,isH,isG,isA,b1,Bool.false_eq_true,if_true,if_false,Int.sub_zero,Int.add_zero] at eQ eH eG eA
 have hW:=h.W
 refine⟨⟨hW.n0,hW.c0,λ _=>?_,λ q=>?_⟩,h.T.same hi (by rw [hv]) (by rw [hv]),h.L.same hi (by rw [hv]),h.O.upd hi (.inl (Int.le_refl _)) (λ _ _ e=>by cases e) (λ _ _ _ e=>by cases e) (λ _ _ e=>by cases e),InvR.off (λ q=>by cases q.1)⟩
 . dsimp only
   obtain⟨a,b,c⟩:=hW.free hS
   exact⟨by omega,by omega,by omega⟩
 . have q:m.w.S=true:=q
   rw [hS] at q;cases q
theorem Inv.quiet (h:Inv N m v) (hi:i<N) (hQ:isQ x=isQ (v i)) (hH:isH x=isH (v i)) (hG:isG x=isG (v i)) (hA:isA x=isA (v i)) (ht:tk x=tk (v i)) (hT:inT x=inT (v i)) (hl:inL x=inL (v i))
 (h0:∀ aw st,x=.load aw st->st=true->aw=true)
 (h1:∀ aw st old,x=.want aw st old->(st=true->aw=true)/\(aw=true->old.K=true)/\0<=old.n/\old.n<=N) (h2:∀ st old,x≠.hand st old) (hg:wakes m.w->good (v i)->good x) :
 Inv N m (upd v i x):=by
 have eQ:=cnt_upd (p:=isQ) (v:=v) (x:=x) hi
 have eH:=cnt_upd (p:=isH) (v:=v) (x:=x) hi
 have eG:=cnt_upd (p:=isG) (v:=v) (x:=x) hi
 have eA:=cnt_upd (p:=isA) (v:=v) (x:=x) hi
 rw [hQ] at eQ
 rw [hH] at eH
 rw [hG] at eG
 rw [hA] at eA
 have hW:=h.W
 refine⟨⟨hW.n0,hW.c0,λ hS=>?_,λ hS=>?_⟩,h.T.same hi ht hT,h.L.same hi hl,h.O.upd hi (.inl (Int.le_refl _)) h0 h1 (λ st old e=>absurd e (h2 st old)),h.R.keep hi id hg⟩
 . obtain⟨a,b,c⟩:=hW.free hS
   exact⟨by omega,by omega,by omega⟩
 . obtain⟨a,b,c,d,e⟩:=hW.starve hS
   exact⟨a,by omega,by omega,λ q=>⟨by have:=(d q).1;omega,by have:=(d q).2;omega⟩,λ q=>by have:=e q;omega⟩
theorem Inv.slow (h:Inv N m v) (hi:i<N) (hv:v i=.out):Inv N m (upd v i (.load false false)) :=
 h.quiet hi (by rw [hv];rfl) (by rw [hv];rfl) (by rw [hv];rfl) (by rw [hv];rfl) (by rw [hv];rfl) (by rw [hv];rfl) (by rw [hv];rfl) (λ _ _ e q=>by cases e;cases q) (λ _ _ _ e=>by cases e) (λ _ _ e=>by cases e)
  (λ _ q=>by rw [hv] at q;rcases q with q | ⟨_,q,_⟩<;>cases q)
theorem Inv.look (h:Inv N m v) (hi:i<N) (hv:v i=.load aw st):Inv N m (upd v i (.want aw st m.w)) :=
 h.quiet hi (by rw [hv];rfl) (by rw [hv];rfl) (by rw [hv];rfl) (by rw [hv];cases aw<;>rfl) (by rw [hv];rfl) (by rw [hv];rfl) (by rw [hv];rfl) (λ _ _ e=>by cases e)
  (λ _ _ _ e=>by
    cases e
    exact⟨h.O.ol i aw st hi hv,λ q=>(h.awake hi (by rw [hv,q];rfl)).1,h.W.n0,h.bound⟩) (λ _ _ e=>by cases e)
  (λ _ q=>by rw [hv] at q;rcases q with q | ⟨_,q,_⟩<;>cases q)
theorem Inv.back (h:Inv N m v) (hi:i<N) (hv:v i=.want aw st old):Inv N m (upd v i (.load aw st)) :=
 h.quiet hi (by rw [hv];rfl) (by rw [hv];rfl) (by rw [hv];rfl) (by rw [hv];cases aw<;>rfl) (by rw [hv];rfl) (by rw [hv];rfl) (by rw [hv];rfl) (λ _ _ e=>by cases e;exact (h.O.ow i aw st old hi hv).1)
  (λ _ _ _ e=>by cases e) (λ _ _ e=>by cases e)
  (λ _ q=>by rw [hv] at q;rcases q with q | ⟨_,q,_⟩<;>cases q)
theorem Inv.spin (h:Inv N m v) (hi:i<N) (hv:v i=.want false st old) (hK:m.w.K=false) (hS:m.w.S=false) (hst:st=false) (hL:m.w.L=true) :
 Inv N { m with w:={ m.w with K:=true } } (upd v i (.load true st)):=by
 have eQ:=cnt_upd (p:=isQ) (v:=v) (x:=V.load true st) hi
 have eH:=cnt_upd (p:=isH) (v:=v) (x:=V.load true st) hi
 have eG:=cnt_upd (p:=isG) (v:=v) (x:=V.load true st) hi
 have eA:=cnt_upd (p:=isA) (v:=v) (x:=V.load true st) hi
 simp only [hv,isQ,isH,isG,isA,b1,Bool.false_eq_true,if_true,if_false,Int.sub_zero,Int.add_zero] at eQ eH eG eA
 have hW:=h.W
 refine⟨⟨hW.n0,hW.c0,λ _=>?_,λ q=>?_⟩,h.T.same hi (by rw [hv];rfl) (by rw [hv];rfl),h.L.same hi (by rw [hv];rfl),h.O.upd hi (.inl (Int.le_refl _)) (λ _ _ e _=>by cases e;rfl) (λ _ _ _ e=>by cases e) (λ _ _ e=>by cases e),InvR.off (λ q=>by cases q.2.1)⟩
 . dsimp only
   obtain⟨a,b,c⟩:=hW.free hS
   rw [hK] at b
   simp only [b1,Bool.false_eq_true,if_false] at b
   exact⟨by omega,by simp only [b1,if_true];omega,by omega⟩
 . have q:m.w.S=true:=q
   rw [hS] at q;cases q
theorem Inv.wait (h:Inv N m v) (hi:i<N) (hv:v i=.want aw st old) (hLS:m.w.L=true\/m.w.S=true) :
 Inv N { m with w:={ L:=m.w.L,K:=m.w.K&&!aw,S:=m.w.S||(st&&m.w.L),n:=m.w.n+1 } } (upd v i .draw):=by
 have hW:=h.W
 have n0:=hW.n0
 obtain⟨hst,-⟩:=h.O.ow i aw st old hi hv
 refine⟨⟨by show 0<=m.w.n+1;omega,hW.c0,λ q=>?_,λ q=>?_⟩,h.T.same hi (by rw [hv];rfl) (by rw [hv];rfl),h.L.same hi (by rw [hv];rfl),h.O.upd hi (.inl (by show m.w.n<=m.w.n+1;omega)) (λ _ _ e=>by cases e) (λ _ _ _ e=>by cases e) (λ _ _ e=>by cases e),InvR.off (λ q=>?_)⟩
 . have q:(m.w.S||(st&&m.w.L))=false:=q
   dsimp only
   have hS:m.w.S=false:=by cases e:m.w.S<;>simp_all
   obtain⟨a,b,c⟩:=hW.free hS
   cases aw
   . have eQ:=cnt_upd (p:=isQ) (v:=v) (x:=V.draw) hi
     have eH:=cnt_upd (p:=isH) (v:=v) (x:=V.draw) hi
     have eG:=cnt_upd (p:=isG) (v:=v) (x:=V.draw) hi
     have eA:=cnt_upd (p:=isA) (v:=v) (x:=V.draw) hi
     simp only [hv,isQ,isH,isG,isA,b1,Bool.false_eq_true,if_true,if_false,Int.sub_zero,Int.add_zero] at eQ eH eG eA
     exact⟨by omega,by simp only [Bool.not_false,Bool.and_true];omega,by omega⟩
   . have hk:=h.awake hi (by rw [hv];rfl)
     have eQ:=cnt_upd (p:=isQ) (v:=v) (x:=V.draw) hi
     have eH:=cnt_upd (p:=isH) (v:=v) (x:=V.draw) hi
     have eG:=cnt_upd (p:=isG) (v:=v) (x:=V.draw) hi
     have eA:=cnt_upd (p:=isA) (v:=v) (x:=V.draw) hi
     simp only [hv,isQ,isH,isG,isA,b1,Bool.false_eq_true,if_true,if_false,Int.sub_zero,Int.add_zero] at eQ eH eG eA
     exact⟨by omega,by simp only [Bool.not_true,Bool.and_false,b1,Bool.false_eq_true,if_false];omega,by omega⟩
 . have q:(m.w.S||(st&&m.w.L))=true:=q
   dsimp only
   cases aw
   . have hst':st=false:=by cases st;rfl;exact absurd (hst rfl) (by decide)
     have hS:m.w.S=true:=by rw [hst'] at q;simpa using q
     obtain⟨a,b,c,d,e⟩:=hW.starve hS
     have eQ:=cnt_upd (p:=isQ) (v:=v) (x:=V.draw) hi
     have eH:=cnt_upd (p:=isH) (v:=v) (x:=V.draw) hi
     have eG:=cnt_upd (p:=isG) (v:=v) (x:=V.draw) hi
     have eA:=cnt_upd (p:=isA) (v:=v) (x:=V.draw) hi
     simp only [hv,isQ,isH,isG,isA,b1,Bool.false_eq_true,if_true,if_false,Int.sub_zero,Int.add_zero] at eQ eH eG eA
     exact⟨by rw [a];rfl,by omega,by omega,λ q=>⟨by have:=(d q).1;omega,by have:=(d q).2;omega⟩,λ q=>by have:=e q;omega⟩
   . have hk:=h.awake hi (by rw [hv];rfl)
     have hL:m.w.L=true:=hLS.resolve_right (by rw [hk.2.1];decide)
     obtain⟨a,b,c⟩:=hW.free hk.2.1
     have eQ:=cnt_upd (p:=isQ) (v:=v) (x:=V.draw) hi
     have eH:=cnt_upd (p:=isH) (v:=v) (x:=V.draw) hi
     have eG:=cnt_upd (p:=isG) (v:=v) (x:=V.draw) hi
     have eA:=cnt_upd (p:=isA) (v:=v) (x:=V.draw) hi
     simp only [hv,isQ,isH,isG,isA,b1,Bool.false_eq_true,if_true,if_false,Int.sub_zero,Int.add_zero] at eQ eH eG eA
     exact⟨by simp,by omega,by omega,λ q=>⟨by omega,by omega⟩,λ q=>by rw [show m.w.L=false from q] at hL;cases hL⟩
 . obtain⟨q1,-,q3,-⟩:=q
   have q1:m.w.L=false:=q1
   have q3:(m.w.S||(st&&m.w.L))=false:=q3
   rcases hLS with e | e
   . rw [e] at q1;cases q1
   . rw [e] at q3;cases q3
end
end P16
end
section
namespace P16
section
variable {N i j:Nat} {v:Nat->V} {x:V} {m:Mx} {w w':Wd} {aw st told S':Bool} {old:Wd} {t:Int} {l':List Int}
theorem Inv.draw (h:Inv N m v) (hN:N<=8) (hi:i<N) (hv:v i=.draw):Inv N { m with nx:=(m.nx+1) % 4294967296,sv:=m.sv } (upd v i (.turn m.nx)) :=
 h.tickets hi (by rw [hv];rfl) (by rw [hv];rfl) (by rw [hv];rfl) (by rw [hv];rfl) (by rw [hv];rfl) (h.T.draw hN hi (by rw [hv];rfl) rfl rfl) (λ _ _ e=>by cases e) (λ _ _ _ e=>by cases e) (λ _ _ e=>by cases e) (ng (by rw [hv];intro q;cases q) (by rw [hv];intro _ q;cases q))
theorem Inv.grant (h:Inv N m v) (hN:N<=8) (hi:i<N) (hv:v i=.turns m.sv):Inv N m (upd v i (.grant m.sv)) :=
 h.tickets hi (by rw [hv];rfl) (by rw [hv];rfl) (by rw [hv];rfl) (by rw [hv];rfl) (by rw [hv];rfl) (h.T.turn hi (by rw [hv];rfl) rfl) (λ _ _ e=>by cases e) (λ _ _ _ e=>by cases e) (λ _ _ e=>by cases e) (ng (by rw [hv];intro q;cases q) (by rw [hv];intro _ q;cases q))
theorem Inv.served (h:Inv N m v) (hN:N<=8) (hi:i<N) (hv:v i=.serve t told):Inv N { m with nx:=m.nx,sv:=(m.sv+1) % 4294967296 } (upd v i (.wok (!told))) :=
 h.tickets hi (by rw [hv];cases told<;>rfl) (by rw [hv];rfl) (by rw [hv];cases told<;>rfl) (by rw [hv];rfl) (by rw [hv];cases told<;>rfl) (h.T.serve hN hi (by rw [hv];rfl) rfl rfl) (λ _ _ e=>by cases e) (λ _ _ _ e=>by cases e) (λ _ _ e=>by cases e) (ng (by rw [hv];intro q;cases q) (by rw [hv];intro _ q;cases q))
theorem Inv.let_ (h:Inv N m v) (hi:i<N) (hv:v i=.sema t) (hc:0<m.c):Inv N { m with c:=m.c-1 } (upd v i (.serve t true)):=by
 have eQ:=cnt_upd (p:=isQ) (v:=v) (x:=V.serve t true) hi
 have eH:=cnt_upd (p:=isH) (v:=v) (x:=V.serve t true) hi
 have eG:=cnt_upd (p:=isG) (v:=v) (x:=V.serve t true) hi
 have eA:=cnt_upd (p:=isA) (v:=v) (x:=V.serve t true) hi
 simp only [hv,isQ,isH,isG,isA,b1,Bool.false_eq_true,if_true,if_false,Int.sub_zero,Int.add_zero] at eQ eH eG eA
 have hW:=h.W
 refine⟨⟨hW.n0,by show 0<=m.c-1;omega,λ hS=>?_,λ hS=>?_⟩,h.T.same hi (by rw [hv];rfl) (by rw [hv];rfl),⟨h.L.nd,(h.L.same (x:=V.serve t true) hi (by rw [hv];rfl)).lm,λ q=>h.L.le (by have q:0<m.c-1:=q;omega)⟩,h.O.upd hi (.inl (Int.le_refl _)) (λ _ _ e=>by cases e) (λ _ _ _ e=>by cases e) (λ _ _ e=>by cases e),h.R.keep hi id (λ _ q=>by rw [hv] at q;rcases q with q | ⟨_,q,_⟩<;>cases q)⟩
 . dsimp only at hS ⊢
   obtain⟨a,b,c⟩:=hW.free hS
   exact⟨by omega,by omega,by omega⟩
 . dsimp only at hS ⊢
   obtain⟨a,b,c,d,e⟩:=hW.starve hS
   exact⟨a,by omega,by omega,λ q=>⟨by have:=(d q).1;omega,by have:=(d q).2;omega⟩,λ q=>by have:=e q;omega⟩
theorem Inv.comes (h:Inv N m v) (hi:i<N) (hv:v i=.sema t) (hc:m.c=0) (hl:l'.Perm ((i:Int)::m.l)):Inv N { m with l:=l' } (upd v i (.serve t false)):=by
 have eQ:=cnt_upd (p:=isQ) (v:=v) (x:=V.serve t false) hi
 have eH:=cnt_upd (p:=isH) (v:=v) (x:=V.serve t false) hi
 have eG:=cnt_upd (p:=isG) (v:=v) (x:=V.serve t false) hi
 have eA:=cnt_upd (p:=isA) (v:=v) (x:=V.serve t false) hi
 simp only [hv,isQ,isH,isG,isA,b1,Bool.false_eq_true,if_true,if_false,Int.sub_zero,Int.add_zero] at eQ eH eG eA
 have hW:=h.W
 have hno:(i:Int) ∉ m.l:=λ q=>by
  obtain⟨k,hk,e,hx⟩:=(h.L.lm _).1 q
  obtain rfl:k=i:=by omega
  rw [hv] at hx;cases hx
 refine⟨⟨hW.n0,hW.c0,λ hS=>?_,λ hS=>?_⟩,h.T.same hi (by rw [hv];rfl) (by rw [hv];rfl),⟨?_,λ y=>?_,λ q=>?_⟩,h.O.upd hi (.inl (Int.le_refl _)) (λ _ _ e=>by cases e) (λ _ _ _ e=>by cases e) (λ _ _ e=>by cases e),h.R.keep hi id (λ _ q=>by rw [hv] at q;rcases q with q | ⟨_,q,_⟩<;>cases q)⟩
 . dsimp only at hS ⊢
   obtain⟨a,b,c⟩:=hW.free hS
   exact⟨by omega,by omega,by omega⟩
 . dsimp only at hS ⊢
   obtain⟨a,b,c,d,e⟩:=hW.starve hS
   exact⟨a,by omega,by omega,λ q=>⟨by have:=(d q).1;omega,by have:=(d q).2;omega⟩,λ q=>by have:=e q;omega⟩
 . exact hl.nodup_iff.2 (List.nodup_cons.2 ⟨hno,h.L.nd⟩)
 . rw [hl.mem_iff,List.mem_cons,h.L.lm]
   constructor
   . rintro (e | ⟨k,hk,e,hx⟩)
     . exact⟨i,hi,e,by rw [upd_at];rfl⟩
     . refine⟨k,hk,e,?_⟩
       by_cases q:k=i
       . subst q;rw [upd_at];rfl
       . rw [upd_off q];exact hx
   . rintro⟨k,hk,e,hx⟩
     by_cases q:k=i
     . subst q;exact .inl e
     . rw [upd_off q] at hx;exact .inr ⟨k,hk,e,hx⟩
 . have q:0<m.c:=q
   omega
theorem Inv.let_word (h:Inv N m v) (hi:i<N) (hg:isG (v i)=true):(m.w.S=false->m.w.K=true)/\(m.w.S=true->m.w.L=false):=by
 have hp:=cnt_pos hi hg
 have ha:=cnt_nonneg (p:=isA) (v:=v) (N:=N)
 have c0:=h.W.c0
 constructor
 . intro hS
   have e:=(h.W.free hS).2.1
   cases hK:m.w.K
   . rw [hK] at e;simp only [b1,Bool.false_eq_true,if_false] at e;omega
   . rfl
 . intro hS
   obtain⟨a,b,c,d,e⟩:=h.W.starve hS
   cases hL:m.w.L
   . rfl
   . have:=(d hL).1;omega
theorem Inv.goes (h:Inv N m v) (hi:i<N) (hv:v i=.wok false) (hS:m.w.S=false):Inv N m (upd v i (.want true st m.w)):=by
 have hb:=h.bound
 have hlw:=h.let_word hi (by rw [hv];rfl)
 have eQ:=cnt_upd (p:=isQ) (v:=v) (x:=V.want true st m.w) hi
 have eH:=cnt_upd (p:=isH) (v:=v) (x:=V.want true st m.w) hi
 have eG:=cnt_upd (p:=isG) (v:=v) (x:=V.want true st m.w) hi
 have eA:=cnt_upd (p:=isA) (v:=v) (x:=V.want true st m.w) hi
 simp only [hv,isQ,isH,isG,isA,b1,Bool.false_eq_true,if_true,if_false,Int.sub_zero,Int.add_zero] at eQ eH eG eA
 have hW:=h.W
 refine⟨⟨hW.n0,hW.c0,λ _=>?_,λ q=>?_⟩,h.T.same hi (by rw [hv];rfl) (by rw [hv];rfl),h.L.same hi (by rw [hv];rfl),h.O.upd hi (.inl (Int.le_refl _)) (λ _ _ e=>by cases e) (λ _ _ _ e=>by cases e;exact⟨λ _=>rfl,λ _=>hlw.1 hS,hW.n0,hb⟩) (λ _ _ e=>by cases e),h.R.keep hi id (λ _ q=>by rw [hv] at q;rcases q with q | ⟨_,q,_⟩<;>cases q)⟩
 . obtain⟨a,b,c⟩:=hW.free hS
   exact⟨by omega,by omega,by omega⟩
 . rw [hS] at q;cases q
theorem Inv.handed (h:Inv N m v) (hi:i<N) (hv:v i=.wok false) (hS:m.w.S=true):Inv N m (upd v i (.hand st m.w)):=by
 have hlw:=h.let_word hi (by rw [hv];rfl)
 have hq:=cnt_pos (p:=isQ) (v:=v) hi (by rw [hv];rfl)
 have hh:=cnt_nonneg (p:=isH) (v:=v) (N:=N)
 have eQ:=cnt_upd (p:=isQ) (v:=v) (x:=V.hand st m.w) hi
 have eH:=cnt_upd (p:=isH) (v:=v) (x:=V.hand st m.w) hi
 have eG:=cnt_upd (p:=isG) (v:=v) (x:=V.hand st m.w) hi
 have eA:=cnt_upd (p:=isA) (v:=v) (x:=V.hand st m.w) hi
 simp only [hv,isQ,isH,isG,isA,b1,Bool.false_eq_true,if_true,if_false,Int.sub_zero,Int.add_zero] at eQ eH eG eA
 have hW:=h.W
 obtain⟨a,b,c,d,e⟩:=hW.starve hS
 refine⟨⟨hW.n0,hW.c0,λ q=>?_,λ q=>?_⟩,h.T.same hi (by rw [hv];rfl) (by rw [hv];rfl),h.L.same hi (by rw [hv];rfl),h.O.upd hi (.inl (Int.le_refl _)) (λ _ _ e=>by cases e) (λ _ _ _ e=>by cases e) (λ _ _ e=>by cases e;exact⟨hlw.2 hS,a,hS,by omega,Int.le_refl _⟩),h.R.keep hi id (λ _ q=>by rw [hv] at q;rcases q with q | ⟨_,q,_⟩<;>cases q)⟩
 . rw [hS] at q;cases q
 . exact⟨a,by omega,by omega,(λ q=>by rw [hlw.2 hS] at q;cases q),λ q=>by have:=e q;omega⟩
theorem Inv.hand_word (h:Inv N m v) (hi:i<N) (hv:v i=.hand st old):m.w.L=false/\m.w.S=true/\m.w.K=false/\1<=m.w.n/\cnt isH v N=1/\cnt isG v N+m.c=0/\cnt isA v N=0/\m.w.n=cnt isQ v N+1:=by
 have hp:=cnt_pos (p:=isH) (v:=v) hi (by rw [hv];rfl)
 have hg:=cnt_nonneg (p:=isG) (v:=v) (N:=N)
 have hq:=cnt_nonneg (p:=isQ) (v:=v) (N:=N)
 have c0:=h.W.c0
 cases hS:m.w.S
 . have:=(h.W.free hS).1;omega
 . obtain⟨a,b,c,d,e⟩:=h.W.starve hS
   cases hL:m.w.L
   . have:=e hL
     exact⟨rfl,rfl,a,by omega,by omega,by omega,b,by omega⟩
   . have:=(d hL).2;omega
theorem Inv.takes (h:Inv N m v) (hi:i<N) (hv:v i=.hand st old):Inv N { m with w:={ L:=true,K:=false,S:=S',n:=m.w.n-1 } } (upd v i .out):=by
 obtain⟨hL,hS,hK,hn,hH,hG,hA,hQ⟩:=h.hand_word hi hv
 have eQ:=cnt_upd (p:=isQ) (v:=v) (x:=V.out) hi
 have eH:=cnt_upd (p:=isH) (v:=v) (x:=V.out) hi
 have eG:=cnt_upd (p:=isG) (v:=v) (x:=V.out) hi
 have eA:=cnt_upd (p:=isA) (v:=v) (x:=V.out) hi
 simp only [hv,isQ,isH,isG,isA,b1,Bool.false_eq_true,if_true,if_false,Int.sub_zero,Int.add_zero] at eQ eH eG eA
 have hW:=h.W
 refine⟨⟨by show 0<=m.w.n-1;omega,hW.c0,λ _=>?_,λ _=>?_⟩,h.T.same hi (by rw [hv];rfl) (by rw [hv];rfl),h.L.same hi (by rw [hv];rfl),h.O.upd hi (.inr λ k st' old' hk hne e=>?_) (λ _ _ e=>by cases e) (λ _ _ _ e=>by cases e) (λ _ _ e=>by cases e),InvR.off (λ q=>by cases q.1)⟩
 . dsimp only
   exact⟨by omega,by simp only [b1,Bool.false_eq_true,if_false];omega,by omega⟩
 . dsimp only
   exact⟨rfl,by omega,by omega,λ _=>⟨by omega,by omega⟩,λ q=>by cases q⟩
 . have:=cnt_two (p:=isH) (v:=v) hi (by rw [hv];rfl) hk (by rw [e];rfl) (λ q=>hne q.symm)
   omega
theorem Inv.tries (h:Inv N m v) (hi:i<N) (hv:v i=.out):Inv N m (upd v i .trying) :=
 h.quiet hi (by rw [hv];rfl) (by rw [hv];rfl) (by rw [hv];rfl) (by rw [hv];rfl) (by rw [hv];rfl) (by rw [hv];rfl) (by rw [hv];rfl) (λ _ _ e=>by cases e) (λ _ _ _ e=>by cases e) (λ _ _ e=>by cases e) (λ _ q=>by rw [hv] at q;rcases q with q | ⟨_,q,_⟩<;>cases q)
theorem Inv.fails (h:Inv N m v) (hi:i<N) (hv:v i=.trying):Inv N m (upd v i .out) :=
 h.quiet hi (by rw [hv];rfl) (by rw [hv];rfl) (by rw [hv];rfl) (by rw [hv];rfl) (by rw [hv];rfl) (by rw [hv];rfl) (by rw [hv];rfl) (λ _ _ e=>by cases e) (λ _ _ _ e=>by cases e) (λ _ _ e=>by cases e) (λ _ q=>by rw [hv] at q;rcases q with q | ⟨_,q,_⟩<;>cases q)
theorem Inv.tried (h:Inv N m v) (hi:i<N) (hv:v i=.trying) (hS:m.w.S=false):Inv N { m with w:={ m.w with L:=true } } (upd v i .out):=by
 have eQ:=cnt_upd (p:=isQ) (v:=v) (x:=V.out) hi
 have eH:=cnt_upd (p:=isH) (v:=v) (x:=V.out) hi
 have eG:=cnt_upd (p:=isG) (v:=v) (x:=V.out) hi
 have eA:=cnt_upd (p:=isA) (v:=v) (x:=V.out) hi
 simp only [hv,isQ,isH,isG,isA,b1,Bool.false_eq_true,if_true,if_false,Int.sub_zero,Int.add_zero] at eQ eH eG eA
 have hW:=h.W
 refine⟨⟨hW.n0,hW.c0,λ _=>?_,λ q=>?_⟩,h.T.same hi (by rw [hv];rfl) (by rw [hv];rfl),h.L.same hi (by rw [hv];rfl),h.O.upd hi (.inl (Int.le_refl _)) (λ _ _ e=>by cases e) (λ _ _ _ e=>by cases e) (λ _ _ e=>by cases e),InvR.off (λ q=>by cases q.1)⟩
 . dsimp only
   obtain⟨a,b,c⟩:=hW.free hS
   exact⟨by omega,by omega,by omega⟩
 . have q:m.w.S=true:=q
   rw [hS] at q;cases q
theorem Inv.gives (h:Inv N m v) (hi:i<N) (hv:v i=.out) (hL:m.w.L=true)
 (hx:(x=.out/\¬ wakes { m.w with L:=false }/\m.w.S=false)\/(x=.draws/\m.w.S=true)\/(x=.give { m.w with L:=false }/\m.w.S=false)) :
 Inv N { m with w:={ m.w with L:=false } } (upd v i x):=by
 have hW:=h.W
 rcases hx with ⟨rfl,hnw,hS⟩ | ⟨rfl,hS⟩ | ⟨rfl,hS⟩
 . have eQ:=cnt_upd (p:=isQ) (v:=v) (x:=V.out) hi
   have eH:=cnt_upd (p:=isH) (v:=v) (x:=V.out) hi
   have eG:=cnt_upd (p:=isG) (v:=v) (x:=V.out) hi
   have eA:=cnt_upd (p:=isA) (v:=v) (x:=V.out) hi
   simp only [hv,isQ,isH,isG,isA,b1,Bool.false_eq_true,if_true,if_false,Int.sub_zero,Int.add_zero] at eQ eH eG eA
   refine⟨⟨hW.n0,hW.c0,λ _=>?_,λ q=>?_⟩,h.T.same hi (by rw [hv]) (by rw [hv]),h.L.same hi (by rw [hv]),h.O.upd hi (.inl (Int.le_refl _)) (λ _ _ e=>by cases e) (λ _ _ _ e=>by cases e) (λ _ _ e=>by cases e),InvR.off hnw⟩
   . dsimp only
     obtain⟨a,b,c⟩:=hW.free hS
     exact⟨by omega,by omega,by omega⟩
   . have q:m.w.S=true:=q
     rw [hS] at q;cases q
 . have eQ:=cnt_upd (p:=isQ) (v:=v) (x:=V.draws) hi
   have eH:=cnt_upd (p:=isH) (v:=v) (x:=V.draws) hi
   have eG:=cnt_upd (p:=isG) (v:=v) (x:=V.draws) hi
   have eA:=cnt_upd (p:=isA) (v:=v) (x:=V.draws) hi
   simp only [hv,isQ,isH,isG,isA,b1,Bool.false_eq_true,if_true,if_false,Int.sub_zero,Int.add_zero] at eQ eH eG eA
   refine⟨⟨hW.n0,hW.c0,λ q=>?_,λ _=>?_⟩,h.T.same hi (by rw [hv];rfl) (by rw [hv];rfl),h.L.same hi (by rw [hv];rfl),h.O.upd hi (.inl (Int.le_refl _)) (λ _ _ e=>by cases e) (λ _ _ _ e=>by cases e) (λ _ _ e=>by cases e),InvR.off (λ q=>by have q:=q.2.2.1;dsimp only at q;rw [hS] at q;cases q)⟩
   . have q:m.w.S=false:=q
     rw [hS] at q;cases q
   . dsimp only
     obtain⟨a,b,c,d,e⟩:=hW.starve hS
     have d:=d hL
     exact⟨a,by omega,by omega,(λ q=>by cases q),λ _=>by omega⟩
 . have eQ:=cnt_upd (p:=isQ) (v:=v) (x:=(V.give { m.w with L:=false })) hi
   have eH:=cnt_upd (p:=isH) (v:=v) (x:=(V.give { m.w with L:=false })) hi
   have eG:=cnt_upd (p:=isG) (v:=v) (x:=(V.give { m.w with L:=false })) hi
   have eA:=cnt_upd (p:=isA) (v:=v) (x:=(V.give { m.w with L:=false })) hi
   simp only [hv,isQ,isH,isG,isA,b1,Bool.false_eq_true,if_true,if_false,Int.sub_zero,Int.add_zero] at eQ eH eG eA
   refine⟨⟨hW.n0,hW.c0,λ _=>?_,λ q=>?_⟩,h.T.same hi (by rw [hv];rfl) (by rw [hv];rfl),h.L.same hi (by rw [hv];rfl),h.O.upd hi (.inl (Int.le_refl _)) (λ _ _ e=>by cases e) (λ _ _ _ e=>by cases e) (λ _ _ e=>by cases e),InvR.got hi (λ q=>.inr ⟨_,rfl,q⟩)⟩
   . dsimp only
     obtain⟨a,b,c⟩:=hW.free hS
     exact⟨by omega,by omega,by omega⟩
   . have q:m.w.S=true:=q
     rw [hS] at q;cases q
theorem Inv.leaves (h:Inv N m v) (hi:i<N) (hv:v i=.give old) (hn:¬ wakes old):Inv N m (upd v i .out) :=
 h.quiet hi (by rw [hv];rfl) (by rw [hv];rfl) (by rw [hv];rfl) (by rw [hv];rfl) (by rw [hv];rfl) (by rw [hv];rfl) (by rw [hv];rfl) (λ _ _ e=>by cases e) (λ _ _ _ e=>by cases e) (λ _ _ e=>by cases e)
  (λ _ q=>by rw [hv] at q;rcases q with q | ⟨_,q,hw⟩;cases q;cases q;exact absurd hw hn)
theorem Inv.wakes_ (h:Inv N m v) (hi:i<N) (hv:v i=.give old) (hw:wakes m.w):Inv N { m with w:={ L:=false,K:=true,S:=false,n:=m.w.n-1 } } (upd v i .draws):=by
 obtain⟨hL,hK,hS,hn⟩:=hw
 have eQ:=cnt_upd (p:=isQ) (v:=v) (x:=V.draws) hi
 have eH:=cnt_upd (p:=isH) (v:=v) (x:=V.draws) hi
 have eG:=cnt_upd (p:=isG) (v:=v) (x:=V.draws) hi
 have eA:=cnt_upd (p:=isA) (v:=v) (x:=V.draws) hi
 simp only [hv,isQ,isH,isG,isA,b1,Bool.false_eq_true,if_true,if_false,Int.sub_zero,Int.add_zero] at eQ eH eG eA
 have hW:=h.W
 obtain⟨a,b,c⟩:=hW.free hS
 rw [hK] at b
 simp only [b1,Bool.false_eq_true,if_false] at b
 refine⟨⟨by show 0<=m.w.n-1;omega,hW.c0,λ _=>?_,λ q=>by cases q⟩,h.T.same hi (by rw [hv];rfl) (by rw [hv];rfl),h.L.same hi (by rw [hv];rfl),h.O.upd hi (.inr λ k st' old' hk _=>h.no_hand hS k st' old' hk) (λ _ _ e=>by cases e) (λ _ _ _ e=>by cases e) (λ _ _ e=>by cases e),InvR.off (λ q=>by cases q.2.1)⟩
 dsimp only
 exact⟨by omega,by simp only [b1,if_true];omega,by omega⟩
theorem Inv.again (h:Inv N m v) (hi:i<N) (hv:v i=.give old):Inv N m (upd v i .see) :=
 h.quiet hi (by rw [hv];rfl) (by rw [hv];rfl) (by rw [hv];rfl) (by rw [hv];rfl) (by rw [hv];rfl) (by rw [hv];rfl) (by rw [hv];rfl) (λ _ _ e=>by cases e) (λ _ _ _ e=>by cases e) (λ _ _ e=>by cases e) (λ _ _=>.inl rfl)
theorem Inv.sees (h:Inv N m v) (hi:i<N) (hv:v i=.see):Inv N m (upd v i (.give m.w)) :=
 h.quiet hi (by rw [hv];rfl) (by rw [hv];rfl) (by rw [hv];rfl) (by rw [hv];rfl) (by rw [hv];rfl) (by rw [hv];rfl) (by rw [hv];rfl) (λ _ _ e=>by cases e) (λ _ _ _ e=>by cases e) (λ _ _ e=>by cases e) (λ q _=>.inr ⟨_,rfl,q⟩)
theorem Inv.granted (h:Inv N m v) (hi:i<N) (hv:v i=.grant t) (hl:m.l=[]):Inv N { m with c:=m.c+1 } (upd v i (.serves t)):=by
 have eQ:=cnt_upd (p:=isQ) (v:=v) (x:=V.serves t) hi
 have eH:=cnt_upd (p:=isH) (v:=v) (x:=V.serves t) hi
 have eG:=cnt_upd (p:=isG) (v:=v) (x:=V.serves t) hi
 have eA:=cnt_upd (p:=isA) (v:=v) (x:=V.serves t) hi
 simp only [hv,isQ,isH,isG,isA,b1,Bool.false_eq_true,if_true,if_false,Int.sub_zero,Int.add_zero] at eQ eH eG eA
 have hW:=h.W
 have c0:=hW.c0
 refine⟨⟨hW.n0,by show 0<=m.c+1;omega,λ hS=>?_,λ hS=>?_⟩,h.T.same hi (by rw [hv];rfl) (by rw [hv];rfl),⟨h.L.nd,(h.L.same (x:=V.serves t) hi (by rw [hv];rfl)).lm,λ _=>hl⟩,h.O.upd hi (.inl (Int.le_refl _)) (λ _ _ e=>by cases e) (λ _ _ _ e=>by cases e) (λ _ _ e=>by cases e),h.R.keep hi id (λ _ q=>by rw [hv] at q;rcases q with q | ⟨_,q,_⟩<;>cases q)⟩
 . dsimp only at hS ⊢
   obtain⟨a,b,c⟩:=hW.free hS
   exact⟨by omega,by omega,by omega⟩
 . dsimp only at hS ⊢
   obtain⟨a,b,c,d,e⟩:=hW.starve hS
   exact⟨a,by omega,by omega,λ q=>⟨by have:=(d q).1;omega,by have:=(d q).2;omega⟩,λ q=>by have:=e q;omega⟩
theorem Inv.next (h:Inv N m v) (hi:i<N) (hv:v i=.grant t) {y:Int} {rest:List Int} (hl:m.l=y::rest):∃ j,j<N/\y=(j:Int)/\j≠i/\v j=.wok true:=by
 obtain⟨j,hj,e,hx⟩:=(h.L.lm y).1 (by rw [hl];exact List.mem_cons_self)
 have hti:=h.T.t4 i hi (by rw [hv];rfl)
 have hne:j≠i:=λ q=>by subst q;rw [hv] at hx;cases hx
 refine⟨j,hj,e,hne,?_⟩
 cases hvj:v j with
 | serve t' told =>
  exfalso
  have htj:=h.T.t4 j hj (by rw [hvj];rfl)
  exact h.T.t2 i j m.sv hi hj (λ q=>hne q.symm) hti htj
 | wok pk =>
  cases pk
  . rw [hvj] at hx;cases hx
  . rfl
 | _=>rw [hvj] at hx;cases hx
theorem Inv.tells (h:Inv N m v) (hi:i<N) (hv:v i=.grant t) (hj:j<N) (hne:j≠i) (hvj:v j=.wok true) {rest:List Int} (hl:m.l=(j:Int)::rest) :
 Inv N { m with l:=rest } (upd (upd v j (.wok false)) i (.serves t)):=by
 have hvi:upd v j (.wok false) i=.grant t:=by rw [upd_off (λ q=>hne q.symm)];exact hv
 have aQ:=cnt_upd (p:=isQ) (v:=v) (x:=V.wok false) hj
 have aH:=cnt_upd (p:=isH) (v:=v) (x:=V.wok false) hj
 have aG:=cnt_upd (p:=isG) (v:=v) (x:=V.wok false) hj
 have aA:=cnt_upd (p:=isA) (v:=v) (x:=V.wok false) hj
 have eQ:=cnt_upd (p:=isQ) (v:=upd v j (.wok false)) (x:=V.serves t) hi
 have eH:=cnt_upd (p:=isH) (v:=upd v j (.wok false)) (x:=V.serves t) hi
 have eG:=cnt_upd (p:=isG) (v:=upd v j (.wok false)) (x:=V.serves t) hi
 have eA:=cnt_upd (p:=isA) (v:=upd v j (.wok false)) (x:=V.serves t) hi
 simp only [hvi,hvj,isQ,isH,isG,isA,b1,Bool.false_eq_true,if_true,if_false,Int.sub_zero,Int.add_zero] at aQ aH aG aA eQ eH eG eA
 have hW:=h.W
 have hnd:=h.L.nd
 rw [hl] at hnd
 obtain⟨hno,hnd⟩:=List.nodup_cons.1 hnd
 refine⟨⟨hW.n0,hW.c0,λ hS=>?_,λ hS=>?_⟩,(h.T.same hj (by rw [hvj];rfl) (by rw [hvj];rfl)).same hi (by rw [hvi];rfl) (by rw [hvi];rfl),⟨hnd,λ y=>?_,λ q=>?_⟩,
  (h.O.upd hj (.inl (Int.le_refl _)) (λ _ _ e=>by cases e) (λ _ _ _ e=>by cases e) (λ _ _ e=>by cases e)).upd hi (.inl (Int.le_refl _)) (λ _ _ e=>by cases e) (λ _ _ _ e=>by cases e) (λ _ _ e=>by cases e),(h.R.keep hj id (λ _ q=>by rw [hvj] at q;rcases q with q | ⟨_,q,_⟩<;>cases q)).keep hi id (λ _ q=>by rw [hvi] at q;rcases q with q | ⟨_,q,_⟩<;>cases q)⟩
 . dsimp only at hS ⊢
   obtain⟨a,b,c⟩:=hW.free hS
   exact⟨by omega,by omega,by omega⟩
 . dsimp only at hS ⊢
   obtain⟨a,b,c,d,e⟩:=hW.starve hS
   exact⟨a,by omega,by omega,λ q=>⟨by have:=(d q).1;omega,by have:=(d q).2;omega⟩,λ q=>by have:=e q;omega⟩
 . dsimp only
   constructor
   . intro hy
     obtain⟨k,hk,e,hx⟩:=(h.L.lm y).1 (by rw [hl];exact List.mem_cons_of_mem _ hy)
     have hkj:k≠j:=λ q=>by subst q;rw [e] at hy;exact hno hy
     have hki:k≠i:=λ q=>by subst q;rw [hv] at hx;cases hx
     exact⟨k,hk,e,by rw [upd_off hki,upd_off hkj];exact hx⟩
   . rintro⟨k,hk,e,hx⟩
     by_cases hki:k=i
     . subst hki;rw [upd_at] at hx;cases hx
     . rw [upd_off hki] at hx
       by_cases hkj:k=j
       . subst hkj;rw [upd_at] at hx;cases hx
       . rw [upd_off hkj] at hx
         have:=(h.L.lm y).2 ⟨k,hk,e,hx⟩
         rw [hl] at this
         rcases List.mem_cons.1 this with q | q
         . exact absurd (by omega) hkj
         . exact q
 . have q:0<m.c:=q
   have:=h.L.le q
   rw [hl] at this;cases this
theorem Inv.first (hv:∀ i,i<N->v i=.out):Inv N { w:={ L:=false,K:=false,S:=false,n:=0 },nx:=0,sv:=0,c:=0,l:=[] } v:=by
 have z:∀ p:V->Bool,p .out=false->cnt p v N=0:=λ p h1=>by
  have h0:=cnt_nonneg (p:=p) (v:=v) (N:=N)
  by_cases e:cnt p v N=0
  . exact e
  . obtain⟨j,hj,hp⟩:=cnt_ex (p:=p) (v:=v) (N:=N) (by omega)
    rw [hv j hj,h1] at hp;cases hp
 have zG:=z isG rfl
 have zA:=z isA rfl
 have zH:=z isH rfl
 have zQ:=z isQ rfl
 have zT:=z isT rfl
 refine⟨⟨by simp,by simp,λ _=>⟨zH,by simp [zG,zA,b1],by simp [zG,zQ]⟩,λ q=>by cases q⟩,⟨by simp,by simp,λ i t hi e=>?_,λ i j t hi _ _ e=>?_,by simp [zT],λ i hi e=>?_⟩,⟨by simp,λ x=>?_,λ _=>rfl⟩,⟨λ i _ _ hi e=>?_,λ i _ _ _ hi e=>?_,λ i _ _ hi e=>?_⟩,InvR.off (λ q=>by have:=q.2.2.2;simp at this)⟩
 . rw [hv i hi] at e;cases e
 . rw [hv i hi] at e;cases e
 . rw [hv i hi] at e;cases e
 . constructor
   . intro q;cases q
   . rintro⟨i,hi,_,e⟩;rw [hv i hi] at e;cases e
 . rw [hv i hi] at e;cases e
 . rw [hv i hi] at e;cases e
 . rw [hv i hi] at e;cases e
end
end P16
end
section
namespace P16
theorem wd_un (w:Wd):wd (un w)=w:=by
 obtain⟨L,K,S,n⟩:=w
 have e:un ⟨L,K,S,n⟩=8*n+4*b1 S+2*b1 K+b1 L:=rfl
 unfold wd
 rw [e]
 cases L<;>cases K<;>cases S<;>simp only [b1,Bool.false_eq_true,if_true,if_false]<;>congr 1<;>first | omega | (simp;try omega)
def new (l:List (List (Int×Int))):Mw :=
 { now:=0,progs:=l,cl:=l.map λ p=>first 0 false 0 p.length,cm:=λ _=>⟨0,0,0,0,[]⟩,stop:=0 }
end P16
end
section
namespace P16
section
variable {p:List Ac} {c c':Cl} {k n:Int} {m m':Nat}
theorem vwp_at (h:p[c.act.toNat]?=some (k,n)):vwp p c m=vw k n c m:=by unfold vwp;rw [h]
theorem vw_far (h:n≠m):vw k n c m=.out:=by unfold vw;rw [if_pos h]
theorem vw_start (h:c.pc=0):vw k n c m=.out:=by
 unfold vw
 rw [h]
 by_cases h1:n≠m
 . rw [if_pos h1]
 . rw [if_neg h1]
   by_cases h2:k=0
   . rw [if_pos h2];rfl
   . rw [if_neg h2]
     by_cases h3:k=1
     . rw [if_pos h3];rfl
     . rw [if_neg h3]
       by_cases h4:k=2
       . rw [if_pos h4];rfl
       . rw [if_neg h4]
theorem vwp_start (h:c.pc=0):vwp p c m=.out:=by
 unfold vwp
 split
 . exact vw_start h
 . rfl
theorem vwp_over {len:Nat}:vwp p (over c len) m=.out:=vwp_start rfl
theorem CInv.lt (h:CInv p c) (hg:c.gst≠2):c.act.toNat<p.length:=by
 have:=h.a0
 have:=h.a1
 have:c.act≠p.length:=λ e=>hg (h.dn.2 e)
 omega
theorem CInv.over (h:CInv p c) (hg:c.gst=0):CInv p (over c p.length):=by
 have hlt:=h.lt (by omega)
 have a0:=h.a0
 have hp:=h.pm
 refine⟨by show 0<=c.act+1;omega,by show c.act+1<=_;omega,?_,?_,?_,?_,λ k n _=>.inl rfl,λ _=>rfl,⟨Int.le_refl _,by show (0:Int)<4294967296;decide⟩,.inl rfl,⟨Int.le_refl _,by show (0:Int)<=4;decide⟩,⟨Int.le_refl _,by show (0:Int)<2147483648;decide⟩,λ _=>⟨rfl,rfl⟩,.inl rfl,λ q=>by cases q⟩
 . show (if c.act+1=p.length then false else c.permit)=false
   rw [hp];split<;>rfl
 . show (if c.act+1=p.length then (2:Int) else c.gst)=0\/(if c.act+1=p.length then (2:Int) else c.gst)=1\/(if c.act+1=p.length then (2:Int) else c.gst)=2
   split
   . exact .inr (.inr rfl)
   . exact .inl hg
 . show (if c.act+1=p.length then (2:Int) else c.gst)=2↔c.act+1=p.length
   split
   . rename_i e;exact⟨λ _=>e,λ _=>rfl⟩
   . rename_i e;exact⟨λ q=>by omega,λ q=>absurd q e⟩
 . show (if c.act+1=p.length then (2:Int) else c.gst)=1->_
   split
   . intro q;omega
   . intro q;omega
theorem CInv.stay (h:CInv p c) (hg:c.gst=0) (ha:p[c.act.toNat]?=some (k,n)) (hk:k≠3) (e1:c'.act=c.act) (e2:c'.permit=false) (e3:c'.gst=0\/(c'.gst=1/\c'.pc=7)) (e4:OkPc k c'.pc) (e5:0<=c'.ticket/\c'.ticket<4294967296)
 (e6:c'.since=-1\/(0<=c'.since/\c'.since<=4611686018427387904)) (e7:0<=c'.rounds/\c'.rounds<=4) (e8:OkW c'.old) (e9:c'.pc≠0) (e10:c'.worked=c.worked) (e11:c'.pc=9->(wd c'.old).L=false/\(wd c'.old).S=false:=by intro q;cases q):CInv p c':=by
 have hlt:=h.lt (by omega)
 have a0:=h.a0
 refine⟨by rw [e1];exact a0,by rw [e1];exact h.a1,e2,by rcases e3 with e | ⟨e,_⟩<;>omega,⟨λ q=>by rcases e3 with e | ⟨e,_⟩<;>omega,λ q=>by rw [e1] at q;omega⟩,λ q=>by rcases e3 with e | ⟨_,e⟩;omega;exact e,
  λ k' n' q=>by rw [e1,ha] at q;cases q;exact e4,λ q=>by rw [e1] at q;omega,e5,e6,e7,e8,λ q=>absurd q e9,?_,e11⟩
 rw [e1,e10]
 exact h.wk
end
def HeldR (ev:Option Int) (L L':Bool):Prop :=
 (ev=none/\L'=L)\/(ev=some 0/\L=false/\L'=true)\/(ev=some 1/\L=false/\L'=true)\/(ev=some 2/\L'=L)\/(ev=some 3/\L=true/\L'=false)
def HandsR (ev:Option Int) (k pc:Int) (st:Bool) (S S':Bool):Prop :=
 (S=false->S'=true->k=0/\pc=2/\st=true)/\(S=true->S'=false->k=0/\pc=8)/\(S=true->ev≠some 1)/\(S=true->ev=some 0->k=0/\pc=8)
theorem HandsR.same {ev:Option Int} {k pc:Int} {st S:Bool} (h1:S=true->ev≠some 1) (h2:S=true->ev=some 0->k=0/\pc=8):HandsR ev k pc st S S :=
 ⟨(λ a b=>by rw [a] at b;cases b),(λ a b=>by rw [a] at b;cases b),h1,h2⟩
structure StepOk (N i m:Nat) (p:List Ac) (k:Int) (c:Cl) (a:Cm) (v:Nat->V) (o:Out):Prop where
 ci:CInv p o.c
 ow:OkW o.m.word
 iv:(o.rdy=none/\Inv N (mx o.m) (upd v i (vwp p o.c m)))\/(∃ j,j<N/\j≠i/\o.rdy=some (j:Int)/\v j=.wok true/\Inv N (mx o.m) (upd (upd v j (.wok false)) i (vwp p o.c m)))
 far:∀ m',m'≠m->vwp p o.c m'=.out
 he:HeldR o.ev (wd a.word).L (wd o.m.word).L
 ha:HandsR o.ev k c.pc c.st (wd a.word).S (wd o.m.word).S
end P16
end
end Go.Proofs.YtainfijdhcehlaaGreatDoor
