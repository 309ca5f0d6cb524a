/-
  A part of the proof.
-/
import Derived.Test.YtainfijdhcehlaaGreatDoorQB1
import Derived.Test.YtainfijdhcehlaaGreatDoorQB2
import Derived.Test.YtainfijdhcehlaaGreatDoorQB3
import Derived.Test.YtainfijdhcehlaaGreatDoorQB4
import Derived.Test.YtainfijdhcehlaaGreatDoorQB5
import Derived.Test.YtainfijdhcehlaaGreatDoorQB6
import Derived.Test.YtainfijdhcehlaaGreatDoorQB7
import Derived.Test.YtainfijdhcehlaaGreatDoorQB8
import Derived.Test.YtainfijdhcehlaaGreatDoorQB9
import Derived.Test.YtainfijdhcehlaaGreatDoorQB10
import Derived.Test.YtainfijdhcehlaaGreatDoorQB11
import Derived.Test.YtainfijdhcehlaaGreatDoorQB12
import Derived.Test.YtainfijdhcehlaaGreatDoorQB13
import Derived.Test.YtainfijdhcehlaaGreatDoorQB14
import Derived.Test.YtainfijdhcehlaaGreatDoorQB15
import Derived.Test.YtainfijdhcehlaaGreatDoorQB16
import Derived.Test.YtainfijdhcehlaaGreatDoorQB17
import Derived.Test.YtainfijdhcehlaaGreatDoorQB18
import Derived.Test.YtainfijdhcehlaaGreatDoorQB19
import Derived.Test.YtainfijdhcehlaaGreatDoorQB20
import Derived.Test.YtainfijdhcehlaaGreatDoorQB21
import Derived.Test.YtainfijdhcehlaaGreatDoorQB22
import Derived.Test.YtainfijdhcehlaaGreatDoorQB23
import Derived.Test.YtainfijdhcehlaaGreatDoorQB24
import Derived.Test.YtainfijdhcehlaaGreatDoorQB25
import Derived.Test.YtainfijdhcehlaaGreatDoorQB26
import Derived.Test.YtainfijdhcehlaaGreatDoorQB27
import Derived.Test.YtainfijdhcehlaaGreatDoorQB28
import Derived.Test.YtainfijdhcehlaaGreatDoorQB29
import Derived.Test.YtainfijdhcehlaaGreatDoorQB30
import Derived.Test.YtainfijdhcehlaaGreatDoorQB31
import Derived.OwnWalk
import Derived.Test.YtainfijdhcehlaaGreatDoorRows
import Derived.WalkKit
import Derived.ProofKit
import Derived.OpenShut
import Derived.Lib.Hide
import Derived.Handy
import Derived.Deep.Draws
import Derived.ChangeSlices
import Derived.ChangeArms
import Derived.Deep.Slices
import Derived.Lib.ItoaNum
import Derived.Lib.Split
import Derived.Lib.SplitLaws
import Derived.Lib.Join
import Derived.Lib.Strings
import Derived.Laws.OwnMore
import Derived.Laws.MakeOwn
import Derived.Laws.CopyOwn
import Derived.Deep.QuietTactic
import Derived.BigQuiet
import Derived.Outline
import Derived.Deep.SlicePairs
import Derived.Deep.AppendLies
import Derived.OwnWalkIn
import Derived.Deep.RegionHeld3
import Derived.WalkMore
import Derived.Lib.SmallJoins
import Derived.Deep.Fields
import Derived.Carry
import Derived.Stop.LaidErr
import Derived.LaidLaws
import Derived.SizedLaws
import Derived.ChangeMaps5
import Derived.Lay
import Derived.LaidMore
import Derived.Shelf.Vars
import Derived.SevenTiedAt
import Derived.LaidByTextLater
import Derived.Laws.StructEq
import Derived.Lib.AtoiAll
import Derived.Lib.CutLaws
set_option linter.unusedVariables false
set_option linter.unusedSimpArgs false
set_option maxRecDepth 100000
set_option maxHeartbeats 8000000
namespace Go.Proofs.YtainfijdhcehlaaGreatDoor
open Lib (hid)
section
open Go.ChangeShapes Go.WideShapes Go.ChangeAt Go.RowKit
theorem wfb {v:Int} (h:(Lit.int .i64 v).wf=true):-9223372036854775808<=v/\v<=9223372036854775807:=bounds_i64 h
theorem post_below {H:Type} {enc:TypeId×Value->H} {P:Program} {f:Func} {s:ChangeSpec} {apart fresh handsOn again:Bool} {W W':World} {args:Array Value} {v:Value} {ds gs:List (DataW H)} {before pa pv:List MemPlace}
 (hW:DataW.Whole enc P f.params.toList s.vars apart W args.toList ds gs before)
 (hres:∀ (b:Nat) (sp:Nat->Bool) (hd:Bool),DataW.TrodAll enc P W' b sp hd f.resultTypes.toList (v.resultList f.resultTypes.size) (s.fn H (ds++gs)).results [])
 (hargs:∀ sp:Nat->Bool,(∀ p∈before,sp p.block=true)->DataW.TrodAll enc P W' 0 sp true f.params.toList args.toList (s.fn H (ds++gs)).args pa)
 (hvars:∀ sp:Nat->Bool,(∀ p∈before,sp p.block=true)->DataW.TrodVars enc P W' sp s.vars (s.fn H (ds++gs)).vars pv)
 (hps:before=pa++pv) (hb:Below W.heap.size W W')
 (hok:∀ (j:Nat) (t:TypeId) (r:Value),f.resultTypes[j]?=some t->(v.resultList f.resultTypes.size)[j]?=some r->Value.okWide P W' .any 0 t r) :
 s.post enc P f apart fresh handsOn again W args v W':=by
 have old:∀ p∈before,(λ b=>decide (b<W.heap.size)) p.block=true:=λ p hp=>by simpa using hW.lt p hp
 refine⟨ds,gs,before,[],pa,pv,hW,hres _ _ _,hargs _ old,hvars _ old,World.keptBut_mono (λ p hp=>⟨hp,?_⟩) (hb.frame (·∈before)),λ _=>?_⟩
 . rw [hps,List.mem_append] at hp
   exact Or.inr hp
 . have hlt:∀ p∈before,p.block<W.heap.size:=λ p hp=>hW.lt p hp
   obtain⟨_,_,_,_,_,hz,hn⟩:=hW;refine⟨hok,_,_,([]++pa)++pv,⟨[]++pa,pv,trodAll_append (hargs _ (λ _ _=>rfl)) (hres _ _ _),hvars _ (λ _ _=>rfl),rfl,?_,?_⟩,?_⟩
   . intro b off hp
     have hin:MemPlace.cell b off∈before:=by rw [hps];simpa using hp
     rw [hb.frozen (hlt _ hin)];exact hz b off hin
   . intro ha
     have:=hn ha;rw [hps] at this;simpa using this
   . intro p hp _
     rw [hps];simpa using hp
end
section
open Go.ChangeShapes Go.WideShapes Go.ChangeAt Go.RowKit
section
variable {H:Type} {enc:TypeId×Value->H} {P:Program} {W:World} {base:Nat} {sp:Nat->Bool}
theorem open_rowK {t e:TypeId} {v:Value} {d:DataW H} {ps:List MemPlace} (ht:P.underlying t=some (.slice e)) (hval:Value.okWide P W .any base t v) (h:DataW.Trod enc P W 0 sp true t v d ps) :
 ∃ (A:Option Addr) (n c:Nat),v=.slice A n c/\n<=c/\c<=maxLen/\∀ i,i<n->∃ (a:Addr) (cs:List Value) (y:DataW H×List MemPlace) (m:Nat),A=some a/\W.cells? 0 (a.add (i*P.cellsOf e)) (P.cellsOf e)=some cs/\DataW.trod enc P W 0 sp true m e cs=some y:=by
 obtain⟨a0,len,cap,rfl⟩:=okWide_slice ht hval;obtain⟨fuel,hf⟩:=h;rcases DataW.trod_slice ht hf with ⟨hcs,_⟩ | ⟨a,len',cap',elems,rest,m,_,hcs,_,_,hl,hm,hlen,hel,_,_⟩
 . simp [Value.cells] at hcs
   obtain⟨rfl,rfl,rfl⟩:=hcs;exact⟨none,0,0,rfl,Nat.le_refl _,Nat.zero_le _,λ i hi=>by omega⟩
 . simp [Value.cells] at hcs
   obtain⟨rfl,rfl,rfl⟩:=hcs;refine⟨some a,len,cap,rfl,hl,hm,λ i hi=>?_⟩;have hy:=hel i hi;rw [List.getElem?_eq_getElem (by omega),Option.bind_eq_some_iff] at hy;obtain⟨cs,h1,h2⟩:=hy;exact⟨a,cs,_,m,rfl,h1,h2⟩
variable {α:Type} [Inhabited α] {en:α->Value} {ok:α->Prop}
theorem open_emem {t e:TypeId} {v:Value} {d:DataW H} {ps:List MemPlace} (ht:P.underlying t=some (.slice e)) (hc:P.cellsOf e=1)
 (he:∀ m cs y,DataW.trod enc P W 0 sp true m e cs=some y->∃ x,cs=[en x]/\ok x)
 (hval:Value.okWide P W .any base t v) (h:DataW.Trod enc P W 0 sp true t v d ps) :
 ∃ (A:Option Addr) (n c:Nat) (l:List α),v=.slice A n c/\n<=c/\n<=9223372036854775807/\EMem en ok W A n l:=by
 obtain⟨A,n,c,rfl,hnc,hcm,hel⟩:=open_rowK ht hval h;unfold maxLen at hcm;rw [hc] at hel;have hx:∀ i,i<n->∃ x,ok x/\∃ a,A=some a/\W.cell? (a.add i)=some (en x):=λ i hi=>by
  obtain⟨a,cs,y,m,ha,h1,h2⟩:=hel i hi;obtain⟨x,rfl,hx⟩:=he m cs y h2;rw [Nat.mul_one] at h1;exact⟨x,hx,a,ha,cell_of_cells?_one h1⟩
 obtain⟨f,hf⟩:=Deep.choose_lt hx;refine⟨A,n,c,(List.range n).map f,rfl,hnc,by omega,by rw [List.length_map,List.length_range],λ x hx=>?_,λ hn=>?_⟩
 . obtain⟨i,hi,rfl⟩:=List.mem_map.1 hx
   exact (hf i (List.mem_range.1 hi)).1
 . obtain⟨_,a,rfl,h0⟩:=hf 0 hn
   obtain⟨b,off,spot⟩:=a;have hspot:spot=none:=by simpa [Addr.add] using World.cell?_spot h0
   subst hspot;refine⟨b,off,rfl,World.block_lt_of_cell? W _ (by simpa [Addr.add] using h0),λ j x hj=>?_⟩;rw [List.getElem?_map,Option.map_eq_some_iff] at hj;obtain⟨i,hi,rfl⟩:=hj;obtain⟨hi1,rfl⟩:=List.getElem?_eq_some_iff.1 hi;rw [List.length_range] at hi1;rw [List.getElem_range];obtain⟨_,a',ha',h1⟩:=hf j hi1;cases ha';rw [add_plain] at h1;exact h1
end
end
section
open Go.ChangeShapes Go.WideShapes Go.ChangeAt Go.RowKit
section
variable {α:Type}
variable {en:α->List Value} {q:Nat} {ok:α->Prop} {w w':World} {A:Option Addr} {n:Nat} {l:List α}
theorem RMem.take_ (h:RMem en q ok w A n l) (k:Nat) (hk:k<=n):RMem en q ok w A k (l.take k) :=
 ⟨by rw [List.length_take,h.1];omega,λ x hx=>h.2.1 x (List.mem_of_mem_take hx),λ hn=>by
   obtain⟨b,off,e,hb,hc⟩:=h.2.2 (by omega);refine⟨b,off,e,hb,λ i x hx=>hc i x ?_⟩;rw [List.getElem?_take] at hx;split at hx
   . exact hx
   . cases hx⟩
theorem RMem.emem {e1:α->Value} (h:RMem (λ x=>[e1 x]) 1 ok w A n l):EMem e1 ok w A n l :=
 ⟨h.1,h.2.1,λ hn=>by
   obtain⟨b,off,rfl,hb,hc⟩:=h.2.2 hn;refine⟨b,off,rfl,hb,λ j x hx=>?_⟩;have:=hc j x hx 0 _ rfl;rwa [Nat.mul_one] at this⟩
end
section
variable {H:Type} {enc:TypeId×Value->H} {P:Program} {W:World} {sp:Nat->Bool}
theorem trod_rowK {t e:TypeId} {k:Nat} {cs:List Value} {y:DataW H×List MemPlace} (ht:P.underlying t=some (.slice e)) (hf:DataW.trod enc P W 0 sp true k t cs=some y) :
 ∃ (A:Option Addr) (n c:Nat),cs=[.slice A n c]/\n<=c/\c<=maxLen/\∀ i,i<n->∃ (a:Addr) (cs:List Value) (y:DataW H×List MemPlace) (m:Nat),A=some a/\W.cells? 0 (a.add (i*P.cellsOf e)) (P.cellsOf e)=some cs/\DataW.trod enc P W 0 sp true m e cs=some y:=by
 rcases DataW.trod_slice ht hf with ⟨hcs,_⟩ | ⟨a,len',cap',elems,rest,m,_,hcs,_,_,hl,hm,hlen,hel,_,_⟩
 . exact⟨none,0,0,hcs,Nat.le_refl _,Nat.zero_le _,λ i hi=>by omega⟩
 . refine⟨some a,len',cap',hcs,hl,hm,λ i hi=>?_⟩
   have hy:=hel i hi;rw [List.getElem?_eq_getElem (by omega),Option.bind_eq_some_iff] at hy;obtain⟨cs,h1,h2⟩:=hy;exact⟨a,cs,_,m,rfl,h1,h2⟩
variable {α:Type} [Inhabited α] {en:α->List Value} {q:Nat} {ok:α->Prop}
theorem trod_rmem {t e:TypeId} {k:Nat} {cs:List Value} {y:DataW H×List MemPlace} (ht:P.underlying t=some (.slice e)) (hc:P.cellsOf e=q) (hq:0<q)
 (he:∀ m cs y,DataW.trod enc P W 0 sp true m e cs=some y->∃ x,cs=en x/\ok x)
 (hf:DataW.trod enc P W 0 sp true k t cs=some y) :
 ∃ (A:Option Addr) (n c:Nat) (l:List α),cs=[.slice A n c]/\n<=c/\c<=9223372036854775807/\RMem en q ok W A n l:=by
 obtain⟨A,n,c,rfl,hnc,hcm,hel⟩:=trod_rowK ht hf;unfold maxLen at hcm;rw [hc] at hel;have hx:∀ i,i<n->∃ x,ok x/\∃ a,A=some a/\(en x).length=q/\∀ j v,(en x)[j]?=some v->W.cell? (a.add (i*q+j))=some v:=λ i hi=>by
  obtain⟨a,cs,y,m,ha,h1,h2⟩:=hel i hi;obtain⟨x,rfl,hx⟩:=he m cs y h2;obtain⟨_,h3,hcell⟩:=World.cells?_some h1;refine⟨x,hx,a,ha,h3,λ j v hv=>?_⟩;have hj:j<q:=by
   have:=(List.getElem?_eq_some_iff.1 hv).1;omega
  have e1:=hcell j hj;rw [Deep.add_add] at e1;rw [e1,hv]
 obtain⟨f,hf⟩:=Deep.choose_lt hx;refine⟨A,n,c,(List.range n).map f,rfl,hnc,by omega,by rw [List.length_map,List.length_range],λ x hx=>?_,λ hn=>?_⟩
 . obtain⟨i,hi,rfl⟩:=List.mem_map.1 hx
   exact (hf i (List.mem_range.1 hi)).1
 . obtain⟨_,a,rfl,hl0,h0⟩:=hf 0 hn
   obtain⟨b,off,spot⟩:=a;have c0:=h0 0 _ (List.getElem?_eq_getElem (by omega));have hspot:spot=none:=by simpa [Addr.add] using World.cell?_spot c0
   subst hspot;refine⟨b,off,rfl,World.block_lt_of_cell? W _ (by simpa [Addr.add] using c0),λ j x hj i v hv=>?_⟩;rw [List.getElem?_map,Option.map_eq_some_iff] at hj;obtain⟨i',hi,rfl⟩:=hj;obtain⟨hi1,rfl⟩:=List.getElem?_eq_some_iff.1 hi;rw [List.length_range] at hi1;rw [List.getElem_range] at hv;obtain⟨_,a',ha',_,h1⟩:=hf j hi1;cases ha';have:=h1 i v hv;rw [add_plain,<- Nat.add_assoc] at this;exact this
end
end
section
namespace P12
def wd (k:Int):Bs:=if k=0 then [108,111,99,107] else if k=1 then [116,114,121] else if k=2 then [117,110,108,111,99,107] else [119,111,114,107]
def dgs (n:Int):Bs:=Lib.decDigits n.toNat
theorem dig_digits (u:Nat):∀ c∈Lib.decDigits u,48<=c.toNat/\c.toNat<=57:=by
 induction u using Nat.strongRecOn with
 | ind u ih =>
  rw [Lib.decDigits];have hd:∀ k,k<10->(UInt8.ofNat (48+k)).toNat=48+k:=λ k hk=>by
   rw [UInt8.toNat_ofNat'];omega
  by_cases h:u<10
  . rw [dif_pos h]
    intro c hc;rw [List.mem_singleton.1 hc,hd u h];omega
  . rw [dif_neg h]
    intro c hc;rcases List.mem_append.1 hc with h1 | h1
    . exact ih (u / 10) (by omega) c h1
    . rw [List.mem_singleton.1 h1,hd _ (by omega)]
      omega
def dval (l:Bs):Nat:=l.foldl (λ acc c=>acc*10+(c.toNat-48)) 0
theorem dval_dec (u:Nat):dval (Lib.decDigits u)=u:=by
 induction u using Nat.strongRecOn with
 | ind u ih =>
  have hd:∀ k,k<10->(UInt8.ofNat (48+k)).toNat=48+k:=λ k hk=>by
   rw [UInt8.toNat_ofNat'];omega
  rw [Lib.decDigits];by_cases h:u<10
  . rw [dif_pos h]
    simp [dval];omega
  . rw [dif_neg h]
    have e:=ih (u / 10) (by omega);unfold dval at e ⊢;rw [List.foldl_append,e];simp only [List.foldl_cons,List.foldl_nil,hd _ (Nat.mod_lt u (by omega:0<10))];omega
theorem dec_inj {u v:Nat} (h:Lib.decDigits u=Lib.decDigits v):u=v:=by rw [<- dval_dec u,<- dval_dec v,h]
def NumR (s:Bs) (n:Int):Prop:=0<=n/\n<=999999/\s=dgs n
theorem NumR.inj {s:Bs} {m n:Int} (h:NumR s m) (k:NumR s n):m=n:=by
 have:=dec_inj (h.2.2.symm.trans k.2.2);have:=h.1;have:=k.1;omega
def WordR (s:Bs) (k:Int) (d:Bs):Prop:=0<=k/\k<=3/\d≠[]/\s=wd k++32::d
theorem wd_blank (k:Int):(32:UInt8) ∉ wd k:=by unfold wd;split<;>(try split)<;>(try split)<;>decide
theorem split_first {c:UInt8} {a b x y:Bs} (ha:c ∉ a) (hb:c ∉ b) (h:a++c::x=b++c::y):a=b/\x=y:=by
 induction a generalizing b with
 | nil =>
  cases b with
  | nil=>simpa using h
  | cons u b=>simp at h;exact absurd (by rw [h.1];simp) hb
 | cons v a ih =>
  cases b with
  | nil=>simp at h;exact absurd (by rw [h.1];simp) ha
  | cons u b =>
   simp at h ha hb;obtain⟨h1,h2⟩:=ih ha.2 hb.2 h.2;exact⟨by rw [h.1,h1],h2⟩
theorem wd_inj {j k:Int} (hj:0<=j/\j<=3) (hk:0<=k/\k<=3) (h:wd j=wd k):j=k:=by
 have e1:j=0\/j=1\/j=2\/j=3:=by omega
 have e2:k=0\/k=1\/k=2\/k=3:=by omega
 rcases e1 with rfl | rfl | rfl | rfl<;>rcases e2 with rfl | rfl | rfl | rfl<;>first | rfl | (revert h;decide)
theorem WordR.inj {s:Bs} {j k:Int} {c d:Bs} (h:WordR s j c) (g:WordR s k d):j=k/\c=d:=by
 obtain⟨e,f⟩:=split_first (wd_blank j) (wd_blank k) (h.2.2.2.symm.trans g.2.2.2);exact⟨wd_inj ⟨h.1,h.2.1⟩ ⟨g.1,g.2.1⟩ e,f⟩
def held:Option Int->List Ac->Option (Option Int)
 | h,[]=>some h
 | h,a::r=>if a.1=1 then none else if a.1=0 then (if h.isSome then none else held (some a.2) r) else if a.1=2 then (if h=some a.2 then held none r else none) else held h r
def tidyB (l:List Ac):Bool:=held none l==some none
end P12
end
section
open Go.ChangeShapes Go.WideShapes Go.ChangeAt Go.RowKit
theorem flat_append (l m:List (Int×Int)):flat (l++m)=flat l++flat m:=by
 induction l with
 | nil=>rfl
 | cons x r ih=>simp [flat,ih]
end
section
open Go.ChangeShapes Go.WideShapes Go.ChangeAt Go.RowKit Go.Deep
namespace P12
theorem cellsOfAct:Tryz.prog.cellsOf 67=2:=by kernel_rfl
theorem cellsOfInt:Tryz.prog.cellsOf 3=1:=by kernel_rfl
theorem cellsOfActs:Tryz.prog.cellsOf 64=1:=by kernel_rfl
theorem flat_inv:∀ (l:List (Int×Int)) (j:Nat) (u:Value),(flat l)[j]?=some u->∃ i x,l[i]?=some x/\((j=i*2/\u=.int .i64 x.1)\/(j=i*2+1/\u=.int .i64 x.2))
 | [],j,u,h=>by simp [flat] at h
 | x::r,0,u,h=>by simp [flat] at h;exact⟨0,x,rfl,.inl ⟨rfl,h.symm⟩⟩
 | x::r,1,u,h=>by simp [flat] at h;exact⟨0,x,rfl,.inr ⟨rfl,h.symm⟩⟩
 | x::r,j+2,u,h=>by
  obtain⟨i,y,hy,h⟩:=flat_inv r j u (by simpa [flat] using h);refine⟨i+1,y,by simpa using hy,?_⟩;rcases h with ⟨rfl,rfl⟩ | ⟨rfl,rfl⟩
  . exact .inl ⟨by omega,rfl⟩
  . exact .inr ⟨by omega,rfl⟩
section
variable {w w':World} {A:Option Addr} {n:Nat} {l:List Ac}
theorem mem_blk {g:Nat} {vs:Array Value} {t:TypeId} (h:Blk w g vs t) (hv:vs.toList=flat l) (hb:∀ x∈l,Inb x.1/\Inb x.2):Mem w (some ⟨g,0,none⟩) l.length l :=
 ⟨rfl,hb,λ _=>⟨g,0,rfl,h.lt,λ j u hu=>by
   rw [Nat.zero_add];refine (h.at_ ?_).1;rw [<- hv] at hu;simpa using hu⟩⟩
end
section
variable {w w':World} {base lo:Nat} {A:Option Addr} {n c:Nat} {R:List PV}
theorem POwn.gr (h:POwn w base lo A n c R) (g:Gr w w'):POwn w' base lo A n c R :=
 ⟨h.row.gr g,λ x hx=>(h.ok x hx).gr g,λ x hx h0 k hk=>by
   obtain⟨h1,h2,h3⟩:=h.off x hx h0 k hk;exact⟨h1,Nat.lt_of_lt_of_le h2 g.size,h3⟩⟩
theorem POwn.late (h:POwn w base lo A n c R):Late base A:=λ k hk=>by
 rcases h.row.2.2.2 with ⟨rfl,_⟩ | ⟨b,off,rfl,h1,h2⟩
 . cases hk
 . simp at hk;omega
variable {B:Option Addr} {m d:Nat} {news:List PV}
end
section
variable {H:Type} {enc:TypeId×Value->H} {W:World}
theorem trod_acts {sp:Nat->Bool} {k:Nat} {cs:List Value} {y:DataW H×List MemPlace} (hf:DataW.trod enc Tryz.prog W 0 sp true k 64 cs=some y) :
 ∃ x:PV,cs=[x.enc]/\x.ok W:=by
 rcases open_slice_pairs Tryz.underlying64 Tryz.underlying67 cellsOfAct rfl rfl cellsOfInt cellsOfInt hf with ⟨hcs,hx⟩ | ⟨a,len,cap,m,k,V0,V1,D0,D1,P0,P1,hcs,_,hl,hm,hmm,hx,hcell⟩
 . exact⟨⟨none,0,0,[]⟩,hcs,Mem.nil_,Nat.le_refl _,by show 0<=_;omega⟩
 . unfold maxLen at hm
   have hlm:len<=m:=by rw [hmm];split<;>omega
   have each:∀ i,i<len->∃ q:Int×Int,W.cell? (a.add (i*2))=some (.int .i64 q.1)/\W.cell? (a.add (i*2+1))=some (.int .i64 q.2)/\Inb q.1/\Inb q.2:=by
    intro i hi;obtain⟨c0,c1,t0,t1⟩:=hcell i (by omega);obtain⟨x,e0,_,w0⟩:=DataW.trod_int Tryz.underlying3 t0;obtain⟨y,e1,_,w1⟩:=DataW.trod_int Tryz.underlying3 t1;simp only [List.cons.injEq,and_true] at e0 e1;rw [e0] at c0;rw [e1] at c1;exact⟨(x,y),c0,c1,bounds_i64 w0,bounds_i64 w1⟩
   obtain⟨q,hq⟩:=choose_lt each;refine⟨⟨some a,len,cap,(List.range len).map q⟩,hcs,⟨by simp,?_,?_⟩,hl,by show cap<=_;omega⟩
   . intro x hx
     simp only [List.mem_map,List.mem_range] at hx;obtain⟨i,hi,rfl⟩:=hx;exact (hq i hi).2.2
   . intro h0
     obtain⟨b,off,spot⟩:=a;have hspot:spot=none:=by simpa [Addr.add] using World.cell?_spot (hq 0 h0).1
     subst hspot;refine⟨b,off,rfl,World.block_lt_of_cell? W _ (by simpa [Addr.add] using (hq 0 h0).1),λ j u hu=>?_⟩;obtain⟨i,x,hx,h⟩:=flat_inv _ j u hu;have hi:i<len:=by have:=(List.getElem?_eq_some_iff.1 hx).1;simpa using this
     have hxq:x=q i:=by simpa [hi] using hx.symm
     subst hxq;rcases h with ⟨rfl,rfl⟩ | ⟨rfl,rfl⟩
     . have:=(hq i hi).1;rwa [add_plain] at this
     . have:=(hq i hi).2.1;rwa [add_plain] at this
end
end P12
end
section
open Go.ChangeShapes Go.WideShapes Go.ChangeAt Go.RowKit
theorem cellsOfInt:Tryz.prog.cellsOf 3=1:=by kernel_rfl
theorem open_ints {H:Type} {enc:TypeId×Value->H} {W:World} {base:Nat} {sp:Nat->Bool} {v:Value} {d:DataW H} {ps:List MemPlace}
 (hval:Value.okWide Tryz.prog W .any base 23 v) (h:DataW.Trod enc Tryz.prog W 0 sp true 23 v d ps) :
 ∃ (A:Option Addr) (n c:Nat) (l:List Int),v=.slice A n c/\n<=c/\n<=9223372036854775807/\IMem W A n l :=
 open_emem Tryz.underlying23 cellsOfInt (λ m cs y hy=>by
  obtain⟨b,rfl,_,hb⟩:=DataW.trod_int Tryz.underlying3 hy;exact⟨b,rfl,wfb hb⟩) hval h
end
end Go.Proofs.YtainfijdhcehlaaGreatDoor
namespace Go.Proofs.YtainfijdhcehlaaGreatDoor.L7
open Go.ChangeShapes Go.WideShapes Go.ChangeAt Go.RowKit
section
variable {w:World} {A:Option Addr} {n c:Nat} {l:List Int}
end
section
variable {w:World} {A B:Option Addr} {n c m d:Nat} {l r:List Int}
theorem rSame_is (hA:IMem w A n l) (hB:IMem w B m r) (hn:n<=9223372036854775807) (hm:m<=9223372036854775807) {v:Bool} (hv:v=true↔l=r) :
 Calls Tryz.prog 88 #[.slice A n c,.slice B m d] w λ e w'=>e=.returned (.bool v)/\Gr w w':=by
 have HV:=Lib.hid hv
 have HA:=Lib.hid hA
 have HB:=Lib.hid hB
 clear hA hB hv
 by_cases hnm:n=m
 . subst hnm
   go_enter Tryz.func88,Tryz.ntmps88
   go_wp2_with fail
   go_loopw [13] (λ i wr=>∃ k:Nat,k<=n/\i=.int .i64 k/\Hid (∀ j,j<k->l[j]?=r[j]?)/\Gr w wr) (λ i _=>n-(intOf i).toNat)
   case atStart=>exact⟨0,Nat.zero_le _,rfl,Lib.hid (λ j hj=>absurd hj (by omega)),Gr.refl _⟩
   case round =>
    obtain⟨k,hkn,rfl,HJ,hg⟩:=hrel
    by_cases hlt:k<n
    . obtain⟨b,off,x,rfl,hbl,hx,hix,c0⟩:=(HA.out.gr hg).at_ hlt
      obtain⟨b',off',x',rfl,hbl',hx',hix',c0'⟩:=(HB.out.gr hg).at_ hlt
      have k0:(0:Int)<=(k:Int):=by omega
      have k1:(k:Int)<(n:Int):=by omega
      by_cases he:x=x'
      . subst he
        have HJ':Hid (∀ j,j<k+1->l[j]?=r[j]?):=Lib.hid λ j hj=>by
         by_cases h:j<k
         . exact HJ.out j h
         . obtain rfl:j=k:=by omega
           rw [hx,hx']
        clear hx hx' HJ
        go_wp2_with fail
        go_quiet (fail)
        go_wp2_with fail
        go_roundw
        case rel=>exact⟨k+1,by omega,by go_num,HJ',hg.drN _⟩
        case measure=>simp [intOf];omega
      . have ne:(x==x')=false:=beq_eq_false_iff_ne.2 he
        obtain rfl:v=false:=by
         cases v
         . rfl
         . have:=HV.out.1 rfl
           rw [this,hx'] at hx
           exact absurd (Option.some.inj hx).symm he
        clear hx hx' HJ
        go_wp2_with fail
        go_quiet (fail)
        go_wp2_with fail
        go_ret
        exact⟨rfl,hg.drN _⟩
    . obtain rfl:k=n:=by omega
      obtain rfl:v=true:=HV.out.2 (List.ext_getElem? λ j=>by
       by_cases h:j<k
       . exact HJ.out j h
       . rw [List.getElem?_eq_none (by rw [HA.out.1];omega),List.getElem?_eq_none (by rw [HB.out.1];omega)])
      go_wp2_with fail
      go_ret
      exact⟨rfl,hg⟩
 . obtain rfl:v=false:=by
    cases v
    . rfl
    . have:=HV.out.1 rfl
      have h1:=HA.out.1
      have h2:=HB.out.1
      rw [this] at h1
      omega
   have ne:((n:Int)==(m:Int))=false:=beq_eq_false_iff_ne.2 (by omega)
   go_enter Tryz.func88,Tryz.ntmps88
   go_wp2_with fail
   go_ret
   exact⟨rfl,Gr.refl _⟩
end
end Go.Proofs.YtainfijdhcehlaaGreatDoor.L7
namespace Go.Proofs.YtainfijdhcehlaaGreatDoor
open Lib (hid)
section
theorem Tab.nil:Tab []:=⟨by simp,TOk.nil⟩
end
section
open Go.ChangeShapes Go.WideShapes Go.ChangeAt Go.RowKit Go.Joins
theorem cellsOfSpot:Tryz.prog.cellsOf 91=3:=by kernel_rfl
section
variable {H:Type} {enc:TypeId×Value->H} {W:World}
theorem trod_ints {sp:Nat->Bool} {k:Nat} {cs:List Value} {y:DataW H×List MemPlace} (hf:DataW.trod enc Tryz.prog W 0 sp true k 23 cs=some y) :
 ∃ (A:Option Addr) (n c:Nat) (l:List Int),cs=[.slice A n c]/\n<=c/\c<=9223372036854775807/\IMem W A n l:=by
 rcases DataW.trod_slice Tryz.underlying23 hf with ⟨hcs,_⟩ | ⟨a,len,cap,elems,rest,m,_,hcs,_,_,hl,hm,hlen,hel,_,_⟩
 . exact⟨none,0,0,[],hcs,by omega,by omega,EMem.nil_⟩
 . unfold maxLen at hm
   have hx:∀ i,i<len->∃ q:Int,B64 q/\W.cell? (a.add i)=some (.int .i64 q):=by
    intro i hi;have hy:=hel i hi;rw [List.getElem?_eq_getElem (by omega),Option.bind_eq_some_iff] at hy;obtain⟨cs',h1,h2⟩:=hy;rw [cellsOfInt,Nat.mul_one] at h1;obtain⟨q,rfl,_,hw⟩:=DataW.trod_int Tryz.underlying3 h2;exact⟨q,wfb hw,cell_of_cells?_one h1⟩
   obtain⟨q,hq⟩:=Deep.choose_lt hx;refine⟨some a,len,cap,(List.range len).map q,hcs,hl,by omega,by simp,?_,?_⟩
   . intro x hx
     simp only [List.mem_map,List.mem_range] at hx;obtain⟨i,hi,rfl⟩:=hx;exact (hq i hi).1
   . intro h0
     obtain⟨b,off,spot⟩:=a;have hspot:spot=none:=by simpa [Addr.add] using World.cell?_spot (hq 0 h0).2
     subst hspot;refine⟨b,off,rfl,World.block_lt_of_cell? W _ (by simpa [Addr.add] using (hq 0 h0).2),λ j x hj=>?_⟩;rw [List.getElem?_map,Option.map_eq_some_iff] at hj;obtain⟨i,hi,rfl⟩:=hj;obtain⟨hi1,rfl⟩:=List.getElem?_eq_some_iff.1 hi;rw [List.length_range] at hi1;rw [List.getElem_range];have c0:=(hq j hi1).2;rw [add_plain] at c0;exact c0
theorem trod_spot {sp:Nat->Bool} {m:Nat} {cs:List Value} {y:DataW H×List MemPlace} (h:DataW.trod enc Tryz.prog W 0 sp true m 91 cs=some y) :
 ∃ x:SV,cs=[.int .i64 x.addr,.int .i64 x.cnt,.slice x.A x.n x.c]/\x.ok W:=by
 obtain⟨y0,y1,y2,k,rfl,hl,t0,t1,t2⟩:=Deep.trod_struct3 Tryz.underlying91 h;rw [cellsOfSpot] at hl
 match cs,hl with
 | [v0,v1,v2],_ =>
  have e:=cellsOfInt;have e2:Tryz.prog.cellsOf 23=1:=by kernel_rfl
  change DataW.trod enc Tryz.prog W 0 sp true k 3 (([v0,v1,v2].drop 0).take (Tryz.prog.cellsOf 3))=some y0 at t0;change DataW.trod enc Tryz.prog W 0 sp true k 3 (([v0,v1,v2].drop 1).take (Tryz.prog.cellsOf 3))=some y1 at t1;change DataW.trod enc Tryz.prog W 0 sp true k 23 (([v0,v1,v2].drop 2).take (Tryz.prog.cellsOf 23))=some y2 at t2;rw [e] at t0 t1;rw [e2] at t2;obtain⟨a,ha,_,wa⟩:=DataW.trod_int Tryz.underlying3 t0;obtain⟨b,hb,_,wb⟩:=DataW.trod_int Tryz.underlying3 t1;obtain⟨A,n,c,l,hc,h1,h2,h3⟩:=trod_ints t2;simp at ha hb hc;subst ha hb hc;exact⟨⟨a,b,A,n,c,l⟩,rfl,wfb wa,wfb wb,h3,h1,h2⟩
end
end
section
open Go.ChangeShapes Go.WideShapes Go.ChangeAt Go.RowKit Go.Shelf
theorem wp_append_spot {w:World} {base:Nat} {v:Value} {R:List SV} {y:SV} {b c:Nat} {t:TypeId} {o:Oper} {a:Act} {K:Act->World->Prop} {Q:Exit->Act->World->Prop} (s x:Operand)
 (ho:o.op=.call { callee:=.builtin .append,args:=#[s,x],argTypes:=#[26,26] }) (hs:a.eval s=v) (hx:a.eval x=.slice (some ⟨b,0,none⟩) 1 c)
 (h:SRow w base v R.length R) (hb:Blk w b #[.int .i64 y.addr,.int .i64 y.cnt,.slice y.A y.n y.c] t) (hl:R.length<=1000000) (hbase:base<=w.heap.size)
 (hK:∀ g cap w',Appended w base v R y g cap w'->K (a.put o.dst (.slice (some ⟨g,0,none⟩) (R.length+1) cap)) w'):o.wp Tryz.prog a w K Q:=by
 obtain⟨g,cap,w',h1,h2⟩:=run_append_spot h hb hl hbase o.type (c:=c);unfold Oper.wp execOp;simp only [ho,resolve,invoke,builtin,Sem.run_bind,Sem.run_pure,Result.andThen_ok,List.map_toArray,List.map_cons,List.map_nil,hs,hx,h1];exact hK g cap w' h2
theorem wpList_append_spot {w:World} {base:Nat} {v:Value} {R:List SV} {y:SV} {b c:Nat} {t:TypeId} {ops:Array Oper} {rest:List Oper} {o:Oper} {a:Act} {Q:Exit->Act->World->Prop} (hgd:o.guard=none) (s x:Operand)
 (ho:o.op=.call { callee:=.builtin .append,args:=#[s,x],argTypes:=#[26,26] }) (hs:a.eval s=v) (hx:a.eval x=.slice (some ⟨b,0,none⟩) 1 c)
 (h:SRow w base v R.length R) (hb:Blk w b #[.int .i64 y.addr,.int .i64 y.cnt,.slice y.A y.n y.c] t) (hl:R.length<=1000000) (hbase:base<=w.heap.size)
 (hK:∀ g cap w',Appended w base v R y g cap w'->wpList Tryz.prog ops Q rest (a.put o.dst (.slice (some ⟨g,0,none⟩) (R.length+1) cap)) w'):wpList Tryz.prog ops Q (o::rest) a w :=
 wpList_plain hgd λ _ hK'=>wp_append_spot s x ho hs hx h hb hl hbase λ g cap w' h1=>hK' _ _ (hK g cap w' h1)
end
section
namespace P16
def new (l:List (List (Int×Int))):Mw :=
 { now:=0,progs:=l,cl:=l.map λ p=>first 0 false 0 p.length,cm:=λ _=>⟨0,0,0,0,[]⟩,stop:=0 }
end P16
end
section
open Go.ChangeShapes Go.WideShapes Go.ChangeAt Go.RowKit Go.Deep
section
variable {H:Type} {enc:TypeId×Value->H} {P:Program} {w:World} {base:Nat} {spare:Nat->Bool} {held:Bool}
theorem open_fields {r:Reach} {b0:Nat} {t:TypeId} {fs:Array Field} {v:Value} {d:DataW H} {p:List MemPlace} (hs:P.underlying t=some (.struct fs)) (hone:oneCellFields P fs=true) (hC:P.cellsOf t=fs.size)
 (hv:Value.okWide P w r b0 t v) (h:DataW.Trod enc P w base spare held t v d p) :
 ∃ cs,v=.agg cs/\cs.size=fs.size/\∀ (i:Nat) (f:Field),fs[i]?=some f->∃ c y n,cs[i]?=some c/\DataW.trod enc P w base spare held n f.type [c]=some y:=by
 obtain⟨cs,rfl,hsz⟩:=okWide_struct hs hv;obtain⟨fuel,hf⟩:=h;obtain⟨xs,n,_,_,hl,hlen,hf⟩:=DataW.trod_struct hs hf;refine⟨cs,rfl,hsz.trans hC,λ i f hi=>?_⟩;obtain⟨o,k⟩:=hone_of hone i f hi;have hlt:i<fs.size:=(Array.getElem?_eq_some_iff.1 hi).1;have hlt':i<cs.size:=by omega
 have hlx:i<xs.length:=by omega
 have hx:=hf i f hi;rw [o,k,List.getElem?_eq_getElem hlx] at hx;refine⟨cs[i],xs[i],n,Array.getElem?_eq_getElem hlt',?_⟩;rw [<- hx];congr 1;simp only [Value.cells];rw [List.drop_eq_getElem_cons (by simpa using hlt')];simp
end
end
section
open Go.ChangeShapes Go.WideShapes Go.ChangeAt Go.RowKit Go.Joins
namespace P16
open P12 (PV PMem)
theorem cellsOfClient:Tryz.prog.cellsOf 55=13:=by kernel_rfl
theorem cellsOfMutex:Tryz.prog.cellsOf 48=3:=by kernel_rfl
theorem cellsOfGor:Tryz.prog.cellsOf 51=2:=by kernel_rfl
theorem cellsOfOwn:Tryz.prog.cellsOf 53=5:=by kernel_rfl
theorem cellsOfTicket:Tryz.prog.cellsOf 46=2:=by kernel_rfl
section
variable {H:Type} {enc:TypeId×Value->H} {W:World} {sp:Nat->Bool}
theorem list2 {α:Type} {l:List α} (h:l.length=2):∃ a b,l=[a,b]:=by
 match l,h with
 | [a,b],_=>exact⟨a,b,rfl⟩
theorem list3 {α:Type} {l:List α} (h:l.length=3):∃ a b c,l=[a,b,c]:=by
 match l,h with
 | [a,b,c],_=>exact⟨a,b,c,rfl⟩
theorem list5 {α:Type} {l:List α} (h:l.length=5):∃ a b c d e,l=[a,b,c,d,e]:=by
 match l,h with
 | [a,b,c,d,e],_=>exact⟨a,b,c,d,e,rfl⟩
theorem list13 {α:Type} {l:List α} (h:l.length=13):∃ a b c d e f g h i j k m n,l=[a,b,c,d,e,f,g,h,i,j,k,m,n]:=by
 match l,h with
 | [a,b,c,d,e,f,g,h,i,j,k,m,n],_=>exact⟨a,b,c,d,e,f,g,h,i,j,k,m,n,rfl⟩
variable {m:Nat} {cs:List Value} {y:DataW H×List MemPlace}
theorem fld {fs:Array Field} {xs:List (DataW H×List MemPlace)} {n i:Nat} (hl:xs.length=fs.size)
 (h:∀ (i:Nat) (f:Field),fs[i]?=some f->DataW.trod enc Tryz.prog W 0 sp true n f.type ((cs.drop f.offset).take (Tryz.prog.cellsOf f.type))=xs[i]?) {f:Field} (hf:fs[i]?=some f) :
 ∃ y,DataW.trod enc Tryz.prog W 0 sp true n f.type ((cs.drop f.offset).take (Tryz.prog.cellsOf f.type))=some y:=by
 have hi:=(Array.getElem?_eq_some_iff.1 hf).1;exact⟨xs[i]'(by omega),by rw [h i f hf];exact List.getElem?_eq_getElem _⟩
theorem trod_gor (h:DataW.trod enc Tryz.prog W 0 sp true m 51 cs=some y):∃ s p,cs=[.int .i64 s,.bool p]/\B64 s:=by
 obtain⟨xs,n,_,_,hl,hx,hf⟩:=DataW.trod_struct Tryz.underlying51 h;rw [cellsOfGor] at hl;obtain⟨a,b,rfl⟩:=list2 hl;obtain⟨y0,t0⟩:=fld hx hf (i:=0) rfl;obtain⟨y1,t1⟩:=fld hx hf (i:=1) rfl;obtain⟨s,e0,_,w0⟩:=DataW.trod_int Tryz.underlying3 (cs:=[a]) t0;obtain⟨p,e1,_⟩:=DataW.trod_bool Tryz.underlying4 (cs:=[b]) t1;cases e0;cases e1;exact⟨s,p,rfl,wfb w0⟩
theorem trod_own (h:DataW.trod enc Tryz.prog W 0 sp true m 53 cs=some y):∃ s t k r o,cs=[.int .i64 s,.bool t,.bool k,.int .i64 r,.int .i64 o]/\B64 s/\B64 r/\B64 o:=by
 obtain⟨xs,n,_,_,hl,hx,hf⟩:=DataW.trod_struct Tryz.underlying53 h;rw [cellsOfOwn] at hl;obtain⟨a,b,c,d,e,rfl⟩:=list5 hl;obtain⟨y0,t0⟩:=fld hx hf (i:=0) rfl;obtain⟨y1,t1⟩:=fld hx hf (i:=1) rfl;obtain⟨y2,t2⟩:=fld hx hf (i:=2) rfl;obtain⟨y3,t3⟩:=fld hx hf (i:=3) rfl;obtain⟨y4,t4⟩:=fld hx hf (i:=4) rfl;obtain⟨s,e0,_,w0⟩:=DataW.trod_int Tryz.underlying3 (cs:=[a]) t0;obtain⟨t,e1,_⟩:=DataW.trod_bool Tryz.underlying4 (cs:=[b]) t1;obtain⟨k,e2,_⟩:=DataW.trod_bool Tryz.underlying4 (cs:=[c]) t2;obtain⟨r,e3,_,w3⟩:=DataW.trod_int Tryz.underlying3 (cs:=[d]) t3;obtain⟨o,e4,_,w4⟩:=DataW.trod_int Tryz.underlying3 (cs:=[e]) t4;cases e0;cases e1;cases e2;cases e3;cases e4;exact⟨s,t,k,r,o,rfl,wfb w0,wfb w3,wfb w4⟩
theorem trod_ticket (h:DataW.trod enc Tryz.prog W 0 sp true m 46 cs=some y):∃ s p,cs=[.int .i64 s,.int .i64 p]/\B64 s/\B64 p:=by
 obtain⟨xs,n,_,_,hl,hx,hf⟩:=DataW.trod_struct Tryz.underlying46 h;rw [cellsOfTicket] at hl;obtain⟨a,b,rfl⟩:=list2 hl;obtain⟨y0,t0⟩:=fld hx hf (i:=0) rfl;obtain⟨y1,t1⟩:=fld hx hf (i:=1) rfl;obtain⟨s,e0,_,w0⟩:=DataW.trod_int Tryz.underlying3 (cs:=[a]) t0;obtain⟨p,e1,_,w1⟩:=DataW.trod_int Tryz.underlying3 (cs:=[b]) t1;cases e0;cases e1;exact⟨s,p,rfl,wfb w0,wfb w1⟩
theorem trod_mutex (h:DataW.trod enc Tryz.prog W 0 sp true m 48 cs=some y):∃ x:T3,cs=t3V x/\TB3 x:=by
 obtain⟨xs,n,_,_,hl,hx,hf⟩:=DataW.trod_struct Tryz.underlying48 h;rw [cellsOfMutex] at hl;obtain⟨a,b,c,rfl⟩:=list3 hl;obtain⟨y0,t0⟩:=fld hx hf (i:=0) rfl;obtain⟨y1,t1⟩:=fld hx hf (i:=1) rfl;obtain⟨s,e0,_,w0⟩:=DataW.trod_int Tryz.underlying3 (cs:=[a]) t0;obtain⟨p,q,e1,w1,w2⟩:=trod_ticket (cs:=[b,c]) t1;cases e0;cases e1;exact⟨(s,p,q),rfl,wfb w0,w1,w2⟩
theorem trod_client (h:DataW.trod enc Tryz.prog W 0 sp true m 55 cs=some y):∃ x:Cl,cs=clV x/\CB x:=by
 obtain⟨xs,n,_,_,hl,hx,hf⟩:=DataW.trod_struct Tryz.underlying55 h;rw [cellsOfClient] at hl;obtain⟨c0,c1,c2,c3,c4,c5,c6,c7,c8,c9,c10,c11,c12,rfl⟩:=list13 hl;obtain⟨y0,t0⟩:=fld hx hf (i:=0) rfl;obtain⟨y1,t1⟩:=fld hx hf (i:=1) rfl;obtain⟨y2,t2⟩:=fld hx hf (i:=2) rfl;obtain⟨y3,t3⟩:=fld hx hf (i:=3) rfl;obtain⟨y4,t4⟩:=fld hx hf (i:=4) rfl;obtain⟨y5,t5⟩:=fld hx hf (i:=5) rfl;obtain⟨y6,t6⟩:=fld hx hf (i:=6) rfl;obtain⟨y7,t7⟩:=fld hx hf (i:=7) rfl;obtain⟨s0,s1,e0,b0⟩:=trod_gor (cs:=[c0,c1]) t0;obtain⟨s2,e2,_,b2⟩:=DataW.trod_int Tryz.underlying3 (cs:=[c2]) t1;obtain⟨s3,e3,_,b3⟩:=DataW.trod_int Tryz.underlying3 (cs:=[c3]) t2;obtain⟨s4,e4,_,b4⟩:=DataW.trod_int Tryz.underlying3 (cs:=[c4]) t3;obtain⟨s5,e5,_,b5⟩:=DataW.trod_int Tryz.underlying3 (cs:=[c5]) t4;obtain⟨s6,e6,_⟩:=DataW.trod_bool Tryz.underlying4 (cs:=[c6]) t5;obtain⟨s7,e7,_⟩:=DataW.trod_bool Tryz.underlying4 (cs:=[c7]) t6;obtain⟨s8,s9,s10,s11,s12,e8,b8,b11,b12⟩:=trod_own (cs:=[c8,c9,c10,c11,c12]) t7;cases e0;cases e2;cases e3;cases e4;cases e5;cases e6;cases e7;cases e8;exact⟨⟨s0,s1,s2,s3,s4,s5,s6,s7,s8,s9,s10,s11,s12⟩,rfl,b0,wfb b2,wfb b3,wfb b4,wfb b5,b8,b11,b12⟩
theorem trod_progs (h:DataW.trod enc Tryz.prog W 0 sp true m 22 cs=some y):∃ A n c R,cs=[.slice A n c]/\n<=c/\c<=9223372036854775807/\PMem W A n R:=by
 obtain⟨A,n,c,R,e,h1,h2,h3⟩:=trod_rmem (en:=λ x:PV=>[x.enc]) (ok:=λ x=>x.ok W) Tryz.underlying22 P12.cellsOfActs (by decide) (λ m cs y h=>P12.trod_acts h) h;exact⟨A,n,c,R,e,h1,h2,⟨h3.1,λ _ _=>trivial,h3.emem.2.2⟩,h3.2.1⟩
theorem trod_spots (h:DataW.trod enc Tryz.prog W 0 sp true m 26 cs=some y):∃ A n c T,cs=[.slice A n c]/\n<=c/\c<=9223372036854775807/\SMem W A n T:=by
 obtain⟨A,n,c,T,e,h1,h2,h3⟩:=trod_rmem (en:=λ x:SV=>[.int .i64 x.addr,.int .i64 x.cnt,.slice x.A x.n x.c]) (ok:=λ x=>x.ok W) Tryz.underlying26 cellsOfSpot (by decide) (λ m cs y h=>trod_spot h) h;refine⟨A,n,c,T,e,h1,h2,h3.1,h3.2.1,λ hn=>?_⟩;obtain⟨b,off,e1,e2,e3⟩:=h3.2.2 hn;exact⟨b,off,e1,e2,λ j x hx=>⟨e3 j x hx 0 _ rfl,e3 j x hx 1 _ rfl,e3 j x hx 2 _ rfl⟩⟩
theorem open_world {base:Nat} {v:Value} {d:DataW H} {ps:List MemPlace}
 (hval:Value.okWide Tryz.prog W .any base 29 v) (h:DataW.Trod enc Tryz.prog W 0 sp true 29 v d ps) :
 ∃ (r:WR) (ω:Wv),v=r.v/\WIs W r ω:=by
 obtain⟨cs,rfl,hsz,hf⟩:=Go.Proofs.YtainfijdhcehlaaGreatDoor.open_fields Tryz.underlying29 (by kernel_rfl) (by kernel_rfl) hval h;obtain⟨c0,c1,c2,c3,c4,c5,rfl⟩:=array6 hsz;obtain⟨_,_,n0,e0,t0⟩:=hf 0 _ rfl;obtain⟨_,_,n1,e1,t1⟩:=hf 1 _ rfl;obtain⟨_,_,n2,e2,t2⟩:=hf 2 _ rfl;obtain⟨_,_,n3,e3,t3⟩:=hf 3 _ rfl;obtain⟨_,_,n4,e4,t4⟩:=hf 4 _ rfl;obtain⟨_,_,n5,e5,t5⟩:=hf 5 _ rfl;cases e0;cases e1;cases e2;cases e3;cases e4;cases e5;obtain⟨now,q0,-,w0⟩:=DataW.trod_int Tryz.underlying3 t0;obtain⟨A1,n1,k1,R,q1,h1,g1,m1⟩:=trod_progs t1;obtain⟨A2,n2,k2,L,q2,h2,g2,m2⟩:=trod_rmem (en:=clV) (ok:=CB) Tryz.underlying24 cellsOfClient (by decide) (λ m cs y h=>trod_client h) t2;obtain⟨A3,n3,k3,M,q3,h3,g3,m3⟩:=trod_rmem (en:=t3V) (ok:=TB3) Tryz.underlying25 cellsOfMutex (by decide) (λ m cs y h=>trod_mutex h) t3;obtain⟨A4,n4,k4,T,q4,h4,g4,m4⟩:=trod_spots t4;obtain⟨stop,q5,-,w5⟩:=DataW.trod_int Tryz.underlying27 t5;cases q0;cases q1;cases q2;cases q3;cases q4;cases q5;exact⟨⟨now,⟨A1,n1,k1⟩,⟨A2,n2,k2⟩,⟨A3,n3,k3⟩,⟨A4,n4,k4⟩,stop⟩,⟨now,P12.pl R,L,M,T.map SV.pl,stop⟩,rfl,rfl,rfl,wfb w0,wfb w5,⟨R,m1,rfl⟩,m2,m3,⟨T,m4,rfl⟩,⟨h1,g1⟩,⟨h2,g2⟩,⟨h3,g3⟩,⟨h4,g4⟩⟩
end
end P16
end
section
namespace P16
section
variable {p:List Ac} {a k:Nat} {n now:Int} {hd:Option Nat}
theorem cAt_lt (h:a<p.length):cAt a k p.length={ gst:=0,permit:=false,act:=a,pc:=0,worked:=k,ticket:=0,first:=false,told:=false,since:=-1,st:=false,aw:=false,rounds:=0,old:=0 }:=by
 have:¬ (a:Int)=p.length:=by omega
 unfold cAt first;simp [this]
theorem over_cAt (h:a<p.length):over (cAt a k p.length) p.length=cAt (a+1) 0 p.length:=by
 rw [cAt_lt h];unfold over cAt;simp only [Int.natCast_add];unfold first;congr 1
theorem new_one:P16.new [p]=W1 p 0 0 none 0:=by
 unfold P16.new W1 cAt;congr 1
theorem cAt_facts (h:a<p.length):(cAt a k p.length).gst=0/\(cAt a k p.length).pc=0/\(cAt a k p.length).worked=k/\(cAt a k p.length).act.toNat=a:=by
 rw [cAt_lt h];exact⟨rfl,rfl,rfl,by simp⟩
theorem alone_touch {kk e:Int} {hd':Option Nat} (ha:p[a]?=some (kk,n)) (hk:kk≠3)
 (ht:∀ r:Nat,touch now r p.length ((0:Nat):Int) kk (cAt a 0 p.length) ⟨if hd=some n.toNat then 1 else 0,0,0,0,[]⟩=.ok ⟨cAt (a+1) 0 p.length,⟨if hd'=some n.toNat then 1 else 0,0,0,0,[]⟩,none,some e⟩)
 (hh:∀ m,m≠n.toNat->(hd=some m↔hd'=some m)):stp (W1 p a 0 hd now) 0=(W1 p (a+1) 0 hd' now,some (0,e,n)):=by
 have hlt:a<p.length:=(List.getElem?_eq_some_iff.1 ha).1;obtain⟨f1,f2,f3,f4⟩:=cAt_facts (p:=p) (k:=0) hlt;have hcm:(λ j=>if j=n.toNat then (⟨if hd'=some n.toNat then 1 else 0,0,0,0,[]⟩:Cm) else ⟨if hd=some j then 1 else 0,0,0,0,[]⟩)=λ m=>⟨if hd'=some m then 1 else 0,0,0,0,[]⟩:=by
  funext j;by_cases e:j=n.toNat
  . rw [if_pos e,e]
  . rw [if_neg e]
    have:=hh j e;by_cases q:hd=some j
    . rw [if_pos q,if_pos (this.1 q)]
    . rw [if_neg q,if_neg (λ q'=>q (this.2 q'))]
 unfold stp W1;simp only [List.getElem?_cons_zero,List.set_cons_zero,f1,f4,ha,ht,ne_eq,not_true_eq_false,or_self,if_false,if_neg hk,hcm,Option.map];rfl
theorem alone_lock (ha:p[a]?=some (0,n)):stp (W1 p a 0 none now) 0=(W1 p (a+1) 0 (some n.toNat) now,some (0,0,n)):=by
 have hlt:a<p.length:=(List.getElem?_eq_some_iff.1 ha).1;obtain⟨f1,f2,f3,f4⟩:=cAt_facts (p:=p) (k:=0) hlt;refine alone_touch ha (by decide) (λ r=>?_) (λ m hm=>⟨(λ q=>by cases q),(λ q=>by cases q;exact absurd rfl hm)⟩);unfold touch lock;rw [if_pos rfl,if_pos f2,over_cAt hlt];simp [go]
theorem alone_give (ha:p[a]?=some (2,n)):stp (W1 p a 0 (some n.toNat) now) 0=(W1 p (a+1) 0 none now,some (0,3,n)):=by
 have hlt:a<p.length:=(List.getElem?_eq_some_iff.1 ha).1;obtain⟨f1,f2,f3,f4⟩:=cAt_facts (p:=p) (k:=0) hlt;refine alone_touch ha (by decide) (λ r=>?_) (λ m hm=>⟨(λ q=>by cases q;exact absurd rfl hm),(λ q=>by cases q)⟩);unfold touch give unlock;rw [if_neg (by decide),if_neg (by decide),if_pos f2,over_cAt hlt];simp [go,wd]
end
end P16
end
section
open Go.ChangeShapes Go.WideShapes Go.ChangeAt Go.RowKit
theorem laidOut:laidOutB Tryz.prog=true:=by kernel_rfl
section
variable {H:Type} {enc:TypeId×Value->H} {P:Program} {W W':World}
theorem trodAll_stays (hl:laidOutB P=true) (hb:Below W.heap.size W W') (sp:Nat->Bool):∀ {ts:List TypeId} {vs:List Value} {ds:List (DataW H)} {ps:List MemPlace},
 (ts.all λ t=>P.readableRec t&&decide (t<P.types.size))=true->DataW.TrodAll enc P W 0 (λ _=>true) true ts vs ds ps->(∀ x∈ps,x.block<W.heap.size)->(∀ x∈ps,sp x.block=true) ->
 DataW.TrodAll enc P W' 0 sp true ts vs ds ps
 | [],[],[],_,_,h,_,_=>h
 | t::ts,v::vs,d::ds,_,hr,⟨p,q,h1,h2,e⟩,hlt,hs=>by
  simp only [List.all_cons,Bool.and_eq_true,decide_eq_true_eq] at hr;exact⟨p,q,WideElems.Trod_stays hl hr.1.1 hr.1.2 h1 (λ x hx=>hb.same (hlt x (by rw [e];exact List.mem_append_left _ hx))) (λ x hx=>hs x (by rw [e];exact List.mem_append_left _ hx)),
   trodAll_stays hl hb sp hr.2 h2 (λ x hx=>hlt x (by rw [e];exact List.mem_append_right _ hx)) (λ x hx=>hs x (by rw [e];exact List.mem_append_right _ hx)),e⟩
end
end
section
open Go.ChangeShapes Go.WideShapes Go.ChangeAt Go.RowKit Go.Joins
namespace LW
theorem returns_laid_shaped {H:Type} {enc:TypeId×Value->H} {a:Assume} {C:Checked} {os:Os} {f:FuncId} {fn:Func} {s:ChangeSpec} {conds:List PathCond} {apart fresh handsOn again:Bool} {X:World->Array Value->Prop}
 (hX:∀ (w w':World) (args:Array Value),w.heap=w'.heap->X w args->X w' args)
 (ow:ownKnob C.prog.godebug=none) (started:os.Started) (noInit:C.prog.inits.idxOf? f=none) (hfn:C.prog.funcs[f]?=some fn)
 (witness:∃ (w:World) (tape:Tape) (i:Input),w.os=os/\(w.forCall tape i).Shaped C.prog/\i.vars=[]/\Input.okWide C.prog (w.forCall tape i) .any w.heap.size f i /\
   ((s.pre enc C.prog fn conds apart (w.forCall tape i).memory i.args/\X (w.forCall tape i).memory i.args)/\sizedMet enc C.prog fn (OpenSpec.ofChange s) apart (w.forCall tape i).memory i.args)/\a.holds C.prog (lone (Frame.enter C.prog f i.args .normal) [] (w.forCall tape i)))
 (contract:∀ (W:World) (base:Nat) (args:Array Value) (ds gs:List (DataW H)) (before:List MemPlace),
   (∀ (j:Nat) t v,fn.params[j]?=some t->args[j]?=some v->Value.okWide C.prog W .any base t v) ->
   DataW.Whole enc C.prog fn.params.toList s.vars apart W args.toList ds gs before->X W args->W.ShapedOpen C.prog ->
   Calls C.prog f args W λ e W'=>∃ v,e=.returned v/\s.post enc C.prog fn apart fresh handsOn again W args v W') :
 ReturnsInHanded a C os f .any (λ w args=>(s.pre enc C.prog fn conds apart w args/\X w args)/\sizedMet enc C.prog fn (OpenSpec.ofChange s) apart w args) (s.post enc C.prog fn apart fresh handsOn again):=by
 refine returnsInHanded_of_calls ow started noInit witness ?_;intro w tape i _ hsh _ hok hpre _;obtain⟨_,_,_,fn',hfn',_,_,_,_,hval⟩:=hok;obtain rfl:fn'=fn:=Option.some.inj (hfn'.symm.trans hfn);obtain⟨⟨⟨ds,gs,before,hw,_⟩,hx⟩,_⟩:=hpre;refine (contract (w.forCall tape i) w.heap.size i.args ds gs before hval (DataW.Whole.of_heap (w':=w.forCall tape i) (by rfl) hw) (hX _ _ _ (by rfl) hx) hsh).mono λ e W' ⟨v,he,hp⟩=>?_
 subst he;exact ChangeSpec.post_blind hp
end LW
end
section
open Go.ChangeShapes Go.WideShapes Go.ChangeAt Go.RowKit
namespace P16
open P12 (PV PMem)
theorem mxAt_zero (m:Nat):mxAt [(0,0,0),(0,0,0),(0,0,0),(0,0,0)] m=(0,0,0):=by
 unfold mxAt
 match m with
 | 0=>rfl
 | 1=>rfl
 | 2=>rfl
 | 3=>rfl
 | n+4=>rfl
theorem mw_new (l:List (List Ac)):mw (newW l)=P16.new l:=by
 unfold mw newW P16.new;congr 1;funext m;dsimp only;rw [mxAt_zero];rfl
end P16
end
section
open Go.ChangeShapes Go.WideShapes Go.ChangeAt Go.RowKit
namespace P12
theorem take_snoc {α:Type} {l:List α} {k:Nat} {x:α} (h:l[k]?=some x):l.take (k+1)=l.take k++[x]:=by
 rw [List.take_add_one,h];rfl
end P12
end
section
open Go.ChangeShapes Go.WideShapes Go.ChangeAt Go.RowKit Go.Joins
namespace P16
theorem run_mutex_neq (x y:T3) {b:Bool} (hb:b=true↔x=y) (w:World) :
 (binOp .neq 48 (.agg #[.int .i64 x.1,.int .i64 x.2.1,.int .i64 x.2.2]) (.agg #[.int .i64 y.1,.int .i64 y.2.1,.int .i64 y.2.2])).run Tryz.prog w=.ok (.bool (!b)) w:=by
 obtain⟨x1,x2,x3⟩:=x;obtain⟨y1,y2,y3⟩:=y;have hb:=hid hb;go_simp;have hb:=hb.out;simp only [Prod.mk.injEq] at hb
 repeat' split
 all_goals (congr 2;cases b<;>simp_all)
theorem client_ext {x y:Cl} (h:x.gst=y.gst/\x.permit=y.permit/\x.act=y.act/\x.pc=y.pc/\x.worked=y.worked/\x.ticket=y.ticket/\x.first=y.first/\x.told=y.told/\x.since=y.since/\x.st=y.st/\x.aw=y.aw/\x.rounds=y.rounds/\x.old=y.old):x=y:=by
 cases x;cases y;simp_all
theorem run_client_neq (x y:Cl) {b:Bool} (hb:b=true↔x=y) (w:World) :
 (binOp .neq 55 (.agg #[.int .i64 x.gst,.bool x.permit,.int .i64 x.act,.int .i64 x.pc,.int .i64 x.worked,.int .i64 x.ticket,.bool x.first,.bool x.told,.int .i64 x.since,.bool x.st,.bool x.aw,.int .i64 x.rounds,.int .i64 x.old]) (.agg #[.int .i64 y.gst,.bool y.permit,.int .i64 y.act,.int .i64 y.pc,.int .i64 y.worked,.int .i64 y.ticket,.bool y.first,.bool y.told,.int .i64 y.since,.bool y.st,.bool y.aw,.int .i64 y.rounds,.int .i64 y.old])).run Tryz.prog w=.ok (.bool (!b)) w:=by
 have no:x≠y->Result.ok (Value.bool true) w=Result.ok (Value.bool (!b)) w:=λ h=>by
  have e:b=false:=by
   cases b with
   | false=>rfl
   | true=>exact absurd (hb.1 rfl) h
  rw [e];rfl
 have yes:x=y->Result.ok (Value.bool false) w=Result.ok (Value.bool (!b)) w:=λ h=>by rw [hb.2 h];rfl
 clear hb;go_simp;by_cases h0:x.gst=y.gst;rotate_left
 . rw [if_neg h0];exact no (λ e=>h0 (by rw [e]))
 rw [if_pos h0];by_cases h1:x.permit=y.permit;rotate_left
 . rw [if_neg h1];exact no (λ e=>h1 (by rw [e]))
 rw [if_pos h1];by_cases h2:x.act=y.act;rotate_left
 . rw [if_neg h2];exact no (λ e=>h2 (by rw [e]))
 rw [if_pos h2];by_cases h3:x.pc=y.pc;rotate_left
 . rw [if_neg h3];exact no (λ e=>h3 (by rw [e]))
 rw [if_pos h3];by_cases h4:x.worked=y.worked;rotate_left
 . rw [if_neg h4];exact no (λ e=>h4 (by rw [e]))
 rw [if_pos h4];by_cases h5:x.ticket=y.ticket;rotate_left
 . rw [if_neg h5];exact no (λ e=>h5 (by rw [e]))
 rw [if_pos h5];by_cases h6:x.first=y.first;rotate_left
 . rw [if_neg h6];exact no (λ e=>h6 (by rw [e]))
 rw [if_pos h6];by_cases h7:x.told=y.told;rotate_left
 . rw [if_neg h7];exact no (λ e=>h7 (by rw [e]))
 rw [if_pos h7];by_cases h8:x.since=y.since;rotate_left
 . rw [if_neg h8];exact no (λ e=>h8 (by rw [e]))
 rw [if_pos h8];by_cases h9:x.st=y.st;rotate_left
 . rw [if_neg h9];exact no (λ e=>h9 (by rw [e]))
 rw [if_pos h9];by_cases h10:x.aw=y.aw;rotate_left
 . rw [if_neg h10];exact no (λ e=>h10 (by rw [e]))
 rw [if_pos h10];by_cases h11:x.rounds=y.rounds;rotate_left
 . rw [if_neg h11];exact no (λ e=>h11 (by rw [e]))
 rw [if_pos h11];by_cases h12:x.old=y.old;rotate_left
 . rw [if_neg h12];exact no (λ e=>h12 (by rw [e]))
 rw [if_pos h12];exact yes (client_ext ⟨h0,h1,h2,h3,h4,h5,h6,h7,h8,h9,h10,h11,h12⟩)
end P16
end
section
namespace P12
theorem held_try {b:Bool} {m:Int} {a:Ac} {r:List Ac} (h:a.1=1):held (ho b m) (a::r)=none:=by rw [held,if_pos h]
theorem held_lock_no {m:Int} {a:Ac} {r:List Ac} (h:a.1=0):held (ho true m) (a::r)=none:=by rw [held,if_neg (by omega),if_pos h];rfl
theorem held_lock {m:Int} {a:Ac} {r:List Ac} (h:a.1=0):held (ho false m) (a::r)=held (ho true a.2) r:=by rw [held,if_neg (by omega),if_pos h];rfl
theorem held_unlock_no {b:Bool} {m:Int} {a:Ac} {r:List Ac} (h:a.1=2) (hb:b=false\/a.2≠m):held (ho b m) (a::r)=none:=by
 rw [held,if_neg (by omega),if_neg (by omega),if_pos h,if_neg];intro e;cases b
 . cases e
 . rcases hb with hb | hb
   . cases hb
   . exact hb (Option.some.inj e).symm
theorem held_unlock {m:Int} {a:Ac} {r:List Ac} (h:a.1=2) (hm:a.2=m):held (ho true m) (a::r)=held (ho false m) r:=by
 rw [held,if_neg (by omega),if_neg (by omega),if_pos h,if_pos (by rw [hm];rfl)];rfl
theorem held_other {b:Bool} {m:Int} {a:Ac} {r:List Ac} (h0:a.1≠0) (h1:a.1≠1) (h2:a.1≠2):held (ho b m) (a::r)=held (ho b m) r:=by
 rw [held,if_neg h1,if_neg h0,if_neg h2]
theorem tidy_end (b:Bool) (m:Int):(held (ho b m) []==some none)=!b:=by cases b<;>rfl
end P12
end
end Go.Proofs.YtainfijdhcehlaaGreatDoor
