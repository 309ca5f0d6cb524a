/-
  A part of the proof.
-/
import Derived.Test.YtainfijdhcehlaaGreatDoorQB1
import Derived.Test.YtainfijdhcehlaaGreatDoorQB2
import Derived.Test.YtainfijdhcehlaaGreatDoorQB3
import Derived.Test.YtainfijdhcehlaaGreatDoorQB4
import Derived.Test.YtainfijdhcehlaaGreatDoorQB5
import Derived.Test.YtainfijdhcehlaaGreatDoorQB6
import Derived.Test.YtainfijdhcehlaaGreatDoorQB7
import Derived.Test.YtainfijdhcehlaaGreatDoorQB8
import Derived.Test.YtainfijdhcehlaaGreatDoorQB9
import Derived.Test.YtainfijdhcehlaaGreatDoorQB10
import Derived.Test.YtainfijdhcehlaaGreatDoorQB11
import Derived.Test.YtainfijdhcehlaaGreatDoorQB12
import Derived.Test.YtainfijdhcehlaaGreatDoorQB13
import Derived.Test.YtainfijdhcehlaaGreatDoorQB14
import Derived.Test.YtainfijdhcehlaaGreatDoorQB15
import Derived.Test.YtainfijdhcehlaaGreatDoorQB16
import Derived.Test.YtainfijdhcehlaaGreatDoorQB17
import Derived.Test.YtainfijdhcehlaaGreatDoorQB18
import Derived.Test.YtainfijdhcehlaaGreatDoorQB19
import Derived.Test.YtainfijdhcehlaaGreatDoorQB20
import Derived.Test.YtainfijdhcehlaaGreatDoorQB21
import Derived.Test.YtainfijdhcehlaaGreatDoorQB22
import Derived.Test.YtainfijdhcehlaaGreatDoorQB23
import Derived.Test.YtainfijdhcehlaaGreatDoorQB24
import Derived.Test.YtainfijdhcehlaaGreatDoorQB25
import Derived.Test.YtainfijdhcehlaaGreatDoorQB26
import Derived.Test.YtainfijdhcehlaaGreatDoorQB27
import Derived.Test.YtainfijdhcehlaaGreatDoorQB28
import Derived.Test.YtainfijdhcehlaaGreatDoorQB29
import Derived.Test.YtainfijdhcehlaaGreatDoorQB30
import Derived.Test.YtainfijdhcehlaaGreatDoorQB31
import Derived.ChangeSlices
import Derived.ChangeArms
import Derived.Deep.Slices
import Derived.OwnWalk
import Derived.Test.YtainfijdhcehlaaGreatDoorRows
import Derived.WalkKit
import Derived.ProofKit
import Derived.OpenShut
import Derived.Lib.Hide
import Derived.Handy
import Derived.Deep.Draws
import Derived.Lib.ItoaNum
import Derived.Lib.Split
import Derived.Lib.SplitLaws
import Derived.Lib.Join
import Derived.Lib.Strings
import Derived.Deep.SlicePairs
import Derived.Deep.AppendLies
import Derived.OwnWalkIn
import Derived.Deep.RegionHeld3
import Derived.WalkMore
import Derived.Deep.QuietTactic
set_option linter.unusedVariables false
set_option linter.unusedSimpArgs false
set_option maxRecDepth 100000
set_option maxHeartbeats 8000000
namespace Go.Proofs.YtainfijdhcehlaaGreatDoor
open Lib (hid)
section
open Go.ChangeShapes Go.WideShapes Go.ChangeAt Go.RowKit
theorem wfb {v:Int} (h:(Lit.int .i64 v).wf=true):-9223372036854775808<=v/\v<=9223372036854775807:=bounds_i64 h
theorem post_below {H:Type} {enc:TypeId×Value->H} {P:Program} {f:Func} {s:ChangeSpec} {apart fresh handsOn again:Bool} {W W':World} {args:Array Value} {v:Value} {ds gs:List (DataW H)} {before pa pv:List MemPlace}
 (hW:DataW.Whole enc P f.params.toList s.vars apart W args.toList ds gs before)
 (hres:∀ (b:Nat) (sp:Nat->Bool) (hd:Bool),DataW.TrodAll enc P W' b sp hd f.resultTypes.toList (v.resultList f.resultTypes.size) (s.fn H (ds++gs)).results [])
 (hargs:∀ sp:Nat->Bool,(∀ p∈before,sp p.block=true)->DataW.TrodAll enc P W' 0 sp true f.params.toList args.toList (s.fn H (ds++gs)).args pa)
 (hvars:∀ sp:Nat->Bool,(∀ p∈before,sp p.block=true)->DataW.TrodVars enc P W' sp s.vars (s.fn H (ds++gs)).vars pv)
 (hps:before=pa++pv) (hb:Below W.heap.size W W')
 (hok:∀ (j:Nat) (t:TypeId) (r:Value),f.resultTypes[j]?=some t->(v.resultList f.resultTypes.size)[j]?=some r->Value.okWide P W' .any 0 t r) :
 s.post enc P f apart fresh handsOn again W args v W':=by
 have old:∀ p∈before,(λ b=>decide (b<W.heap.size)) p.block=true:=λ p hp=>by simpa using hW.lt p hp
 refine⟨ds,gs,before,[],pa,pv,hW,hres _ _ _,hargs _ old,hvars _ old,World.keptBut_mono (λ p hp=>⟨hp,?_⟩) (hb.frame (·∈before)),λ _=>?_⟩
 . rw [hps,List.mem_append] at hp
   exact Or.inr hp
 . have hlt:∀ p∈before,p.block<W.heap.size:=λ p hp=>hW.lt p hp
   obtain⟨_,_,_,_,_,hz,hn⟩:=hW;refine⟨hok,_,_,([]++pa)++pv,⟨[]++pa,pv,trodAll_append (hargs _ (λ _ _=>rfl)) (hres _ _ _),hvars _ (λ _ _=>rfl),rfl,?_,?_⟩,?_⟩
   . intro b off hp
     have hin:MemPlace.cell b off∈before:=by rw [hps];simpa using hp
     rw [hb.frozen (hlt _ hin)];exact hz b off hin
   . intro ha
     have:=hn ha;rw [hps] at this;simpa using this
   . intro p hp _
     rw [hps];simpa using hp
end
section
open Go.ChangeShapes Go.WideShapes Go.ChangeAt Go.RowKit
section
variable {α:Type}
variable {en:α->List Value} {q:Nat} {ok:α->Prop} {w w':World} {A:Option Addr} {n:Nat} {l:List α}
theorem RMem.take_ (h:RMem en q ok w A n l) (k:Nat) (hk:k<=n):RMem en q ok w A k (l.take k) :=
 ⟨by rw [List.length_take,h.1];omega,λ x hx=>h.2.1 x (List.mem_of_mem_take hx),λ hn=>by
   obtain⟨b,off,e,hb,hc⟩:=h.2.2 (by omega);refine⟨b,off,e,hb,λ i x hx=>hc i x ?_⟩;rw [List.getElem?_take] at hx;split at hx
   . exact hx
   . cases hx⟩
theorem RMem.emem {e1:α->Value} (h:RMem (λ x=>[e1 x]) 1 ok w A n l):EMem e1 ok w A n l :=
 ⟨h.1,h.2.1,λ hn=>by
   obtain⟨b,off,rfl,hb,hc⟩:=h.2.2 hn;refine⟨b,off,rfl,hb,λ j x hx=>?_⟩;have:=hc j x hx 0 _ rfl;rwa [Nat.mul_one] at this⟩
end
section
variable {H:Type} {enc:TypeId×Value->H} {P:Program} {W:World} {sp:Nat->Bool}
theorem trod_rowK {t e:TypeId} {k:Nat} {cs:List Value} {y:DataW H×List MemPlace} (ht:P.underlying t=some (.slice e)) (hf:DataW.trod enc P W 0 sp true k t cs=some y) :
 ∃ (A:Option Addr) (n c:Nat),cs=[.slice A n c]/\n<=c/\c<=maxLen/\∀ i,i<n->∃ (a:Addr) (cs:List Value) (y:DataW H×List MemPlace) (m:Nat),A=some a/\W.cells? 0 (a.add (i*P.cellsOf e)) (P.cellsOf e)=some cs/\DataW.trod enc P W 0 sp true m e cs=some y:=by
 rcases DataW.trod_slice ht hf with ⟨hcs,_⟩ | ⟨a,len',cap',elems,rest,m,_,hcs,_,_,hl,hm,hlen,hel,_,_⟩
 . exact⟨none,0,0,hcs,Nat.le_refl _,Nat.zero_le _,λ i hi=>by omega⟩
 . refine⟨some a,len',cap',hcs,hl,hm,λ i hi=>?_⟩
   have hy:=hel i hi;rw [List.getElem?_eq_getElem (by omega),Option.bind_eq_some_iff] at hy;obtain⟨cs,h1,h2⟩:=hy;exact⟨a,cs,_,m,rfl,h1,h2⟩
variable {α:Type} [Inhabited α] {en:α->List Value} {q:Nat} {ok:α->Prop}
theorem trod_rmem {t e:TypeId} {k:Nat} {cs:List Value} {y:DataW H×List MemPlace} (ht:P.underlying t=some (.slice e)) (hc:P.cellsOf e=q) (hq:0<q)
 (he:∀ m cs y,DataW.trod enc P W 0 sp true m e cs=some y->∃ x,cs=en x/\ok x)
 (hf:DataW.trod enc P W 0 sp true k t cs=some y) :
 ∃ (A:Option Addr) (n c:Nat) (l:List α),cs=[.slice A n c]/\n<=c/\c<=9223372036854775807/\RMem en q ok W A n l:=by
 obtain⟨A,n,c,rfl,hnc,hcm,hel⟩:=trod_rowK ht hf;unfold maxLen at hcm;rw [hc] at hel;have hx:∀ i,i<n->∃ x,ok x/\∃ a,A=some a/\(en x).length=q/\∀ j v,(en x)[j]?=some v->W.cell? (a.add (i*q+j))=some v:=λ i hi=>by
  obtain⟨a,cs,y,m,ha,h1,h2⟩:=hel i hi;obtain⟨x,rfl,hx⟩:=he m cs y h2;obtain⟨_,h3,hcell⟩:=World.cells?_some h1;refine⟨x,hx,a,ha,h3,λ j v hv=>?_⟩;have hj:j<q:=by
   have:=(List.getElem?_eq_some_iff.1 hv).1;omega
  have e1:=hcell j hj;rw [Deep.add_add] at e1;rw [e1,hv]
 obtain⟨f,hf⟩:=Deep.choose_lt hx;refine⟨A,n,c,(List.range n).map f,rfl,hnc,by omega,by rw [List.length_map,List.length_range],λ x hx=>?_,λ hn=>?_⟩
 . obtain⟨i,hi,rfl⟩:=List.mem_map.1 hx
   exact (hf i (List.mem_range.1 hi)).1
 . obtain⟨_,a,rfl,hl0,h0⟩:=hf 0 hn
   obtain⟨b,off,spot⟩:=a;have c0:=h0 0 _ (List.getElem?_eq_getElem (by omega));have hspot:spot=none:=by simpa [Addr.add] using World.cell?_spot c0
   subst hspot;refine⟨b,off,rfl,World.block_lt_of_cell? W _ (by simpa [Addr.add] using c0),λ j x hj i v hv=>?_⟩;rw [List.getElem?_map,Option.map_eq_some_iff] at hj;obtain⟨i',hi,rfl⟩:=hj;obtain⟨hi1,rfl⟩:=List.getElem?_eq_some_iff.1 hi;rw [List.length_range] at hi1;rw [List.getElem_range] at hv;obtain⟨_,a',ha',_,h1⟩:=hf j hi1;cases ha';have:=h1 i v hv;rw [add_plain,<- Nat.add_assoc] at this;exact this
end
end
section
namespace P12
def wd (k:Int):Bs:=if k=0 then [108,111,99,107] else if k=1 then [116,114,121] else if k=2 then [117,110,108,111,99,107] else [119,111,114,107]
def dgs (n:Int):Bs:=Lib.decDigits n.toNat
theorem dig_digits (u:Nat):∀ c∈Lib.decDigits u,48<=c.toNat/\c.toNat<=57:=by
 induction u using Nat.strongRecOn with
 | ind u ih =>
  rw [Lib.decDigits];have hd:∀ k,k<10->(UInt8.ofNat (48+k)).toNat=48+k:=λ k hk=>by
   rw [UInt8.toNat_ofNat'];omega
  by_cases h:u<10
  . rw [dif_pos h]
    intro c hc;rw [List.mem_singleton.1 hc,hd u h];omega
  . rw [dif_neg h]
    intro c hc;rcases List.mem_append.1 hc with h1 | h1
    . exact ih (u / 10) (by omega) c h1
    . rw [List.mem_singleton.1 h1,hd _ (by omega)]
      omega
def dval (l:Bs):Nat:=l.foldl (λ acc c=>acc*10+(c.toNat-48)) 0
theorem dval_dec (u:Nat):dval (Lib.decDigits u)=u:=by
 induction u using Nat.strongRecOn with
 | ind u ih =>
  have hd:∀ k,k<10->(UInt8.ofNat (48+k)).toNat=48+k:=λ k hk=>by
   rw [UInt8.toNat_ofNat'];omega
  rw [Lib.decDigits];by_cases h:u<10
  . rw [dif_pos h]
    simp [dval];omega
  . rw [dif_neg h]
    have e:=ih (u / 10) (by omega);unfold dval at e ⊢;rw [List.foldl_append,e];simp only [List.foldl_cons,List.foldl_nil,hd _ (Nat.mod_lt u (by omega:0<10))];omega
theorem dec_inj {u v:Nat} (h:Lib.decDigits u=Lib.decDigits v):u=v:=by rw [<- dval_dec u,<- dval_dec v,h]
def NumR (s:Bs) (n:Int):Prop:=0<=n/\n<=999999/\s=dgs n
theorem NumR.inj {s:Bs} {m n:Int} (h:NumR s m) (k:NumR s n):m=n:=by
 have:=dec_inj (h.2.2.symm.trans k.2.2);have:=h.1;have:=k.1;omega
def WordR (s:Bs) (k:Int) (d:Bs):Prop:=0<=k/\k<=3/\d≠[]/\s=wd k++32::d
theorem wd_blank (k:Int):(32:UInt8) ∉ wd k:=by unfold wd;split<;>(try split)<;>(try split)<;>decide
theorem split_first {c:UInt8} {a b x y:Bs} (ha:c ∉ a) (hb:c ∉ b) (h:a++c::x=b++c::y):a=b/\x=y:=by
 induction a generalizing b with
 | nil =>
  cases b with
  | nil=>simpa using h
  | cons u b=>simp at h;exact absurd (by rw [h.1];simp) hb
 | cons v a ih =>
  cases b with
  | nil=>simp at h;exact absurd (by rw [h.1];simp) ha
  | cons u b =>
   simp at h ha hb;obtain⟨h1,h2⟩:=ih ha.2 hb.2 h.2;exact⟨by rw [h.1,h1],h2⟩
theorem wd_inj {j k:Int} (hj:0<=j/\j<=3) (hk:0<=k/\k<=3) (h:wd j=wd k):j=k:=by
 have e1:j=0\/j=1\/j=2\/j=3:=by omega
 have e2:k=0\/k=1\/k=2\/k=3:=by omega
 rcases e1 with rfl | rfl | rfl | rfl<;>rcases e2 with rfl | rfl | rfl | rfl<;>first | rfl | (revert h;decide)
theorem WordR.inj {s:Bs} {j k:Int} {c d:Bs} (h:WordR s j c) (g:WordR s k d):j=k/\c=d:=by
 obtain⟨e,f⟩:=split_first (wd_blank j) (wd_blank k) (h.2.2.2.symm.trans g.2.2.2);exact⟨wd_inj ⟨h.1,h.2.1⟩ ⟨g.1,g.2.1⟩ e,f⟩
def held:Option Int->List Ac->Option (Option Int)
 | h,[]=>some h
 | h,a::r=>if a.1=1 then none else if a.1=0 then (if h.isSome then none else held (some a.2) r) else if a.1=2 then (if h=some a.2 then held none r else none) else held h r
def tidyB (l:List Ac):Bool:=held none l==some none
end P12
end
section
open Go.ChangeShapes Go.WideShapes Go.ChangeAt Go.RowKit Go.Deep
namespace P12
theorem cellsOfAct:Tryz.prog.cellsOf 67=2:=by kernel_rfl
theorem cellsOfInt:Tryz.prog.cellsOf 3=1:=by kernel_rfl
theorem cellsOfActs:Tryz.prog.cellsOf 64=1:=by kernel_rfl
theorem flat_inv:∀ (l:List (Int×Int)) (j:Nat) (u:Value),(flat l)[j]?=some u->∃ i x,l[i]?=some x/\((j=i*2/\u=.int .i64 x.1)\/(j=i*2+1/\u=.int .i64 x.2))
 | [],j,u,h=>by simp [flat] at h
 | x::r,0,u,h=>by simp [flat] at h;exact⟨0,x,rfl,.inl ⟨rfl,h.symm⟩⟩
 | x::r,1,u,h=>by simp [flat] at h;exact⟨0,x,rfl,.inr ⟨rfl,h.symm⟩⟩
 | x::r,j+2,u,h=>by
  obtain⟨i,y,hy,h⟩:=flat_inv r j u (by simpa [flat] using h);refine⟨i+1,y,by simpa using hy,?_⟩;rcases h with ⟨rfl,rfl⟩ | ⟨rfl,rfl⟩
  . exact .inl ⟨by omega,rfl⟩
  . exact .inr ⟨by omega,rfl⟩
section
variable {w w':World} {A:Option Addr} {n:Nat} {l:List Ac}
theorem mem_blk {g:Nat} {vs:Array Value} {t:TypeId} (h:Blk w g vs t) (hv:vs.toList=flat l) (hb:∀ x∈l,Inb x.1/\Inb x.2):Mem w (some ⟨g,0,none⟩) l.length l :=
 ⟨rfl,hb,λ _=>⟨g,0,rfl,h.lt,λ j u hu=>by
   rw [Nat.zero_add];refine (h.at_ ?_).1;rw [<- hv] at hu;simpa using hu⟩⟩
end
section
variable {w w':World} {base lo:Nat} {A:Option Addr} {n c:Nat} {R:List PV}
theorem POwn.gr (h:POwn w base lo A n c R) (g:Gr w w'):POwn w' base lo A n c R :=
 ⟨h.row.gr g,λ x hx=>(h.ok x hx).gr g,λ x hx h0 k hk=>by
   obtain⟨h1,h2,h3⟩:=h.off x hx h0 k hk;exact⟨h1,Nat.lt_of_lt_of_le h2 g.size,h3⟩⟩
theorem POwn.late (h:POwn w base lo A n c R):Late base A:=λ k hk=>by
 rcases h.row.2.2.2 with ⟨rfl,_⟩ | ⟨b,off,rfl,h1,h2⟩
 . cases hk
 . simp at hk;omega
variable {B:Option Addr} {m d:Nat} {news:List PV}
end
section
variable {H:Type} {enc:TypeId×Value->H} {W:World}
theorem trod_acts {sp:Nat->Bool} {k:Nat} {cs:List Value} {y:DataW H×List MemPlace} (hf:DataW.trod enc Tryz.prog W 0 sp true k 64 cs=some y) :
 ∃ x:PV,cs=[x.enc]/\x.ok W:=by
 rcases open_slice_pairs Tryz.underlying64 Tryz.underlying67 cellsOfAct rfl rfl cellsOfInt cellsOfInt hf with ⟨hcs,hx⟩ | ⟨a,len,cap,m,k,V0,V1,D0,D1,P0,P1,hcs,_,hl,hm,hmm,hx,hcell⟩
 . exact⟨⟨none,0,0,[]⟩,hcs,Mem.nil_,Nat.le_refl _,by show 0<=_;omega⟩
 . unfold maxLen at hm
   have hlm:len<=m:=by rw [hmm];split<;>omega
   have each:∀ i,i<len->∃ q:Int×Int,W.cell? (a.add (i*2))=some (.int .i64 q.1)/\W.cell? (a.add (i*2+1))=some (.int .i64 q.2)/\Inb q.1/\Inb q.2:=by
    intro i hi;obtain⟨c0,c1,t0,t1⟩:=hcell i (by omega);obtain⟨x,e0,_,w0⟩:=DataW.trod_int Tryz.underlying3 t0;obtain⟨y,e1,_,w1⟩:=DataW.trod_int Tryz.underlying3 t1;simp only [List.cons.injEq,and_true] at e0 e1;rw [e0] at c0;rw [e1] at c1;exact⟨(x,y),c0,c1,bounds_i64 w0,bounds_i64 w1⟩
   obtain⟨q,hq⟩:=choose_lt each;refine⟨⟨some a,len,cap,(List.range len).map q⟩,hcs,⟨by simp,?_,?_⟩,hl,by show cap<=_;omega⟩
   . intro x hx
     simp only [List.mem_map,List.mem_range] at hx;obtain⟨i,hi,rfl⟩:=hx;exact (hq i hi).2.2
   . intro h0
     obtain⟨b,off,spot⟩:=a;have hspot:spot=none:=by simpa [Addr.add] using World.cell?_spot (hq 0 h0).1
     subst hspot;refine⟨b,off,rfl,World.block_lt_of_cell? W _ (by simpa [Addr.add] using (hq 0 h0).1),λ j u hu=>?_⟩;obtain⟨i,x,hx,h⟩:=flat_inv _ j u hu;have hi:i<len:=by have:=(List.getElem?_eq_some_iff.1 hx).1;simpa using this
     have hxq:x=q i:=by simpa [hi] using hx.symm
     subst hxq;rcases h with ⟨rfl,rfl⟩ | ⟨rfl,rfl⟩
     . have:=(hq i hi).1;rwa [add_plain] at this
     . have:=(hq i hi).2.1;rwa [add_plain] at this
end
end P12
end
section
open Go.ChangeShapes Go.WideShapes Go.ChangeAt Go.RowKit
theorem cellsOfInt:Tryz.prog.cellsOf 3=1:=by kernel_rfl
end
end Go.Proofs.YtainfijdhcehlaaGreatDoor
namespace Go.Proofs.YtainfijdhcehlaaGreatDoor.L7
open Go.ChangeShapes Go.WideShapes Go.ChangeAt Go.RowKit
section
variable {w:World} {A:Option Addr} {n c:Nat} {l:List Int}
end
section
variable {w:World} {A B:Option Addr} {n c m d:Nat} {l r:List Int}
theorem rSame_is (hA:IMem w A n l) (hB:IMem w B m r) (hn:n<=9223372036854775807) (hm:m<=9223372036854775807) {v:Bool} (hv:v=true↔l=r) :
 Calls Tryz.prog 88 #[.slice A n c,.slice B m d] w λ e w'=>e=.returned (.bool v)/\Gr w w':=by
 have HV:=Lib.hid hv
 have HA:=Lib.hid hA
 have HB:=Lib.hid hB
 clear hA hB hv
 by_cases hnm:n=m
 . subst hnm
   go_enter Tryz.func88,Tryz.ntmps88
   go_wp2_with fail
   go_loopw [13] (λ i wr=>∃ k:Nat,k<=n/\i=.int .i64 k/\Hid (∀ j,j<k->l[j]?=r[j]?)/\Gr w wr) (λ i _=>n-(intOf i).toNat)
   case atStart=>exact⟨0,Nat.zero_le _,rfl,Lib.hid (λ j hj=>absurd hj (by omega)),Gr.refl _⟩
   case round =>
    obtain⟨k,hkn,rfl,HJ,hg⟩:=hrel
    by_cases hlt:k<n
    . obtain⟨b,off,x,rfl,hbl,hx,hix,c0⟩:=(HA.out.gr hg).at_ hlt
      obtain⟨b',off',x',rfl,hbl',hx',hix',c0'⟩:=(HB.out.gr hg).at_ hlt
      have k0:(0:Int)<=(k:Int):=by omega
      have k1:(k:Int)<(n:Int):=by omega
      by_cases he:x=x'
      . subst he
        have HJ':Hid (∀ j,j<k+1->l[j]?=r[j]?):=Lib.hid λ j hj=>by
         by_cases h:j<k
         . exact HJ.out j h
         . obtain rfl:j=k:=by omega
           rw [hx,hx']
        clear hx hx' HJ
        go_wp2_with fail
        go_quiet (fail)
        go_wp2_with fail
        go_roundw
        case rel=>exact⟨k+1,by omega,by go_num,HJ',hg.drN _⟩
        case measure=>simp [intOf];omega
      . have ne:(x==x')=false:=beq_eq_false_iff_ne.2 he
        obtain rfl:v=false:=by
         cases v
         . rfl
         . have:=HV.out.1 rfl
           rw [this,hx'] at hx
           exact absurd (Option.some.inj hx).symm he
        clear hx hx' HJ
        go_wp2_with fail
        go_quiet (fail)
        go_wp2_with fail
        go_ret
        exact⟨rfl,hg.drN _⟩
    . obtain rfl:k=n:=by omega
      obtain rfl:v=true:=HV.out.2 (List.ext_getElem? λ j=>by
       by_cases h:j<k
       . exact HJ.out j h
       . rw [List.getElem?_eq_none (by rw [HA.out.1];omega),List.getElem?_eq_none (by rw [HB.out.1];omega)])
      go_wp2_with fail
      go_ret
      exact⟨rfl,hg⟩
 . obtain rfl:v=false:=by
    cases v
    . rfl
    . have:=HV.out.1 rfl
      have h1:=HA.out.1
      have h2:=HB.out.1
      rw [this] at h1
      omega
   have ne:((n:Int)==(m:Int))=false:=beq_eq_false_iff_ne.2 (by omega)
   go_enter Tryz.func88,Tryz.ntmps88
   go_wp2_with fail
   go_ret
   exact⟨rfl,Gr.refl _⟩
end
end Go.Proofs.YtainfijdhcehlaaGreatDoor.L7
namespace Go.Proofs.YtainfijdhcehlaaGreatDoor
open Lib (hid)
section
theorem Tab.nil:Tab []:=⟨by simp,TOk.nil⟩
end
section
open Go.ChangeShapes Go.WideShapes Go.ChangeAt Go.RowKit Go.Joins
theorem cellsOfSpot:Tryz.prog.cellsOf 91=3:=by kernel_rfl
section
variable {H:Type} {enc:TypeId×Value->H} {W:World}
theorem trod_ints {sp:Nat->Bool} {k:Nat} {cs:List Value} {y:DataW H×List MemPlace} (hf:DataW.trod enc Tryz.prog W 0 sp true k 23 cs=some y) :
 ∃ (A:Option Addr) (n c:Nat) (l:List Int),cs=[.slice A n c]/\n<=c/\c<=9223372036854775807/\IMem W A n l:=by
 rcases DataW.trod_slice Tryz.underlying23 hf with ⟨hcs,_⟩ | ⟨a,len,cap,elems,rest,m,_,hcs,_,_,hl,hm,hlen,hel,_,_⟩
 . exact⟨none,0,0,[],hcs,by omega,by omega,EMem.nil_⟩
 . unfold maxLen at hm
   have hx:∀ i,i<len->∃ q:Int,B64 q/\W.cell? (a.add i)=some (.int .i64 q):=by
    intro i hi;have hy:=hel i hi;rw [List.getElem?_eq_getElem (by omega),Option.bind_eq_some_iff] at hy;obtain⟨cs',h1,h2⟩:=hy;rw [cellsOfInt,Nat.mul_one] at h1;obtain⟨q,rfl,_,hw⟩:=DataW.trod_int Tryz.underlying3 h2;exact⟨q,wfb hw,cell_of_cells?_one h1⟩
   obtain⟨q,hq⟩:=Deep.choose_lt hx;refine⟨some a,len,cap,(List.range len).map q,hcs,hl,by omega,by simp,?_,?_⟩
   . intro x hx
     simp only [List.mem_map,List.mem_range] at hx;obtain⟨i,hi,rfl⟩:=hx;exact (hq i hi).1
   . intro h0
     obtain⟨b,off,spot⟩:=a;have hspot:spot=none:=by simpa [Addr.add] using World.cell?_spot (hq 0 h0).2
     subst hspot;refine⟨b,off,rfl,World.block_lt_of_cell? W _ (by simpa [Addr.add] using (hq 0 h0).2),λ j x hj=>?_⟩;rw [List.getElem?_map,Option.map_eq_some_iff] at hj;obtain⟨i,hi,rfl⟩:=hj;obtain⟨hi1,rfl⟩:=List.getElem?_eq_some_iff.1 hi;rw [List.length_range] at hi1;rw [List.getElem_range];have c0:=(hq j hi1).2;rw [add_plain] at c0;exact c0
theorem trod_spot {sp:Nat->Bool} {m:Nat} {cs:List Value} {y:DataW H×List MemPlace} (h:DataW.trod enc Tryz.prog W 0 sp true m 91 cs=some y) :
 ∃ x:SV,cs=[.int .i64 x.addr,.int .i64 x.cnt,.slice x.A x.n x.c]/\x.ok W:=by
 obtain⟨y0,y1,y2,k,rfl,hl,t0,t1,t2⟩:=Deep.trod_struct3 Tryz.underlying91 h;rw [cellsOfSpot] at hl
 match cs,hl with
 | [v0,v1,v2],_ =>
  have e:=cellsOfInt;have e2:Tryz.prog.cellsOf 23=1:=by kernel_rfl
  change DataW.trod enc Tryz.prog W 0 sp true k 3 (([v0,v1,v2].drop 0).take (Tryz.prog.cellsOf 3))=some y0 at t0;change DataW.trod enc Tryz.prog W 0 sp true k 3 (([v0,v1,v2].drop 1).take (Tryz.prog.cellsOf 3))=some y1 at t1;change DataW.trod enc Tryz.prog W 0 sp true k 23 (([v0,v1,v2].drop 2).take (Tryz.prog.cellsOf 23))=some y2 at t2;rw [e] at t0 t1;rw [e2] at t2;obtain⟨a,ha,_,wa⟩:=DataW.trod_int Tryz.underlying3 t0;obtain⟨b,hb,_,wb⟩:=DataW.trod_int Tryz.underlying3 t1;obtain⟨A,n,c,l,hc,h1,h2,h3⟩:=trod_ints t2;simp at ha hb hc;subst ha hb hc;exact⟨⟨a,b,A,n,c,l⟩,rfl,wfb wa,wfb wb,h3,h1,h2⟩
end
end
section
open Go.ChangeShapes Go.WideShapes Go.ChangeAt Go.RowKit Go.Shelf
theorem wp_append_spot {w:World} {base:Nat} {v:Value} {R:List SV} {y:SV} {b c:Nat} {t:TypeId} {o:Oper} {a:Act} {K:Act->World->Prop} {Q:Exit->Act->World->Prop} (s x:Operand)
 (ho:o.op=.call { callee:=.builtin .append,args:=#[s,x],argTypes:=#[26,26] }) (hs:a.eval s=v) (hx:a.eval x=.slice (some ⟨b,0,none⟩) 1 c)
 (h:SRow w base v R.length R) (hb:Blk w b #[.int .i64 y.addr,.int .i64 y.cnt,.slice y.A y.n y.c] t) (hl:R.length<=1000000) (hbase:base<=w.heap.size)
 (hK:∀ g cap w',Appended w base v R y g cap w'->K (a.put o.dst (.slice (some ⟨g,0,none⟩) (R.length+1) cap)) w'):o.wp Tryz.prog a w K Q:=by
 obtain⟨g,cap,w',h1,h2⟩:=run_append_spot h hb hl hbase o.type (c:=c);unfold Oper.wp execOp;simp only [ho,resolve,invoke,builtin,Sem.run_bind,Sem.run_pure,Result.andThen_ok,List.map_toArray,List.map_cons,List.map_nil,hs,hx,h1];exact hK g cap w' h2
theorem wpList_append_spot {w:World} {base:Nat} {v:Value} {R:List SV} {y:SV} {b c:Nat} {t:TypeId} {ops:Array Oper} {rest:List Oper} {o:Oper} {a:Act} {Q:Exit->Act->World->Prop} (hgd:o.guard=none) (s x:Operand)
 (ho:o.op=.call { callee:=.builtin .append,args:=#[s,x],argTypes:=#[26,26] }) (hs:a.eval s=v) (hx:a.eval x=.slice (some ⟨b,0,none⟩) 1 c)
 (h:SRow w base v R.length R) (hb:Blk w b #[.int .i64 y.addr,.int .i64 y.cnt,.slice y.A y.n y.c] t) (hl:R.length<=1000000) (hbase:base<=w.heap.size)
 (hK:∀ g cap w',Appended w base v R y g cap w'->wpList Tryz.prog ops Q rest (a.put o.dst (.slice (some ⟨g,0,none⟩) (R.length+1) cap)) w'):wpList Tryz.prog ops Q (o::rest) a w :=
 wpList_plain hgd λ _ hK'=>wp_append_spot s x ho hs hx h hb hl hbase λ g cap w' h1=>hK' _ _ (hK g cap w' h1)
end
section
namespace P16
section
variable {p:V->Bool} {v:Nat->V} {i j N:Nat} {x:V}
theorem cnt_two (h:i<N) (hp:p (v i)=true) (h':j<N) (hq:p (v j)=true) (hn:i≠j):2<=cnt p v N:=by
 induction N with
 | zero=>omega
 | succ N ih =>
  simp only [cnt];by_cases e:N=i
  . subst e
    have:=cnt_pos (p:=p) (v:=v) (i:=j) (N:=N) (by omega) hq;rw [hp];simp only [b1,if_true];omega
  . by_cases e':N=j
    . subst e'
      have:=cnt_pos (p:=p) (v:=v) (i:=i) (N:=N) (by omega) hp;rw [hq];simp only [b1,if_true];omega
    . have:=ih (by omega) (by omega)
      rcases b1_cases (p (v N)) with h | h<;>omega
theorem cnt_ex (h:1<=cnt p v N):∃ i,i<N/\p (v i)=true:=by
 induction N with
 | zero=>simp [cnt] at h
 | succ N ih =>
  simp only [cnt] at h;by_cases e:p (v N)=true
  . exact⟨N,by omega,e⟩
  . have e0:b1 (p (v N))=0:=by unfold b1;rw [if_neg e]
    obtain⟨i,hi,hp⟩:=ih (by omega);exact⟨i,by omega,hp⟩
theorem cnt_both {q:V->Bool} (h:∀ x,p x=true->q x=false):cnt p v N+cnt q v N<=N:=by
 induction N with
 | zero=>simp [cnt]
 | succ N ih =>
  simp only [cnt];have e:b1 (p (v N))+b1 (q (v N))<=1:=by
   cases hp:p (v N)
   . rcases b1_cases (q (v N)) with h | h<;>simp [b1] at*<;> omega
   . rw [h _ hp];simp [b1]
  omega
theorem cnt_zero (h:cnt p v N=0) (hi:i<N):p (v i)=false:=by
 cases e:p (v i)
 . rfl
 . have:=cnt_pos hi e;omega
end
end P16
end
section
namespace P16
section
variable {N i:Nat} {v:Nat->V} {x:V} {m:Mx} {w w':Wd} {aw st told:Bool} {old:Wd} {t:Int}
theorem Inv.bound (h:Inv N m v):m.w.n<=N:=by
 have hq:=cnt_le (p:=isQ) (v:=v) (N:=N);have hg:=cnt_nonneg (p:=isG) (v:=v) (N:=N);have hb:=cnt_both (p:=isQ) (q:=isH) (v:=v) (N:=N) (by intro x hx;cases x<;>simp [isQ,isH] at*);have c0:=h.W.c0;cases hS:m.w.S
 . have:=(h.W.free hS).2.2;omega
 . have:=(h.W.starve hS).2.2.1;omega
theorem Inv.no_hand (h:Inv N m v) (hS:m.w.S=false):∀ j st old,j<N->v j≠.hand st old:=λ j st old hj e=>by
 have:=cnt_zero (h.W.free hS).1 hj;rw [e] at this;cases this
theorem Inv.fast (h:Inv N m v) (hi:i<N) (hv:v i=.out) (hL:m.w.L=false) (hS:m.w.S=false) (hn:m.w.n=0) :
 Inv N { m with w:={ m.w with L:=true } } (upd v i .out):=by
 have eQ:=cnt_upd (p:=isQ) (v:=v) (x:=V.out) hi;have eH:=cnt_upd (p:=isH) (v:=v) (x:=V.out) hi;have eG:=cnt_upd (p:=isG) (v:=v) (x:=V.out) hi;have eA:=cnt_upd (p:=isA) (v:=v) (x:=V.out) hi;simp only [hv,isQ,isH,isG,isA,b1,Bool.false_eq_true,if_true,if_false,Int.sub_zero,Int.add_zero] at eQ eH eG eA;have hW:=h.W;refine⟨⟨hW.n0,hW.c0,λ _=>?_,λ q=>?_⟩,h.T.same hi (by rw [hv]) (by rw [hv]),h.L.same hi (by rw [hv]),h.O.upd hi (.inl (Int.le_refl _)) (λ _ _ e=>by cases e) (λ _ _ _ e=>by cases e) (λ _ _ e=>by cases e),InvR.off (λ q=>by cases q.1)⟩
 . dsimp only
   obtain⟨a,b,c⟩:=hW.free hS;exact⟨by omega,by omega,by omega⟩
 . have q:m.w.S=true:=q
   rw [hS] at q;cases q
theorem Inv.quiet (h:Inv N m v) (hi:i<N) (hQ:isQ x=isQ (v i)) (hH:isH x=isH (v i)) (hG:isG x=isG (v i)) (hA:isA x=isA (v i)) (ht:tk x=tk (v i)) (hT:inT x=inT (v i)) (hl:inL x=inL (v i))
 (h0:∀ aw st,x=.load aw st->st=true->aw=true)
 (h1:∀ aw st old,x=.want aw st old->(st=true->aw=true)/\(aw=true->old.K=true)/\0<=old.n/\old.n<=N) (h2:∀ st old,x≠.hand st old) (hg:wakes m.w->good (v i)->good x) :
 Inv N m (upd v i x):=by
 have eQ:=cnt_upd (p:=isQ) (v:=v) (x:=x) hi;have eH:=cnt_upd (p:=isH) (v:=v) (x:=x) hi;have eG:=cnt_upd (p:=isG) (v:=v) (x:=x) hi;have eA:=cnt_upd (p:=isA) (v:=v) (x:=x) hi;rw [hQ] at eQ;rw [hH] at eH;rw [hG] at eG;rw [hA] at eA;have hW:=h.W;refine⟨⟨hW.n0,hW.c0,λ hS=>?_,λ hS=>?_⟩,h.T.same hi ht hT,h.L.same hi hl,h.O.upd hi (.inl (Int.le_refl _)) h0 h1 (λ st old e=>absurd e (h2 st old)),h.R.keep hi id hg⟩
 . obtain⟨a,b,c⟩:=hW.free hS
   exact⟨by omega,by omega,by omega⟩
 . obtain⟨a,b,c,d,e⟩:=hW.starve hS
   exact⟨a,by omega,by omega,λ q=>⟨by have:=(d q).1;omega,by have:=(d q).2;omega⟩,λ q=>by have:=e q;omega⟩
theorem Inv.slow (h:Inv N m v) (hi:i<N) (hv:v i=.out):Inv N m (upd v i (.load false false)) :=
 h.quiet hi (by rw [hv];rfl) (by rw [hv];rfl) (by rw [hv];rfl) (by rw [hv];rfl) (by rw [hv];rfl) (by rw [hv];rfl) (by rw [hv];rfl) (λ _ _ e q=>by cases e;cases q) (λ _ _ _ e=>by cases e) (λ _ _ e=>by cases e)
  (λ _ q=>by rw [hv] at q;rcases q with q | ⟨_,q,_⟩<;>cases q)
theorem Inv.look (h:Inv N m v) (hi:i<N) (hv:v i=.load aw st):Inv N m (upd v i (.want aw st m.w)) :=
 h.quiet hi (by rw [hv];rfl) (by rw [hv];rfl) (by rw [hv];rfl) (by rw [hv];cases aw<;>rfl) (by rw [hv];rfl) (by rw [hv];rfl) (by rw [hv];rfl) (λ _ _ e=>by cases e)
  (λ _ _ _ e=>by
    cases e;exact⟨h.O.ol i aw st hi hv,λ q=>(h.awake hi (by rw [hv,q];rfl)).1,h.W.n0,h.bound⟩) (λ _ _ e=>by cases e)
  (λ _ q=>by rw [hv] at q;rcases q with q | ⟨_,q,_⟩<;>cases q)
theorem Inv.back (h:Inv N m v) (hi:i<N) (hv:v i=.want aw st old):Inv N m (upd v i (.load aw st)) :=
 h.quiet hi (by rw [hv];rfl) (by rw [hv];rfl) (by rw [hv];rfl) (by rw [hv];cases aw<;>rfl) (by rw [hv];rfl) (by rw [hv];rfl) (by rw [hv];rfl) (λ _ _ e=>by cases e;exact (h.O.ow i aw st old hi hv).1)
  (λ _ _ _ e=>by cases e) (λ _ _ e=>by cases e)
  (λ _ q=>by rw [hv] at q;rcases q with q | ⟨_,q,_⟩<;>cases q)
theorem Inv.spin (h:Inv N m v) (hi:i<N) (hv:v i=.want false st old) (hK:m.w.K=false) (hS:m.w.S=false) (hst:st=false) (hL:m.w.L=true) :
 Inv N { m with w:={ m.w with K:=true } } (upd v i (.load true st)):=by
 have eQ:=cnt_upd (p:=isQ) (v:=v) (x:=V.load true st) hi;have eH:=cnt_upd (p:=isH) (v:=v) (x:=V.load true st) hi;have eG:=cnt_upd (p:=isG) (v:=v) (x:=V.load true st) hi;have eA:=cnt_upd (p:=isA) (v:=v) (x:=V.load true st) hi;simp only [hv,isQ,isH,isG,isA,b1,Bool.false_eq_true,if_true,if_false,Int.sub_zero,Int.add_zero] at eQ eH eG eA;have hW:=h.W;refine⟨⟨hW.n0,hW.c0,λ _=>?_,λ q=>?_⟩,h.T.same hi (by rw [hv];rfl) (by rw [hv];rfl),h.L.same hi (by rw [hv];rfl),h.O.upd hi (.inl (Int.le_refl _)) (λ _ _ e _=>by cases e;rfl) (λ _ _ _ e=>by cases e) (λ _ _ e=>by cases e),InvR.off (λ q=>by cases q.2.1)⟩
 . dsimp only
   obtain⟨a,b,c⟩:=hW.free hS;rw [hK] at b;simp only [b1,Bool.false_eq_true,if_false] at b;exact⟨by omega,by simp only [b1,if_true];omega,by omega⟩
 . have q:m.w.S=true:=q
   rw [hS] at q;cases q
theorem Inv.wait (h:Inv N m v) (hi:i<N) (hv:v i=.want aw st old) (hLS:m.w.L=true\/m.w.S=true) :
 Inv N { m with w:={ L:=m.w.L,K:=m.w.K&&!aw,S:=m.w.S||(st&&m.w.L),n:=m.w.n+1 } } (upd v i .draw):=by
 have hW:=h.W;have n0:=hW.n0;obtain⟨hst,-⟩:=h.O.ow i aw st old hi hv;refine⟨⟨by show 0<=m.w.n+1;omega,hW.c0,λ q=>?_,λ q=>?_⟩,h.T.same hi (by rw [hv];rfl) (by rw [hv];rfl),h.L.same hi (by rw [hv];rfl),h.O.upd hi (.inl (by show m.w.n<=m.w.n+1;omega)) (λ _ _ e=>by cases e) (λ _ _ _ e=>by cases e) (λ _ _ e=>by cases e),InvR.off (λ q=>?_)⟩
 . have q:(m.w.S||(st&&m.w.L))=false:=q
   dsimp only;have hS:m.w.S=false:=by cases e:m.w.S<;>simp_all
   obtain⟨a,b,c⟩:=hW.free hS;cases aw
   . have eQ:=cnt_upd (p:=isQ) (v:=v) (x:=V.draw) hi
     have eH:=cnt_upd (p:=isH) (v:=v) (x:=V.draw) hi;have eG:=cnt_upd (p:=isG) (v:=v) (x:=V.draw) hi;have eA:=cnt_upd (p:=isA) (v:=v) (x:=V.draw) hi;simp only [hv,isQ,isH,isG,isA,b1,Bool.false_eq_true,if_true,if_false,Int.sub_zero,Int.add_zero] at eQ eH eG eA;exact⟨by omega,by simp only [Bool.not_false,Bool.and_true];omega,by omega⟩
   . have hk:=h.awake hi (by rw [hv];rfl)
     have eQ:=cnt_upd (p:=isQ) (v:=v) (x:=V.draw) hi;have eH:=cnt_upd (p:=isH) (v:=v) (x:=V.draw) hi;have eG:=cnt_upd (p:=isG) (v:=v) (x:=V.draw) hi;have eA:=cnt_upd (p:=isA) (v:=v) (x:=V.draw) hi;simp only [hv,isQ,isH,isG,isA,b1,Bool.false_eq_true,if_true,if_false,Int.sub_zero,Int.add_zero] at eQ eH eG eA;exact⟨by omega,by simp only [Bool.not_true,Bool.and_false,b1,Bool.false_eq_true,if_false];omega,by omega⟩
 . have q:(m.w.S||(st&&m.w.L))=true:=q
   dsimp only;cases aw
   . have hst':st=false:=by cases st;rfl;exact absurd (hst rfl) (by decide)
     have hS:m.w.S=true:=by rw [hst'] at q;simpa using q
     obtain⟨a,b,c,d,e⟩:=hW.starve hS;have eQ:=cnt_upd (p:=isQ) (v:=v) (x:=V.draw) hi;have eH:=cnt_upd (p:=isH) (v:=v) (x:=V.draw) hi;have eG:=cnt_upd (p:=isG) (v:=v) (x:=V.draw) hi;have eA:=cnt_upd (p:=isA) (v:=v) (x:=V.draw) hi;simp only [hv,isQ,isH,isG,isA,b1,Bool.false_eq_true,if_true,if_false,Int.sub_zero,Int.add_zero] at eQ eH eG eA;exact⟨by rw [a];rfl,by omega,by omega,λ q=>⟨by have:=(d q).1;omega,by have:=(d q).2;omega⟩,λ q=>by have:=e q;omega⟩
   . have hk:=h.awake hi (by rw [hv];rfl)
     have hL:m.w.L=true:=hLS.resolve_right (by rw [hk.2.1];decide);obtain⟨a,b,c⟩:=hW.free hk.2.1;have eQ:=cnt_upd (p:=isQ) (v:=v) (x:=V.draw) hi;have eH:=cnt_upd (p:=isH) (v:=v) (x:=V.draw) hi;have eG:=cnt_upd (p:=isG) (v:=v) (x:=V.draw) hi;have eA:=cnt_upd (p:=isA) (v:=v) (x:=V.draw) hi;simp only [hv,isQ,isH,isG,isA,b1,Bool.false_eq_true,if_true,if_false,Int.sub_zero,Int.add_zero] at eQ eH eG eA;exact⟨by simp,by omega,by omega,λ q=>⟨by omega,by omega⟩,λ q=>by rw [show m.w.L=false from q] at hL;cases hL⟩
 . obtain⟨q1,-,q3,-⟩:=q
   have q1:m.w.L=false:=q1;have q3:(m.w.S||(st&&m.w.L))=false:=q3;rcases hLS with e | e
   . rw [e] at q1;cases q1
   . rw [e] at q3;cases q3
end
end P16
end
end Go.Proofs.YtainfijdhcehlaaGreatDoor
