/-
  A part of the proof.
-/
import Derived.Test.YtainfijdhcehlaaGreatDoorQB3
import Derived.Test.YtainfijdhcehlaaGreatDoorQB10
import Derived.Test.YtainfijdhcehlaaGreatDoorQB17
import Derived.Carry
import Derived.Laws.StructEq
import Derived.ChangeKeysEq
import Derived.Recover
set_option linter.unusedVariables false
set_option linter.unusedSimpArgs false
set_option maxRecDepth 100000
set_option maxHeartbeats 8000000
namespace Go.Proofs.YtainfijdhcehlaaGreatDoor
open Lib (hid)
section
open Go.ChangeShapes Go.WideShapes Go.ChangeAt Go.RowKit
section
variable {P:Program} {ops:Array Oper} {Q:Exit->Act->World->Prop} {md:Region.Mode}
theorem ready_lt {L:Array Bool} {i:Nat} (h:i∈Region.ready md ops L):i<ops.size/\L.getD i true=false/\∀ o,ops[i]?=some o->∀ e∈o.after,Region.binds md e=true->L.getD e.on false=true:=by
 unfold Region.ready at h
 simp only [List.mem_filter,List.mem_range,Bool.and_eq_true] at h
 obtain⟨h1,h2,h3⟩:=h
 refine⟨h1,by simpa using h2,λ o ho e he hb=>?_⟩
 rw [ho] at h3
 simp only [Option.map_some,Option.getD_some,Array.all_eq_true_iff_forall_mem] at h3
 have:=h3 e he
 simpa [hb] using this
theorem ready_nil {L:Array Bool} (hs:L.size=ops.size) (ho:∀ (i:Nat) (o:Oper),ops[i]?=some o->∀ e∈o.after,e.on<i) (h:Region.ready md ops L=[]):∀ i,i<ops.size->L.getD i false=true:=by
 intro i
 induction i using Nat.strongRecOn with
 | ind i ih =>
  intro hi
  have e:ops[i]?=some ops[i]:=Array.getElem?_eq_getElem hi
  by_cases hl:L.getD i true=true
  . rw [Array.getD_eq_getD_getElem?,Array.getElem?_eq_getElem (by omega)] at hl ⊢
    exact hl
  . exfalso
    have hm:i∈Region.ready md ops L:=by
     unfold Region.ready
     simp only [List.mem_filter,List.mem_range,Bool.and_eq_true]
     refine⟨hi,by simpa using hl,?_⟩
     rw [e]
     simp only [Option.map_some,Option.getD_some,Array.all_eq_true_iff_forall_mem]
     intro x hx
     rw [ih x.on (ho i _ e x hx) (by have:=ho i _ e x hx;omega)]
     simp
    rw [h] at hm
    cases hm
def cntF (L:Array Bool):Nat:=L.toList.countP (λ b=>!b)
theorem cntF_set {L:Array Bool} {i:Nat} (h:L.getD i true=false):cntF (L.setIfInBounds i true)+1=cntF L:=by
 obtain⟨l⟩:=L
 unfold cntF
 simp only [List.setIfInBounds_toArray]
 rw [Array.getD_eq_getD_getElem?,List.getElem?_toArray] at h
 induction l generalizing i with
 | nil=>simp at h
 | cons b r ih =>
  cases i with
  | zero =>
   have hb:b=false:=by simpa using h
   subst hb
   simp
  | succ i =>
   have:=ih (i:=i) (by simpa using h)
   simp only [List.set_cons_succ,List.countP_cons]
   omega
theorem wpAny_inv (I:Array Bool->Act->World->Prop) (hs:∀ L a w,I L a w->L.size=ops.size) (h0:∀ L a w,I L a w->Region.ready md ops L=[]->Q .normal a w)
 (h1:∀ L a w,I L a w->∀ i∈Region.ready md ops L,wpOp P ops Q i (I (L.setIfInBounds i true)) a w) :
 ∀ fuel L a w,I L a w->cntF L<=fuel->wpAny P md ops Q fuel L a w:=by
 intro fuel
 induction fuel with
 | zero =>
  intro L a w h hc
  have hr:Region.ready md ops L=[]:=by
   apply List.eq_nil_iff_forall_not_mem.2
   intro i hi
   have:=cntF_set (ready_lt hi).2.1
   omega
  exact⟨hr,h0 L a w h hr⟩
 | succ fuel ih =>
  intro L a w h hc
  refine⟨h0 L a w h,λ i hi=>?_⟩
  have hcs:=cntF_set (ready_lt hi).2.1
  exact wpOp_mono (λ a w q=>ih _ _ _ q (by omega)) (h1 L a w h i hi)
theorem wpOp_value {i:Nat} {o:Oper} {K:Act->World->Prop} {a:Act} {w w':World} {v:Value} (ho:ops[i]?=some o) (hg:o.guard=none) (hr:(execOp a.eval o).run P w=.ok (.value v) w') (hK:K (a.put o.dst v) w'):wpOp P ops Q i K a w :=
 wpOp_step ho λ K' hK'=>by
  rw [if_pos (by unfold Region.wanted;rw [hg])]
  unfold Oper.wp
  rw [hr]
  exact hK' _ _ hK
theorem wpOp_skip' {i:Nat} {o:Oper} {K:Act->World->Prop} {a:Act} {w w':World} (ho:ops[i]?=some o) (hg:o.guard=none) (hr:(execOp a.eval o).run P w=.ok .skip w') (hK:K (a.put o.dst undef) w'):wpOp P ops Q i K a w :=
 wpOp_step ho λ K' hK'=>by
  rw [if_pos (by unfold Region.wanted;rw [hg])]
  unfold Oper.wp
  rw [hr]
  exact hK' _ _ hK
end
namespace P16
def places:List (Int×Int×Nat) :=
 [(3,0,98),(0,0,99),(0,1,100),(0,2,101),(0,3,102),(0,4,103),(0,5,104),(0,6,105),(0,7,106),(0,8,107),(1,0,108),(1,9,109),(2,0,110),(2,10,111),(2,11,112),(2,12,102),(2,13,103),(2,14,113),(2,15,114)]
def plc (k:Nat):Int×Int×Nat:=places.getD k (0,0,0)
abbrev pv (a b:Int):Value:=.agg #[.int .i64 a,.int .i64 b]
abbrev fv (F:Nat):Value:=.func (.func F) #[] #[]
theorem plc_inj:∀ i,i<19->∀ j,j<19->(plc i).1=(plc j).1->(plc i).2.1=(plc j).2.1->i=j:=by decide
def ent (k i:Nat):MapEntry:={ key:=pv (plc k).1 (plc k).2.1,val:=fv (plc k).2.2,born:=i }
def ents:List Nat->Nat->List MapEntry
 | [],_=>[]
 | k::r,i=>ent k i::ents r (i+1)
theorem ents_one:∀ (l:List Nat) (k i:Nat),ents (l++[k]) i=ents l i++[ent k (i+l.length)]
 | [],k,i=>rfl
 | x::r,k,i=>by
  show ent x i::ents (r++[k]) (i+1)=ent x i::(ents r (i+1)++[ent k (i+(r.length+1))])
  rw [ents_one r k (i+1),show i+1+r.length=i+(r.length+1) from by omega]
theorem check_place (em:Bool) (a b:Int) (w:World):(Instr.checkKey em 10000 135 (pv a b)).run Tryz.prog w=.ok () w:=by kernel_rfl
theorem equal_place (a b c d:Int) (w:World):(Op.equal 135 (pv a b) (pv c d)).run Tryz.prog w=.ok (a==c&&b==d) w:=by
 have hu:=run_underlying (P:=Tryz.prog) Tryz.underlying135
 unfold Op.equal Op.maxDepth
 rcases h1:(a==c) with _ | _<;>rcases h2:(b==d) with _ | _<;>go_simp
theorem zero_step (w:World):(zeroValue 131).run Tryz.prog w=.ok .nilFunc w:=by kernel_rfl
theorem now_place (a b:Int) (e:MapEntry) (es:List MapEntry) (w:World):(Instr.findKey 135 (pv a b) (e::es)).run Tryz.prog w=(Instr.findAsking 135 (pv a b) (e::es)).run Tryz.prog w:=by kernel_rfl
theorem now_nil (a b:Int) (w:World):(Instr.findKey 135 (pv a b) []).run Tryz.prog w=.ok none w:=by kernel_rfl
theorem build_place (a b:Int) (w:World):(Instr.build 135 #[(0,.int .i64 a),(1,.int .i64 b)]).run Tryz.prog w=.ok (pv a b) w:=by kernel_rfl
def fnd (a b:Int):List Nat->Nat->Option (Nat×Value)
 | [],_=>none
 | k::r,j=>if (a==(plc k).1&&b==(plc k).2.1)=true then some (j,fv (plc k).2.2) else fnd a b r (j+1)
theorem ask_run (a b:Int):∀ (l:List Nat) (i j:Nat) (w:World),(Instr.findAsking 135 (pv a b) (ents l i) j).run Tryz.prog w=.ok (fnd a b l j) w
 | [],i,j,w=>rfl
 | k::r,i,j,w=>by
  show (Instr.findAsking 135 (pv a b) (ent k i::ents r (i+1)) j).run Tryz.prog w=_
  rw [Instr.findAsking]
  have he:(Op.equal 135 (pv a b) (ent k i).key).run Tryz.prog w=.ok (a==(plc k).1&&b==(plc k).2.1) w:=equal_place a b _ _ w
  unfold fnd
  rcases hb:(a==(plc k).1&&b==(plc k).2.1) with _ | _
  . rw [hb] at he
    simp [he,ask_run a b r (i+1) (j+1) w]
  . rw [hb] at he
    simp [he]
    rfl
theorem find_run (a b:Int) (l:List Nat) (i:Nat) (w:World):(Instr.findKey 135 (pv a b) (ents l i)).run Tryz.prog w=.ok (fnd a b l 0) w:=by
 cases l with
 | nil=>exact now_nil a b w
 | cons k r=>exact (now_place a b _ _ w).trans (ask_run a b (k::r) i 0 w)
theorem fnd_no {a b:Int}:∀ (l:List Nat) (j:Nat),(∀ k∈l,¬ (a=(plc k).1/\b=(plc k).2.1))->fnd a b l j=none
 | [],j,h=>rfl
 | k::r,j,h=>by
  unfold fnd
  rw [if_neg (by simpa using h k (List.mem_cons_self ..))]
  exact fnd_no r _ λ x hx=>h x (List.mem_cons_of_mem _ hx)
theorem fnd_yes {k:Nat} (hk:k<19):∀ (l:List Nat) (j:Nat),(∀ x∈l,x<19)->k∈l->∃ i,fnd (plc k).1 (plc k).2.1 l j=some (i,fv (plc k).2.2)
 | [],j,h,hm=>by cases hm
 | y::r,j,h,hm=>by
  unfold fnd
  by_cases hy:((plc k).1==(plc y).1&&(plc k).2.1==(plc y).2.1)=true
  . rw [if_pos hy]
    have:(plc k).1=(plc y).1/\(plc k).2.1=(plc y).2.1:=by simpa using hy
    obtain rfl:=plc_inj k hk y (h y (List.mem_cons_self ..)) this.1 this.2
    exact⟨j,rfl⟩
  . rw [if_neg hy]
    rcases List.mem_cons.1 hm with rfl | hm
    . simp at hy
    . exact fnd_yes hk r _ (λ x hx=>h x (List.mem_cons_of_mem _ hx)) hm
def KMap (w:World) (m:Nat):Prop:=∃ l:List Nat,(∀ k,k∈l↔k<19)/\w.heap[m]?=some (.map (ents l 0).toArray l.length)
theorem KMap.gr {w w':World} {m:Nat} (h:KMap w m) (g:Gr w w'):KMap w' m:=by
 obtain⟨l,h1,h2⟩:=h
 have:m<w.heap.size:=(Array.getElem?_eq_some_iff.1 h2).1
 exact⟨l,h1,by rw [g.block m this];exact h2⟩
theorem run_steps_at {w:World} {m k:Nat} (h:KMap w m) (hk:k<19):(Instr.lookup 132 (.map (some m)) (pv (plc k).1 (plc k).2.1) false).run Tryz.prog w=.ok (fv (plc k).2.2) w:=by
 obtain⟨l,h1,h2⟩:=h
 obtain⟨i,hi⟩:=fnd_yes hk l 0 (λ x hx=>(h1 x).1 hx) ((h1 k).2 hk)
 have hf:=find_run (plc k).1 (plc k).2.1 l 0 w
 rw [hi] at hf
 simp [Instr.lookup,run_underlying Tryz.underlying132,MapKept.run_getObj_map h2,check_place,hf]
theorem run_steps_ok {w:World} {m k:Nat} (h:KMap w m) (hk:k<19):(Instr.lookup 132 (.map (some m)) (pv (plc k).1 (plc k).2.1) true).run Tryz.prog w=.ok (.tuple #[fv (plc k).2.2,.bool true]) w:=by
 obtain⟨l,h1,h2⟩:=h
 obtain⟨i,hi⟩:=fnd_yes hk l 0 (λ x hx=>(h1 x).1 hx) ((h1 k).2 hk)
 have hf:=find_run (plc k).1 (plc k).2.1 l 0 w
 rw [hi] at hf
 simp [Instr.lookup,run_underlying Tryz.underlying132,MapKept.run_getObj_map h2,check_place,hf]
theorem run_steps_no {w:World} {m:Nat} (h:KMap w m) {a b:Int} (hn:∀ k,k<19->¬ (a=(plc k).1/\b=(plc k).2.1)):(Instr.lookup 132 (.map (some m)) (pv a b) true).run Tryz.prog w=.ok (.tuple #[.nilFunc,.bool false]) w:=by
 obtain⟨l,h1,h2⟩:=h
 have hi:=fnd_no (a:=a) (b:=b) l 0 λ k hk=>hn k ((h1 k).1 hk)
 have hf:=find_run a b l 0 w
 rw [hi] at hf
 simp [Instr.lookup,run_underlying Tryz.underlying132,MapKept.run_getObj_map h2,check_place,hf,zero_step]
theorem run_put (w:World) (l:List Nat) (k:Nat) (hl:∀ x∈l,x<19) (hk:k<19) (hn:k ∉ l) :
 (Instr.mapUpdate 132 (.map (some w.heap.size)) (pv (plc k).1 (plc k).2.1) (fv (plc k).2.2)).run Tryz.prog (w.alloc (.map (ents l 0).toArray l.length))=.ok () (w.alloc (.map (ents (l++[k]) 0).toArray (l++[k]).length)):=by
 have h:(w.alloc (.map (ents l 0).toArray l.length)).heap[w.heap.size]?=some (.map (ents l 0).toArray l.length):=heap_alloc_new w _
 have hf:=find_run (plc k).1 (plc k).2.1 l 0 (w.alloc (.map (ents l 0).toArray l.length))
 rw [fnd_no l 0 λ x hx q=>hn (by rw [plc_inj k hk x (hl x hx) q.1 q.2];exact hx)] at hf
 have hw:({ w.alloc (.map (ents l 0).toArray l.length) with heap:=(w.alloc (.map (ents l 0).toArray l.length)).heap.setIfInBounds w.heap.size (Obj.map (ents (l++[k]) 0).toArray (l++[k]).length) }:World)=w.alloc (.map (ents (l++[k]) 0).toArray (l++[k]).length):=by
  show ({ w with heap:=(w.heap.push (Obj.map (ents l 0).toArray l.length)).setIfInBounds w.heap.size (Obj.map (ents (l++[k]) 0).toArray (l++[k]).length) }:World)={ w with heap:=w.heap.push (Obj.map (ents (l++[k]) 0).toArray (l++[k]).length) }
  congr 1
  apply Array.ext_getElem?
  intro i
  rw [Array.getElem?_setIfInBounds,Array.getElem?_push,Array.getElem?_push,Array.size_push]
  by_cases hi:i=w.heap.size
  . subst hi;simp
  . rw [if_neg (Ne.symm hi),if_neg hi,if_neg hi]
 have he:(ents l 0).toArray.push { key:=pv (plc k).1 (plc k).2.1,val:=fv (plc k).2.2,born:=l.length }=(ents (l++[k]) 0).toArray:=by
  rw [ents_one]
  simp [ent]
 rw [<- hw]
 generalize w.alloc (.map (ents l 0).toArray l.length)=W at *
 clear hw
 generalize w.heap.size=r at *
 simp [Instr.mapUpdate,run_underlying Tryz.underlying132,MapKept.run_getObj_map h,check_place,hf,MapKept.run_setObj_map _ h,he]
structure Put (w0:World) (L:Array Bool) (a:Act) (w:World):Prop where
 sz:L.size=41
 ts:a.tmps.size=22
 df:a.defers=[]
 b:∀ k,k<19->L.getD (2*k+1) false=true->a.tmps[k+2]?=some (pv (plc k).1 (plc k).2.1)
 no:L.getD 0 false=false->w=w0/\∀ k,k<19->L.getD (2*k+2) false=false
 is:L.getD 0 false=true->a.tmps[1]?=some (.map (some w0.heap.size))/\∃ l:List Nat,(∀ k,k∈l↔k<19/\L.getD (2*k+2) false=true)/\w=w0.alloc (.map (ents l 0).toArray l.length)
 mv:L.getD 39 false=true->a.tmps[21]?=some (.map (some w0.heap.size))
 an:L.getD 40 false=true->a.tmps[0]?=some (.map (some w0.heap.size))
section
variable {w0 w:World} {L:Array Bool} {a:Act}
theorem getD_set {L:Array Bool} {i j:Nat} (hi:i<L.size):(L.setIfInBounds i true).getD j false=if i=j then true else L.getD j false:=by
 rw [Array.getD_eq_getD_getElem?,Array.getD_eq_getD_getElem?,Array.getElem?_setIfInBounds]
 by_cases h:i=j
 . rw [if_pos h,if_pos h,if_pos hi];rfl
 . rw [if_neg h,if_neg h]
theorem put_tmp (a:Act) {d j:Nat} (v:Value) (h:d≠j):(a.put (some d) v).tmps[j]?=a.tmps[j]?:=by
 show (a.tmps.setIfInBounds d v)[j]?=_
 rw [Array.getElem?_setIfInBounds,if_neg h]
theorem put_new (a:Act) {d:Nat} (v:Value) (h:d<a.tmps.size):(a.put (some d) v).tmps[d]?=some v:=by
 show (a.tmps.setIfInBounds d v)[d]?=_
 rw [Array.getElem?_setIfInBounds,if_pos rfl,if_pos h]
theorem put_size (a:Act) (d:Option Nat) (v:Value):(a.put d v).tmps.size=a.tmps.size:=by
 cases d with
 | none=>rfl
 | some d=>show (a.tmps.setIfInBounds d v).size=_;rw [Array.size_setIfInBounds]
theorem put_defers (a:Act) (d:Option Nat) (v:Value):(a.put d v).defers=a.defers:=by cases d<;>rfl
theorem false_of {i:Nat} (h:L.getD i true=false):L.getD i false=false:=by
 rw [Array.getD_eq_getD_getElem?] at *
 cases q:L[i]? with
 | none=>rfl
 | some b=>rw [q] at h;exact h
theorem Put.made (h:Put w0 L a w) (h0:L.getD 0 true=false):Put w0 (L.setIfInBounds 0 true) (a.put (some 1) (.map (some w.heap.size))) (w.alloc (.map #[] 0)):=by
 have hs:=h.sz
 have ht:=h.ts
 have f0:=false_of h0
 obtain⟨rfl,hn⟩:=h.no f0
 refine⟨by rw [Array.size_setIfInBounds];exact hs,by rw [put_size];exact ht,by rw [put_defers];exact h.df,λ k hk hL=>?_,λ q=>?_,λ _=>⟨put_new _ _ (by omega),[],λ k=>?_,rfl⟩,λ q=>?_,λ q=>?_⟩
 . rw [getD_set (by omega),if_neg (by omega)] at hL
   rw [put_tmp _ _ (by omega)]
   exact h.b k hk hL
 . rw [getD_set (by omega),if_pos rfl] at q;cases q
 . rw [getD_set (by omega),if_neg (by omega)]
   constructor
   . intro q;cases q
   . intro q;rw [hn k q.1] at q;exact absurd q.2 (by simp)
 . rw [getD_set (by omega),if_neg (by omega)] at q
   rw [put_tmp _ _ (by omega)];exact h.mv q
 . rw [getD_set (by omega),if_neg (by omega)] at q
   rw [put_tmp _ _ (by omega)];exact h.an q
theorem Put.key (h:Put w0 L a w) {k:Nat} (hk:k<19):Put w0 (L.setIfInBounds (2*k+1) true) (a.put (some (k+2)) (pv (plc k).1 (plc k).2.1)) w:=by
 have hs:=h.sz
 have ht:=h.ts
 refine⟨by rw [Array.size_setIfInBounds];exact hs,by rw [put_size];exact ht,by rw [put_defers];exact h.df,λ j hj hL=>?_,λ q=>?_,λ q=>?_,λ q=>?_,λ q=>?_⟩
 . by_cases e:k=j
   . subst e;exact put_new _ _ (by omega)
   . rw [getD_set (by omega),if_neg (by omega)] at hL
     rw [put_tmp _ _ (by omega)];exact h.b j hj hL
 . rw [getD_set (by omega),if_neg (by omega)] at q
   refine⟨(h.no q).1,λ j hj=>?_⟩
   rw [getD_set (by omega),if_neg (by omega)];exact (h.no q).2 j hj
 . rw [getD_set (by omega),if_neg (by omega)] at q
   obtain⟨q1,l,q2,q3⟩:=h.is q
   refine⟨by rw [put_tmp _ _ (by omega)];exact q1,l,λ j=>?_,q3⟩
   rw [getD_set (by omega),if_neg (by omega)];exact q2 j
 . rw [getD_set (by omega),if_neg (by omega)] at q
   rw [put_tmp _ _ (by omega)];exact h.mv q
 . rw [getD_set (by omega),if_neg (by omega)] at q
   rw [put_tmp _ _ (by omega)];exact h.an q
theorem Put.entry (h:Put w0 L a w) {k:Nat} (hk:k<19) (h0:L.getD 0 false=true) (hn:L.getD (2*k+2) false=false) :
 ∃ w',(Instr.mapUpdate 132 (.map (some w0.heap.size)) (pv (plc k).1 (plc k).2.1) (fv (plc k).2.2)).run Tryz.prog w=.ok () w'/\Put w0 (L.setIfInBounds (2*k+2) true) (a.put none undef) w':=by
 have hs:=h.sz
 obtain⟨q1,l,q2,rfl⟩:=h.is h0
 have hkl:k ∉ l:=λ q=>by have:=(q2 k).1 q;rw [hn] at this;exact absurd this.2 (by simp)
 refine⟨_,run_put w0 l k (λ x hx=>((q2 x).1 hx).1) hk hkl,by rw [Array.size_setIfInBounds];exact hs,h.ts,h.df,λ j hj hL=>?_,λ q=>?_,λ q=>⟨q1,l++[k],λ j=>?_,rfl⟩,λ q=>?_,λ q=>?_⟩
 . rw [getD_set (by omega),if_neg (by omega)] at hL
   exact h.b j hj hL
 . rw [getD_set (by omega),if_neg (by omega),h0] at q;cases q
 . rw [getD_set (by omega),List.mem_append,q2 j]
   by_cases e:2*k+2=2*j+2
   . obtain rfl:k=j:=by omega
     rw [if_pos rfl]
     simp [hk]
   . rw [if_neg e]
     have hne:j≠k:=by omega
     simp [hne]
 . rw [getD_set (by omega),if_neg (by omega)] at q;exact h.mv q
 . rw [getD_set (by omega),if_neg (by omega)] at q;exact h.an q
theorem Put.moved (h:Put w0 L a w):Put w0 (L.setIfInBounds 39 true) (a.put (some 21) (.map (some w0.heap.size))) w:=by
 have hs:=h.sz
 have ht:=h.ts
 refine⟨by rw [Array.size_setIfInBounds];exact hs,by rw [put_size];exact ht,by rw [put_defers];exact h.df,λ j hj hL=>?_,λ q=>?_,λ q=>?_,λ q=>put_new _ _ (by omega),λ q=>?_⟩
 . rw [getD_set (by omega),if_neg (by omega)] at hL
   rw [put_tmp _ _ (by omega)];exact h.b j hj hL
 . rw [getD_set (by omega),if_neg (by omega)] at q
   refine⟨(h.no q).1,λ j hj=>?_⟩
   rw [getD_set (by omega),if_neg (by omega)];exact (h.no q).2 j hj
 . rw [getD_set (by omega),if_neg (by omega)] at q
   obtain⟨q1,l,q2,q3⟩:=h.is q
   refine⟨by rw [put_tmp _ _ (by omega)];exact q1,l,λ j=>?_,q3⟩
   rw [getD_set (by omega),if_neg (by omega)];exact q2 j
 . rw [getD_set (by omega),if_neg (by omega)] at q
   rw [put_tmp _ _ (by omega)];exact h.an q
theorem Put.told (h:Put w0 L a w):Put w0 (L.setIfInBounds 40 true) (a.put (some 0) (.map (some w0.heap.size))) w:=by
 have hs:=h.sz
 have ht:=h.ts
 refine⟨by rw [Array.size_setIfInBounds];exact hs,by rw [put_size];exact ht,by rw [put_defers];exact h.df,λ j hj hL=>?_,λ q=>?_,λ q=>?_,λ q=>?_,λ q=>put_new a (d:=0) _ (by rw [ht];decide)⟩
 . rw [getD_set (by omega),if_neg (by omega)] at hL
   rw [put_tmp _ _ (by omega)];exact h.b j hj hL
 . rw [getD_set (by omega),if_neg (by omega)] at q
   refine⟨(h.no q).1,λ j hj=>?_⟩
   rw [getD_set (by omega),if_neg (by omega)];exact (h.no q).2 j hj
 . rw [getD_set (by omega),if_neg (by omega)] at q
   obtain⟨q1,l,q2,q3⟩:=h.is q
   refine⟨by rw [put_tmp _ _ (by omega)];exact q1,l,λ j=>?_,q3⟩
   by_cases hj:j<19
   . rw [getD_set (by omega),if_neg (by omega)];exact q2 j
   . exact⟨λ q=>absurd ((q2 j).1 q).1 hj,λ q=>absurd q.1 hj⟩
 . rw [getD_set (by omega),if_neg (by omega)] at q
   rw [put_tmp _ _ (by decide)];exact h.mv q
end
structure StepsOps (ops:Array Oper):Prop where
 sz:ops.size=41
 o0:∃ o,ops[0]?=some o/\o.dst=some 1/\o.op=.makeMap 132 none/\o.guard=none/\o.after=#[]
 ob:∀ k,k<19->∃ o,ops[2*k+1]?=some o/\o.dst=some (k+2)/\o.op=.build 135 #[(0,.const (.int .i64 (plc k).1)),(1,.const (.int .i64 (plc k).2.1))]/\o.guard=none/\o.after=#[]
 oi:∀ k,k<19->∃ o,ops[2*k+2]?=some o/\o.dst=none/\o.op=.insert 132 (.tmp 1) (.tmp (k+2)) (.func (plc k).2.2)/\o.guard=none/\o.after=#[{ on:=0,ground:=.data },{ on:=2*k+1,ground:=.data }]
 om:∃ o,ops[39]?=some o/\o.dst=some 21/\o.op=.move (.tmp 1)/\o.guard=none/\{ on:=0,ground:=.data }∈o.after/\∀ e∈o.after,e.on<39
 oa:∃ o,ops[40]?=some o/\o.dst=some 0/\o.op=.assign (.tmp 21)/\o.guard=none/\{ on:=39,ground:=.data }∈o.after/\∀ e∈o.after,e.on<40
section
variable {ops:Array Oper} {Q:Exit->Act->World->Prop} {w0 w:World} {L:Array Bool} {a:Act}
theorem eval_tmp {a:Act} {t:Nat} {v:Value} (h:a.tmps[t]?=some v):a.eval (.tmp t)=v:=by
 show a.tmps.getD t undef=v
 rw [Array.getD_eq_getD_getElem?,h];rfl
theorem StepsOps.early (h:StepsOps ops):∀ (i:Nat) (o:Oper),ops[i]?=some o->∀ e∈o.after,e.on<i:=by
 intro i o ho e he
 have hi:=(Array.getElem?_eq_some_iff.1 ho).1
 rw [h.sz] at hi
 have hc:i=0\/(∃ k,k<19/\i=2*k+1)\/(∃ k,k<19/\i=2*k+2)\/i=39\/i=40:=by
  by_cases h0:i=0
  . exact .inl h0
  . by_cases h39:i<39
    . rcases Nat.mod_two_eq_zero_or_one i with q | q
      . exact .inr (.inr (.inl ⟨i / 2-1,by omega,by omega⟩))
      . exact .inr (.inl ⟨i / 2,by omega,by omega⟩)
    . omega
 rcases hc with rfl | ⟨k,hk,rfl⟩ | ⟨k,hk,rfl⟩ | rfl | rfl
 . obtain⟨o',h1,_,_,_,h5⟩:=h.o0
   rw [ho] at h1;cases h1
   rw [h5] at he;simp at he
 . obtain⟨o',h1,_,_,_,h5⟩:=h.ob k hk
   rw [ho] at h1;cases h1
   rw [h5] at he;simp at he
 . obtain⟨o',h1,_,_,_,h5⟩:=h.oi k hk
   rw [ho] at h1;cases h1
   rw [h5] at he
   simp at he
   rcases he with rfl | rfl<;>simp
 . obtain⟨o',h1,_,_,_,_,h5⟩:=h.om
   rw [ho] at h1;cases h1
   exact h5 e he
 . obtain⟨o',h1,_,_,_,_,h5⟩:=h.oa
   rw [ho] at h1;cases h1
   exact h5 e he
theorem StepsOps.step (h:StepsOps ops) (hp:Put w0 L a w) {i:Nat} (hi:i∈Region.ready .any ops L):wpOp Tryz.prog ops Q i (Put w0 (L.setIfInBounds i true)) a w:=by
 obtain⟨hlt,hl,haf⟩:=ready_lt hi
 rw [h.sz] at hlt
 have hb:∀ n,Region.binds .any { on:=n,ground:=.data }=true:=λ n=>rfl
 have hc:i=0\/(∃ k,k<19/\i=2*k+1)\/(∃ k,k<19/\i=2*k+2)\/i=39\/i=40:=by
  by_cases h0:i=0
  . exact .inl h0
  . by_cases h39:i<39
    . rcases Nat.mod_two_eq_zero_or_one i with q | q
      . exact .inr (.inr (.inl ⟨i / 2-1,by omega,by omega⟩))
      . exact .inr (.inl ⟨i / 2,by omega,by omega⟩)
    . omega
 rcases hc with rfl | ⟨k,hk,rfl⟩ | ⟨k,hk,rfl⟩ | rfl | rfl
 . obtain⟨o,h1,h2,h3,h4,h5⟩:=h.o0
   refine wpOp_value h1 h4 (v:=.map (some w.heap.size)) (w':=w.alloc (.map #[] 0)) ?_ ?_
   . unfold execOp;rw [h3];rfl
   . rw [h2];exact hp.made hl
 . obtain⟨o,h1,h2,h3,h4,h5⟩:=h.ob k hk
   refine wpOp_value h1 h4 (v:=pv (plc k).1 (plc k).2.1) (w':=w) ?_ ?_
   . unfold execOp;rw [h3]
     have hb:=build_place (plc k).1 (plc k).2.1 w
     simp [Act.eval,hb]
   . rw [h2];exact hp.key hk
 . obtain⟨o,h1,h2,h3,h4,h5⟩:=h.oi k hk
   have g0:=haf o h1 { on:=0,ground:=.data } (by rw [h5];simp) (hb _)
   have g1:=haf o h1 { on:=2*k+1,ground:=.data } (by rw [h5];simp) (hb _)
   obtain⟨w',r1,r2⟩:=hp.entry hk g0 (false_of hl)
   have e1:=eval_tmp (hp.is g0).1
   have e2:=eval_tmp (hp.b k hk g1)
   refine wpOp_skip' h1 h4 (w':=w') ?_ ?_
   . unfold execOp;rw [h3]
     simp only [e1,e2]
     have e3:a.eval (.func (plc k).2.2)=fv (plc k).2.2:=rfl
     rw [e3]
     simp [r1]
   . rw [h2];exact r2
 . obtain⟨o,h1,h2,h3,h4,h5,h6⟩:=h.om
   have g0:=haf o h1 { on:=0,ground:=.data } h5 (hb _)
   refine wpOp_value h1 h4 (v:=.map (some w0.heap.size)) (w':=w) ?_ ?_
   . unfold execOp;rw [h3]
     simp only [eval_tmp (hp.is g0).1]
     rfl
   . rw [h2];exact hp.moved
 . obtain⟨o,h1,h2,h3,h4,h5,h6⟩:=h.oa
   have g0:=haf o h1 { on:=39,ground:=.data } h5 (hb _)
   refine wpOp_value h1 h4 (v:=.map (some w0.heap.size)) (w':=w) ?_ ?_
   . unfold execOp;rw [h3]
     simp only [eval_tmp (hp.mv g0)]
     rfl
   . rw [h2];exact hp.told
theorem StepsOps.any (h:StepsOps ops) (w0:World) (a:Act) (ts:a.tmps.size=22) (df:a.defers=[])
 (hQ:∀ a' w',a'.tmps[0]?=some (.map (some w0.heap.size))->a'.tmps.size=22->a'.defers=[]->KMap w' w0.heap.size->Gr w0 w'->Q .normal a' w') :
 wpAny Tryz.prog .any ops Q ops.size (Array.replicate ops.size false) a w0:=by
 have hz:∀ i:Nat,(Array.replicate ops.size false).getD i false=false:=λ i=>by
  rw [Array.getD_eq_getD_getElem?,Array.getElem?_replicate]
  split<;>rfl
 refine wpAny_inv (Put w0) (λ L a w hp=>by rw [hp.sz,h.sz]) (λ L a w hp hr=>?_) (λ L a w hp i hi=>h.step hp hi) _ _ _ _ ?_ ?_
 . have hall:=ready_nil (by rw [hp.sz,h.sz]) h.early hr
   rw [h.sz] at hall
   obtain⟨_,l,q2,rfl⟩:=hp.is (hall 0 (by omega))
   refine hQ a _ (hp.an (hall 40 (by omega))) hp.ts hp.df ⟨l,λ k=>?_,heap_alloc_new w0 _⟩ ((Gr.refl w0).al _)
   rw [q2 k]
   exact⟨λ q=>q.1,λ q=>⟨q,hall _ (by omega)⟩⟩
 . refine⟨by simp [h.sz],ts,df,λ k hk q=>?_,λ _=>⟨rfl,λ k hk=>hz _⟩,λ q=>?_,λ q=>?_,λ q=>?_⟩<;>(rw [hz] at q;cases q)
 . unfold cntF
   rw [Array.toList_replicate]
   refine Nat.le_trans (List.countP_le_length ..) (by simp)
end
theorem steps_is (w:World):Calls Tryz.prog 73 #[] w λ e w'=>(∃ m,e=.returned (.map (some m))/\KMap w' m)/\Gr w w':=by
 go_enter Tryz.func73,Tryz.ntmps73
 go_wp2_with fail
 rename_i K hK
 refine wp_region_any (by rfl) (StepsOps.any ⟨rfl,⟨_,rfl,rfl,rfl,rfl,rfl⟩,?_,?_,⟨_,rfl,rfl,rfl,rfl,?_,?_⟩,⟨_,rfl,rfl,rfl,rfl,?_,?_⟩⟩ { w with drawn:=w.drawn+1 } _ rfl rfl ?_)
 . skip
   intro k hk
   match k,hk with
   | 0,_=>exact⟨_,rfl,rfl,rfl,rfl,rfl⟩
   | 1,_=>exact⟨_,rfl,rfl,rfl,rfl,rfl⟩
   | 2,_=>exact⟨_,rfl,rfl,rfl,rfl,rfl⟩
   | 3,_=>exact⟨_,rfl,rfl,rfl,rfl,rfl⟩
   | 4,_=>exact⟨_,rfl,rfl,rfl,rfl,rfl⟩
   | 5,_=>exact⟨_,rfl,rfl,rfl,rfl,rfl⟩
   | 6,_=>exact⟨_,rfl,rfl,rfl,rfl,rfl⟩
   | 7,_=>exact⟨_,rfl,rfl,rfl,rfl,rfl⟩
   | 8,_=>exact⟨_,rfl,rfl,rfl,rfl,rfl⟩
   | 9,_=>exact⟨_,rfl,rfl,rfl,rfl,rfl⟩
   | 10,_=>exact⟨_,rfl,rfl,rfl,rfl,rfl⟩
   | 11,_=>exact⟨_,rfl,rfl,rfl,rfl,rfl⟩
   | 12,_=>exact⟨_,rfl,rfl,rfl,rfl,rfl⟩
   | 13,_=>exact⟨_,rfl,rfl,rfl,rfl,rfl⟩
   | 14,_=>exact⟨_,rfl,rfl,rfl,rfl,rfl⟩
   | 15,_=>exact⟨_,rfl,rfl,rfl,rfl,rfl⟩
   | 16,_=>exact⟨_,rfl,rfl,rfl,rfl,rfl⟩
   | 17,_=>exact⟨_,rfl,rfl,rfl,rfl,rfl⟩
   | 18,_=>exact⟨_,rfl,rfl,rfl,rfl,rfl⟩
   | n+19,h=>exact absurd h (by omega)
 . skip
   intro k hk
   match k,hk with
   | 0,_=>exact⟨_,rfl,rfl,rfl,rfl,rfl⟩
   | 1,_=>exact⟨_,rfl,rfl,rfl,rfl,rfl⟩
   | 2,_=>exact⟨_,rfl,rfl,rfl,rfl,rfl⟩
   | 3,_=>exact⟨_,rfl,rfl,rfl,rfl,rfl⟩
   | 4,_=>exact⟨_,rfl,rfl,rfl,rfl,rfl⟩
   | 5,_=>exact⟨_,rfl,rfl,rfl,rfl,rfl⟩
   | 6,_=>exact⟨_,rfl,rfl,rfl,rfl,rfl⟩
   | 7,_=>exact⟨_,rfl,rfl,rfl,rfl,rfl⟩
   | 8,_=>exact⟨_,rfl,rfl,rfl,rfl,rfl⟩
   | 9,_=>exact⟨_,rfl,rfl,rfl,rfl,rfl⟩
   | 10,_=>exact⟨_,rfl,rfl,rfl,rfl,rfl⟩
   | 11,_=>exact⟨_,rfl,rfl,rfl,rfl,rfl⟩
   | 12,_=>exact⟨_,rfl,rfl,rfl,rfl,rfl⟩
   | 13,_=>exact⟨_,rfl,rfl,rfl,rfl,rfl⟩
   | 14,_=>exact⟨_,rfl,rfl,rfl,rfl,rfl⟩
   | 15,_=>exact⟨_,rfl,rfl,rfl,rfl,rfl⟩
   | 16,_=>exact⟨_,rfl,rfl,rfl,rfl,rfl⟩
   | 17,_=>exact⟨_,rfl,rfl,rfl,rfl,rfl⟩
   | 18,_=>exact⟨_,rfl,rfl,rfl,rfl,rfl⟩
   | n+19,h=>exact absurd h (by omega)
 . simp
 . decide
 . simp
 . decide
 . intro a' w' h1 h2 h3 h4 h5
   obtain⟨ts,ds⟩:=a'
   dsimp only at h1 h2 h3
   subst h3
   show K _ w'
   refine hK _ _ (wp_ret ?_)
   exact bodyPost_ret (v:=.map (some w.heap.size)) (by simp [results,Tryz.results73,go_sem,h1]) rfl ⟨⟨_,rfl,h4⟩,(Gr.refl w).dr.trans h5⟩
end P16
end
section
open Go.ChangeShapes Go.WideShapes Go.ChangeAt Go.RowKit Go.Shelf
namespace P16
open P14 (pan)
open P12 (PV PMem)
theorem as_errno (v:Value) (w:World):(Instr.typeAssert (.iface 27 v) 20 27 false).run Tryz.prog w=.ok v w:=by kernel_rfl
theorem catch_up (p:Addr) (y x:Int) (w:World) (hc:w.cell? p=some (.int .i64 x)) (hz:w.frozen? p=false) :
 CallsD Tryz.prog 72 #[.pointer (some p)] (.panicking (pan y)) w λ e u' w' =>
  e=.returned (.tuple #[])/\u'=.panicking [{ v:=.iface 27 (.int .i64 y),recovered:=true }]/\w'=w.setCell p (.int .i64 y):=by
 refine callsD_of_wpS Tryz.func72 rfl λ c₀ cs hu=>?_
 apply wpS_seq
 apply wpS_region
 simp [wpOpsS,go_sem,recoverD,hu,Tryz.ntmps72,Exit.thenS]
 apply wpS_seq
 apply wpS_region
 simp [wpOpsS,go_sem,recoverD,hu,Exit.thenS]
 refine wpS_cond (t:=true) (by simp [Act.eval,Array.replicate]) ?_
 simp only [if_true]
 apply wpS_region
 simp [wpOpsS,go_sem,as_errno,hc,hz,bodyPostS,results,Tryz.results72]
theorem catch_idle (p:Addr) (w:World) :
 CallsD Tryz.prog 72 #[.pointer (some p)] .returning w λ e u' w'=>e=.returned (.tuple #[])/\u'=.returning/\w'=w:=by
 refine callsD_of_wpS Tryz.func72 rfl λ c₀ cs hu=>?_
 apply wpS_seq
 apply wpS_region
 simp [wpOpsS,go_sem,recoverD,hu,Tryz.ntmps72,Exit.thenS]
 apply wpS_seq
 apply wpS_region
 simp [wpOpsS,go_sem,recoverD,hu,Exit.thenS]
 refine wpS_cond (t:=false) (by simp [Act.eval,Array.replicate]) ?_
 simp only [Bool.false_eq_true,if_false]
 refine wpS_of_wp (wp_skip ?_)
 cases c₀
 simp_all [bodyPostS,results,Tryz.results72]
theorem Kx.fresh {x:Cx} {W W':World} (h:Kx x W W') {p:Addr} (hp:W.heap.size<=p.block) (v:Value):Kx x W (W'.setCell p v) :=
 ⟨h.os,h.tape,h.output,by simp [World.setCell];exact h.size,λ k hk h1 h2 h3=>(Below.heap_setCell W' p v k (by omega)).trans (h.block k hk h1 h2 h3)⟩
theorem setCell_self {W:World} {b i:Nat} {vs:Array Value} {t:TypeId} {v:Value} (h:Blk W b vs t) (hi:vs[i]?=some v):W.setCell ⟨b,i,none⟩ v=W:=by
 have hb:=(Array.getElem?_eq_some_iff.1 h).1
 have e2:vs.setIfInBounds i v=vs:=by
  apply Array.ext_getElem?
  intro j
  rw [Array.getElem?_setIfInBounds]
  split
  . rename_i q
    subst q
    split
    . exact hi.symm
    . rename_i q
      rw [Array.getElem?_eq_none (by omega)] at hi
      cases hi
  . rfl
 have e3:(W.setCell ⟨b,i,none⟩ v).heap=W.heap:=by
  apply Array.ext_getElem?
  intro j
  by_cases q:j=b
  . subst q
    have h2:=h.set i v
    rw [e2] at h2
    unfold Blk at h h2
    rw [h2,h]
  . exact Below.heap_setCell W ⟨b,i,none⟩ v j q
 show { W with heap:=(W.setCell ⟨b,i,none⟩ v).heap }=W
 rw [e3]
theorem leaves_same {P:Program} {fn:Func} {t t':Array Value} {R:Ending->World->Prop} (h:results fn t=results fn t'):∀ (ds:List Deferred) (u:FrameMode) (w:World),Leaves P fn t R ds u w=Leaves P fn t' R ds u w
 | [],u,w=>by cases u<;>simp [Leaves,h]
 | d::ds,u,w=>by simp only [Leaves,leaves_same h ds]
theorem try_put {R:Ending->World->Prop} {c:List PanicEntry} {a:Act} {w:World} {s:Nat} {v:Value} (hs:s≠2) (h:bodyPostD Tryz.prog Tryz.f42 R (.panic c) (a.put (some s) v) w):bodyPostD Tryz.prog Tryz.f42 R (.panic c) a w:=by
 have e:results Tryz.f42 (a.put (some s) v).tmps=results Tryz.f42 a.tmps:=by
  simp [results,Tryz.results42,Act.put,Array.getD_eq_getD_getElem?,Array.getElem?_setIfInBounds,hs]
 show Leaves _ _ _ _ _ _ _
 have h:Leaves _ _ _ _ _ _ _:=h
 rw [<- leaves_same e]
 exact h
section
variable {x:Cx} {W:World} {T E:Sl} {cl:List Cl} {mx:List T3} {tb:List Sp} {ev:List T3} {c:Cl} {a:T3} {pr:List Ac}variable {k F:Nat} {Q:World->Prop} {y:Int}
theorem try_ok (eg:∀ args w,(callFunc F args).run Tryz.prog w=.ok (.enter F args) w) (h:TS x W T E cl mx tb ev) (hc:cl[x.who.toNat]?=some c) (hk:k<19) (he:plc k=(x.k,c.pc,F)) (hQ:∀ w,Q w->w.cell? ⟨x.b,8,none⟩=some (.int .i64 x.k)/\w.cell? ⟨x.b,7,none⟩=some (.pointer (some ⟨x.bc,x.oc+x.who.toNat*13,none⟩))) (hq:∀ W',Gr W W'->Calls Tryz.prog F #[.pointer (some ⟨x.b,0,none⟩)] W' λ e w'=>e=.returned (.tuple #[])/\Kx x W' w'/\Q w') :
 Calls Tryz.prog 42 #[.pointer (some ⟨x.b,0,none⟩)] W λ e W'=>e=.returned (.int .i64 0)/\Kx x W W'/\Q W':=by
 have hmf:=mkF
 have HQ:=hid hq
 have H:=hid h
 have hb1:=h.t.lt
 have hb2:=h.c.lt
 have hb3:=h.m.lt
 have hl:=λ W m (hK:KMap W m)=>run_steps_at hK hk
 rw [he] at hl
 dsimp only at hl
 have h1:=h.gr ((Gr.refl W).al (.cells #[.int .i64 0] 27))
 obtain⟨-,-,-,-,-,-,-,c7,c8,-,-,-⟩:=h1.cells
 obtain⟨-,-,-,s3,-,-,-,-,-,-,-,-,-,-⟩:=h1.cl_ hc
 clear h hq h1
 go_enter_defers Tryz.func42,Tryz.ntmps42
 go_upto_region 2 with fail
 refine wp_region_held_drew (S:=(λ w'=>w'.cell? ⟨x.b,8,none⟩=some (.int .i64 x.k)/\w'.cell? ⟨x.b,7,none⟩=some (.pointer (some ⟨x.bc,x.oc+x.who.toNat*13,none⟩)))) (by kernel_rfl) ⟨c8,c7⟩ (λ hS=>?_)
 refine wG 1 hS ?_ (hQ:=(λ _ _ _ h=>try_put (s:=5) (by decide) h))
 refine wG 2 hS ?_ (hQ:=(λ _ _ _ h=>try_put (s:=6) (by decide) h))
 refine wG 3 hS ?_ (hQ:=(λ _ _ _ h=>try_put (s:=7) (by decide) h))
 refine wG 4 hS ?_ (hQ:=(λ _ _ _ h=>try_put (s:=8) (by decide) h))
 refine wG 5 hS ?_ (hQ:=(λ _ _ _ h=>try_put (s:=9) (by decide) h))
 refine wG 6 hS ?_ (hQ:=(λ _ _ _ h=>try_put (s:=10) (by decide) h))
 refine wG 7 hS ?_ (hQ:=(λ _ _ _ h=>try_put (s:=11) (by decide) h))
 refine wG 8 hS ?_ (hQ:=(λ _ _ _ h=>try_put (s:=12) (by decide) h))
 refine wG 9 hS ?_ (hQ:=(λ _ _ _ h=>try_put (s:=13) (by decide) h))
 refine wG 10 hS ?_ (hQ:=(λ _ _ _ h=>try_put (s:=14) (by decide) h))
 refine wG 11 hS ?_ (hQ:=(λ _ _ _ h=>try_put (s:=15) (by decide) h))
 refine wG 15 hS ?_ (hQ:=(λ _ _ _ h=>try_put (s:=19) (by decide) h))
 refine wR2 0 12 (λ K hK=>?_) (λ K hK=>?_)
 . skip
   go_simp;go_at_call 73;with_reducible refine (steps_is _).mono ?_;rintro ee w1 ⟨⟨m,rfl,k1⟩,g1⟩;go_wp2_with fail
   have G1:=hid (((Gr.refl W).al (.cells #[.int .i64 0] 27)).dr.trans g1)
   have B1:=hid (((Blk.new W #[.int .i64 0] 27).gr (Gr.refl _).dr).gr g1)
   have h2:=H.out.gr G1.out
   obtain⟨-,-,-,-,-,-,-,d7,d8,-,-,-⟩:=h2.cells
   obtain⟨-,-,-,t3,-,-,-,-,-,-,-,-,-,-⟩:=h2.cl_ hc
   have L1:=hl _ _ k1
   have Q1:=hid (HQ.out _ G1.out)
   clear h2 g1
   refine hK.out _ _ ⟨d8,d7⟩ (λ hS=>?_)
   clear hK K
   try simp only [pL]
   refine wR1 12 (λ K hK=>?_)
   go_simp
   refine hK.out _ _ ⟨d8,d7⟩ (λ hS=>?_)
   clear hK K
   try simp only [pL]
   refine wG 13 hS ?_ (hQ:=(λ _ _ _ h=>try_put (s:=17) (by decide) h))
   refine wR1 14 (λ K hK=>?_)
   go_simp
   refine hK.out _ _ ⟨d8,d7⟩ (λ hS=>?_)
   clear hK K
   try simp only [pL]
   refine wR1 16 (λ K hK=>?_)
   go_simp;with_reducible refine Q1.out.mono ?_
   rintro ee w2 ⟨rfl,k2,q2⟩;go_wp2_with fail
   obtain⟨j8,j7⟩:=hQ _ q2
   have K2:=hid ((Kx.gr G1.out).trans k2)
   have B2:=hid (show Blk w2 W.heap.size #[.int .i64 0] 27 from by unfold Blk;rw [k2.block _ B1.out.lt (by omega) (by omega) (by omega)];exact B1.out)
   refine hK.out _ _ ⟨j8,j7⟩ (λ hS=>?_)
   clear hK K
   try simp only [pL]
   refine wpAnyH_done (by kernel_rfl) ?_ _
   clear hS
   obtain⟨q0,z0⟩:=B2.out.at_ (k:=0) rfl
   have eS:=setCell_self B2.out (i:=0) (v:=.int .i64 0) rfl
   go_wp2_with fail
   refine leaves_cons (f:=72) (args:=#[.pointer (some ⟨W.heap.size,0,none⟩)]) (by simp) (by simp [go_sem]) ?_
   refine (catch_idle ⟨W.heap.size,0,none⟩ _).mono ?_
   rintro e u' w'' ⟨rfl,rfl,rfl⟩
   try rw [eS]
   simp [Leaves,settle,results,Tryz.results42,go_sem,q0]
   exact⟨K2.out,q2⟩
 . skip
   go_simp
   refine hK.out _ _ ⟨c8,c7⟩ (λ hS=>?_)
   clear hK K
   try simp only [pL]
   refine wG 13 hS ?_ (hQ:=(λ _ _ _ h=>try_put (s:=17) (by decide) h))
   refine wR1 0 (λ K hK=>?_)
   go_simp;go_at_call 73;with_reducible refine (steps_is _).mono ?_;rintro ee w1 ⟨⟨m,rfl,k1⟩,g1⟩;go_wp2_with fail
   have G1:=hid (((Gr.refl W).al (.cells #[.int .i64 0] 27)).dr.trans g1)
   have B1:=hid (((Blk.new W #[.int .i64 0] 27).gr (Gr.refl _).dr).gr g1)
   have h2:=H.out.gr G1.out
   obtain⟨-,-,-,-,-,-,-,d7,d8,-,-,-⟩:=h2.cells
   obtain⟨-,-,-,t3,-,-,-,-,-,-,-,-,-,-⟩:=h2.cl_ hc
   have L1:=hl _ _ k1
   have Q1:=hid (HQ.out _ G1.out)
   clear h2 g1
   refine hK.out _ _ ⟨d8,d7⟩ (λ hS=>?_)
   clear hK K
   try simp only [pL]
   refine wR1 14 (λ K hK=>?_)
   go_simp
   refine hK.out _ _ ⟨d8,d7⟩ (λ hS=>?_)
   clear hK K
   try simp only [pL]
   refine wR1 16 (λ K hK=>?_)
   go_simp;with_reducible refine Q1.out.mono ?_
   rintro ee w2 ⟨rfl,k2,q2⟩;go_wp2_with fail
   obtain⟨j8,j7⟩:=hQ _ q2
   have K2:=hid ((Kx.gr G1.out).trans k2)
   have B2:=hid (show Blk w2 W.heap.size #[.int .i64 0] 27 from by unfold Blk;rw [k2.block _ B1.out.lt (by omega) (by omega) (by omega)];exact B1.out)
   refine hK.out _ _ ⟨j8,j7⟩ (λ hS=>?_)
   clear hK K
   try simp only [pL]
   refine wpAnyH_done (by kernel_rfl) ?_ _
   clear hS
   obtain⟨q0,z0⟩:=B2.out.at_ (k:=0) rfl
   have eS:=setCell_self B2.out (i:=0) (v:=.int .i64 0) rfl
   go_wp2_with fail
   refine leaves_cons (f:=72) (args:=#[.pointer (some ⟨W.heap.size,0,none⟩)]) (by simp) (by simp [go_sem]) ?_
   refine (catch_idle ⟨W.heap.size,0,none⟩ _).mono ?_
   rintro e u' w'' ⟨rfl,rfl,rfl⟩
   try rw [eS]
   simp [Leaves,settle,results,Tryz.results42,go_sem,q0]
   exact⟨K2.out,q2⟩
theorem try_no (eg:∀ args w,(callFunc F args).run Tryz.prog w=.ok (.enter F args) w) (h:TS x W T E cl mx tb ev) (hc:cl[x.who.toNat]?=some c) (hk:k<19) (he:plc k=(x.k,c.pc,F)) (hq:∀ W',Gr W W'->Calls Tryz.prog F #[.pointer (some ⟨x.b,0,none⟩)] W' λ e w'=>e=.panicked (pan y)/\Kx x W' w') :
 Calls Tryz.prog 42 #[.pointer (some ⟨x.b,0,none⟩)] W λ e W'=>e=.returned (.int .i64 y)/\Kx x W W':=by
 have hmf:=mkF
 have HQ:=hid hq
 have H:=hid h
 have hb1:=h.t.lt
 have hb2:=h.c.lt
 have hb3:=h.m.lt
 have hl:=λ W m (hK:KMap W m)=>run_steps_at hK hk
 rw [he] at hl
 dsimp only at hl
 have h1:=h.gr ((Gr.refl W).al (.cells #[.int .i64 0] 27))
 obtain⟨-,-,-,-,-,-,-,c7,c8,-,-,-⟩:=h1.cells
 obtain⟨-,-,-,s3,-,-,-,-,-,-,-,-,-,-⟩:=h1.cl_ hc
 clear h hq h1
 go_enter_defers Tryz.func42,Tryz.ntmps42
 go_upto_region 2 with fail
 refine wp_region_held_drew (S:=(λ w'=>w'.cell? ⟨x.b,8,none⟩=some (.int .i64 x.k)/\w'.cell? ⟨x.b,7,none⟩=some (.pointer (some ⟨x.bc,x.oc+x.who.toNat*13,none⟩)))) (by kernel_rfl) ⟨c8,c7⟩ (λ hS=>?_)
 refine wG 1 hS ?_ (hQ:=(λ _ _ _ h=>try_put (s:=5) (by decide) h))
 refine wG 2 hS ?_ (hQ:=(λ _ _ _ h=>try_put (s:=6) (by decide) h))
 refine wG 3 hS ?_ (hQ:=(λ _ _ _ h=>try_put (s:=7) (by decide) h))
 refine wG 4 hS ?_ (hQ:=(λ _ _ _ h=>try_put (s:=8) (by decide) h))
 refine wG 5 hS ?_ (hQ:=(λ _ _ _ h=>try_put (s:=9) (by decide) h))
 refine wG 6 hS ?_ (hQ:=(λ _ _ _ h=>try_put (s:=10) (by decide) h))
 refine wG 7 hS ?_ (hQ:=(λ _ _ _ h=>try_put (s:=11) (by decide) h))
 refine wG 8 hS ?_ (hQ:=(λ _ _ _ h=>try_put (s:=12) (by decide) h))
 refine wG 9 hS ?_ (hQ:=(λ _ _ _ h=>try_put (s:=13) (by decide) h))
 refine wG 10 hS ?_ (hQ:=(λ _ _ _ h=>try_put (s:=14) (by decide) h))
 refine wG 11 hS ?_ (hQ:=(λ _ _ _ h=>try_put (s:=15) (by decide) h))
 refine wG 15 hS ?_ (hQ:=(λ _ _ _ h=>try_put (s:=19) (by decide) h))
 refine wR2 0 12 (λ K hK=>?_) (λ K hK=>?_)
 . skip
   go_simp;go_at_call 73;with_reducible refine (steps_is _).mono ?_;rintro ee w1 ⟨⟨m,rfl,k1⟩,g1⟩;go_wp2_with fail
   have G1:=hid (((Gr.refl W).al (.cells #[.int .i64 0] 27)).dr.trans g1)
   have B1:=hid (((Blk.new W #[.int .i64 0] 27).gr (Gr.refl _).dr).gr g1)
   have h2:=H.out.gr G1.out
   obtain⟨-,-,-,-,-,-,-,d7,d8,-,-,-⟩:=h2.cells
   obtain⟨-,-,-,t3,-,-,-,-,-,-,-,-,-,-⟩:=h2.cl_ hc
   have L1:=hl _ _ k1
   have Q1:=hid (HQ.out _ G1.out)
   clear h2 g1
   refine hK.out _ _ ⟨d8,d7⟩ (λ hS=>?_)
   clear hK K
   try simp only [pL]
   refine wR1 12 (λ K hK=>?_)
   go_simp
   refine hK.out _ _ ⟨d8,d7⟩ (λ hS=>?_)
   clear hK K
   try simp only [pL]
   refine wG 13 hS ?_ (hQ:=(λ _ _ _ h=>try_put (s:=17) (by decide) h))
   refine wR1 14 (λ K hK=>?_)
   go_simp
   refine hK.out _ _ ⟨d8,d7⟩ (λ hS=>?_)
   clear hK K
   try simp only [pL]
   refine wR1 16 (λ K hK=>?_)
   go_simp;with_reducible refine Q1.out.mono ?_
   rintro ee w2 ⟨rfl,k2⟩;go_wp2_with fail
   have K2:=hid ((Kx.gr G1.out).trans k2)
   have B2:=hid (show Blk w2 W.heap.size #[.int .i64 0] 27 from by unfold Blk;rw [k2.block _ B1.out.lt (by omega) (by omega) (by omega)];exact B1.out)
   obtain⟨q0,z0⟩:=B2.out.at_ (k:=0) rfl
   obtain⟨q1,z1⟩:=(B2.out.set 0 (.int .i64 y)).at_ (k:=0) (v:=.int .i64 y) rfl
   refine leaves_cons (f:=72) (args:=#[.pointer (some ⟨W.heap.size,0,none⟩)]) (by simp) (by simp [go_sem]) ?_
   refine (catch_up ⟨W.heap.size,0,none⟩ y 0 _ q0 z0).mono ?_
   rintro e u' w'' ⟨rfl,rfl,rfl⟩
   simp [Leaves,settle,results,Tryz.results42,go_sem,q1]
   exact K2.out.fresh (Nat.le_refl _) _
 . skip
   go_simp
   refine hK.out _ _ ⟨c8,c7⟩ (λ hS=>?_)
   clear hK K
   try simp only [pL]
   refine wG 13 hS ?_ (hQ:=(λ _ _ _ h=>try_put (s:=17) (by decide) h))
   refine wR1 0 (λ K hK=>?_)
   go_simp;go_at_call 73;with_reducible refine (steps_is _).mono ?_;rintro ee w1 ⟨⟨m,rfl,k1⟩,g1⟩;go_wp2_with fail
   have G1:=hid (((Gr.refl W).al (.cells #[.int .i64 0] 27)).dr.trans g1)
   have B1:=hid (((Blk.new W #[.int .i64 0] 27).gr (Gr.refl _).dr).gr g1)
   have h2:=H.out.gr G1.out
   obtain⟨-,-,-,-,-,-,-,d7,d8,-,-,-⟩:=h2.cells
   obtain⟨-,-,-,t3,-,-,-,-,-,-,-,-,-,-⟩:=h2.cl_ hc
   have L1:=hl _ _ k1
   have Q1:=hid (HQ.out _ G1.out)
   clear h2 g1
   refine hK.out _ _ ⟨d8,d7⟩ (λ hS=>?_)
   clear hK K
   try simp only [pL]
   refine wR1 14 (λ K hK=>?_)
   go_simp
   refine hK.out _ _ ⟨d8,d7⟩ (λ hS=>?_)
   clear hK K
   try simp only [pL]
   refine wR1 16 (λ K hK=>?_)
   go_simp;with_reducible refine Q1.out.mono ?_
   rintro ee w2 ⟨rfl,k2⟩;go_wp2_with fail
   have K2:=hid ((Kx.gr G1.out).trans k2)
   have B2:=hid (show Blk w2 W.heap.size #[.int .i64 0] 27 from by unfold Blk;rw [k2.block _ B1.out.lt (by omega) (by omega) (by omega)];exact B1.out)
   obtain⟨q0,z0⟩:=B2.out.at_ (k:=0) rfl
   obtain⟨q1,z1⟩:=(B2.out.set 0 (.int .i64 y)).at_ (k:=0) (v:=.int .i64 y) rfl
   refine leaves_cons (f:=72) (args:=#[.pointer (some ⟨W.heap.size,0,none⟩)]) (by simp) (by simp [go_sem]) ?_
   refine (catch_up ⟨W.heap.size,0,none⟩ y 0 _ q0 z0).mono ?_
   rintro e u' w'' ⟨rfl,rfl,rfl⟩
   simp [Leaves,settle,results,Tryz.results42,go_sem,q1]
   exact K2.out.fresh (Nat.le_refl _) _
end
end P16
end
end Go.Proofs.YtainfijdhcehlaaGreatDoor
