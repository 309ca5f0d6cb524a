/-
  A part of the proof.
-/
import Derived.Test.YtainfijdhcehlaaGreatDoorQC9
import Derived.Maps.AppendAt
import Derived.Laws.Cover3
import Derived.Lib.AtoiAll
import Derived.Lib.CutLaws
set_option linter.unusedVariables false
set_option linter.unusedSimpArgs false
set_option maxRecDepth 100000
set_option maxHeartbeats 8000000
namespace Go.Proofs.YtainfijdhcehlaaGreatDoor
open Lib (hid)
open Go.Proofs.Tryz
open Go.ChangeAt Go.ChangeShapes Go.RowKit Go.Shelf Go.WideShapes
section
section
variable {P:Program} {ops:Array Oper} {Q:Exit->Act->World->Prop} {md:Region.Mode}
theorem ready_lt {L:Array Bool} {i:Nat} (h:i∈Region.ready md ops L):i<ops.size/\L.getD i true=false/\∀ o,ops[i]?=some o->∀ e∈o.after,Region.binds md e=true->L.getD e.on false=true:=by
 unfold Region.ready at h;simp only [List.mem_filter,List.mem_range,Bool.and_eq_true] at h;obtain⟨h1,h2,h3⟩:=h;refine⟨h1,by simpa using h2,λ o ho e he hb=>?_⟩;rw [ho] at h3;simp only [Option.map_some,Option.getD_some,Array.all_eq_true_iff_forall_mem] at h3;have:=h3 e he;simpa [hb] using this
theorem ready_nil {L:Array Bool} (hs:L.size=ops.size) (ho:∀ (i:Nat) (o:Oper),ops[i]?=some o->∀ e∈o.after,e.on<i) (h:Region.ready md ops L=[]):∀ i,i<ops.size->L.getD i false=true:=by
 intro i
 induction i using Nat.strongRecOn with
 | ind i ih =>
  intro hi;have e:ops[i]?=some ops[i]:=Array.getElem?_eq_getElem hi;by_cases hl:L.getD i true=true
  . rw [Array.getD_eq_getD_getElem?,Array.getElem?_eq_getElem (by omega)] at hl ⊢
    exact hl
  . exfalso
    have hm:i∈Region.ready md ops L:=by
     unfold Region.ready;simp only [List.mem_filter,List.mem_range,Bool.and_eq_true];refine⟨hi,by simpa using hl,?_⟩;rw [e];simp only [Option.map_some,Option.getD_some,Array.all_eq_true_iff_forall_mem];intro x hx;rw [ih x.on (ho i _ e x hx) (by have:=ho i _ e x hx;omega)];simp
    rw [h] at hm;cases hm
def cntF (L:Array Bool):Nat:=L.toList.countP (λ b=>!b)
theorem cntF_set {L:Array Bool} {i:Nat} (h:L.getD i true=false):cntF (L.setIfInBounds i true)+1=cntF L:=by
 obtain⟨l⟩:=L;unfold cntF;simp only [List.setIfInBounds_toArray];rw [Array.getD_eq_getD_getElem?,List.getElem?_toArray] at h
 induction l generalizing i with
 | nil=>simp at h
 | cons b r ih =>
  cases i with
  | zero =>
   have hb:b=false:=by simpa using h
   subst hb;simp
  | succ i =>
   have:=ih (i:=i) (by simpa using h);simp only [List.set_cons_succ,List.countP_cons];omega
theorem wpAny_inv (I:Array Bool->Act->World->Prop) (hs:∀ L a w,I L a w->L.size=ops.size) (h0:∀ L a w,I L a w->Region.ready md ops L=[]->Q .normal a w)
 (h1:∀ L a w,I L a w->∀ i∈Region.ready md ops L,wpOp P ops Q i (I (L.setIfInBounds i true)) a w) :
 ∀ fuel L a w,I L a w->cntF L<=fuel->wpAny P md ops Q fuel L a w:=by
 intro fuel
 induction fuel with
 | zero =>
  intro L a w h hc;have hr:Region.ready md ops L=[]:=by
   apply List.eq_nil_iff_forall_not_mem.2;intro i hi;have:=cntF_set (ready_lt hi).2.1;omega
  exact⟨hr,h0 L a w h hr⟩
 | succ fuel ih =>
  intro L a w h hc;refine⟨h0 L a w h,λ i hi=>?_⟩;have hcs:=cntF_set (ready_lt hi).2.1;exact wpOp_mono (λ a w q=>ih _ _ _ q (by omega)) (h1 L a w h i hi)
theorem wpOp_value {i:Nat} {o:Oper} {K:Act->World->Prop} {a:Act} {w w':World} {v:Value} (ho:ops[i]?=some o) (hg:o.guard=none) (hr:(execOp a.eval o).run P w=.ok (.value v) w') (hK:K (a.put o.dst v) w'):wpOp P ops Q i K a w :=
 wpOp_step ho λ K' hK'=>by
  rw [if_pos (by unfold Region.wanted;rw [hg])];unfold Oper.wp;rw [hr];exact hK' _ _ hK
theorem wpOp_skip' {i:Nat} {o:Oper} {K:Act->World->Prop} {a:Act} {w w':World} (ho:ops[i]?=some o) (hg:o.guard=none) (hr:(execOp a.eval o).run P w=.ok .skip w') (hK:K (a.put o.dst undef) w'):wpOp P ops Q i K a w :=
 wpOp_step ho λ K' hK'=>by
  rw [if_pos (by unfold Region.wanted;rw [hg])];unfold Oper.wp;rw [hr];exact hK' _ _ hK
end
namespace P16
def places:List (Int×Int×Nat) :=
 [(3,0,98),(0,0,99),(0,1,100),(0,2,101),(0,3,102),(0,4,103),(0,5,104),(0,6,105),(0,7,106),(0,8,107),(1,0,108),(1,9,109),(2,0,110),(2,10,111),(2,11,112),(2,12,102),(2,13,103),(2,14,113),(2,15,114)]
def plc (k:Nat):Int×Int×Nat:=places.getD k (0,0,0)
abbrev pv (a b:Int):Value:=.agg #[.int .i64 a,.int .i64 b]
abbrev fv (F:Nat):Value:=.func (.func F) #[] #[]
theorem plc_inj:∀ i,i<19->∀ j,j<19->(plc i).1=(plc j).1->(plc i).2.1=(plc j).2.1->i=j:=by decide
def ent (k i:Nat):MapEntry:={ key:=pv (plc k).1 (plc k).2.1,val:=fv (plc k).2.2,born:=i }
def ents:List Nat->Nat->List MapEntry
 | [],_=>[]
 | k::r,i=>ent k i::ents r (i+1)
theorem ents_one:∀ (l:List Nat) (k i:Nat),ents (l++[k]) i=ents l i++[ent k (i+l.length)]
 | [],k,i=>rfl
 | x::r,k,i=>by
  show ent x i::ents (r++[k]) (i+1)=ent x i::(ents r (i+1)++[ent k (i+(r.length+1))]);rw [ents_one r k (i+1),show i+1+r.length=i+(r.length+1) from by omega]
theorem check_place (em:Bool) (a b:Int) (w:World):(Instr.checkKey em 10000 135 (pv a b)).run prog w=.ok () w:=by kernel_rfl
theorem equal_place (a b c d:Int) (w:World):(Op.equal 135 (pv a b) (pv c d)).run prog w=.ok (a==c&&b==d) w:=by
 have hu:=run_underlying (P:=prog) underlying135;unfold Op.equal Op.maxDepth;rcases h1:(a==c) with _ | _<;>rcases h2:(b==d) with _ | _<;>go_simp
theorem zero_step (w:World):(zeroValue 131).run prog w=.ok .nilFunc w:=by kernel_rfl
theorem now_place (a b:Int) (e:MapEntry) (es:List MapEntry) (w:World):(Instr.findKey 135 (pv a b) (e::es)).run prog w=(Instr.findAsking 135 (pv a b) (e::es)).run prog w:=by kernel_rfl
theorem now_nil (a b:Int) (w:World):(Instr.findKey 135 (pv a b) []).run prog w=.ok none w:=by kernel_rfl
theorem build_place (a b:Int) (w:World):(Instr.build 135 #[(0,.int .i64 a),(1,.int .i64 b)]).run prog w=.ok (pv a b) w:=by kernel_rfl
def fnd (a b:Int):List Nat->Nat->Option (Nat×Value)
 | [],_=>none
 | k::r,j=>if (a==(plc k).1&&b==(plc k).2.1)=true then some (j,fv (plc k).2.2) else fnd a b r (j+1)
theorem ask_run (a b:Int):∀ (l:List Nat) (i j:Nat) (w:World),(Instr.findAsking 135 (pv a b) (ents l i) j).run prog w=.ok (fnd a b l j) w
 | [],i,j,w=>rfl
 | k::r,i,j,w=>by
  show (Instr.findAsking 135 (pv a b) (ent k i::ents r (i+1)) j).run prog w=_;rw [Instr.findAsking];have he:(Op.equal 135 (pv a b) (ent k i).key).run prog w=.ok (a==(plc k).1&&b==(plc k).2.1) w:=equal_place a b _ _ w;unfold fnd;rcases hb:(a==(plc k).1&&b==(plc k).2.1) with _ | _
  . rw [hb] at he
    simp [he,ask_run a b r (i+1) (j+1) w]
  . rw [hb] at he
    simp [he];rfl
theorem find_run (a b:Int) (l:List Nat) (i:Nat) (w:World):(Instr.findKey 135 (pv a b) (ents l i)).run prog w=.ok (fnd a b l 0) w:=by
 cases l with
 | nil=>exact now_nil a b w
 | cons k r=>exact (now_place a b _ _ w).trans (ask_run a b (k::r) i 0 w)
theorem fnd_no {a b:Int}:∀ (l:List Nat) (j:Nat),(∀ k∈l,¬ (a=(plc k).1/\b=(plc k).2.1))->fnd a b l j=none
 | [],j,h=>rfl
 | k::r,j,h=>by
  unfold fnd;rw [if_neg (by simpa using h k (List.mem_cons_self ..))];exact fnd_no r _ λ x hx=>h x (List.mem_cons_of_mem _ hx)
theorem fnd_yes {k:Nat} (hk:k<19):∀ (l:List Nat) (j:Nat),(∀ x∈l,x<19)->k∈l->∃ i,fnd (plc k).1 (plc k).2.1 l j=some (i,fv (plc k).2.2)
 | [],j,h,hm=>by cases hm
 | y::r,j,h,hm=>by
  unfold fnd;by_cases hy:((plc k).1==(plc y).1&&(plc k).2.1==(plc y).2.1)=true
  . rw [if_pos hy]
    have:(plc k).1=(plc y).1/\(plc k).2.1=(plc y).2.1:=by simpa using hy
    obtain rfl:=plc_inj k hk y (h y (List.mem_cons_self ..)) this.1 this.2;exact⟨j,rfl⟩
  . rw [if_neg hy]
    rcases List.mem_cons.1 hm with rfl | hm
    . simp at hy
    . exact fnd_yes hk r _ (λ x hx=>h x (List.mem_cons_of_mem _ hx)) hm
def KMap (w:World) (m:Nat):Prop:=∃ l:List Nat,(∀ k,k∈l↔k<19)/\w.heap[m]?=some (.map (ents l 0).toArray l.length)
theorem KMap.gr {w w':World} {m:Nat} (h:KMap w m) (g:Gr w w'):KMap w' m:=by
 obtain⟨l,h1,h2⟩:=h;have:m<w.heap.size:=(zal h2);exact⟨l,h1,by rw [g.block m this];exact h2⟩
theorem run_steps_at {w:World} {m k:Nat} (h:KMap w m) (hk:k<19):(Instr.lookup 132 (.map (some m)) (pv (plc k).1 (plc k).2.1) false).run prog w=.ok (fv (plc k).2.2) w:=by
 obtain⟨l,h1,h2⟩:=h;obtain⟨i,hi⟩:=fnd_yes hk l 0 (λ x hx=>(h1 x).1 hx) ((h1 k).2 hk);have hf:=find_run (plc k).1 (plc k).2.1 l 0 w;rw [hi] at hf;simp [Instr.lookup,run_underlying underlying132,MapKept.run_getObj_map h2,check_place,hf]
theorem run_steps_ok {w:World} {m k:Nat} (h:KMap w m) (hk:k<19):(Instr.lookup 132 (.map (some m)) (pv (plc k).1 (plc k).2.1) true).run prog w=.ok (.tuple #[fv (plc k).2.2,.bool true]) w:=by
 obtain⟨l,h1,h2⟩:=h;obtain⟨i,hi⟩:=fnd_yes hk l 0 (λ x hx=>(h1 x).1 hx) ((h1 k).2 hk);have hf:=find_run (plc k).1 (plc k).2.1 l 0 w;rw [hi] at hf;simp [Instr.lookup,run_underlying underlying132,MapKept.run_getObj_map h2,check_place,hf]
theorem run_steps_no {w:World} {m:Nat} (h:KMap w m) {a b:Int} (hn:∀ k,k<19->¬ (a=(plc k).1/\b=(plc k).2.1)):(Instr.lookup 132 (.map (some m)) (pv a b) true).run prog w=.ok (.tuple #[.nilFunc,.bool false]) w:=by
 obtain⟨l,h1,h2⟩:=h;have hi:=fnd_no (a:=a) (b:=b) l 0 λ k hk=>hn k ((h1 k).1 hk)
 have hf:=find_run a b l 0 w;rw [hi] at hf;simp [Instr.lookup,run_underlying underlying132,MapKept.run_getObj_map h2,check_place,hf,zero_step]
theorem run_put (w:World) (l:List Nat) (k:Nat) (hl:∀ x∈l,x<19) (hk:k<19) (hn:k ∉ l) :
 (Instr.mapUpdate 132 (.map (some w.heap.size)) (pv (plc k).1 (plc k).2.1) (fv (plc k).2.2)).run prog (w.alloc (.map (ents l 0).toArray l.length))=.ok () (w.alloc (.map (ents (l++[k]) 0).toArray (l++[k]).length)):=by
 have h:(w.alloc (.map (ents l 0).toArray l.length)).heap[w.heap.size]?=some (.map (ents l 0).toArray l.length):=heap_alloc_new w _;have hf:=find_run (plc k).1 (plc k).2.1 l 0 (w.alloc (.map (ents l 0).toArray l.length));rw [fnd_no l 0 λ x hx q=>hn (by rw [plc_inj k hk x (hl x hx) q.1 q.2];exact hx)] at hf;have hw:({ w.alloc (.map (ents l 0).toArray l.length) with heap:=(w.alloc (.map (ents l 0).toArray l.length)).heap.setIfInBounds w.heap.size (Obj.map (ents (l++[k]) 0).toArray (l++[k]).length) }:World)=w.alloc (.map (ents (l++[k]) 0).toArray (l++[k]).length):=by
  show ({ w with heap:=(w.heap.push (Obj.map (ents l 0).toArray l.length)).setIfInBounds w.heap.size (Obj.map (ents (l++[k]) 0).toArray (l++[k]).length) }:World)={ w with heap:=w.heap.push (Obj.map (ents (l++[k]) 0).toArray (l++[k]).length) };congr 1;apply Array.ext_getElem?;intro i;rw [Array.getElem?_setIfInBounds,Array.getElem?_push,Array.getElem?_push,Array.size_push];by_cases hi:i=w.heap.size
  . subst hi;simp
  . rw [if_neg (Ne.symm hi),if_neg hi,if_neg hi]
 have he:(ents l 0).toArray.push { key:=pv (plc k).1 (plc k).2.1,val:=fv (plc k).2.2,born:=l.length }=(ents (l++[k]) 0).toArray:=by
  rw [ents_one];simp [ent]
 rw [<- hw];generalize w.alloc (.map (ents l 0).toArray l.length)=W at *;clear hw;generalize w.heap.size=r at *;simp [Instr.mapUpdate,run_underlying underlying132,MapKept.run_getObj_map h,check_place,hf,MapKept.run_setObj_map _ h,he]
structure Put (w0:World) (L:Array Bool) (a:Act) (w:World):Prop where
 sz:L.size=41
 ts:a.tmps.size=22
 df:a.defers=[]
 b:∀ k,k<19->L.getD (2*k+1) false=true->a.tmps[k+2]?=some (pv (plc k).1 (plc k).2.1)
 no:L.getD 0 false=false->w=w0/\∀ k,k<19->L.getD (2*k+2) false=false
 is:L.getD 0 false=true->a.tmps[1]?=some (.map (some w0.heap.size))/\∃ l:List Nat,(∀ k,k∈l↔k<19/\L.getD (2*k+2) false=true)/\w=w0.alloc (.map (ents l 0).toArray l.length)
 mv:L.getD 39 false=true->a.tmps[21]?=some (.map (some w0.heap.size))
 an:L.getD 40 false=true->a.tmps[0]?=some (.map (some w0.heap.size))
section
variable {w0 w:World} {L:Array Bool} {a:Act}
theorem getD_set {L:Array Bool} {i j:Nat} (hi:i<L.size):(L.setIfInBounds i true).getD j false=if i=j then true else L.getD j false:=by
 rw [Array.getD_eq_getD_getElem?,Array.getD_eq_getD_getElem?,Array.getElem?_setIfInBounds];by_cases h:i=j
 . rw [if_pos h,if_pos h,if_pos hi];rfl
 . rw [if_neg h,if_neg h]
theorem put_tmp (a:Act) {d j:Nat} (v:Value) (h:d≠j):(a.put (some d) v).tmps[j]?=a.tmps[j]?:=by
 show (a.tmps.setIfInBounds d v)[j]?=_;rw [Array.getElem?_setIfInBounds,if_neg h]
theorem put_new (a:Act) {d:Nat} (v:Value) (h:d<a.tmps.size):(a.put (some d) v).tmps[d]?=some v:=by
 show (a.tmps.setIfInBounds d v)[d]?=_;rw [Array.getElem?_setIfInBounds,if_pos rfl,if_pos h]
theorem put_size (a:Act) (d:Option Nat) (v:Value):(a.put d v).tmps.size=a.tmps.size:=by
 cases d with
 | none=>rfl
 | some d=>show (a.tmps.setIfInBounds d v).size=_;rw [Array.size_setIfInBounds]
theorem put_defers (a:Act) (d:Option Nat) (v:Value):(a.put d v).defers=a.defers:=by cases d<;>rfl
theorem false_of {i:Nat} (h:L.getD i true=false):L.getD i false=false:=by
 rw [Array.getD_eq_getD_getElem?] at *
 cases q:L[i]? with
 | none=>rfl
 | some b=>rw [q] at h;exact h
theorem Put.made (h:Put w0 L a w) (h0:L.getD 0 true=false):Put w0 (L.setIfInBounds 0 true) (a.put (some 1) (.map (some w.heap.size))) (w.alloc (.map #[] 0)):=by
 have hs:=h.sz;have ht:=h.ts;have f0:=false_of h0;obtain⟨rfl,hn⟩:=h.no f0;refine⟨by rw [Array.size_setIfInBounds];exact hs,by rw [put_size];exact ht,by rw [put_defers];exact h.df,λ k hk hL=>?_,λ q=>?_,λ _=>⟨put_new _ _ (by omega),[],λ k=>?_,rfl⟩,λ q=>?_,λ q=>?_⟩
 . rw [getD_set (by omega),if_neg (by omega)] at hL
   rw [put_tmp _ _ (by omega)];exact h.b k hk hL
 . rw [getD_set (by omega),if_pos rfl] at q;cases q
 . rw [getD_set (by omega),if_neg (by omega)]
   constructor
   . intro q;cases q
   . intro q;rw [hn k q.1] at q;exact absurd q.2 (by simp)
 . rw [getD_set (by omega),if_neg (by omega)] at q
   rw [put_tmp _ _ (by omega)];exact h.mv q
 . rw [getD_set (by omega),if_neg (by omega)] at q
   rw [put_tmp _ _ (by omega)];exact h.an q
theorem Put.key (h:Put w0 L a w) {k:Nat} (hk:k<19):Put w0 (L.setIfInBounds (2*k+1) true) (a.put (some (k+2)) (pv (plc k).1 (plc k).2.1)) w:=by
 have hs:=h.sz;have ht:=h.ts;refine⟨by rw [Array.size_setIfInBounds];exact hs,by rw [put_size];exact ht,by rw [put_defers];exact h.df,λ j hj hL=>?_,λ q=>?_,λ q=>?_,λ q=>?_,λ q=>?_⟩
 . by_cases e:k=j
   . subst e;exact put_new _ _ (by omega)
   . rw [getD_set (by omega),if_neg (by omega)] at hL
     rw [put_tmp _ _ (by omega)];exact h.b j hj hL
 . rw [getD_set (by omega),if_neg (by omega)] at q
   refine⟨(h.no q).1,λ j hj=>?_⟩;rw [getD_set (by omega),if_neg (by omega)];exact (h.no q).2 j hj
 . rw [getD_set (by omega),if_neg (by omega)] at q
   obtain⟨q1,l,q2,q3⟩:=h.is q;refine⟨by rw [put_tmp _ _ (by omega)];exact q1,l,λ j=>?_,q3⟩;rw [getD_set (by omega),if_neg (by omega)];exact q2 j
 . rw [getD_set (by omega),if_neg (by omega)] at q
   rw [put_tmp _ _ (by omega)];exact h.mv q
 . rw [getD_set (by omega),if_neg (by omega)] at q
   rw [put_tmp _ _ (by omega)];exact h.an q
theorem Put.entry (h:Put w0 L a w) {k:Nat} (hk:k<19) (h0:L.getD 0 false=true) (hn:L.getD (2*k+2) false=false) :
 ∃ w',(Instr.mapUpdate 132 (.map (some w0.heap.size)) (pv (plc k).1 (plc k).2.1) (fv (plc k).2.2)).run prog w=.ok () w'/\Put w0 (L.setIfInBounds (2*k+2) true) (a.put none undef) w':=by
 have hs:=h.sz;obtain⟨q1,l,q2,rfl⟩:=h.is h0;have hkl:k ∉ l:=λ q=>by have:=(q2 k).1 q;rw [hn] at this;exact absurd this.2 (by simp)
 refine⟨_,run_put w0 l k (λ x hx=>((q2 x).1 hx).1) hk hkl,by rw [Array.size_setIfInBounds];exact hs,h.ts,h.df,λ j hj hL=>?_,λ q=>?_,λ q=>⟨q1,l++[k],λ j=>?_,rfl⟩,λ q=>?_,λ q=>?_⟩
 . rw [getD_set (by omega),if_neg (by omega)] at hL
   exact h.b j hj hL
 . rw [getD_set (by omega),if_neg (by omega),h0] at q;cases q
 . rw [getD_set (by omega),List.mem_append,q2 j]
   by_cases e:2*k+2=2*j+2
   . obtain rfl:k=j:=by omega
     rw [if_pos rfl];simp [hk]
   . rw [if_neg e]
     have hne:j≠k:=by omega
     simp [hne]
 . rw [getD_set (by omega),if_neg (by omega)] at q;exact h.mv q
 . rw [getD_set (by omega),if_neg (by omega)] at q;exact h.an q
theorem Put.moved (h:Put w0 L a w):Put w0 (L.setIfInBounds 39 true) (a.put (some 21) (.map (some w0.heap.size))) w:=by
 have hs:=h.sz;have ht:=h.ts;refine⟨by rw [Array.size_setIfInBounds];exact hs,by rw [put_size];exact ht,by rw [put_defers];exact h.df,λ j hj hL=>?_,λ q=>?_,λ q=>?_,λ q=>put_new _ _ (by omega),λ q=>?_⟩
 . rw [getD_set (by omega),if_neg (by omega)] at hL
   rw [put_tmp _ _ (by omega)];exact h.b j hj hL
 . rw [getD_set (by omega),if_neg (by omega)] at q
   refine⟨(h.no q).1,λ j hj=>?_⟩;rw [getD_set (by omega),if_neg (by omega)];exact (h.no q).2 j hj
 . rw [getD_set (by omega),if_neg (by omega)] at q
   obtain⟨q1,l,q2,q3⟩:=h.is q;refine⟨by rw [put_tmp _ _ (by omega)];exact q1,l,λ j=>?_,q3⟩;rw [getD_set (by omega),if_neg (by omega)];exact q2 j
 . rw [getD_set (by omega),if_neg (by omega)] at q
   rw [put_tmp _ _ (by omega)];exact h.an q
theorem Put.told (h:Put w0 L a w):Put w0 (L.setIfInBounds 40 true) (a.put (some 0) (.map (some w0.heap.size))) w:=by
 have hs:=h.sz;have ht:=h.ts;refine⟨by rw [Array.size_setIfInBounds];exact hs,by rw [put_size];exact ht,by rw [put_defers];exact h.df,λ j hj hL=>?_,λ q=>?_,λ q=>?_,λ q=>?_,λ q=>put_new a (d:=0) _ (by rw [ht];decide)⟩
 . rw [getD_set (by omega),if_neg (by omega)] at hL
   rw [put_tmp _ _ (by omega)];exact h.b j hj hL
 . rw [getD_set (by omega),if_neg (by omega)] at q
   refine⟨(h.no q).1,λ j hj=>?_⟩;rw [getD_set (by omega),if_neg (by omega)];exact (h.no q).2 j hj
 . rw [getD_set (by omega),if_neg (by omega)] at q
   obtain⟨q1,l,q2,q3⟩:=h.is q;refine⟨by rw [put_tmp _ _ (by omega)];exact q1,l,λ j=>?_,q3⟩;by_cases hj:j<19
   . rw [getD_set (by omega),if_neg (by omega)];exact q2 j
   . exact⟨λ q=>absurd ((q2 j).1 q).1 hj,λ q=>absurd q.1 hj⟩
 . rw [getD_set (by omega),if_neg (by omega)] at q
   rw [put_tmp _ _ (by decide)];exact h.mv q
end
structure StepsOps (ops:Array Oper):Prop where
 sz:ops.size=41
 o0:∃ o,ops[0]?=some o/\o.dst=some 1/\o.op=.makeMap 132 none/\o.guard=none/\o.after=#[]
 ob:∀ k,k<19->∃ o,ops[2*k+1]?=some o/\o.dst=some (k+2)/\o.op=.build 135 #[(0,.const (.int .i64 (plc k).1)),(1,.const (.int .i64 (plc k).2.1))]/\o.guard=none/\o.after=#[]
 oi:∀ k,k<19->∃ o,ops[2*k+2]?=some o/\o.dst=none/\o.op=.insert 132 (.tmp 1) (.tmp (k+2)) (.func (plc k).2.2)/\o.guard=none/\o.after=#[{ on:=0,ground:=.data },{ on:=2*k+1,ground:=.data }]
 om:∃ o,ops[39]?=some o/\o.dst=some 21/\o.op=.move (.tmp 1)/\o.guard=none/\{ on:=0,ground:=.data }∈o.after/\∀ e∈o.after,e.on<39
 oa:∃ o,ops[40]?=some o/\o.dst=some 0/\o.op=.assign (.tmp 21)/\o.guard=none/\{ on:=39,ground:=.data }∈o.after/\∀ e∈o.after,e.on<40
section
variable {ops:Array Oper} {Q:Exit->Act->World->Prop} {w0 w:World} {L:Array Bool} {a:Act}
theorem eval_tmp {a:Act} {t:Nat} {v:Value} (h:a.tmps[t]?=some v):a.eval (.tmp t)=v:=by
 show a.tmps.getD t undef=v;rw [Array.getD_eq_getD_getElem?,h];rfl
theorem StepsOps.early (h:StepsOps ops):∀ (i:Nat) (o:Oper),ops[i]?=some o->∀ e∈o.after,e.on<i:=by
 intro i o ho e he;have hi:=(zal ho);rw [h.sz] at hi;have hc:i=0\/(∃ k,k<19/\i=2*k+1)\/(∃ k,k<19/\i=2*k+2)\/i=39\/i=40:=by
  by_cases h0:i=0
  . exact .inl h0
  . by_cases h39:i<39
    . rcases Nat.mod_two_eq_zero_or_one i with q | q
      . exact .inr (.inr (.inl ⟨i / 2-1,by omega,by omega⟩))
      . exact .inr (.inl ⟨i / 2,by omega,by omega⟩)
    . omega
 rcases hc with rfl | ⟨k,hk,rfl⟩ | ⟨k,hk,rfl⟩ | rfl | rfl
 . obtain⟨o',h1,_,_,_,h5⟩:=h.o0
   rw [ho] at h1;cases h1;rw [h5] at he;simp at he
 . obtain⟨o',h1,_,_,_,h5⟩:=h.ob k hk
   rw [ho] at h1;cases h1;rw [h5] at he;simp at he
 . obtain⟨o',h1,_,_,_,h5⟩:=h.oi k hk
   rw [ho] at h1;cases h1;rw [h5] at he;simp at he;rcases he with rfl | rfl<;>simp
 . obtain⟨o',h1,_,_,_,_,h5⟩:=h.om
   rw [ho] at h1;cases h1;exact h5 e he
 . obtain⟨o',h1,_,_,_,_,h5⟩:=h.oa
   rw [ho] at h1;cases h1;exact h5 e he
theorem StepsOps.step (h:StepsOps ops) (hp:Put w0 L a w) {i:Nat} (hi:i∈Region.ready .any ops L):wpOp prog ops Q i (Put w0 (L.setIfInBounds i true)) a w:=by
 obtain⟨hlt,hl,haf⟩:=ready_lt hi;rw [h.sz] at hlt;have hb:∀ n,Region.binds .any { on:=n,ground:=.data }=true:=λ n=>rfl
 have hc:i=0\/(∃ k,k<19/\i=2*k+1)\/(∃ k,k<19/\i=2*k+2)\/i=39\/i=40:=by
  by_cases h0:i=0
  . exact .inl h0
  . by_cases h39:i<39
    . rcases Nat.mod_two_eq_zero_or_one i with q | q
      . exact .inr (.inr (.inl ⟨i / 2-1,by omega,by omega⟩))
      . exact .inr (.inl ⟨i / 2,by omega,by omega⟩)
    . omega
 rcases hc with rfl | ⟨k,hk,rfl⟩ | ⟨k,hk,rfl⟩ | rfl | rfl
 . obtain⟨o,h1,h2,h3,h4,h5⟩:=h.o0
   refine wpOp_value h1 h4 (v:=.map (some w.heap.size)) (w':=w.alloc (.map #[] 0)) ?_ ?_
   . unfold execOp;rw [h3];rfl
   . rw [h2];exact hp.made hl
 . obtain⟨o,h1,h2,h3,h4,h5⟩:=h.ob k hk
   refine wpOp_value h1 h4 (v:=pv (plc k).1 (plc k).2.1) (w':=w) ?_ ?_
   . unfold execOp;rw [h3]
     have hb:=build_place (plc k).1 (plc k).2.1 w;simp [Act.eval,hb]
   . rw [h2];exact hp.key hk
 . obtain⟨o,h1,h2,h3,h4,h5⟩:=h.oi k hk
   have g0:=haf o h1 { on:=0,ground:=.data } (by rw [h5];simp) (hb _);have g1:=haf o h1 { on:=2*k+1,ground:=.data } (by rw [h5];simp) (hb _);obtain⟨w',r1,r2⟩:=hp.entry hk g0 (false_of hl);have e1:=eval_tmp (hp.is g0).1;have e2:=eval_tmp (hp.b k hk g1);refine wpOp_skip' h1 h4 (w':=w') ?_ ?_
   . unfold execOp;rw [h3]
     simp only [e1,e2];have e3:a.eval (.func (plc k).2.2)=fv (plc k).2.2:=rfl;rw [e3];simp [r1]
   . rw [h2];exact r2
 . obtain⟨o,h1,h2,h3,h4,h5,h6⟩:=h.om
   have g0:=haf o h1 { on:=0,ground:=.data } h5 (hb _);refine wpOp_value h1 h4 (v:=.map (some w0.heap.size)) (w':=w) ?_ ?_
   . unfold execOp;rw [h3]
     simp only [eval_tmp (hp.is g0).1];rfl
   . rw [h2];exact hp.moved
 . obtain⟨o,h1,h2,h3,h4,h5,h6⟩:=h.oa
   have g0:=haf o h1 { on:=39,ground:=.data } h5 (hb _);refine wpOp_value h1 h4 (v:=.map (some w0.heap.size)) (w':=w) ?_ ?_
   . unfold execOp;rw [h3]
     simp only [eval_tmp (hp.mv g0)];rfl
   . rw [h2];exact hp.told
theorem StepsOps.any (h:StepsOps ops) (w0:World) (a:Act) (ts:a.tmps.size=22) (df:a.defers=[])
 (hQ:∀ a' w',a'.tmps[0]?=some (.map (some w0.heap.size))->a'.tmps.size=22->a'.defers=[]->KMap w' w0.heap.size->Gr w0 w'->Q .normal a' w') :
 wpAny prog .any ops Q ops.size (Array.replicate ops.size false) a w0:=by
 have hz:∀ i:Nat,(Array.replicate ops.size false).getD i false=false:=λ i=>by
  rw [Array.getD_eq_getD_getElem?,Array.getElem?_replicate]
  split<;>rfl
 refine wpAny_inv (Put w0) (λ L a w hp=>by rw [hp.sz,h.sz]) (λ L a w hp hr=>?_) (λ L a w hp i hi=>h.step hp hi) _ _ _ _ ?_ ?_
 . have hall:=ready_nil (by rw [hp.sz,h.sz]) h.early hr
   rw [h.sz] at hall;obtain⟨_,l,q2,rfl⟩:=hp.is (hall 0 (by omega));refine hQ a _ (hp.an (hall 40 (by omega))) hp.ts hp.df ⟨l,λ k=>?_,heap_alloc_new w0 _⟩ ((zr w0).al _);rw [q2 k];exact⟨λ q=>q.1,λ q=>⟨q,hall _ (by omega)⟩⟩
 . refine⟨by simp [h.sz],ts,df,λ k hk q=>?_,λ _=>⟨rfl,λ k hk=>hz _⟩,λ q=>?_,λ q=>?_,λ q=>?_⟩<;>(rw [hz] at q;cases q)
 . unfold cntF
   rw [Array.toList_replicate];refine Nat.le_trans (List.countP_le_length ..) (by simp)
end
theorem steps_is (w:World):Calls prog 73 #[] w λ e w'=>(∃ m,e=.returned (.map (some m))/\KMap w' m)/\Gr w w':=by
 go_enter func73,ntmps73;go_wp2_with fail;rename_i K hK;refine wp_region_any (by rfl) (StepsOps.any ⟨rfl,⟨_,rfl,rfl,rfl,rfl,rfl⟩,?_,?_,⟨_,rfl,rfl,rfl,rfl,?_,?_⟩,⟨_,rfl,rfl,rfl,rfl,?_,?_⟩⟩ { w with drawn:=w.drawn+1 } _ rfl rfl ?_)
 . skip
   intro k hk
   match k,hk with
   | 0,_=>exact⟨_,rfl,rfl,rfl,rfl,rfl⟩
   | 1,_=>exact⟨_,rfl,rfl,rfl,rfl,rfl⟩
   | 2,_=>exact⟨_,rfl,rfl,rfl,rfl,rfl⟩
   | 3,_=>exact⟨_,rfl,rfl,rfl,rfl,rfl⟩
   | 4,_=>exact⟨_,rfl,rfl,rfl,rfl,rfl⟩
   | 5,_=>exact⟨_,rfl,rfl,rfl,rfl,rfl⟩
   | 6,_=>exact⟨_,rfl,rfl,rfl,rfl,rfl⟩
   | 7,_=>exact⟨_,rfl,rfl,rfl,rfl,rfl⟩
   | 8,_=>exact⟨_,rfl,rfl,rfl,rfl,rfl⟩
   | 9,_=>exact⟨_,rfl,rfl,rfl,rfl,rfl⟩
   | 10,_=>exact⟨_,rfl,rfl,rfl,rfl,rfl⟩
   | 11,_=>exact⟨_,rfl,rfl,rfl,rfl,rfl⟩
   | 12,_=>exact⟨_,rfl,rfl,rfl,rfl,rfl⟩
   | 13,_=>exact⟨_,rfl,rfl,rfl,rfl,rfl⟩
   | 14,_=>exact⟨_,rfl,rfl,rfl,rfl,rfl⟩
   | 15,_=>exact⟨_,rfl,rfl,rfl,rfl,rfl⟩
   | 16,_=>exact⟨_,rfl,rfl,rfl,rfl,rfl⟩
   | 17,_=>exact⟨_,rfl,rfl,rfl,rfl,rfl⟩
   | 18,_=>exact⟨_,rfl,rfl,rfl,rfl,rfl⟩
   | n+19,h=>exact absurd h (by omega)
 . skip
   intro k hk
   match k,hk with
   | 0,_=>exact⟨_,rfl,rfl,rfl,rfl,rfl⟩
   | 1,_=>exact⟨_,rfl,rfl,rfl,rfl,rfl⟩
   | 2,_=>exact⟨_,rfl,rfl,rfl,rfl,rfl⟩
   | 3,_=>exact⟨_,rfl,rfl,rfl,rfl,rfl⟩
   | 4,_=>exact⟨_,rfl,rfl,rfl,rfl,rfl⟩
   | 5,_=>exact⟨_,rfl,rfl,rfl,rfl,rfl⟩
   | 6,_=>exact⟨_,rfl,rfl,rfl,rfl,rfl⟩
   | 7,_=>exact⟨_,rfl,rfl,rfl,rfl,rfl⟩
   | 8,_=>exact⟨_,rfl,rfl,rfl,rfl,rfl⟩
   | 9,_=>exact⟨_,rfl,rfl,rfl,rfl,rfl⟩
   | 10,_=>exact⟨_,rfl,rfl,rfl,rfl,rfl⟩
   | 11,_=>exact⟨_,rfl,rfl,rfl,rfl,rfl⟩
   | 12,_=>exact⟨_,rfl,rfl,rfl,rfl,rfl⟩
   | 13,_=>exact⟨_,rfl,rfl,rfl,rfl,rfl⟩
   | 14,_=>exact⟨_,rfl,rfl,rfl,rfl,rfl⟩
   | 15,_=>exact⟨_,rfl,rfl,rfl,rfl,rfl⟩
   | 16,_=>exact⟨_,rfl,rfl,rfl,rfl,rfl⟩
   | 17,_=>exact⟨_,rfl,rfl,rfl,rfl,rfl⟩
   | 18,_=>exact⟨_,rfl,rfl,rfl,rfl,rfl⟩
   | n+19,h=>exact absurd h (by omega)
 . simp
 . decide
 . simp
 . decide
 . intro a' w' h1 h2 h3 h4 h5
   obtain⟨ts,ds⟩:=a';dsimp only at h1 h2 h3;subst h3;show K _ w';refine hK _ _ (wp_ret ?_);exact bodyPost_ret (v:=.map (some w.heap.size)) (by simp [results,results73,go_sem,h1]) rfl ⟨⟨_,rfl,h4⟩,(zr w).dr.trans h5⟩
end P16
end
section
namespace P16
open P14 (pan)
open P12 (PV PMem)
theorem as_errno (v:Value) (w:World):(Instr.typeAssert (.iface 27 v) 20 27 false).run prog w=.ok v w:=by kernel_rfl
theorem catch_up (p:Addr) (y x:Int) (w:World) (hc:w.cell? p=some (.int .i64 x)) (hz:w.frozen? p=false) :
 CallsD prog 72 #[.pointer (some p)] (.panicking (pan y)) w λ e u' w' =>
  e=.returned (.tuple #[])/\u'=.panicking [{ v:=.iface 27 (.int .i64 y),recovered:=true }]/\w'=w.setCell p (.int .i64 y):=by
 refine callsD_of_wpS func72 rfl λ c₀ cs hu=>?_
 apply wpS_seq;apply wpS_region;simp [wpOpsS,go_sem,recoverD,hu,ntmps72,Exit.thenS];apply wpS_seq;apply wpS_region;simp [wpOpsS,go_sem,recoverD,hu,Exit.thenS];refine wpS_cond (t:=true) (by simp [Act.eval,Array.replicate]) ?_;simp only [if_true];apply wpS_region;simp [wpOpsS,go_sem,as_errno,hc,hz,bodyPostS,results,results72]
theorem catch_idle (p:Addr) (w:World) :
 CallsD prog 72 #[.pointer (some p)] .returning w λ e u' w'=>e=.returned (.tuple #[])/\u'=.returning/\w'=w:=by
 refine callsD_of_wpS func72 rfl λ c₀ cs hu=>?_
 apply wpS_seq;apply wpS_region;simp [wpOpsS,go_sem,recoverD,hu,ntmps72,Exit.thenS];apply wpS_seq;apply wpS_region;simp [wpOpsS,go_sem,recoverD,hu,Exit.thenS];refine wpS_cond (t:=false) (by simp [Act.eval,Array.replicate]) ?_;simp only [Bool.false_eq_true,if_false];refine wpS_of_wp (wp_skip ?_);cases c₀
 simp_all [bodyPostS,results,results72]
theorem Kx.fresh {x:Cx} {W W':World} (h:Kx x W W') {p:Addr} (hp:W.heap.size<=p.block) (v:Value):Kx x W (W'.setCell p v) :=
 ⟨h.os,h.tape,h.output,by simp [World.setCell];exact h.size,λ k hk h1 h2 h3=>(Below.heap_setCell W' p v k (by omega)).trans (h.block k hk h1 h2 h3)⟩
theorem setCell_self {W:World} {b i:Nat} {vs:Array Value} {t:TypeId} {v:Value} (h:Blk W b vs t) (hi:vs[i]?=some v):W.setCell ⟨b,i,none⟩ v=W:=by
 have hb:=(zal h);have e2:vs.setIfInBounds i v=vs:=by
  apply Array.ext_getElem?;intro j;rw [Array.getElem?_setIfInBounds]
  split
  . rename_i q
    subst q
    split
    . exact hi.symm
    . rename_i q
      rw [Array.getElem?_eq_none (by omega)] at hi;cases hi
  . rfl
 have e3:(W.setCell ⟨b,i,none⟩ v).heap=W.heap:=by
  apply Array.ext_getElem?;intro j;by_cases q:j=b
  . subst q
    have h2:=h.set i v;rw [e2] at h2;unfold Blk at h h2;rw [h2,h]
  . exact Below.heap_setCell W ⟨b,i,none⟩ v j q
 show { W with heap:=(W.setCell ⟨b,i,none⟩ v).heap }=W;rw [e3]
theorem leaves_same {P:Program} {fn:Func} {t t':Array Value} {R:Ending->World->Prop} (h:results fn t=results fn t'):∀ (ds:List Deferred) (u:FrameMode) (w:World),Leaves P fn t R ds u w=Leaves P fn t' R ds u w
 | [],u,w=>by cases u<;>simp [Leaves,h]
 | d::ds,u,w=>by simp only [Leaves,leaves_same h ds]
theorem try_put {R:Ending->World->Prop} {c:List PanicEntry} {a:Act} {w:World} {s:Nat} {v:Value} (hs:s≠2) (h:bodyPostD prog Tryz.f42 R (.panic c) (a.put (some s) v) w):bodyPostD prog Tryz.f42 R (.panic c) a w:=by
 have e:results Tryz.f42 (a.put (some s) v).tmps=results Tryz.f42 a.tmps:=by
  simp [results,results42,Act.put,Array.getD_eq_getD_getElem?,Array.getElem?_setIfInBounds,hs]
 show Leaves _ _ _ _ _ _ _;have h:Leaves _ _ _ _ _ _ _:=h;rw [<- leaves_same e];exact h
section
variable {x:Cx} {W:World} {T E:Sl} {cl:List Cl} {mx:List T3} {tb:List Sp} {ev:List T3} {c:Cl} {a:T3} {pr:List Ac}variable {k F:Nat} {Q:World->Prop} {y:Int}
theorem try_ok (eg:∀ args w,(callFunc F args).run prog w=.ok (.enter F args) w) (h:TS x W T E cl mx tb ev) (hc:cl[x.who.toNat]?=some c) (hk:k<19) (he:plc k=(x.k,c.pc,F)) (hQ:∀ w,Q w->w.cell? ⟨x.b,8,none⟩=some (.int .i64 x.k)/\w.cell? ⟨x.b,7,none⟩=some (.pointer (some ⟨x.bc,x.oc+x.who.toNat*13,none⟩))) (hq:∀ W',Gr W W'->Calls prog F #[.pointer (some ⟨x.b,0,none⟩)] W' λ e w'=>e=.returned (.tuple #[])/\Kx x W' w'/\Q w') :
 Calls prog 42 #[.pointer (some ⟨x.b,0,none⟩)] W λ e W'=>e=.returned (.int .i64 0)/\Kx x W W'/\Q W':=by
 have hmf:=mkF;have HQ:=hid hq;have H:=hid h;have hb1:=h.t.lt;have hb2:=h.c.lt;have hb3:=h.m.lt;have hl:=λ W m (hK:KMap W m)=>run_steps_at hK hk
 rw [he] at hl;dsimp only at hl;have h1:=h.gr ((zr W).al (.cells #[.int .i64 0] 27));obtain⟨-,-,-,-,-,-,-,c7,c8,-,-,-⟩:=h1.cells;obtain⟨-,-,-,s3,-,-,-,-,-,-,-,-,-,-⟩:=h1.cl_ hc;clear h hq h1
 go_enter_defers func42,ntmps42
 go_upto_region 2 with fail;refine wp_region_held_drew (S:=(λ w'=>w'.cell? ⟨x.b,8,none⟩=some (.int .i64 x.k)/\w'.cell? ⟨x.b,7,none⟩=some (.pointer (some ⟨x.bc,x.oc+x.who.toNat*13,none⟩)))) (by kernel_rfl) ⟨c8,c7⟩ (λ hS=>?_);refine wG 1 hS ?_ (hQ:=(λ _ _ _ h=>try_put (s:=5) (by decide) h));refine wG 2 hS ?_ (hQ:=(λ _ _ _ h=>try_put (s:=6) (by decide) h));refine wG 3 hS ?_ (hQ:=(λ _ _ _ h=>try_put (s:=7) (by decide) h));refine wG 4 hS ?_ (hQ:=(λ _ _ _ h=>try_put (s:=8) (by decide) h));refine wG 5 hS ?_ (hQ:=(λ _ _ _ h=>try_put (s:=9) (by decide) h));refine wG 6 hS ?_ (hQ:=(λ _ _ _ h=>try_put (s:=10) (by decide) h));refine wG 7 hS ?_ (hQ:=(λ _ _ _ h=>try_put (s:=11) (by decide) h));refine wG 8 hS ?_ (hQ:=(λ _ _ _ h=>try_put (s:=12) (by decide) h));refine wG 9 hS ?_ (hQ:=(λ _ _ _ h=>try_put (s:=13) (by decide) h));refine wG 10 hS ?_ (hQ:=(λ _ _ _ h=>try_put (s:=14) (by decide) h));refine wG 11 hS ?_ (hQ:=(λ _ _ _ h=>try_put (s:=15) (by decide) h));refine wG 15 hS ?_ (hQ:=(λ _ _ _ h=>try_put (s:=19) (by decide) h));refine wR2 0 12 (λ K hK=>?_) (λ K hK=>?_)
 . skip
   go_simp;go_at_call 73;refine (steps_is _).mono ?_;rintro ee w1 ⟨⟨m,rfl,k1⟩,g1⟩;go_wp2_with fail;have G1:=hid (((zr W).al (.cells #[.int .i64 0] 27)).dr.trans g1);have B1:=hid (((Blk.new W #[.int .i64 0] 27).gr (zr _).dr).gr g1);have h2:=H.out.gr G1.out;obtain⟨-,-,-,-,-,-,-,d7,d8,-,-,-⟩:=h2.cells;obtain⟨-,-,-,t3,-,-,-,-,-,-,-,-,-,-⟩:=h2.cl_ hc;have L1:=hl _ _ k1;have Q1:=hid (HQ.out _ G1.out);clear h2 g1;refine hK.out _ _ ⟨d8,d7⟩ (λ hS=>?_);clear hK K
   try simp only [pL]
   refine wR1 12 (λ K hK=>?_);go_simp;refine hK.out _ _ ⟨d8,d7⟩ (λ hS=>?_);clear hK K
   try simp only [pL]
   refine wG 13 hS ?_ (hQ:=(λ _ _ _ h=>try_put (s:=17) (by decide) h));refine wR1 14 (λ K hK=>?_);go_simp;refine hK.out _ _ ⟨d8,d7⟩ (λ hS=>?_);clear hK K
   try simp only [pL]
   refine wR1 16 (λ K hK=>?_);go_simp;refine Q1.out.mono ?_;rintro ee w2 ⟨rfl,k2,q2⟩;go_wp2_with fail;obtain⟨j8,j7⟩:=hQ _ q2;have K2:=hid ((Kx.gr G1.out).trans k2);have B2:=hid (show Blk w2 W.heap.size #[.int .i64 0] 27 from by unfold Blk;rw [k2.block _ B1.out.lt (by omega) (by omega) (by omega)];exact B1.out);refine hK.out _ _ ⟨j8,j7⟩ (λ hS=>?_);clear hK K
   try simp only [pL]
   refine wpAnyH_done (by kernel_rfl) ?_ _;clear hS;obtain⟨q0,z0⟩:=B2.out.at_ (k:=0) rfl;have eS:=setCell_self B2.out (i:=0) (v:=.int .i64 0) rfl;go_wp2_with fail;refine leaves_cons (f:=72) (args:=#[.pointer (some ⟨W.heap.size,0,none⟩)]) (by simp) (by simp [go_sem]) ?_;refine (catch_idle ⟨W.heap.size,0,none⟩ _).mono ?_;rintro e u' w'' ⟨rfl,rfl,rfl⟩
   try rw [eS]
   simp [Leaves,settle,results,results42,go_sem,q0];exact⟨K2.out,q2⟩
 . skip
   go_simp;refine hK.out _ _ ⟨c8,c7⟩ (λ hS=>?_);clear hK K
   try simp only [pL]
   refine wG 13 hS ?_ (hQ:=(λ _ _ _ h=>try_put (s:=17) (by decide) h));refine wR1 0 (λ K hK=>?_);go_simp;go_at_call 73;refine (steps_is _).mono ?_;rintro ee w1 ⟨⟨m,rfl,k1⟩,g1⟩;go_wp2_with fail;have G1:=hid (((zr W).al (.cells #[.int .i64 0] 27)).dr.trans g1);have B1:=hid (((Blk.new W #[.int .i64 0] 27).gr (zr _).dr).gr g1);have h2:=H.out.gr G1.out;obtain⟨-,-,-,-,-,-,-,d7,d8,-,-,-⟩:=h2.cells;obtain⟨-,-,-,t3,-,-,-,-,-,-,-,-,-,-⟩:=h2.cl_ hc;have L1:=hl _ _ k1;have Q1:=hid (HQ.out _ G1.out);clear h2 g1;refine hK.out _ _ ⟨d8,d7⟩ (λ hS=>?_);clear hK K
   try simp only [pL]
   refine wR1 14 (λ K hK=>?_);go_simp;refine hK.out _ _ ⟨d8,d7⟩ (λ hS=>?_);clear hK K
   try simp only [pL]
   refine wR1 16 (λ K hK=>?_);go_simp;refine Q1.out.mono ?_;rintro ee w2 ⟨rfl,k2,q2⟩;go_wp2_with fail;obtain⟨j8,j7⟩:=hQ _ q2;have K2:=hid ((Kx.gr G1.out).trans k2);have B2:=hid (show Blk w2 W.heap.size #[.int .i64 0] 27 from by unfold Blk;rw [k2.block _ B1.out.lt (by omega) (by omega) (by omega)];exact B1.out);refine hK.out _ _ ⟨j8,j7⟩ (λ hS=>?_);clear hK K
   try simp only [pL]
   refine wpAnyH_done (by kernel_rfl) ?_ _;clear hS;obtain⟨q0,z0⟩:=B2.out.at_ (k:=0) rfl;have eS:=setCell_self B2.out (i:=0) (v:=.int .i64 0) rfl;go_wp2_with fail;refine leaves_cons (f:=72) (args:=#[.pointer (some ⟨W.heap.size,0,none⟩)]) (by simp) (by simp [go_sem]) ?_;refine (catch_idle ⟨W.heap.size,0,none⟩ _).mono ?_;rintro e u' w'' ⟨rfl,rfl,rfl⟩
   try rw [eS]
   simp [Leaves,settle,results,results42,go_sem,q0];exact⟨K2.out,q2⟩
theorem try_no (eg:∀ args w,(callFunc F args).run prog w=.ok (.enter F args) w) (h:TS x W T E cl mx tb ev) (hc:cl[x.who.toNat]?=some c) (hk:k<19) (he:plc k=(x.k,c.pc,F)) (hq:∀ W',Gr W W'->Calls prog F #[.pointer (some ⟨x.b,0,none⟩)] W' λ e w'=>e=.panicked (pan y)/\Kx x W' w') :
 Calls prog 42 #[.pointer (some ⟨x.b,0,none⟩)] W λ e W'=>e=.returned (.int .i64 y)/\Kx x W W':=by
 have hmf:=mkF;have HQ:=hid hq;have H:=hid h;have hb1:=h.t.lt;have hb2:=h.c.lt;have hb3:=h.m.lt;have hl:=λ W m (hK:KMap W m)=>run_steps_at hK hk
 rw [he] at hl;dsimp only at hl;have h1:=h.gr ((zr W).al (.cells #[.int .i64 0] 27));obtain⟨-,-,-,-,-,-,-,c7,c8,-,-,-⟩:=h1.cells;obtain⟨-,-,-,s3,-,-,-,-,-,-,-,-,-,-⟩:=h1.cl_ hc;clear h hq h1
 go_enter_defers func42,ntmps42
 go_upto_region 2 with fail;refine wp_region_held_drew (S:=(λ w'=>w'.cell? ⟨x.b,8,none⟩=some (.int .i64 x.k)/\w'.cell? ⟨x.b,7,none⟩=some (.pointer (some ⟨x.bc,x.oc+x.who.toNat*13,none⟩)))) (by kernel_rfl) ⟨c8,c7⟩ (λ hS=>?_);refine wG 1 hS ?_ (hQ:=(λ _ _ _ h=>try_put (s:=5) (by decide) h));refine wG 2 hS ?_ (hQ:=(λ _ _ _ h=>try_put (s:=6) (by decide) h));refine wG 3 hS ?_ (hQ:=(λ _ _ _ h=>try_put (s:=7) (by decide) h));refine wG 4 hS ?_ (hQ:=(λ _ _ _ h=>try_put (s:=8) (by decide) h));refine wG 5 hS ?_ (hQ:=(λ _ _ _ h=>try_put (s:=9) (by decide) h));refine wG 6 hS ?_ (hQ:=(λ _ _ _ h=>try_put (s:=10) (by decide) h));refine wG 7 hS ?_ (hQ:=(λ _ _ _ h=>try_put (s:=11) (by decide) h));refine wG 8 hS ?_ (hQ:=(λ _ _ _ h=>try_put (s:=12) (by decide) h));refine wG 9 hS ?_ (hQ:=(λ _ _ _ h=>try_put (s:=13) (by decide) h));refine wG 10 hS ?_ (hQ:=(λ _ _ _ h=>try_put (s:=14) (by decide) h));refine wG 11 hS ?_ (hQ:=(λ _ _ _ h=>try_put (s:=15) (by decide) h));refine wG 15 hS ?_ (hQ:=(λ _ _ _ h=>try_put (s:=19) (by decide) h));refine wR2 0 12 (λ K hK=>?_) (λ K hK=>?_)
 . skip
   go_simp;go_at_call 73;refine (steps_is _).mono ?_;rintro ee w1 ⟨⟨m,rfl,k1⟩,g1⟩;go_wp2_with fail;have G1:=hid (((zr W).al (.cells #[.int .i64 0] 27)).dr.trans g1);have B1:=hid (((Blk.new W #[.int .i64 0] 27).gr (zr _).dr).gr g1);have h2:=H.out.gr G1.out;obtain⟨-,-,-,-,-,-,-,d7,d8,-,-,-⟩:=h2.cells;obtain⟨-,-,-,t3,-,-,-,-,-,-,-,-,-,-⟩:=h2.cl_ hc;have L1:=hl _ _ k1;have Q1:=hid (HQ.out _ G1.out);clear h2 g1;refine hK.out _ _ ⟨d8,d7⟩ (λ hS=>?_);clear hK K
   try simp only [pL]
   refine wR1 12 (λ K hK=>?_);go_simp;refine hK.out _ _ ⟨d8,d7⟩ (λ hS=>?_);clear hK K
   try simp only [pL]
   refine wG 13 hS ?_ (hQ:=(λ _ _ _ h=>try_put (s:=17) (by decide) h));refine wR1 14 (λ K hK=>?_);go_simp;refine hK.out _ _ ⟨d8,d7⟩ (λ hS=>?_);clear hK K
   try simp only [pL]
   refine wR1 16 (λ K hK=>?_);go_simp;refine Q1.out.mono ?_;rintro ee w2 ⟨rfl,k2⟩;go_wp2_with fail;have K2:=hid ((Kx.gr G1.out).trans k2);have B2:=hid (show Blk w2 W.heap.size #[.int .i64 0] 27 from by unfold Blk;rw [k2.block _ B1.out.lt (by omega) (by omega) (by omega)];exact B1.out);obtain⟨q0,z0⟩:=B2.out.at_ (k:=0) rfl;obtain⟨q1,z1⟩:=(B2.out.set 0 (.int .i64 y)).at_ (k:=0) (v:=.int .i64 y) rfl;refine leaves_cons (f:=72) (args:=#[.pointer (some ⟨W.heap.size,0,none⟩)]) (by simp) (by simp [go_sem]) ?_;refine (catch_up ⟨W.heap.size,0,none⟩ y 0 _ q0 z0).mono ?_;rintro e u' w'' ⟨rfl,rfl,rfl⟩;simp [Leaves,settle,results,results42,go_sem,q1];exact K2.out.fresh (Nat.le_refl _) _
 . skip
   go_simp;refine hK.out _ _ ⟨c8,c7⟩ (λ hS=>?_);clear hK K
   try simp only [pL]
   refine wG 13 hS ?_ (hQ:=(λ _ _ _ h=>try_put (s:=17) (by decide) h));refine wR1 0 (λ K hK=>?_);go_simp;go_at_call 73;refine (steps_is _).mono ?_;rintro ee w1 ⟨⟨m,rfl,k1⟩,g1⟩;go_wp2_with fail;have G1:=hid (((zr W).al (.cells #[.int .i64 0] 27)).dr.trans g1);have B1:=hid (((Blk.new W #[.int .i64 0] 27).gr (zr _).dr).gr g1);have h2:=H.out.gr G1.out;obtain⟨-,-,-,-,-,-,-,d7,d8,-,-,-⟩:=h2.cells;obtain⟨-,-,-,t3,-,-,-,-,-,-,-,-,-,-⟩:=h2.cl_ hc;have L1:=hl _ _ k1;have Q1:=hid (HQ.out _ G1.out);clear h2 g1;refine hK.out _ _ ⟨d8,d7⟩ (λ hS=>?_);clear hK K
   try simp only [pL]
   refine wR1 14 (λ K hK=>?_);go_simp;refine hK.out _ _ ⟨d8,d7⟩ (λ hS=>?_);clear hK K
   try simp only [pL]
   refine wR1 16 (λ K hK=>?_);go_simp;refine Q1.out.mono ?_;rintro ee w2 ⟨rfl,k2⟩;go_wp2_with fail;have K2:=hid ((Kx.gr G1.out).trans k2);have B2:=hid (show Blk w2 W.heap.size #[.int .i64 0] 27 from by unfold Blk;rw [k2.block _ B1.out.lt (by omega) (by omega) (by omega)];exact B1.out);obtain⟨q0,z0⟩:=B2.out.at_ (k:=0) rfl;obtain⟨q1,z1⟩:=(B2.out.set 0 (.int .i64 y)).at_ (k:=0) (v:=.int .i64 y) rfl;refine leaves_cons (f:=72) (args:=#[.pointer (some ⟨W.heap.size,0,none⟩)]) (by simp) (by simp [go_sem]) ?_;refine (catch_up ⟨W.heap.size,0,none⟩ y 0 _ q0 z0).mono ?_;rintro e u' w'' ⟨rfl,rfl,rfl⟩;simp [Leaves,settle,results,results42,go_sem,q1];exact K2.out.fresh (Nat.le_refl _) _
end
end P16
end
section
namespace P16
open P12 (PV PMem)
abbrev clA (c:Cl):Array Value:=#[.int .i64 c.gst,.bool c.permit,.int .i64 c.act,.int .i64 c.pc,.int .i64 c.worked,.int .i64 c.ticket,.bool c.first,.bool c.told,.int .i64 c.since,.bool c.st,.bool c.aw,.int .i64 c.rounds,.int .i64 c.old]
section
variable {W:World} {c:Cl} {A:Option Addr} {n d m:Nat} {l:List Ac}
theorem place_over (ha:(c.act==(n:Int))=true) :
 Calls prog 97 #[.agg (clA c),.slice A n d,.map (some m)] W λ e w'=>e=.returned (.bool ((c.gst==2)&&(c.pc==0)&&(c.worked==0)))/\Gr W w':=by
 cases h1:(c.gst==2)<;>cases h2:(c.pc==0)<;>cases h3:(c.worked==0)
 all_goals (
  go_enter func97,ntmps97;go_wp2_with fail;go_ret;exact⟨rfl,(zr W).al _⟩)
theorem place_no (ha:(c.act==(n:Int))=false) (hb:decide (c.act<0)=true\/(decide (c.act<0)=false/\decide ((n:Int)<c.act)=true)\/(decide (c.act<0)=false/\decide ((n:Int)<c.act)=false/\(c.gst==2)=true)) :
 Calls prog 97 #[.agg (clA c),.slice A n d,.map (some m)] W λ e w'=>e=.returned (.bool false)/\Gr W w':=by
 rcases hb with h1 | ⟨h1,h2⟩ | ⟨h1,h2,h3⟩
 all_goals (
  go_enter func97,ntmps97;go_wp2_with fail;go_ret;exact⟨rfl,(zr W).al _⟩)
end
theorem okPc_plc {k pc:Int} (hk:0<=k/\k<=3) (h:OkPc k pc):∃ j,j<19/\(plc j).1=k/\(plc j).2.1=pc:=by
 unfold OkPc at h;have e:(k=3/\pc=0)\/(k=0/\(pc=0\/pc=1\/pc=2\/pc=3\/pc=4\/pc=5\/pc=6\/pc=7\/pc=8))\/(k=1/\(pc=0\/pc=9))\/(k=2/\(pc=0\/pc=10\/pc=11\/pc=12\/pc=13\/pc=14\/pc=15)):=by omega
 rcases e with ⟨rfl,rfl⟩ | ⟨rfl,rfl | rfl | rfl | rfl | rfl | rfl | rfl | rfl | rfl⟩ | ⟨rfl,rfl | rfl⟩ | ⟨rfl,rfl | rfl | rfl | rfl | rfl | rfl | rfl⟩
 . exact⟨0,by decide,rfl,rfl⟩
 . exact⟨1,by decide,rfl,rfl⟩
 . exact⟨2,by decide,rfl,rfl⟩
 . exact⟨3,by decide,rfl,rfl⟩
 . exact⟨4,by decide,rfl,rfl⟩
 . exact⟨5,by decide,rfl,rfl⟩
 . exact⟨6,by decide,rfl,rfl⟩
 . exact⟨7,by decide,rfl,rfl⟩
 . exact⟨8,by decide,rfl,rfl⟩
 . exact⟨9,by decide,rfl,rfl⟩
 . exact⟨10,by decide,rfl,rfl⟩
 . exact⟨11,by decide,rfl,rfl⟩
 . exact⟨12,by decide,rfl,rfl⟩
 . exact⟨13,by decide,rfl,rfl⟩
 . exact⟨14,by decide,rfl,rfl⟩
 . exact⟨15,by decide,rfl,rfl⟩
 . exact⟨16,by decide,rfl,rfl⟩
 . exact⟨17,by decide,rfl,rfl⟩
 . exact⟨18,by decide,rfl,rfl⟩
theorem plc_okPc:∀ j,j<19->OkPc (plc j).1 (plc j).2.1:=by
 intro j hj;unfold OkPc
 revert j
 decide
section
variable {W:World} {c:Cl} {A:Option Addr} {n d m:Nat} {l:List Ac} {k N:Int}
theorem place_at {b off:Nat} {F:Value} {is:Bool} (hK:KMap W m) (ha:(c.act==(n:Int))=false) (h1:decide (c.act<0)=false) (h2:decide ((n:Int)<c.act)=false) (h3:(c.gst==2)=false)
 (hb:b<W.heap.size) (c0:W.cell? ⟨b,off+c.act.toNat*2,none⟩=some (.int .i64 k)) (c1:W.cell? ⟨b,off+c.act.toNat*2+1,none⟩=some (.int .i64 N))
 (hl:∀ w,KMap w m->(Instr.lookup 132 (.map (some m)) (pv k c.pc) true).run prog w=.ok (.tuple #[F,.bool is]) w) :
 Calls prog 97 #[.agg (clA c),.slice (some ⟨b,off,none⟩) n d,.map (some m)] W λ e w'=>e=.returned (.bool (is&&((c.worked==0)||((k==3)&&decide (0<c.worked)&&decide (c.worked<N)))))/\Gr W w':=by
 have a0:0<=c.act:=by simpa using h1
 have a1:c.act<(n:Int):=by
  have e1:¬ c.act=(n:Int):=by simpa using ha
  have e2:¬ (n:Int)<c.act:=by simpa using h2
  omega
 have hk4:(k==3)=false\/((k==3)=true/\decide (0<c.worked)=false)\/((k==3)=true/\decide (0<c.worked)=true):=by
  cases (k==3)<;>cases decide (0<c.worked)<;>simp
 have L1:=hl ((W.alloc (.cells (clA c) 55)).alloc (.cells #[.int .i64 k,.int .i64 N] 67)) (hK.gr (((zr W).al _).al _));clear hl hK;rcases hk4 with h4 | ⟨h4,h5⟩ | ⟨h4,h5⟩<;>cases h6:(c.worked==0)<;>cases h7:is<;>subst h7
 all_goals (
  go_enter func97,ntmps97;go_wp2_with fail;go_ret;refine⟨?_,((zr W).al _).al _⟩;simp [h4,h6])
 all_goals simp_all
 all_goals (intro q;omega)
end
def PlaceOk (p:List Ac) (c:Cl):Prop :=
 (c.act=p.length/\c.gst=2/\c.pc=0/\c.worked=0)\/(0<=c.act/\c.act<p.length/\c.gst≠2/\∀ k n,p[c.act.toNat]?=some (k,n)->OkPc k c.pc/\(c.worked=0\/(k=3/\0<c.worked/\c.worked<n)))
theorem rightPlace_is {W:World} {c:Cl} {A:Option Addr} {n d m:Nat} {l:List Ac} {v:Bool} (hm:Mem W A n l) (hok:∀ a∈l,P12.okA a=true) (hK:KMap W m) (hv:v=true↔PlaceOk l c) :
 Calls prog 97 #[.agg (clA c),.slice A n d,.map (some m)] W λ e w'=>e=.returned (.bool v)/\Gr W w':=by
 have hl:l.length=n:=hm.1;by_cases ha:c.act=(n:Int)
 . have e:v=((c.gst==2)&&(c.pc==0)&&(c.worked==0)):=by
    rw [Bool.eq_iff_iff,hv];unfold PlaceOk;simp only [Bool.and_eq_true,beq_iff_eq];constructor
    . rintro (⟨_,q1,q2,q3⟩ | ⟨_,q,_⟩)
      . exact⟨⟨q1,q2⟩,q3⟩
      . omega
    . rintro⟨⟨q1,q2⟩,q3⟩
      exact .inl ⟨by omega,q1,q2,q3⟩
   rw [e];exact place_over (by simpa using ha)
 . by_cases hb:0<=c.act/\c.act<(n:Int)/\c.gst≠2
   . obtain⟨b0,b1,b2⟩:=hb
     obtain⟨b,off,rfl,hlt,hc⟩:=hm.2.2 (by omega);obtain⟨⟨k,N⟩,hp⟩:∃ a,l[c.act.toNat]?=some a:=⟨_,zge (by omega)⟩;have hko:=P12.okA_iff.1 (hok _ (zmo hp));dsimp only at hko;have f0:=hc (c.act.toNat*2) _ (flat_get0 _ _ _ hp);have f1:=hc (c.act.toNat*2+1) _ (flat_get1 _ _ _ hp);have fin:∀ (is:Bool),(is=true↔OkPc k c.pc)->v=(is&&((c.worked==0)||((k==3)&&decide (0<c.worked)&&decide (c.worked<N)))):=by
      intro is his;rw [Bool.eq_iff_iff,hv];unfold PlaceOk;simp only [Bool.and_eq_true,Bool.or_eq_true,beq_iff_eq,decide_eq_true_eq,his];constructor
      . rintro (⟨q,_⟩ | ⟨_,_,_,q⟩)
        . omega
        . obtain⟨q1,q2⟩:=q k N hp
          refine⟨q1,?_⟩;rcases q2 with q2 | ⟨q2,q3,q4⟩
          . exact .inl q2
          . exact .inr ⟨⟨q2,q3⟩,q4⟩
      . rintro⟨q1,q2⟩
        refine .inr ⟨b0,by omega,b2,λ k' N' h'=>?_⟩;rw [hp] at h';cases h';refine⟨q1,?_⟩;rcases q2 with q2 | ⟨⟨q2,q3⟩,q4⟩
        . exact .inl q2
        . exact .inr ⟨q2,q3,q4⟩
     have g0:(c.act==(n:Int))=false:=by simpa using ha
     have g1:decide (c.act<0)=false:=by simpa using b0
     have g2:decide ((n:Int)<c.act)=false:=by simp;omega
     have g3:(c.gst==2)=false:=by simpa using b2
     by_cases his:OkPc k c.pc
     . obtain⟨j,hj,e1,e2⟩:=okPc_plc (by omega) his
       rw [fin true (by simp [his])];exact place_at (F:=fv (plc j).2.2) hK g0 g1 g2 g3 hlt f0 f1 (λ w hw=>by rw [<- e1,<- e2];exact run_steps_ok hw hj)
     . rw [fin false (by simp [his])]
       exact place_at (F:=.nilFunc) hK g0 g1 g2 g3 hlt f0 f1 (λ w hw=>run_steps_no hw λ j hj q=>his (by rw [q.1,q.2];exact plc_okPc j hj))
   . have e:v=false:=by
      cases q:v
      . rfl
      . exfalso
        rcases hv.1 q with ⟨q,_⟩ | ⟨q1,q2,q3,_⟩
        . omega
        . exact hb ⟨q1,by omega,q3⟩
     rw [e];refine place_no (by simpa using ha) ?_;by_cases q1:c.act<0
     . exact .inl (by simpa using q1)
     . by_cases q2:(n:Int)<c.act
       . exact .inr (.inl ⟨by simpa using q1,by simpa using q2⟩)
       . refine .inr (.inr ⟨by simpa using q1,by simpa using q2,?_⟩)
         by_cases q3:c.gst=2
         . simpa using q3
         . exact absurd ⟨by omega,by omega,q3⟩ hb
end P16
end
section
namespace P16
open P14 (pan)
open P12 (PV PMem)
section
variable {x:Cx} {W:World} {T:Sl} {cl:List Cl} {mx:List T3} {tb:List Sp} {c:Cl} {a:T3} {pr:List Ac}
theorem Can.gr {W':World} (C:Can x W cl mx tb c a pr) (g:Gr W W'):Can x W' cl mx tb c a pr:={ C with gl:=C.gl.gr g }
abbrev touchR (x:Cx) (cl:List Cl) (tb:List Sp) (c:Cl) (a:T3) (pr:List Ac):Res:=touch x.now (runs cl) pr.length x.who x.k c (CM x tb a)
theorem meth_1 (h:TS x W T ⟨none,0,0⟩ cl mx tb []) (C:Can x W cl mx tb c a pr) (e1:x.k=0) (e2:c.pc=0):Meth 99 x W cl mx tb (touchR x cl tb c a pr):=by
 unfold touchR touch;rw [e1];rw [if_pos rfl];unfold lock;rw [if_pos e2];exact m_lock h C
theorem meth_2 (h:TS x W T ⟨none,0,0⟩ cl mx tb []) (C:Can x W cl mx tb c a pr) (e1:x.k=0) (e2:c.pc=1):Meth 100 x W cl mx tb (touchR x cl tb c a pr):=by
 unfold touchR touch;rw [e1];rw [if_pos rfl];unfold lock;rw [if_neg (by omega)];rw [if_pos e2];exact m_load h C
theorem meth_3 (h:TS x W T ⟨none,0,0⟩ cl mx tb []) (C:Can x W cl mx tb c a pr) (e1:x.k=0) (e2:c.pc=2):Meth 101 x W cl mx tb (touchR x cl tb c a pr):=by
 unfold touchR touch;rw [e1];rw [if_pos rfl];unfold lock;rw [if_neg (by omega)];rw [if_neg (by omega)];rw [if_pos e2];exact m_want h C
theorem meth_4 (h:TS x W T ⟨none,0,0⟩ cl mx tb []) (C:Can x W cl mx tb c a pr) (e1:x.k=0) (e2:c.pc=3):Meth 102 x W cl mx tb (touchR x cl tb c a pr):=by
 unfold touchR touch;rw [e1];rw [if_pos rfl];unfold lock;rw [if_neg (by omega)];rw [if_neg (by omega)];rw [if_neg (by omega)];rw [if_pos e2];have q:=m_draw h C (by omega);rw [e2] at q;exact q
theorem meth_5 (h:TS x W T ⟨none,0,0⟩ cl mx tb []) (C:Can x W cl mx tb c a pr) (e1:x.k=0) (e2:c.pc=4):Meth 103 x W cl mx tb (touchR x cl tb c a pr):=by
 unfold touchR touch;rw [e1];rw [if_pos rfl];unfold lock;rw [if_neg (by omega)];rw [if_neg (by omega)];rw [if_neg (by omega)];rw [if_neg (by omega)];rw [if_pos e2];have q:=m_await h C (by omega);rw [e2] at q;exact q
theorem meth_6 (h:TS x W T ⟨none,0,0⟩ cl mx tb []) (C:Can x W cl mx tb c a pr) (e1:x.k=0) (e2:c.pc=5):Meth 104 x W cl mx tb (touchR x cl tb c a pr):=by
 unfold touchR touch;rw [e1];rw [if_pos rfl];unfold lock;rw [if_neg (by omega)];rw [if_neg (by omega)];rw [if_neg (by omega)];rw [if_neg (by omega)];rw [if_neg (by omega)];rw [if_pos e2];exact m_ask h C
theorem meth_7 (h:TS x W T ⟨none,0,0⟩ cl mx tb []) (C:Can x W cl mx tb c a pr) (e1:x.k=0) (e2:c.pc=6):Meth 105 x W cl mx tb (touchR x cl tb c a pr):=by
 unfold touchR touch;rw [e1];rw [if_pos rfl];unfold lock;rw [if_neg (by omega)];rw [if_neg (by omega)];rw [if_neg (by omega)];rw [if_neg (by omega)];rw [if_neg (by omega)];rw [if_neg (by omega)];rw [if_pos e2];exact m_sleep h C
theorem meth_8 (h:TS x W T ⟨none,0,0⟩ cl mx tb []) (C:Can x W cl mx tb c a pr) (e1:x.k=0) (e2:c.pc=7):Meth 106 x W cl mx tb (touchR x cl tb c a pr):=by
 unfold touchR touch;rw [e1];rw [if_pos rfl];unfold lock;rw [if_neg (by omega)];rw [if_neg (by omega)];rw [if_neg (by omega)];rw [if_neg (by omega)];rw [if_neg (by omega)];rw [if_neg (by omega)];rw [if_neg (by omega)];rw [if_pos e2];exact m_wake h C
theorem meth_9 (h:TS x W T ⟨none,0,0⟩ cl mx tb []) (C:Can x W cl mx tb c a pr) (e1:x.k=0) (e2:c.pc=8):Meth 107 x W cl mx tb (touchR x cl tb c a pr):=by
 unfold touchR touch;rw [e1];rw [if_pos rfl];unfold lock;rw [if_neg (by omega)];rw [if_neg (by omega)];rw [if_neg (by omega)];rw [if_neg (by omega)];rw [if_neg (by omega)];rw [if_neg (by omega)];rw [if_neg (by omega)];rw [if_neg (by omega)];exact m_take h C
theorem meth_10 (h:TS x W T ⟨none,0,0⟩ cl mx tb []) (C:Can x W cl mx tb c a pr) (e1:x.k=1) (e2:c.pc=0):Meth 108 x W cl mx tb (touchR x cl tb c a pr):=by
 unfold touchR touch;rw [e1];rw [if_neg (by decide),if_pos rfl];unfold try_;rw [if_neg (by omega)];exact m_look h C
theorem meth_11 (h:TS x W T ⟨none,0,0⟩ cl mx tb []) (C:Can x W cl mx tb c a pr) (e1:x.k=1) (e2:c.pc=9):Meth 109 x W cl mx tb (touchR x cl tb c a pr):=by
 unfold touchR touch;rw [e1];rw [if_neg (by decide),if_pos rfl];unfold try_;rw [if_pos e2];exact m_grasp h C
theorem meth_12 (h:TS x W T ⟨none,0,0⟩ cl mx tb []) (C:Can x W cl mx tb c a pr) (e1:x.k=2) (e2:c.pc=0):Meth 110 x W cl mx tb (touchR x cl tb c a pr):=by
 unfold touchR touch;rw [e1];rw [if_neg (by decide),if_neg (by decide)];unfold give;rw [if_pos e2];exact m_unlock h C
theorem meth_13 (h:TS x W T ⟨none,0,0⟩ cl mx tb []) (C:Can x W cl mx tb c a pr) (e1:x.k=2) (e2:c.pc=10):Meth 111 x W cl mx tb (touchR x cl tb c a pr):=by
 unfold touchR touch;rw [e1];rw [if_neg (by decide),if_neg (by decide)];unfold give;rw [if_neg (by omega)];rw [if_pos e2];exact m_give h C
theorem meth_14 (h:TS x W T ⟨none,0,0⟩ cl mx tb []) (C:Can x W cl mx tb c a pr) (e1:x.k=2) (e2:c.pc=11):Meth 112 x W cl mx tb (touchR x cl tb c a pr):=by
 unfold touchR touch;rw [e1];rw [if_neg (by decide),if_neg (by decide)];unfold give;rw [if_neg (by omega)];rw [if_neg (by omega)];rw [if_pos e2];exact m_see h C
theorem meth_15 (h:TS x W T ⟨none,0,0⟩ cl mx tb []) (C:Can x W cl mx tb c a pr) (e1:x.k=2) (e2:c.pc=12):Meth 102 x W cl mx tb (touchR x cl tb c a pr):=by
 unfold touchR touch;rw [e1];rw [if_neg (by decide),if_neg (by decide)];unfold give;rw [if_neg (by omega)];rw [if_neg (by omega)];rw [if_neg (by omega)];rw [if_pos e2];have q:=m_draw h C (by omega);rw [e2] at q;exact q
theorem meth_16 (h:TS x W T ⟨none,0,0⟩ cl mx tb []) (C:Can x W cl mx tb c a pr) (e1:x.k=2) (e2:c.pc=13):Meth 103 x W cl mx tb (touchR x cl tb c a pr):=by
 unfold touchR touch;rw [e1];rw [if_neg (by decide),if_neg (by decide)];unfold give;rw [if_neg (by omega)];rw [if_neg (by omega)];rw [if_neg (by omega)];rw [if_neg (by omega)];rw [if_pos e2];have q:=m_await h C (by omega);rw [e2] at q;exact q
theorem meth_17 (h:TS x W T ⟨none,0,0⟩ cl mx tb []) (C:Can x W cl mx tb c a pr) (e1:x.k=2) (e2:c.pc=14):Meth 113 x W cl mx tb (touchR x cl tb c a pr):=by
 unfold touchR touch;rw [e1];rw [if_neg (by decide),if_neg (by decide)];unfold give;rw [if_neg (by omega)];rw [if_neg (by omega)];rw [if_neg (by omega)];rw [if_neg (by omega)];rw [if_neg (by omega)];rw [if_pos e2];exact m_grant h C
theorem meth_18 (h:TS x W T ⟨none,0,0⟩ cl mx tb []) (C:Can x W cl mx tb c a pr) (e1:x.k=2) (e2:c.pc=15):Meth 114 x W cl mx tb (touchR x cl tb c a pr):=by
 unfold touchR touch;rw [e1];rw [if_neg (by decide),if_neg (by decide)];unfold give;rw [if_neg (by omega)];rw [if_neg (by omega)];rw [if_neg (by omega)];rw [if_neg (by omega)];rw [if_neg (by omega)];rw [if_neg (by omega)];exact m_leave h C
theorem meth_is (h:TS x W T ⟨none,0,0⟩ cl mx tb []) (C:Can x W cl mx tb c a pr) (hk:0<=x.k/\x.k<=2) (hpc:OkPc x.k c.pc) :
 ∃ j F,j<19/\plc j=(x.k,c.pc,F)/\(∀ args w,(callFunc F args).run prog w=.ok (.enter F args) w)/\∀ W',Gr W W'->Meth F x W' cl mx tb (touchR x cl tb c a pr):=by
 have e:(x.k=0/\(c.pc=0\/c.pc=1\/c.pc=2\/c.pc=3\/c.pc=4\/c.pc=5\/c.pc=6\/c.pc=7\/c.pc=8))\/(x.k=1/\(c.pc=0\/c.pc=9))\/(x.k=2/\(c.pc=0\/c.pc=10\/c.pc=11\/c.pc=12\/c.pc=13\/c.pc=14\/c.pc=15)):=by
  unfold OkPc at hpc;omega
 rcases e with ⟨e1,e2 | e2 | e2 | e2 | e2 | e2 | e2 | e2 | e2⟩ | ⟨e1,e2 | e2⟩ | ⟨e1,e2 | e2 | e2 | e2 | e2 | e2 | e2⟩
 . refine⟨1,99,by decide,by rw [e1,e2];rfl,enters_of func99 (by kernel_rfl) rfl,λ W' g=>?_⟩
   exact meth_1 (h.gr g) (C.gr g) e1 e2
 . refine⟨2,100,by decide,by rw [e1,e2];rfl,enters_of func100 (by kernel_rfl) rfl,λ W' g=>?_⟩
   exact meth_2 (h.gr g) (C.gr g) e1 e2
 . refine⟨3,101,by decide,by rw [e1,e2];rfl,enters_of func101 (by kernel_rfl) rfl,λ W' g=>?_⟩
   exact meth_3 (h.gr g) (C.gr g) e1 e2
 . refine⟨4,102,by decide,by rw [e1,e2];rfl,enters_of func102 (by kernel_rfl) rfl,λ W' g=>?_⟩
   exact meth_4 (h.gr g) (C.gr g) e1 e2
 . refine⟨5,103,by decide,by rw [e1,e2];rfl,enters_of func103 (by kernel_rfl) rfl,λ W' g=>?_⟩
   exact meth_5 (h.gr g) (C.gr g) e1 e2
 . refine⟨6,104,by decide,by rw [e1,e2];rfl,enters_of func104 (by kernel_rfl) rfl,λ W' g=>?_⟩
   exact meth_6 (h.gr g) (C.gr g) e1 e2
 . refine⟨7,105,by decide,by rw [e1,e2];rfl,enters_of func105 (by kernel_rfl) rfl,λ W' g=>?_⟩
   exact meth_7 (h.gr g) (C.gr g) e1 e2
 . refine⟨8,106,by decide,by rw [e1,e2];rfl,enters_of func106 (by kernel_rfl) rfl,λ W' g=>?_⟩
   exact meth_8 (h.gr g) (C.gr g) e1 e2
 . refine⟨9,107,by decide,by rw [e1,e2];rfl,enters_of func107 (by kernel_rfl) rfl,λ W' g=>?_⟩
   exact meth_9 (h.gr g) (C.gr g) e1 e2
 . refine⟨10,108,by decide,by rw [e1,e2];rfl,enters_of func108 (by kernel_rfl) rfl,λ W' g=>?_⟩
   exact meth_10 (h.gr g) (C.gr g) e1 e2
 . refine⟨11,109,by decide,by rw [e1,e2];rfl,enters_of func109 (by kernel_rfl) rfl,λ W' g=>?_⟩
   exact meth_11 (h.gr g) (C.gr g) e1 e2
 . refine⟨12,110,by decide,by rw [e1,e2];rfl,enters_of func110 (by kernel_rfl) rfl,λ W' g=>?_⟩
   exact meth_12 (h.gr g) (C.gr g) e1 e2
 . refine⟨13,111,by decide,by rw [e1,e2];rfl,enters_of func111 (by kernel_rfl) rfl,λ W' g=>?_⟩
   exact meth_13 (h.gr g) (C.gr g) e1 e2
 . refine⟨14,112,by decide,by rw [e1,e2];rfl,enters_of func112 (by kernel_rfl) rfl,λ W' g=>?_⟩
   exact meth_14 (h.gr g) (C.gr g) e1 e2
 . refine⟨15,102,by decide,by rw [e1,e2];rfl,enters_of func102 (by kernel_rfl) rfl,λ W' g=>?_⟩
   exact meth_15 (h.gr g) (C.gr g) e1 e2
 . refine⟨16,103,by decide,by rw [e1,e2];rfl,enters_of func103 (by kernel_rfl) rfl,λ W' g=>?_⟩
   exact meth_16 (h.gr g) (C.gr g) e1 e2
 . refine⟨17,113,by decide,by rw [e1,e2];rfl,enters_of func113 (by kernel_rfl) rfl,λ W' g=>?_⟩
   exact meth_17 (h.gr g) (C.gr g) e1 e2
 . refine⟨18,114,by decide,by rw [e1,e2];rfl,enters_of func114 (by kernel_rfl) rfl,λ W' g=>?_⟩
   exact meth_18 (h.gr g) (C.gr g) e1 e2
def TryQ (x:Cx) (cl:List Cl) (mx:List T3) (tb:List Sp) (R:Res) (e:Ending) (W':World):Prop :=
 match R with
 | .bad=>e=.returned (.int .i64 12)
 | .fault=>e=.returned (.int .i64 11)
 | .ok o=>match o.rdy with
  | none=>e=.returned (.int .i64 0)/\∃ T' E' tb',TS x W' T' E' (cl.set x.who.toNat o.c) (mx.set x.n.toNat (o.m.word,o.m.nx,o.m.sv)) tb' (o.ev.map λ v=>(x.who,v,x.n)).toList/\GotT tb tb' x.n.toNat (o.m.c,o.m.l)
  | some y=>match ((cl.set x.who.toNat o.c)[y.toNat]?).bind told with
   | none=>e=.returned (.int .i64 12)
   | some d=>e=.returned (.int .i64 0)/\∃ T' E' tb',TS x W' T' E' ((cl.set x.who.toNat o.c).set y.toNat d) (mx.set x.n.toNat (o.m.word,o.m.nx,o.m.sv)) tb' (o.ev.map λ v=>(x.who,v,x.n)).toList/\GotT tb tb' x.n.toNat (o.m.c,o.m.l)
theorem ts_cells {T' E':Sl} {cl':List Cl} {mx':List T3} {tb':List Sp} {ev':List T3} {w:World} (h:TS x w T' E' cl' mx' tb' ev'):w.cell? ⟨x.b,8,none⟩=some (.int .i64 x.k)/\w.cell? ⟨x.b,7,none⟩=some (.pointer (some ⟨x.bc,x.oc+x.who.toNat*13,none⟩)):=by
 obtain⟨-,-,-,-,-,-,-,c7,c8,-,-,-⟩:=h.cells;exact⟨c8,c7⟩
theorem try_is (h:TS x W T ⟨none,0,0⟩ cl mx tb []) (C:Can x W cl mx tb c a pr) (hk:0<=x.k/\x.k<=2) (hpc:OkPc x.k c.pc) :
 Calls prog 42 #[.pointer (some ⟨x.b,0,none⟩)] W λ e W'=>Kx x W W'/\TryQ x cl mx tb (touchR x cl tb c a pr) e W':=by
 obtain⟨j,F,hj,he,eg,hm⟩:=meth_is h C hk hpc;have hc:=C.R.hc;generalize touchR x cl tb c a pr=R at hm ⊢
 cases R with
 | bad=>exact (try_no (y:=12) eg h hc hj he λ W' g=>(hm W' g).mono λ e w' q=>⟨q.2,q.1⟩).mono λ e w' q=>⟨q.2,q.1⟩
 | fault=>exact (try_no (y:=11) eg h hc hj he λ W' g=>(hm W' g).mono λ e w' q=>⟨q.2,q.1⟩).mono λ e w' q=>⟨q.2,q.1⟩
 | ok o =>
  obtain⟨oc,om,rdy,oev⟩:=o
  cases rdy with
  | none =>
   refine (try_ok (Q:=λ w=>∃ T' E' tb',TS x w T' E' (cl.set x.who.toNat oc) (mx.set x.n.toNat (om.word,om.nx,om.sv)) tb' (oev.map λ v=>(x.who,v,x.n)).toList/\GotT tb tb' x.n.toNat (om.c,om.l)) eg h hc hj he ?_ λ W' g=>(hm W' g).mono λ e w' q=>⟨q.2.1,q.1,q.2.2⟩).mono λ e w' q=>⟨q.2.1,q.1,q.2.2⟩
   rintro w ⟨T',E',tb',q,-⟩;exact ts_cells q
  | some y =>
   cases ht:((cl.set x.who.toNat oc)[y.toNat]?).bind told with
   | none =>
    refine (try_no (y:=12) eg h hc hj he λ W' g=>(hm W' g).mono λ e w' q=>⟨?_,q.1⟩).mono λ e w' q=>⟨q.2,?_⟩
    . have q2:=q.2
      dsimp only at q2;rw [ht] at q2;exact q2
    . unfold TryQ
      dsimp only;rw [ht];exact q.1
   | some d =>
    refine (try_ok (Q:=λ w=>∃ T' E' tb',TS x w T' E' ((cl.set x.who.toNat oc).set y.toNat d) (mx.set x.n.toNat (om.word,om.nx,om.sv)) tb' (oev.map λ v=>(x.who,v,x.n)).toList/\GotT tb tb' x.n.toNat (om.c,om.l)) eg h hc hj he ?_ λ W' g=>(hm W' g).mono λ e w' q=>?_).mono λ e w' q=>⟨q.2.1,?_⟩
    . rintro w ⟨T',E',tb',q,-⟩
      exact ts_cells q
    . have q2:=q.2
      dsimp only at q2;rw [ht] at q2;exact⟨q2.1,q.1,q2.2⟩
    . unfold TryQ
      dsimp only;rw [ht];exact⟨q.1,q.2.2⟩
theorem try_work (h:TS x W T ⟨none,0,0⟩ cl mx tb []) (hR:Rn x cl c pr) (hk:x.k=3) (hpc:c.pc=0) (hw:c.worked=0\/(0<c.worked/\c.worked<x.n)) (hn0:0<=x.n) (hn:x.n<=1000) :
 Calls prog 42 #[.pointer (some ⟨x.b,0,none⟩)] W λ e W'=>Kx x W W'/\e=.returned (.int .i64 0)/\TS x W' T ⟨none,0,0⟩ (cl.set x.who.toNat (work x.n pr.length c)) mx tb []:=by
 refine (try_ok (F:=98) (k:=0) (Q:=λ w=>TS x w T ⟨none,0,0⟩ (cl.set x.who.toNat (work x.n pr.length c)) mx tb []) (enters_of func98 (by kernel_rfl) rfl) h hR.hc (by decide) (by rw [hk,hpc];rfl) (λ w q=>ts_cells q) λ W' g=>(work_is (h.gr g) hR hw hn0 hn).mono λ e w' q=>⟨q.1,q.2.2,q.2.1⟩).mono λ e w' q=>⟨q.2.1,q.1,q.2.2⟩
end
end P16
end
namespace P16
theorem run_eql_slice_nil {P:Program} (t e:TypeId) (a:Option Addr) (l c:Nat) (h:P.underlying t=some (.slice e)) (w:World):(binOp .eql t (.slice a l c) (.slice none 0 0)).run P w=.ok (.bool a.isNone) w:=by
 simp [binOp,run_equal_slice_nil w t e a l c h]
theorem own_form {w:World} {base q n:Nat} {e:TypeId} {v:Value} {xs:List Value} (h:w.ownsRow base e q v n xs):∃ A c,v=.slice A n c:=by
 rcases h.2 with ⟨rfl,rfl⟩ | ⟨g,cap,cur,rfl,_⟩
 . exact⟨none,0,rfl⟩
 . exact⟨_,cap,rfl⟩
theorem own_nil {W:World} {e:TypeId} {q:Nat}:(W.alloc (.cells #[] e)).ownsRow W.heap.size e q (.slice (some ⟨W.heap.size,0,none⟩) 0 0) 0 [] :=
 ⟨by simp,.inr ⟨W.heap.size,0,#[],rfl,Nat.le_refl _,heap_alloc_new W _,Nat.le_refl _,Nat.zero_le _,by simp,by simp⟩⟩
theorem src_al {W:World} {ad:Addr} {news:List Value} (h:∀ j u,news[j]?=some u->W.cell? (ad.add j)=some u) (o:Obj):∀ j u,news[j]?=some u->(W.alloc o).cell? (ad.add j)=some u:=by
 intro j u hu;have h1:=h j u hu;exact (((zr W).al o).cell (World.block_lt_of_cell? W _ (by rw [h1]))).trans h1
theorem infoProgs:(prog.info? 64).map (λ i=>(i.zero,i.size,i.bytes))=some (some (.slice none 0 0),1,24):=by kernel_rfl
theorem cloneProgs {W:World} {A:Option Addr} {n c:Nat} {news:List Value} (h0:A=none->n=0) (hl:news.length=n*1) (hs:∀ ad,A=some ad->∀ j u,news[j]?=some u->W.cell? (ad.add j)=some u) (h1:∀ u∈news,u.oneCell'=true) (hn:n<=1000000) :
 Calls prog 57 #[.slice A n c] W λ e w'=>∃ A' c',e=.returned (.slice A' n c')/\w'.ownsRow W.heap.size 64 1 (.slice A' n c') n news/\Gr W w':=by
 rcases A with _ | ad
 . obtain rfl:=h0 rfl
   have hnews:news=[]:=zen (by omega);subst hnews;clear hl hs h1;have hq:=run_eql_slice_nil 22 64 none 0 c underlying22;go_enter func57,ntmps57;go_wp2_with fail;go_ret;exact⟨none,0,rfl,⟨by simp,.inl ⟨rfl,rfl⟩⟩,zr _⟩
 . obtain⟨i,hi,hz,hsz,hb⟩:=P12.info_parts infoProgs
   have HI:=hid hi;have HZ:=hid hz;have HS:=hid hsz;have HB:=hid hb;have src:=hid (src_al (hs ad rfl) (.cells #[] 64));have HL:=hid hl;have H1:=hid h1;clear hi hz hsz hb hs h0 hl h1;have hq:=run_eql_slice_nil 22 64 (some ad) n c underlying22;go_enter func57,ntmps57;go_wp2_with (at_builtin;refine Mark.stop ?_);refine Mark.go ?_;refine wpList_append_own_at _ rfl (.tmp 5) (.tmp 6) 22 rfl W.heap.size 64 i (.slice none 0 0) 1 24 underlying22 HI.out HZ.out HS.out HB.out rfl (by decide) (.slice (some ⟨W.heap.size,0,none⟩) 0 0) 0 [] rfl own_nil ad n c news rfl HL.out src.out H1.out (by unfold maxLen;omega) (by omega) (by rw [zsA];omega) ?_;intro v' w' hv hg _ _;have G1:=hid (((zr W).al (.cells #[] 64)).gb hg (λ k hk=>by have hk:some W.heap.size=some k:=hk;injection hk with hk;omega));rw [Nat.zero_add,List.nil_append] at hv;obtain⟨A',c',rfl⟩:=own_form hv;have HV:=hid hv;clear hv hg;go_wp2_with fail;go_ret;exact⟨A',c',rfl,HV.out,G1.out⟩
theorem infoActs:(prog.info? 67).map (λ i=>(i.zero,i.size,i.bytes))=some (some (.agg #[.int .i64 0,.int .i64 0]),2,16):=by kernel_rfl
theorem cloneActs {W:World} {A:Option Addr} {n c:Nat} {news:List Value} (h0:A=none->n=0) (hl:news.length=n*2) (hs:∀ ad,A=some ad->∀ j u,news[j]?=some u->W.cell? (ad.add j)=some u) (h1:∀ u∈news,u.oneCell'=true) (hn:n<=1000000) :
 Calls prog 58 #[.slice A n c] W λ e w'=>∃ A' c',e=.returned (.slice A' n c')/\w'.ownsRow W.heap.size 67 2 (.slice A' n c') n news/\Gr W w':=by
 rcases A with _ | ad
 . obtain rfl:=h0 rfl
   have hnews:news=[]:=zen (by omega);subst hnews;clear hl hs h1;have hq:=run_eql_slice_nil 64 67 none 0 c underlying64;go_enter func58,ntmps58;go_wp2_with fail;go_ret;exact⟨none,0,rfl,⟨by simp,.inl ⟨rfl,rfl⟩⟩,zr _⟩
 . obtain⟨i,hi,hz,hsz,hb⟩:=P12.info_parts infoActs
   have HI:=hid hi;have HZ:=hid hz;have HS:=hid hsz;have HB:=hid hb;have src:=hid (src_al (hs ad rfl) (.cells #[] 67));have HL:=hid hl;have H1:=hid h1;clear hi hz hsz hb hs h0 hl h1;have hq:=run_eql_slice_nil 64 67 (some ad) n c underlying64;go_enter func58,ntmps58;go_wp2_with (at_builtin;refine Mark.stop ?_);refine Mark.go ?_;refine wpList_append_own_at _ rfl (.tmp 5) (.tmp 6) 64 rfl W.heap.size 67 i (.agg #[.int .i64 0,.int .i64 0]) 2 16 underlying64 HI.out HZ.out HS.out HB.out rfl (by decide) (.slice (some ⟨W.heap.size,0,none⟩) 0 0) 0 [] rfl own_nil ad n c news rfl HL.out src.out H1.out (by unfold maxLen;omega) (by omega) (by rw [zsA];omega) ?_;intro v' w' hv hg _ _;have G1:=hid (((zr W).al (.cells #[] 67)).gb hg (λ k hk=>by have hk:some W.heap.size=some k:=hk;injection hk with hk;omega));rw [Nat.zero_add,List.nil_append] at hv;obtain⟨A',c',rfl⟩:=own_form hv;have HV:=hid hv;clear hv hg;go_wp2_with fail;go_ret;exact⟨A',c',rfl,HV.out,G1.out⟩
theorem infoClients:(prog.info? 55).map (λ i=>(i.zero,i.size,i.bytes))=some (some (.agg #[.int .i64 0,.bool false,.int .i64 0,.int .i64 0,.int .i64 0,.int .i64 0,.bool false,.bool false,.int .i64 0,.bool false,.bool false,.int .i64 0,.int .i64 0]),13,88):=by kernel_rfl
theorem cloneClients {W:World} {A:Option Addr} {n c:Nat} {news:List Value} (h0:A=none->n=0) (hl:news.length=n*13) (hs:∀ ad,A=some ad->∀ j u,news[j]?=some u->W.cell? (ad.add j)=some u) (h1:∀ u∈news,u.oneCell'=true) (hn:n<=1000000) :
 Calls prog 59 #[.slice A n c] W λ e w'=>∃ A' c',e=.returned (.slice A' n c')/\w'.ownsRow W.heap.size 55 13 (.slice A' n c') n news/\Gr W w':=by
 rcases A with _ | ad
 . obtain rfl:=h0 rfl
   have hnews:news=[]:=zen (by omega);subst hnews;clear hl hs h1;have hq:=run_eql_slice_nil 24 55 none 0 c underlying24;go_enter func59,ntmps59;go_wp2_with fail;go_ret;exact⟨none,0,rfl,⟨by simp,.inl ⟨rfl,rfl⟩⟩,zr _⟩
 . obtain⟨i,hi,hz,hsz,hb⟩:=P12.info_parts infoClients
   have HI:=hid hi;have HZ:=hid hz;have HS:=hid hsz;have HB:=hid hb;have src:=hid (src_al (hs ad rfl) (.cells #[] 55));have HL:=hid hl;have H1:=hid h1;clear hi hz hsz hb hs h0 hl h1;have hq:=run_eql_slice_nil 24 55 (some ad) n c underlying24;go_enter func59,ntmps59;go_wp2_with (at_builtin;refine Mark.stop ?_);refine Mark.go ?_;refine wpList_append_own_at _ rfl (.tmp 5) (.tmp 6) 24 rfl W.heap.size 55 i (.agg #[.int .i64 0,.bool false,.int .i64 0,.int .i64 0,.int .i64 0,.int .i64 0,.bool false,.bool false,.int .i64 0,.bool false,.bool false,.int .i64 0,.int .i64 0]) 13 88 underlying24 HI.out HZ.out HS.out HB.out rfl (by decide) (.slice (some ⟨W.heap.size,0,none⟩) 0 0) 0 [] rfl own_nil ad n c news rfl HL.out src.out H1.out (by unfold maxLen;omega) (by omega) (by rw [zsA];omega) ?_;intro v' w' hv hg _ _;have G1:=hid (((zr W).al (.cells #[] 55)).gb hg (λ k hk=>by have hk:some W.heap.size=some k:=hk;injection hk with hk;omega));rw [Nat.zero_add,List.nil_append] at hv;obtain⟨A',c',rfl⟩:=own_form hv;have HV:=hid hv;clear hv hg;go_wp2_with fail;go_ret;exact⟨A',c',rfl,HV.out,G1.out⟩
theorem infoMutexes:(prog.info? 48).map (λ i=>(i.zero,i.size,i.bytes))=some (some (.agg #[.int .i64 0,.int .i64 0,.int .i64 0]),3,24):=by kernel_rfl
theorem cloneMutexes {W:World} {A:Option Addr} {n c:Nat} {news:List Value} (h0:A=none->n=0) (hl:news.length=n*3) (hs:∀ ad,A=some ad->∀ j u,news[j]?=some u->W.cell? (ad.add j)=some u) (h1:∀ u∈news,u.oneCell'=true) (hn:n<=1000000) :
 Calls prog 60 #[.slice A n c] W λ e w'=>∃ A' c',e=.returned (.slice A' n c')/\w'.ownsRow W.heap.size 48 3 (.slice A' n c') n news/\Gr W w':=by
 rcases A with _ | ad
 . obtain rfl:=h0 rfl
   have hnews:news=[]:=zen (by omega);subst hnews;clear hl hs h1;have hq:=run_eql_slice_nil 25 48 none 0 c underlying25;go_enter func60,ntmps60;go_wp2_with fail;go_ret;exact⟨none,0,rfl,⟨by simp,.inl ⟨rfl,rfl⟩⟩,zr _⟩
 . obtain⟨i,hi,hz,hsz,hb⟩:=P12.info_parts infoMutexes
   have HI:=hid hi;have HZ:=hid hz;have HS:=hid hsz;have HB:=hid hb;have src:=hid (src_al (hs ad rfl) (.cells #[] 48));have HL:=hid hl;have H1:=hid h1;clear hi hz hsz hb hs h0 hl h1;have hq:=run_eql_slice_nil 25 48 (some ad) n c underlying25;go_enter func60,ntmps60;go_wp2_with (at_builtin;refine Mark.stop ?_);refine Mark.go ?_;refine wpList_append_own_at _ rfl (.tmp 5) (.tmp 6) 25 rfl W.heap.size 48 i (.agg #[.int .i64 0,.int .i64 0,.int .i64 0]) 3 24 underlying25 HI.out HZ.out HS.out HB.out rfl (by decide) (.slice (some ⟨W.heap.size,0,none⟩) 0 0) 0 [] rfl own_nil ad n c news rfl HL.out src.out H1.out (by unfold maxLen;omega) (by omega) (by rw [zsA];omega) ?_;intro v' w' hv hg _ _;have G1:=hid (((zr W).al (.cells #[] 48)).gb hg (λ k hk=>by have hk:some W.heap.size=some k:=hk;injection hk with hk;omega));rw [Nat.zero_add,List.nil_append] at hv;obtain⟨A',c',rfl⟩:=own_form hv;have HV:=hid hv;clear hv hg;go_wp2_with fail;go_ret;exact⟨A',c',rfl,HV.out,G1.out⟩
theorem infoSpots:(prog.info? 91).map (λ i=>(i.zero,i.size,i.bytes))=some (some (.agg #[.int .i64 0,.int .i64 0,.slice none 0 0]),3,40):=by kernel_rfl
theorem cloneSpots {W:World} {A:Option Addr} {n c:Nat} {news:List Value} (h0:A=none->n=0) (hl:news.length=n*3) (hs:∀ ad,A=some ad->∀ j u,news[j]?=some u->W.cell? (ad.add j)=some u) (h1:∀ u∈news,u.oneCell'=true) (hn:n<=1000000) :
 Calls prog 61 #[.slice A n c] W λ e w'=>∃ A' c',e=.returned (.slice A' n c')/\w'.ownsRow W.heap.size 91 3 (.slice A' n c') n news/\Gr W w':=by
 rcases A with _ | ad
 . obtain rfl:=h0 rfl
   have hnews:news=[]:=zen (by omega);subst hnews;clear hl hs h1;have hq:=run_eql_slice_nil 26 91 none 0 c underlying26;go_enter func61,ntmps61;go_wp2_with fail;go_ret;exact⟨none,0,rfl,⟨by simp,.inl ⟨rfl,rfl⟩⟩,zr _⟩
 . obtain⟨i,hi,hz,hsz,hb⟩:=P12.info_parts infoSpots
   have HI:=hid hi;have HZ:=hid hz;have HS:=hid hsz;have HB:=hid hb;have src:=hid (src_al (hs ad rfl) (.cells #[] 91));have HL:=hid hl;have H1:=hid h1;clear hi hz hsz hb hs h0 hl h1;have hq:=run_eql_slice_nil 26 91 (some ad) n c underlying26;go_enter func61,ntmps61;go_wp2_with (at_builtin;refine Mark.stop ?_);refine Mark.go ?_;refine wpList_append_own_at _ rfl (.tmp 5) (.tmp 6) 26 rfl W.heap.size 91 i (.agg #[.int .i64 0,.int .i64 0,.slice none 0 0]) 3 40 underlying26 HI.out HZ.out HS.out HB.out rfl (by decide) (.slice (some ⟨W.heap.size,0,none⟩) 0 0) 0 [] rfl own_nil ad n c news rfl HL.out src.out H1.out (by unfold maxLen;omega) (by omega) (by rw [zsA];omega) ?_;intro v' w' hv hg _ _;have G1:=hid (((zr W).al (.cells #[] 91)).gb hg (λ k hk=>by have hk:some W.heap.size=some k:=hk;injection hk with hk;omega));rw [Nat.zero_add,List.nil_append] at hv;obtain⟨A',c',rfl⟩:=own_form hv;have HV:=hid hv;clear hv hg;go_wp2_with fail;go_ret;exact⟨A',c',rfl,HV.out,G1.out⟩
theorem infoInts:(prog.info? 3).map (λ i=>(i.zero,i.size,i.bytes))=some (some (.int .i64 0),1,8):=by kernel_rfl
theorem cloneInts {W:World} {A:Option Addr} {n c:Nat} {news:List Value} (h0:A=none->n=0) (hl:news.length=n*1) (hs:∀ ad,A=some ad->∀ j u,news[j]?=some u->W.cell? (ad.add j)=some u) (h1:∀ u∈news,u.oneCell'=true) (hn:n<=1000000) :
 Calls prog 62 #[.slice A n c] W λ e w'=>∃ A' c',e=.returned (.slice A' n c')/\w'.ownsRow W.heap.size 3 1 (.slice A' n c') n news/\Gr W w':=by
 rcases A with _ | ad
 . obtain rfl:=h0 rfl
   have hnews:news=[]:=zen (by omega);subst hnews;clear hl hs h1;have hq:=run_eql_slice_nil 23 3 none 0 c underlying23;go_enter func62,ntmps62;go_wp2_with fail;go_ret;exact⟨none,0,rfl,⟨by simp,.inl ⟨rfl,rfl⟩⟩,zr _⟩
 . obtain⟨i,hi,hz,hsz,hb⟩:=P12.info_parts infoInts
   have HI:=hid hi;have HZ:=hid hz;have HS:=hid hsz;have HB:=hid hb;have src:=hid (src_al (hs ad rfl) (.cells #[] 3));have HL:=hid hl;have H1:=hid h1;clear hi hz hsz hb hs h0 hl h1;have hq:=run_eql_slice_nil 23 3 (some ad) n c underlying23;go_enter func62,ntmps62;go_wp2_with (at_builtin;refine Mark.stop ?_);refine Mark.go ?_;refine wpList_append_own_at _ rfl (.tmp 5) (.tmp 6) 23 rfl W.heap.size 3 i (.int .i64 0) 1 8 underlying23 HI.out HZ.out HS.out HB.out rfl (by decide) (.slice (some ⟨W.heap.size,0,none⟩) 0 0) 0 [] rfl own_nil ad n c news rfl HL.out src.out H1.out (by unfold maxLen;omega) (by omega) (by rw [zsA];omega) ?_;intro v' w' hv hg _ _;have G1:=hid (((zr W).al (.cells #[] 3)).gb hg (λ k hk=>by have hk:some W.heap.size=some k:=hk;injection hk with hk;omega));rw [Nat.zero_add,List.nil_append] at hv;obtain⟨A',c',rfl⟩:=own_form hv;have HV:=hid hv;clear hv hg;go_wp2_with fail;go_ret;exact⟨A',c',rfl,HV.out,G1.out⟩
end P16
section
namespace P16
open P12 (PV PMem Late)
def FT (lo hi:Nat) (W W':World):Prop:=W.heap.size<=W'.heap.size/\∀ k,lo<=k->k<hi->k<W.heap.size->W'.heap[k]?=W.heap[k]?
section
variable {lo hi lo' hi' B:Nat} {W W' W'':World}
theorem FT.refl:FT lo hi W W:=⟨Nat.le_refl _,λ _ _ _ _=>rfl⟩
theorem FT.trans (h:FT lo hi W W') (k:FT lo hi W' W''):FT lo hi W W'' :=
 ⟨Nat.le_trans h.1 k.1,λ j h1 h2 h3=>(k.2 j h1 h2 (zlt h3 h.1)).trans (h.2 j h1 h2 h3)⟩
theorem FT.sub (h:FT lo hi W W') (h1:lo<=lo') (h2:hi'<=hi):FT lo' hi' W W':=⟨h.1,λ k q1 q2=>h.2 k (by omega) (by omega)⟩
theorem FT.gr (g:Gr W W'):FT lo hi W W':=⟨g.size,λ k _ _ h=>g.block k h⟩
theorem FT.st {p:Addr} (hp:p.block<lo\/hi<=p.block) (u:Value):FT lo hi W (W.setCell p u) :=
 ⟨by simp [World.setCell],λ k h1 h2 _=>Below.heap_setCell W p u k (by omega)⟩
theorem FromB.ft (h:FromB B W W') (hb:B<=lo):FT lo hi W W':=⟨h.1,λ k h1 _ h3=>h.2 k (by omega) h3⟩
end
section
variable {α:Type} {en:α->List Value} {q i j:Nat} {l:List α} {x:α} {u:Value}
theorem flat_len' (hq:∀ x,(en x).length=q):∀ l:List α,(l.flatMap en).length=l.length*q
 | []=>by simp
 | x::r=>by rw [List.flatMap_cons,List.length_append,hq,flat_len' hq r,List.length_cons];rw [Nat.add_mul];omega
theorem flat_at (hq:∀ x,(en x).length=q):∀ (l:List α) (i j:Nat) (x:α) (u:Value),l[i]?=some x->(en x)[j]?=some u->(l.flatMap en)[i*q+j]?=some u
 | [],i,j,x,u,h,_=>by simp at h
 | y::r,0,j,x,u,h,hu=>by
  simp at h;subst h;rw [List.flatMap_cons,Nat.zero_mul,Nat.zero_add,List.getElem?_append_left (zgl hu)];exact hu
 | y::r,i+1,j,x,u,h,hu=>by
  rw [List.flatMap_cons,List.getElem?_append_right (by rw [hq,Nat.add_mul];omega),hq,show (i+1)*q+j-q=i*q+j from by rw [Nat.add_mul];omega];exact flat_at hq r i j x u (by simpa using h) hu
theorem flat_back (hq:∀ x,(en x).length=q):∀ (l:List α) (j:Nat) (u:Value),(l.flatMap en)[j]?=some u->∃ i x k,l[i]?=some x/\(en x)[k]?=some u/\j=i*q+k
 | [],j,u,h=>by simp at h
 | y::r,j,u,h=>by
  rw [List.flatMap_cons] at h;by_cases hj:j<q
  . rw [List.getElem?_append_left (by rw [hq];exact hj)] at h
    exact⟨0,y,j,rfl,h,by omega⟩
  . rw [List.getElem?_append_right (by rw [hq];omega),hq] at h
    obtain⟨i,x,k,h1,h2,h3⟩:=flat_back hq r _ u h;exact⟨i+1,x,k,by simpa using h1,h2,by rw [Nat.add_mul];omega⟩
theorem rmem_src {ok:α->Prop} {w:World} {A:Option Addr} {n:Nat} (hq:∀ x,(en x).length=q) (h:RMem en q ok w A n l):∀ ad,A=some ad->∀ j u,(l.flatMap en)[j]?=some u->w.cell? (ad.add j)=some u:=by
 intro ad hA j u hu;obtain⟨i,x,k,h1,h2,rfl⟩:=flat_back hq l j u hu;have hi:=(zgl h1);obtain⟨b,off,e,_,hc⟩:=h.2.2 (by have:=h.1;omega);rw [hA] at e;cases e;rw [add_plain,<- Nat.add_assoc];exact hc i x h1 k u h2
theorem rmem_nil {ok:α->Prop} {w:World} {A:Option Addr} {n:Nat} (h:RMem en q ok w A n l) (hA:A=none):n=0:=by
 rcases Nat.eq_zero_or_pos n with h0 | h0
 . exact h0
 . obtain⟨_,_,e,_⟩:=h.2.2 h0
   rw [hA] at e;cases e
end
section
variable {w w':World} {base q n c:Nat} {e:TypeId} {A:Option Addr} {xs:List Value}
theorem own_parts (h:w.ownsRow base e q (.slice A n c) n xs):n<=c/\c<=9223372036854775807/\Late base A/\(0<n->∃ g cur,A=some ⟨g,0,none⟩/\base<=g/\Blk w g cur e/\cur.toList.take (n*q)=xs):=by
 rcases h.2 with ⟨hv,h0⟩ | ⟨g,cap,cur,hv,hb,hg,hnc,hcm,hs,ht⟩
 . cases hv
   exact⟨by omega,by omega,Late.none,λ h=>by omega⟩
 . cases hv
   refine⟨hnc,by unfold maxLen at hcm;omega,λ k hk=>by simp at hk;omega,λ _=>⟨g,cur,rfl,hb,hg,ht⟩⟩
theorem own_blk {g:Nat} {cur:Array Value} (hb:Blk w g cur e) {k:Nat} {u:Value} (ht:cur.toList.take (n*q)=xs) (hx:xs[k]?=some u):cur[k]?=some u:=by
 rw [<- ht,List.getElem?_take] at hx
 split at hx
 . simpa using hx
 . cases hx
variable {α:Type} {en:α->List Value} {l:List α} {ok:α->Prop}
theorem own_orow (hq:∀ x,(en x).length=q) (h:w.ownsRow base e q (.slice A n c) n (l.flatMap en)) (hn:0<n):∃ g,A=some ⟨g,0,none⟩/\base<=g/\ORow en q w g 0 l:=by
 obtain⟨_,_,_,k⟩:=own_parts h;obtain⟨g,cur,e1,e2,e3,e4⟩:=k hn;refine⟨g,e1,e2,cur,e,e3,λ i x hi j v hj=>?_⟩;rw [Nat.zero_add];exact own_blk e3 e4 (flat_at hq l i j x v hi hj)
theorem orow_rmem {b o:Nat} (h:ORow en q w b o l) (hl:l.length=n) (hb:∀ x∈l,ok x):RMem en q ok w (some ⟨b,o,none⟩) n l :=
 ⟨hl,hb,λ _=>⟨b,o,rfl,h.lt,λ i x hx j v hv=>(h.at_ hx hv).1⟩⟩
end
section
variable {w w':World} {A:Option Addr} {n:Nat}
theorem mem_keep {l:List Ac} (h:Mem w A n l) (hs:w.heap.size<=w'.heap.size) (hb:0<n->∀ k,A.map (·.block)=some k->w'.heap[k]?=w.heap[k]?):Mem w' A n l :=
 ⟨h.1,h.2.1,λ hn=>by
   obtain⟨b,off,rfl,hlt,hc⟩:=h.2.2 hn;exact⟨b,off,rfl,by omega,λ j x hj=>(World.cell?_of_block (a:=⟨b,off+j,none⟩) (hb hn b rfl)).trans (hc j x hj)⟩⟩
theorem mem_src {l:List Ac} (h:Mem w A n l):∀ ad,A=some ad->∀ j u,(flat l)[j]?=some u->w.cell? (ad.add j)=some u:=by
 intro ad hA j u hu;have hn:0<n:=by
  have h1:=(zgl hu);rw [flat_len,h.1] at h1;omega
 obtain⟨b,off,e,_,hc⟩:=h.2.2 hn;rw [hA] at e;cases e;rw [add_plain];exact hc j u hu
theorem mem_nil {l:List Ac} (h:Mem w A n l) (hA:A=none):n=0:=by
 rcases Nat.eq_zero_or_pos n with h0 | h0
 . exact h0
 . obtain⟨_,_,e,_⟩:=h.2.2 h0
   rw [hA] at e;cases e
theorem emem_keep {α:Type} {enc:α->Value} {ok:α->Prop} {l:List α} (h:EMem enc ok w A n l) (hs:w.heap.size<=w'.heap.size) (hb:0<n->∀ k,A.map (·.block)=some k->w'.heap[k]?=w.heap[k]?):EMem enc ok w' A n l :=
 ⟨h.1,h.2.1,λ hn=>by
   obtain⟨b,off,rfl,hlt,hc⟩:=h.2.2 hn;exact⟨b,off,rfl,by omega,λ j x hj=>(World.cell?_of_block (a:=⟨b,off+j,none⟩) (hb hn b rfl)).trans (hc j x hj)⟩⟩
theorem emem_src {α:Type} {enc:α->Value} {ok:α->Prop} {l:List α} (h:EMem enc ok w A n l):∀ ad,A=some ad->∀ j u,(l.map enc)[j]?=some u->w.cell? (ad.add j)=some u:=by
 intro ad hA j u hu;rw [List.getElem?_map,Option.map_eq_some_iff] at hu;obtain⟨x,hx,rfl⟩:=hu;have hi:=(zgl hx);obtain⟨b,off,e,_,hc⟩:=h.2.2 (by have:=h.1;omega);rw [hA] at e;cases e;rw [add_plain];exact hc j x hx
theorem emem_nil {α:Type} {enc:α->Value} {ok:α->Prop} {l:List α} (h:EMem enc ok w A n l) (hA:A=none):n=0:=by
 rcases Nat.eq_zero_or_pos n with h0 | h0
 . exact h0
 . obtain⟨_,_,e,_⟩:=h.2.2 h0
   rw [hA] at e;cases e
abbrev spV (x:SV):List Value:=[.int .i64 x.addr,.int .i64 x.cnt,.slice x.A x.n x.c]
theorem spV_len (x:SV):(spV x).length=3:=rfl
theorem smem_rmem {l:List SV} (h:SMem w A n l):RMem spV 3 (λ x=>x.ok w) w A n l :=
 ⟨h.1,h.2.1,λ hn=>by
   obtain⟨b,off,e,hb,hc⟩:=h.2.2 hn;refine⟨b,off,e,hb,λ i x hx j v hv=>?_⟩;obtain⟨c0,c1,c2⟩:=hc i x hx
   match j,hv with
   | 0,hv=>cases hv;exact c0
   | 1,hv=>cases hv;exact c1
   | 2,hv=>cases hv;exact c2⟩
theorem flat_one_of {α:Type} {en:α->List Value} (h:∀ x,∀ u∈en x,u.oneCell'=true) (l:List α):∀ u∈l.flatMap en,u.oneCell'=true:=by
 intro u hu;obtain⟨x,_,h1⟩:=List.mem_flatMap.1 hu;exact h x u h1
end
end P16
end
section
namespace P16
open P12 (PV PMem Late)
def PRow (base lo g:Nat) (wr:World) (R:List PV) (k:Nat):Prop :=
 ∃ R':List PV,R'.length=R.length/\(∀ (i:Nat) y,R[i]?=some y->∃ x,R'[i]?=some x/\x.l=y.l/\(k<=i->x=y)/\(i<k->x.ok wr/\Late lo x.A)) /\
  (0<R.length->base<=g/\g<lo/\∃ cur,Blk wr g cur 64/\∀ (i:Nat) x,R'[i]?=some x->cur[i]?=some x.enc)
theorem late_keep {w w':World} {x:PV} {lo:Nat} (hx:x.ok w) (hl:Late lo x.A) (hs:w.heap.size<=w'.heap.size) (hb:∀ k,lo<=k->k<w.heap.size->w'.heap[k]?=w.heap[k]?):x.ok w' :=
 ⟨mem_keep hx.1 hs λ hn k hk=>hb k (hl k hk) (by
   obtain⟨b,off,e,hlt,_⟩:=hx.1.2.2 hn;rw [e] at hk;cases hk;exact hlt),hx.2⟩
section
variable {base lo g k:Nat} {wr wr':World} {R:List PV} {y:PV}
theorem PRow.keep (h:PRow base lo g wr R k) (hbl:base<=lo) (hs:wr.heap.size<=wr'.heap.size) (hb:∀ j,base<=j->j<wr.heap.size->wr'.heap[j]?=wr.heap[j]?):PRow base lo g wr' R k:=by
 obtain⟨R',h1,h2,h3⟩:=h;refine⟨R',h1,λ i y hy=>?_,λ hn=>?_⟩
 . obtain⟨x,e1,e2,e3,e4⟩:=h2 i y hy
   exact⟨x,e1,e2,e3,λ hi=>⟨late_keep (e4 hi).1 (e4 hi).2 hs λ j q1 q2=>hb j (by omega) q2,(e4 hi).2⟩⟩
 . obtain⟨b1,b2,cur,hB,hc⟩:=h3 hn
   refine⟨b1,b2,cur,?_,hc⟩;unfold Blk;rw [hb g b1 hB.lt];exact hB
theorem PRow.gr (h:PRow base lo g wr R k) (hbl:base<=lo) (q:Gr wr wr'):PRow base lo g wr' R k:=h.keep hbl q.size λ j _ hj=>q.block j hj
theorem PRow.st (h:PRow base lo g wr R k) (hbl:base<=lo) {p:Addr} (hp:p.block<base) (v:Value):PRow base lo g (wr.setCell p v) R k :=
 h.keep hbl (by simp [World.setCell]) λ j q1 _=>Below.heap_setCell wr p v j (by omega)
theorem PRow.at_ (h:PRow base lo g wr R k) (hy:R[k]?=some y):base<=g/\g<wr.heap.size/\wr.cell? ⟨g,k,none⟩=some y.enc/\wr.frozen? ⟨g,k,none⟩=false:=by
 obtain⟨R',h1,h2,h3⟩:=h;have hk:=(zgl hy);obtain⟨x,e1,e2,e3,_⟩:=h2 k y hy;obtain⟨b1,b2,cur,hB,hc⟩:=h3 (by omega);obtain rfl:=e3 (Nat.le_refl _);exact⟨b1,hB.lt,hB.at_ (hc k _ e1)⟩
theorem PRow.start {A:Option Addr} {n c:Nat} (h:wr.ownsRow base 64 1 (.slice A n c) n (R.map PV.enc)) (hl:R.length=n) (hA:0<n->A=some ⟨g,0,none⟩) (hlo:wr.heap.size<=lo):PRow base lo g wr R 0:=by
 refine⟨R,rfl,λ i y hy=>⟨y,hy,rfl,λ _=>rfl,λ hi=>by omega⟩,λ hn=>?_⟩;obtain⟨_,_,_,k⟩:=own_parts h;obtain⟨g',cur,e1,e2,e3,e4⟩:=k (by omega);rw [hA (by omega)] at e1;cases e1;have:=e3.lt;exact⟨e2,by omega,cur,e3,λ i x hx=>own_blk e3 e4 (by rw [List.getElem?_map,hx];rfl)⟩
theorem PRow.put (h:PRow base lo g wr R k) (hbl:base<=lo) (hy:R[k]?=some y) {w2:World} {A2:Option Addr} {b2 c2:Nat} (g2:Gr wr w2) (hyb:∀ x∈y.l,Inb x.1/\Inb x.2) (hyl:y.l.length=y.n)
 (o2:w2.ownsRow b2 67 2 (.slice A2 y.n c2) y.n (flat y.l)) (hb2:lo<=b2):PRow base lo g (w2.setCell ⟨g,k,none⟩ (.slice A2 y.n c2)) R (k+1):=by
 have hk:=(zgl hy);rw [<- hyl] at o2;obtain⟨A3,c3,e3,m3,n3,x3,l3⟩:=P12.own_mem o2 hyb;injection e3 with e3 _ e4
 subst e3 e4;obtain⟨R',h1,h2,h3⟩:=h.gr hbl g2;obtain⟨q1,q2,cur,hB,hc⟩:=h3 (by omega);have okn:PV.ok (w2.setCell ⟨g,k,none⟩ (.slice A2 y.n c2)) ⟨A2,y.n,c2,y.l⟩:=by
  rw [hyl] at m3 n3;have m0:PV.ok w2 ⟨A2,y.n,c2,y.l⟩:=⟨m3,n3,x3⟩;exact late_keep m0 l3 (by simp [World.setCell]) λ j j1 _=>Below.heap_setCell w2 _ _ j (by show j≠g;omega)
 refine⟨R'.set k ⟨A2,y.n,c2,y.l⟩,by rw [List.length_set];exact h1,λ i z hz=>?_,λ _=>⟨q1,q2,cur.setIfInBounds k (.slice A2 y.n c2),hB.set k _,λ i x hx=>?_⟩⟩
 . by_cases e:i=k
   . subst e
     rw [hy] at hz;cases hz;exact⟨_,zss (by omega),rfl,λ q=>by omega,λ _=>⟨okn,l3.low hb2⟩⟩
   . obtain⟨x,e1,e2,e5,e6⟩:=h2 i z hz
     refine⟨x,by rw [zsn (Ne.symm e)];exact e1,e2,λ q=>e5 (by omega),λ q=>?_⟩;obtain⟨f1,f2⟩:=e6 (by omega);exact⟨late_keep f1 f2 (by simp [World.setCell]) λ j j1 _=>Below.heap_setCell w2 _ _ j (by show j≠g;omega),f2⟩
 . rw [Array.getElem?_setIfInBounds]
   by_cases e:k=i
   . subst e
     rw [zss (by omega)] at hx;cases hx;rw [if_pos rfl];have hlt:k<cur.size:=by
      have:=hc k _ (zge (by omega));exact (zal this)
     rw [if_pos hlt];rfl
   . rw [zsn e] at hx
     rw [if_neg e];exact hc i x hx
theorem PRow.done (h:PRow base lo g wr R k) (hbl:base<=lo) (hk:k=R.length) {A:Option Addr} (hA:0<k->A=some ⟨g,0,none⟩):∀ hi W',wr.heap.size<=hi->FT base hi wr W'->∃ R',PMem W' A k R'/\P12.pl R'=P12.pl R:=by
 intro hi W' hhi f;obtain⟨R',h1,h2,h3⟩:=h.keep (wr':=W') hbl f.1 λ j q1 q2=>f.2 j q1 (by omega) q2
 refine⟨R',⟨⟨by omega,λ _ _=>trivial,λ hn=>?_⟩,λ x hx=>?_⟩,?_⟩
 . obtain⟨_,_,cur,hB,hc⟩:=h3 (by omega)
   refine⟨g,0,hA hn,hB.lt,λ i x hx=>?_⟩;rw [Nat.zero_add];exact (hB.at_ (hc i x hx)).1
 . obtain⟨i,hi⟩:=List.getElem?_of_mem hx
   have hlt:=(zgl hi);obtain⟨x',e1,_,_,e4⟩:=h2 i _ (zge (by omega));rw [hi] at e1;cases e1;exact (e4 (by omega)).1
 . unfold P12.pl
   apply List.ext_getElem?;intro i;rw [List.getElem?_map,List.getElem?_map]
   cases hy:R[i]? with
   | none=>rw [List.getElem?_eq_none (by have:=List.getElem?_eq_none_iff.1 hy;omega)]
   | some y =>
    obtain⟨x,e1,e2,_⟩:=h2 i y hy;rw [e1];simp [e2]
end
def TRow (base lo g:Nat) (wr:World) (T:List SV) (k:Nat):Prop :=
 ∃ T':List SV,T'.length=T.length/\(∀ (i:Nat) y,T[i]?=some y->∃ x,T'[i]?=some x/\x.pl=y.pl/\(k<=i->x=y)/\(i<k->x.ok wr/\Late lo x.A)) /\
  (0<T.length->base<=g/\g<lo/\∃ cur,Blk wr g cur 91/\∀ (i:Nat) x,T'[i]?=some x->∀ j v,(spV x)[j]?=some v->cur[i*3+j]?=some v)
theorem late_keepS {w w':World} {x:SV} {lo:Nat} (hx:x.ok w) (hl:Late lo x.A) (hs:w.heap.size<=w'.heap.size) (hb:∀ k,lo<=k->k<w.heap.size->w'.heap[k]?=w.heap[k]?):x.ok w' :=
 ⟨hx.1,hx.2.1,emem_keep hx.2.2.1 hs λ hn k hk=>hb k (hl k hk) (by
   obtain⟨b,off,e,hlt,_⟩:=hx.2.2.1.2.2 hn;rw [e] at hk;cases hk;exact hlt),hx.2.2.2⟩
section
variable {base lo g k:Nat} {wr wr':World} {T:List SV} {y:SV}
theorem TRow.keep (h:TRow base lo g wr T k) (hbl:base<=lo) (hs:wr.heap.size<=wr'.heap.size) (hb:∀ j,base<=j->j<wr.heap.size->wr'.heap[j]?=wr.heap[j]?):TRow base lo g wr' T k:=by
 obtain⟨T',h1,h2,h3⟩:=h;refine⟨T',h1,λ i y hy=>?_,λ hn=>?_⟩
 . obtain⟨x,e1,e2,e3,e4⟩:=h2 i y hy
   exact⟨x,e1,e2,e3,λ hi=>⟨late_keepS (e4 hi).1 (e4 hi).2 hs λ j q1 q2=>hb j (by omega) q2,(e4 hi).2⟩⟩
 . obtain⟨b1,b2,cur,hB,hc⟩:=h3 hn
   refine⟨b1,b2,cur,?_,hc⟩;unfold Blk;rw [hb g b1 hB.lt];exact hB
theorem TRow.gr (h:TRow base lo g wr T k) (hbl:base<=lo) (q:Gr wr wr'):TRow base lo g wr' T k:=h.keep hbl q.size λ j _ hj=>q.block j hj
theorem TRow.st (h:TRow base lo g wr T k) (hbl:base<=lo) {p:Addr} (hp:p.block<base) (v:Value):TRow base lo g (wr.setCell p v) T k :=
 h.keep hbl (by simp [World.setCell]) λ j q1 _=>Below.heap_setCell wr p v j (by omega)
theorem TRow.at_ (h:TRow base lo g wr T k) (hy:T[k]?=some y):base<=g/\g<wr.heap.size/\wr.cell? ⟨g,k*3,none⟩=some (.int .i64 y.addr)/\wr.cell? ⟨g,k*3+1,none⟩=some (.int .i64 y.cnt)/\wr.cell? ⟨g,k*3+2,none⟩=some (.slice y.A y.n y.c)/\wr.frozen? ⟨g,k*3+2,none⟩=false:=by
 obtain⟨T',h1,h2,h3⟩:=h;have hk:=(zgl hy);obtain⟨x,e1,e2,e3,_⟩:=h2 k y hy;obtain⟨b1,b2,cur,hB,hc⟩:=h3 (by omega);obtain rfl:=e3 (Nat.le_refl _);have c2:=hB.at_ (hc k _ e1 2 _ rfl);exact⟨b1,hB.lt,(hB.at_ (hc k _ e1 0 _ rfl)).1,(hB.at_ (hc k _ e1 1 _ rfl)).1,c2.1,c2.2⟩
theorem TRow.start {A:Option Addr} {n c:Nat} (h:wr.ownsRow base 91 3 (.slice A n c) n (T.flatMap spV)) (hl:T.length=n) (hA:0<n->A=some ⟨g,0,none⟩) (hlo:wr.heap.size<=lo):TRow base lo g wr T 0:=by
 refine⟨T,rfl,λ i y hy=>⟨y,hy,rfl,λ _=>rfl,λ hi=>by omega⟩,λ hn=>?_⟩;obtain⟨_,_,_,k⟩:=own_parts h;obtain⟨g',cur,e1,e2,e3,e4⟩:=k (by omega);rw [hA (by omega)] at e1;cases e1;have:=e3.lt;exact⟨e2,by omega,cur,e3,λ i x hx j v hv=>own_blk e3 e4 (flat_at spV_len T i j x v hx hv)⟩
theorem TRow.put (h:TRow base lo g wr T k) (hbl:base<=lo) (hy:T[k]?=some y) {w2:World} {A2:Option Addr} {b2 c2:Nat} (g2:Gr wr w2) {V:World} (hyk:y.ok V)
 (o2:w2.ownsRow b2 3 1 (.slice A2 y.n c2) y.n (y.line.map (Value.int .i64))) (hb2:lo<=b2):TRow base lo g (w2.setCell ⟨g,k*3+2,none⟩ (.slice A2 y.n c2)) T (k+1):=by
 have hk:=(zgl hy);obtain⟨n3,x3,l3,k3⟩:=own_parts o2;have m3:IMem w2 A2 y.n y.line:=⟨hyk.len,hyk.2.2.1.2.1,λ hn=>by
  obtain⟨g',cur,e1,e2,e3,e4⟩:=k3 hn;refine⟨g',0,e1,e3.lt,λ j x hx=>?_⟩;rw [Nat.zero_add];exact (e3.at_ (own_blk e3 e4 (by rw [List.getElem?_map,hx];rfl))).1⟩
 obtain⟨T',h1,h2,h3⟩:=h.gr hbl g2;obtain⟨q1,q2,cur,hB,hc⟩:=h3 (by omega);have okn:SV.ok (w2.setCell ⟨g,k*3+2,none⟩ (.slice A2 y.n c2)) ⟨y.addr,y.cnt,A2,y.n,c2,y.line⟩:=by
  have m0:SV.ok w2 ⟨y.addr,y.cnt,A2,y.n,c2,y.line⟩:=⟨hyk.1,hyk.2.1,m3,n3,x3⟩;exact late_keepS m0 l3 (by simp [World.setCell]) λ j j1 _=>Below.heap_setCell w2 _ _ j (by show j≠g;omega)
 refine⟨T'.set k ⟨y.addr,y.cnt,A2,y.n,c2,y.line⟩,by rw [List.length_set];exact h1,λ i z hz=>?_,λ _=>⟨q1,q2,cur.setIfInBounds (k*3+2) (.slice A2 y.n c2),hB.set _ _,λ i x hx j v hv=>?_⟩⟩
 . by_cases e:i=k
   . subst e
     rw [hy] at hz;cases hz;exact⟨_,zss (by omega),rfl,λ q=>by omega,λ _=>⟨okn,l3.low hb2⟩⟩
   . obtain⟨x,e1,e2,e5,e6⟩:=h2 i z hz
     refine⟨x,by rw [zsn (Ne.symm e)];exact e1,e2,λ q=>e5 (by omega),λ q=>?_⟩;obtain⟨f1,f2⟩:=e6 (by omega);exact⟨late_keepS f1 f2 (by simp [World.setCell]) λ j j1 _=>Below.heap_setCell w2 _ _ j (by show j≠g;omega),f2⟩
 . have hj:j<3:=(zgl hv)
   rw [Array.getElem?_setIfInBounds];by_cases e:k=i
   . subst e
     rw [zss (by omega)] at hx;cases hx;obtain⟨x,e1,e2,e5,e6⟩:=h2 k y hy;obtain rfl:=e5 (Nat.le_refl _);have hc1:=λ j v=>hc k _ e1 j v
     match j,hv,hj with
     | 0,hv,_=>rw [if_neg (by omega)];exact hc1 0 v hv
     | 1,hv,_=>rw [if_neg (by omega)];exact hc1 1 v hv
     | 2,hv,_ =>
      cases hv;have:=(Array.getElem?_eq_some_iff.1 (hc1 2 _ rfl)).1;rw [if_pos rfl,if_pos this]
   . rw [zsn e] at hx
     rw [if_neg (by omega)];exact hc i x hx j v hv
theorem TRow.done (h:TRow base lo g wr T k) (hbl:base<=lo) (hk:k=T.length) {A:Option Addr} (hA:0<k->A=some ⟨g,0,none⟩):∀ hi W',wr.heap.size<=hi->FT base hi wr W'->∃ T',SMem W' A k T'/\T'.map SV.pl=T.map SV.pl:=by
 intro hi W' hhi f;obtain⟨T',h1,h2,h3⟩:=h.keep (wr':=W') hbl f.1 λ j q1 q2=>f.2 j q1 (by omega) q2
 refine⟨T',⟨by omega,λ x hx=>?_,λ hn=>?_⟩,?_⟩
 . obtain⟨i,hi⟩:=List.getElem?_of_mem hx
   have hlt:=(zgl hi);obtain⟨x',e1,_,_,e4⟩:=h2 i _ (zge (by omega));rw [hi] at e1;cases e1;exact (e4 (by omega)).1
 . obtain⟨_,_,cur,hB,hc⟩:=h3 (by omega)
   refine⟨g,0,hA hn,hB.lt,λ i x hx=>?_⟩;rw [Nat.zero_add];exact⟨(hB.at_ (hc i x hx 0 _ rfl)).1,(hB.at_ (hc i x hx 1 _ rfl)).1,(hB.at_ (hc i x hx 2 _ rfl)).1⟩
 . apply List.ext_getElem?
   intro i;rw [List.getElem?_map,List.getElem?_map]
   cases hy:T[i]? with
   | none=>rw [List.getElem?_eq_none (by have:=List.getElem?_eq_none_iff.1 hy;omega)]
   | some y =>
    obtain⟨x,e1,e2,_⟩:=h2 i y hy;rw [e1];simp [e2]
end
theorem orow_ft {α:Type} {en:α->List Value} {q n lo hi:Nat} {w w':World} {A:Option Addr} {l:List α} (h:0<n->∃ g,A=some ⟨g,0,none⟩/\lo<=g/\g<hi/\ORow en q w g 0 l) (f:FT lo hi w w'):0<n->∃ g,A=some ⟨g,0,none⟩/\lo<=g/\g<hi/\ORow en q w' g 0 l:=λ hn=>by
 obtain⟨g,e,h1,h2,o⟩:=h hn;exact⟨g,e,h1,h2,o.kept (f.2 g h1 h2 o.lt)⟩
theorem orow_own {α:Type} {en:α->List Value} {q n base c:Nat} {w:World} {e:TypeId} {A:Option Addr} {l:List α} (hq:∀ x,(en x).length=q) (h:w.ownsRow base e q (.slice A n c) n (l.flatMap en)):0<n->∃ g,A=some ⟨g,0,none⟩/\base<=g/\g<w.heap.size/\ORow en q w g 0 l:=λ hn=>by
 obtain⟨g,e,h1,o⟩:=own_orow hq h hn;exact⟨g,e,h1,o.lt,o⟩
theorem far_cell {w:World} {p q:Addr} {v u:Value} (h:w.cell? q=some u) (hne:q.block≠p.block):(w.setCell p v).cell? q=some u :=
 (World.cell?_of_block (Below.heap_setCell w p v q.block hne)).trans h
structure WRd (W:World) (r:WR) (ω:Wv):Prop where
 now:r.now=ω.now
 stop:r.stop=ω.stop
 bn:B64 ω.now
 bs:B64 ω.stop
 p:∃ R,PMem W r.p.A r.p.n R/\P12.pl R=ω.progs
 c:CMem W r.c.A r.c.n ω.cl
 m:T3Mem W r.m.A r.m.n ω.mx
 t:∃ T,SMem W r.t.A r.t.n T/\T.map SV.pl=ω.tb
theorem WIs.rd {W:World} {r:WR} {ω:Wv} (h:WIs W r ω):WRd W r ω:=⟨h.now,h.stop,h.bn,h.bs,h.p,h.c,h.m,h.t⟩
theorem WRd.lens {W:World} {r:WR} {ω:Wv} (h:WRd W r ω):ω.progs.length=r.p.n/\ω.cl.length=r.c.n/\ω.mx.length=r.m.n/\ω.tb.length=r.t.n:=by
 obtain⟨R,hR,e⟩:=h.p;obtain⟨T,hT,e'⟩:=h.t;refine⟨?_,h.c.len,h.m.len,?_⟩
 . rw [<- e];unfold P12.pl;rw [List.length_map];exact hR.len
 . rw [<- e',List.length_map];exact hT.1
structure Copied (B:Nat) (w:World) (s:WR) (ω:Wv) (b1 b2 b3:Nat):Prop where
 l1:B<=b1
 l2:b1<=b2
 l3:b2<=b3
 l4:b3<=w.heap.size
 now:s.now=ω.now
 stop:s.stop=ω.stop
 bn:B64 ω.now
 bs:B64 ω.stop
 nc:ω.cl.length=s.c.n
 nm:ω.mx.length=s.m.n
 p:∀ W',FT B b1 w W'->∃ R,PMem W' s.p.A s.p.n R/\P12.pl R=ω.progs
 c:0<s.c.n->∃ g,s.c.A=some ⟨g,0,none⟩/\b1<=g/\g<b2/\ORow clV 13 w g 0 ω.cl
 m:0<s.m.n->∃ g,s.m.A=some ⟨g,0,none⟩/\b2<=g/\g<b3/\ORow t3V 3 w g 0 ω.mx
 t:∀ W',FT b3 w.heap.size w W'->∃ T,SMem W' s.t.A s.t.n T/\T.map SV.pl=ω.tb
 cb:∀ x∈ω.cl,CB x
 mb:∀ x∈ω.mx,TB3 x
 op:s.p.ok
 oc:s.c.ok
 om:s.m.ok
 ot:s.t.ok
theorem rmem_of_orow {α:Type} {en:α->List Value} {q n:Nat} {ok:α->Prop} {w w':World} {A:Option Addr} {l:List α} {b1 b2:Nat} (hl:l.length=n) (hb:∀ x∈l,ok x)
 (h:0<n->∃ g,A=some ⟨g,0,none⟩/\b1<=g/\g<b2/\ORow en q w g 0 l) (f:FT b1 b2 w w'):RMem en q ok w' A n l:=by
 rcases Nat.eq_zero_or_pos n with h0 | h0
 . subst h0
   obtain rfl:=zen hl;exact⟨rfl,by simp,λ h=>by omega⟩
 . obtain⟨g,rfl,e1,e2,o⟩:=h h0
   exact orow_rmem (o.kept (f.2 g e1 e2 o.lt)) hl hb
theorem Copied.new {B b1 b2 b3:Nat} {w:World} {s:WR} {ω:Wv} (h:Copied B w s ω b1 b2 b3):WNew B w s ω:=by
 intro W' f;have l1:=h.l1;have l2:=h.l2;have l3:=h.l3;exact⟨h.now,h.stop,h.bn,h.bs,h.p W' (f.ft (Nat.le_refl _)),rmem_of_orow h.nc h.cb h.c (f.ft l1),rmem_of_orow h.nm h.mb h.m (f.ft (by omega)),h.t W' (f.ft (by omega)),h.op,h.oc,h.om,h.ot⟩
end P16
end
namespace P12
def cutV (x:PV):PV:=⟨x.A,if 70<x.n then 70 else x.n,x.c,x.l.take 70⟩
theorem cutV_ok {w:World} {x:PV} (h:x.ok w):(cutV x).ok w:=by
 obtain⟨h1,h2,h3⟩:=h;refine⟨?_,?_,h3⟩
 . show Mem w x.A (if 70<x.n then 70 else x.n) (x.l.take 70)
   split
   . exact h1.take_ 70 (by omega)
   . rw [List.take_of_length_le (by have:=h1.1;omega)]
     exact h1
 . show (if 70<x.n then 70 else x.n)<=x.c
   split<;>omega
def fewP (l:List (List Ac)):List (List Ac):=(l.take 10).map λ p=>p.take 70
end P12
namespace P12
def ho (b:Bool) (m:Int):Option Int:=if b then some m else none
end P12
end Go.Proofs.YtainfijdhcehlaaGreatDoor
