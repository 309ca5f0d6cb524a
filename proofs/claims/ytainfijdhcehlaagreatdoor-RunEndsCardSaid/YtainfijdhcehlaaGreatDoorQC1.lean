/-
  A part of the proof.
-/
import Derived.ChangeSlices
import Derived.ChangeArms
import Derived.Deep.Slices
import Derived.Test.YtainfijdhcehlaaGreatDoorRows
import Derived.WalkKit
import Derived.ProofKit
import Derived.OpenShut
import Derived.Lib.Hide
import Derived.Handy
import Derived.Deep.Draws
import Derived.Deep.AppendLies
import Derived.OwnWalk
import Derived.RegionTactic
import Derived.Laws.OwnMore
import Derived.Lib.ItoaNum
import Derived.Lib.Split
import Derived.Lib.SplitLaws
import Derived.Lib.Join
import Derived.Lib.Strings
import Derived.Laws.MakeOwn
import Derived.Laws.CopyOwn
import Derived.Deep.QuietTactic
import Derived.BigQuiet
import Derived.Outline
import Derived.ArgAppend
import Derived.Deep.Upon
import Derived.Deep.SlicePairs
import Derived.OwnWalkIn
import Derived.Deep.RegionHeld3
import Derived.WalkMore
import Derived.Lib.SmallJoins
import Derived.Deep.Strs
set_option linter.unusedVariables false
set_option linter.unusedSimpArgs false
set_option maxRecDepth 100000
set_option maxHeartbeats 8000000
namespace Go.Proofs.YtainfijdhcehlaaGreatDoor
open Lib (hid)
open Go.Proofs.Tryz
open Go.ChangeAt Go.ChangeShapes Go.Deep Go.Joins Go.RowKit Go.WideShapes
theorem own:ownKnob prog.godebug=none:=by kernel_rfl
def Gr (w w':World):Prop:=Below w.heap.size w w'
theorem Gr.refl (w:World):Gr w w:=Below.refl _ _
theorem Gr.trans {a b c:World} (h:Gr a b) (k:Gr b c):Gr a c:=Below.trans h (Below.mono k h.size)
theorem Gr.trans' {a b c:World} (h:Gr a b) (k:Below a.heap.size b c):Gr a c:=Below.trans h k
theorem Gr.al {a w:World} (h:Gr a w) (o:Obj):Gr a (w.alloc o):=Below.alloc h h.size o
theorem Gr.st {a w:World} (h:Gr a w) {p:Addr} (hp:a.heap.size<=p.block) (u:Value):Gr a (w.setCell p u):=Below.setCell h hp u
theorem Gr.dr {a w:World} (h:Gr a w):Gr a w.drew:=Below.drew h
theorem Gr.drN {a w:World} (h:Gr a w) (n:Nat):Gr a (w.drewN n):=⟨h.os,h.tape,h.output,h.size,h.block⟩
theorem Gr.gb {a w w':World} {row:Option Nat} (h:Gr a w) (hg:w.grownBy w' row) (hr:∀ k,row=some k->a.heap.size<=k):Gr a w':=Below.grown h hg h.size hr
theorem zmo:type_of% @List.mem_of_getElem?:=@List.mem_of_getElem?
theorem zge:type_of% @List.getElem?_eq_getElem:=@List.getElem?_eq_getElem
theorem zss:type_of% @List.getElem?_set_self:=@List.getElem?_set_self
theorem zsn:type_of% @List.getElem?_set_ne:=@List.getElem?_set_ne
theorem zlt:type_of% @Nat.lt_of_lt_of_le:=@Nat.lt_of_lt_of_le
theorem zen:type_of% @List.eq_nil_of_length_eq_zero:=@List.eq_nil_of_length_eq_zero
theorem zsA:type_of% @World.size_alloc:=@World.size_alloc
theorem zr:type_of% @Gr.refl:=@Gr.refl
theorem zgl {α : Type} {l : List α} {i : Nat} {a : α} (h : l[i]? = some a) : i < l.length := (List.getElem?_eq_some_iff.1 h).1
theorem zal {α : Type} {l : Array α} {i : Nat} {a : α} (h : l[i]? = some a) : i < l.size := (Array.getElem?_eq_some_iff.1 h).1
section
def Mark (p:Prop):Prop:=p
theorem Mark.stop {p:Prop} (h:Mark p):p:=h
theorem Mark.go {p:Prop} (h:p):Mark p:=h
section
variable {α:Type}
def EMem (enc:α->Value) (ok:α->Prop) (w:World) (A:Option Addr) (n:Nat) (l:List α):Prop :=
 l.length=n/\(∀ x∈l,ok x)/\(0<n->∃ b off,A=some ⟨b,off,none⟩/\b<w.heap.size/\∀ j x,l[j]?=some x->w.cell? ⟨b,off+j,none⟩=some (enc x))
variable {enc:α->Value} {ok:α->Prop} {w w':World} {A:Option Addr} {n:Nat} {l:List α}
theorem EMem.nil_:EMem enc ok w A 0 []:=⟨rfl,by simp,λ h=>absurd h (by omega)⟩
theorem EMem.gr (h:EMem enc ok w A n l) (g:Gr w w'):EMem enc ok w' A n l :=
 ⟨h.1,h.2.1,λ hn=>by
   obtain⟨b,off,e,hb,hc⟩:=h.2.2 hn;exact⟨b,off,e,zlt hb g.size,λ j u hu=>(g.cell (p:=⟨b,off+j,none⟩) hb).trans (hc j u hu)⟩⟩
theorem EMem.below {B:Nat} (h:EMem enc ok w A n l) (g:Below B w w') (hs:w.heap.size<=B):EMem enc ok w' A n l :=
 h.gr (Below.mono g hs)
theorem EMem.at_ {k:Nat} (h:EMem enc ok w A n l) (hk:k<n) :
 ∃ b off x,A=some ⟨b,off,none⟩/\b<w.heap.size/\l[k]?=some x/\ok x/\w.cell? ⟨b,off+k,none⟩=some (enc x):=by
 obtain⟨b,off,e,hb,hc⟩:=h.2.2 (by omega);have hl:k<l.length:=by have:=h.1;omega
 have hx:l[k]?=some l[k]:=zge hl;exact⟨b,off,l[k],e,hb,hx,h.2.1 l[k] (List.getElem_mem hl),hc _ _ hx⟩
theorem EMem.take_ (h:EMem enc ok w A n l) (k:Nat) (hk:k<=n):EMem enc ok w A k (l.take k) :=
 ⟨by rw [List.length_take,h.1];omega,λ x hx=>h.2.1 x (List.mem_of_mem_take hx),λ hn=>by
   obtain⟨b,off,e,hb,hc⟩:=h.2.2 (by omega);refine⟨b,off,e,hb,λ j u hu=>hc j u ?_⟩;rw [List.getElem?_take] at hu
   split at hu
   . exact hu
   . cases hu⟩
theorem EMem.drop_ (h:EMem enc ok w A n l) {b off:Nat} (hA:A=some ⟨b,off,none⟩) (k:Nat) (hk:k<=n):EMem enc ok w (some ⟨b,off+k,none⟩) (n-k) (l.drop k) :=
 ⟨by rw [List.length_drop,h.1],λ x hx=>h.2.1 x (List.mem_of_mem_drop hx),λ hn=>by
   obtain⟨b',off',e,hb,hc⟩:=h.2.2 (by omega);rw [hA] at e;cases e;refine⟨b,off+k,rfl,hb,λ j u hu=>?_⟩;rw [List.getElem?_drop] at hu;rw [Nat.add_assoc];exact hc _ u hu⟩
theorem EMem.len (h:EMem enc ok w A n l):l.length=n:=h.1
theorem EMem.all (h:EMem enc ok w A n l):∀ x∈l,ok x:=h.2.1
theorem own_emem {base:Nat} {e:TypeId} {v:Value} (hl:l.length=n) (hb:∀ x∈l,ok x) (h:w.ownsRow base e 1 v n (l.map enc)):∃ B m,v=.slice B n m/\EMem enc ok w B n l/\n<=m/\m<=maxLen:=by
 rcases h.2 with ⟨rfl,rfl⟩ | ⟨g,cap,cur,rfl,_,hg,hnc,hcm,hs,ht⟩
 . exact⟨none,0,rfl,⟨hl,hb,λ h=>absurd h (by omega)⟩,Nat.le_refl _,Nat.zero_le _⟩
 . refine⟨_,_,rfl,⟨hl,hb,λ _=>⟨g,0,rfl,(zal hg),λ j u hu=>?_⟩⟩,hnc,hcm⟩
   rw [Nat.zero_add,cell_of_row w g j cur _ (0,0) hg];have hu':(l.map enc)[j]?=some (enc u):=by rw [List.getElem?_map,hu];rfl
   rw [<- ht,List.getElem?_take] at hu'
   split at hu'
   . simpa using hu'
   . cases hu'
end
section
variable {P:Program} (w:World)
theorem run_append_of_nil (base:Nat) (t ty e:TypeId) (i:TypeInfo) (size:Nat) (ht:P.underlying t=some (.slice e)) (hi:P.info? e=some i)
 (v:Value) (n:Nat) (xs:List Value) (hown:w.ownsRow base e size v n xs) (c:Nat):(Builtin.append_ #[t,t] ty #[v,.slice none 0 c]).run P w=.ok v w:=by
 rcases hown.2 with ⟨rfl,rfl⟩ | ⟨g,cap,cur,rfl,_,_,hnc,_⟩
 . simp [Builtin.append_,run_underlying ht,sizeOf,typeInfo,hi,Builtin.lenOf,Builtin.firstCells]
 . simp [Builtin.append_,run_underlying ht,sizeOf,typeInfo,hi,Builtin.lenOf,Builtin.firstCells,hnc,storeCells]
variable {α:Type} (enc:α->Value) (ok:α->Prop)
theorem run_append_emem (h1c:∀ x,(enc x).oneCell'=true) (base:Nat) (t ty e:TypeId) (i:TypeInfo) (z:Value) (bytes:Nat) (ht:P.underlying t=some (.slice e)) (hi:P.info? e=some i) (hz:i.zero=some z)
 (hsize:i.size=1) (hby:i.bytes=bytes) (hzs:z.cells.size=1)
 (v:Value) (n:Nat) (xs:List α) (hown:w.ownsRow base e 1 v n (xs.map enc)) (A:Option Addr) (m c:Nat) (news:List α) (hr:EMem enc ok w A m news)
 (h63:n+m<=maxLen) (hbytes:(n+m)*bytes<=140737488355328) (hbase:base<=w.heap.size) :
 ∃ v' w',(Builtin.append_ #[t,t] ty #[v,.slice A m c]).run P w=.ok v' w'/\w'.ownsRow base e 1 v' (n+m) ((xs++news).map enc)/\w.grownBy w' v.ownBlock:=by
 rw [List.map_append];rcases A with _ | ad
 . have hm:m=0:=by
    rcases Nat.eq_zero_or_pos m with h0 | h0
    . exact h0
    . obtain⟨b,off,h,_⟩:=hr.2.2 h0
      cases h
   subst hm;have hn:news=[]:=zen hr.1;subst hn;exact⟨v,w,run_append_of_nil w base t ty e i 1 ht hi v n _ hown c,by simpa using hown,World.grownBy.refl w _⟩
 . have hcells:∀ j u,(news.map enc)[j]?=some u->w.cell? (ad.add j)=some u:=by
    intro j u hu;rcases Nat.eq_zero_or_pos m with h0 | h0
    . subst h0
      have hn:news=[]:=zen hr.1;subst hn;simp at hu
    . obtain⟨b,off,h,_,hc⟩:=hr.2.2 h0
      injection h with h
      subst h;rw [List.getElem?_map,Option.map_eq_some_iff] at hu;obtain⟨x,hx,rfl⟩:=hu;rw [add_plain];exact hc j x hx
   obtain⟨v',w',hrun,h2,h3,_⟩:=run_append_own (P:=P) w base t ty e i z 1 bytes ht hi hz hsize hby hzs (by decide) v n _ hown ad m c (news.map enc) (by rw [List.length_map,hr.1];omega) hcells (λ u hu=>by obtain⟨x,_,rfl⟩:=List.mem_map.1 hu;exact h1c x) h63 hbytes hbase;exact⟨v',w',hrun,h2,h3⟩
end
end
section
def Blk (w:World) (b:Nat) (vs:Array Value) (t:TypeId):Prop:=w.heap[b]?=some (.cells vs t (0,0))
section
variable {w w':World} {b:Nat} {vs:Array Value} {t:TypeId}
theorem Blk.gr (h:Blk w b vs t) (g:Gr w w'):Blk w' b vs t:=by
 have:b<w.heap.size:=(zal h);unfold Blk;rw [g.block b this];exact h
theorem Blk.lt (h:Blk w b vs t):b<w.heap.size:=(zal h)
theorem Blk.new (w:World) (vs:Array Value) (t:TypeId):Blk (w.alloc (.cells vs t)) w.heap.size vs t:=by
 unfold Blk;exact heap_alloc_new w _
theorem Blk.at_ (h:Blk w b vs t) {k:Nat} {v:Value} (hv:vs[k]?=some v):w.cell? ⟨b,k,none⟩=some v/\w.frozen? ⟨b,k,none⟩=false:=by
 have h':w.heap[b]?=_:=h;refine⟨?_,by simp [World.frozen?,h']⟩;rw [cell_of_row w b k vs t (0,0) h'];exact hv
theorem Blk.set (h:Blk w b vs t) (k:Nat) (v:Value):Blk (w.setCell ⟨b,k,none⟩ v) b (vs.setIfInBounds k v) t:=by
 unfold Blk at *;simp [World.setCell,Array.getElem?_modify,h]
theorem Blk.al (h:Blk w b vs t) (o:Obj):Blk (w.alloc o) b vs t:=h.gr ((zr w).al o)
theorem Blk.st (h:Blk w b vs t) {p:Addr} (hp:p.block≠b) (v:Value):Blk (w.setCell p v) b vs t:=by
 unfold Blk at *;simp [World.setCell,Array.getElem?_modify,hp,h]
theorem Blk.gb (h:Blk w b vs t) {R:Option Nat} (hg:w.grownBy w' R) (hr:R≠some b):Blk w' b vs t:=by
 unfold Blk;rw [hg.block b h.lt (λ e=>hr e.symm)];exact h
end
end
theorem at6z {W : World} {b : Nat} {a0 a1 a2 a3 a4 a5 : Value} {t : TypeId} (h : Blk W b #[a0, a1, a2, a3, a4, a5] t) : (W.cell? ⟨b, 0, none⟩ = some a0 ∧ W.frozen? ⟨b, 0, none⟩ = false) ∧ (W.cell? ⟨b, 1, none⟩ = some a1 ∧ W.frozen? ⟨b, 1, none⟩ = false) ∧ (W.cell? ⟨b, 2, none⟩ = some a2 ∧ W.frozen? ⟨b, 2, none⟩ = false) ∧ (W.cell? ⟨b, 3, none⟩ = some a3 ∧ W.frozen? ⟨b, 3, none⟩ = false) ∧ (W.cell? ⟨b, 4, none⟩ = some a4 ∧ W.frozen? ⟨b, 4, none⟩ = false) ∧ (W.cell? ⟨b, 5, none⟩ = some a5 ∧ W.frozen? ⟨b, 5, none⟩ = false) :=
  ⟨h.at_ rfl, h.at_ rfl, h.at_ rfl, h.at_ rfl, h.at_ rfl, h.at_ rfl⟩
theorem at6 {W : World} {b : Nat} {a0 a1 a2 a3 a4 a5 : Value} {t : TypeId} (h : Blk W b #[a0, a1, a2, a3, a4, a5] t) : W.cell? ⟨b, 0, none⟩ = some a0 ∧ W.cell? ⟨b, 1, none⟩ = some a1 ∧ W.cell? ⟨b, 2, none⟩ = some a2 ∧ W.cell? ⟨b, 3, none⟩ = some a3 ∧ W.cell? ⟨b, 4, none⟩ = some a4 ∧ W.cell? ⟨b, 5, none⟩ = some a5 :=
  ⟨(h.at_ rfl).1, (h.at_ rfl).1, (h.at_ rfl).1, (h.at_ rfl).1, (h.at_ rfl).1, (h.at_ rfl).1⟩
section
section
variable {α:Type}
def RMem (en:α->List Value) (q:Nat) (ok:α->Prop) (w:World) (A:Option Addr) (n:Nat) (l:List α):Prop :=
 l.length=n/\(∀ x∈l,ok x)/\(0<n->∃ b off,A=some ⟨b,off,none⟩/\b<w.heap.size/\∀ i x,l[i]?=some x->∀ j v,(en x)[j]?=some v->w.cell? ⟨b,off+i*q+j,none⟩=some v)
variable {en:α->List Value} {q:Nat} {ok:α->Prop} {w w':World} {A:Option Addr} {n:Nat} {l:List α}
theorem RMem.nil_:RMem en q ok w A 0 []:=⟨rfl,by simp,λ h=>absurd h (by omega)⟩
theorem RMem.len (h:RMem en q ok w A n l):l.length=n:=h.1
theorem RMem.all (h:RMem en q ok w A n l):∀ x∈l,ok x:=h.2.1
theorem RMem.gr (h:RMem en q ok w A n l) (g:Gr w w'):RMem en q ok w' A n l :=
 ⟨h.1,h.2.1,λ hn=>by
   obtain⟨b,off,e,hb,hc⟩:=h.2.2 hn;exact⟨b,off,e,zlt hb g.size,λ i x hx j v hv=>(g.cell (p:=⟨b,off+i*q+j,none⟩) hb).trans (hc i x hx j v hv)⟩⟩
theorem RMem.at_ {k:Nat} (h:RMem en q ok w A n l) (hk:k<n) :
 ∃ b off x,A=some ⟨b,off,none⟩/\b<w.heap.size/\l[k]?=some x/\ok x/\∀ j v,(en x)[j]?=some v->w.cell? ⟨b,off+k*q+j,none⟩=some v:=by
 obtain⟨b,off,e,hb,hc⟩:=h.2.2 (by omega);have hl:k<l.length:=by have:=h.1;omega
 have hx:l[k]?=some l[k]:=zge hl;exact⟨b,off,l[k],e,hb,hx,h.2.1 l[k] (List.getElem_mem hl),hc k _ hx⟩
end
end
namespace P12
abbrev Bs:=List UInt8
abbrev Ac:=Int×Int
def okA (a:Ac):Bool:=if a.1=3 then decide (0<=a.2)&&decide (a.2<=1000) else decide (0<=a.1)&&decide (a.1<=2)&&decide (0<=a.2)&&decide (a.2<=3)
theorem okA_iff {a:Ac}:okA a=true↔(a.1=3/\0<=a.2/\a.2<=1000)\/(0<=a.1/\a.1<=2/\0<=a.2/\a.2<=3):=by
 unfold okA
 split<;>simp<;>omega
def rightB (l:List (List Ac)):Bool:=decide (l.length<=8)&&l.all λ p=>decide (p.length<=64)&&p.all okA
end P12
section
def Inb (v:Int):Prop:=-9223372036854775808<=v/\v<=9223372036854775807
def flat:List (Int×Int)->List Value
 | []=>[]
 | x::r=>.int .i64 x.1::.int .i64 x.2::flat r
theorem flat_len (l:List (Int×Int)):(flat l).length=l.length*2:=by
 induction l with
 | nil=>rfl
 | cons x r ih=>simp [flat,ih];omega
theorem flat_get0:∀ (l:List (Int×Int)) (i:Nat) (x:Int×Int),l[i]?=some x->(flat l)[i*2]?=some (.int .i64 x.1)
 | [],i,x,h=>by simp at h
 | y::r,0,x,h=>by simp at h;subst h;rfl
 | y::r,i+1,x,h=>by
  rw [show (i+1)*2=i*2+1+1 from by omega];simpa [flat] using flat_get0 r i x (by simpa using h)
theorem flat_get1:∀ (l:List (Int×Int)) (i:Nat) (x:Int×Int),l[i]?=some x->(flat l)[i*2+1]?=some (.int .i64 x.2)
 | [],i,x,h=>by simp at h
 | y::r,0,x,h=>by simp at h;subst h;rfl
 | y::r,i+1,x,h=>by
  rw [show (i+1)*2+1=i*2+1+1+1 from by omega];simpa [flat] using flat_get1 r i x (by simpa using h)
theorem flat_one (l:List (Int×Int)):∀ u∈flat l,u.oneCell'=true:=by
 induction l with
 | nil=>simp [flat]
 | cons x r ih =>
  intro u hu;simp only [flat,List.mem_cons] at hu;rcases hu with rfl | rfl | hu
  . rfl
  . rfl
  . exact ih u hu
theorem flat_take (l:List (Int×Int)) (k:Nat):flat (l.take k)=(flat l).take (k*2):=by
 induction l generalizing k with
 | nil=>simp [flat]
 | cons x r ih =>
  cases k with
  | zero=>simp [flat]
  | succ k=>rw [show (k+1)*2=k*2+1+1 from by omega];simp [flat,ih]
def Mem (w:World) (A:Option Addr) (n:Nat) (l:List (Int×Int)):Prop :=
 l.length=n/\(∀ x∈l,Inb x.1/\Inb x.2)/\(0<n->∃ b off,A=some ⟨b,off,none⟩/\b<w.heap.size/\∀ j u,(flat l)[j]?=some u->w.cell? ⟨b,off+j,none⟩=some u)
section
variable {w w':World} {A:Option Addr} {n:Nat} {l:List (Int×Int)}
theorem Mem.nil_:Mem w A 0 []:=⟨rfl,by simp,λ h=>absurd h (by omega)⟩
theorem Mem.gr (h:Mem w A n l) (g:Gr w w'):Mem w' A n l :=
 ⟨h.1,h.2.1,λ hn=>by
   obtain⟨b,off,e,hb,hc⟩:=h.2.2 hn;exact⟨b,off,e,zlt hb g.size,λ j u hu=>(g.cell (p:=⟨b,off+j,none⟩) hb).trans (hc j u hu)⟩⟩
theorem Mem.at_ {k:Nat} (h:Mem w A n l) (hk:k<n) :
 ∃ b off x,A=some ⟨b,off,none⟩/\b<w.heap.size/\l[k]?=some x/\Inb x.1/\Inb x.2/\w.cell? ⟨b,off+k*2,none⟩=some (.int .i64 x.1)/\w.cell? ⟨b,off+k*2+1,none⟩=some (.int .i64 x.2):=by
 obtain⟨b,off,e,hb,hc⟩:=h.2.2 (by omega);have hl:k<l.length:=by have:=h.1;omega
 have hx:l[k]?=some l[k]:=zge hl;have hi:=h.2.1 l[k] (List.getElem_mem hl);exact⟨b,off,l[k],e,hb,hx,hi.1,hi.2,hc _ _ (flat_get0 l k _ hx),hc _ _ (flat_get1 l k _ hx)⟩
theorem Mem.take_ (h:Mem w A n l) (k:Nat) (hk:k<=n):Mem w A k (l.take k) :=
 ⟨by rw [List.length_take,h.1];omega,λ x hx=>h.2.1 x (List.mem_of_mem_take hx),λ hn=>by
   obtain⟨b,off,e,hb,hc⟩:=h.2.2 (by omega);refine⟨b,off,e,hb,λ j u hu=>hc j u ?_⟩;rw [flat_take,List.getElem?_take] at hu
   split at hu
   . exact hu
   . cases hu⟩
end
end
section
section
variable {α:Type}
def OMem (enc:α->Value) (ok:α->Prop) (base:Nat) (w:World) (A:Option Addr) (n c:Nat) (l:List α):Prop :=
 EMem enc ok w A n l/\n<=c/\c<=maxLen/\((A=none/\c=0)\/∃ b off,A=some ⟨b,off,none⟩/\base<=b/\b<w.heap.size/\∀ j,j<c->(w.cell? ⟨b,off+j,none⟩).isSome=true/\w.frozen? ⟨b,off+j,none⟩=false)
variable {enc:α->Value} {ok:α->Prop} {base:Nat} {w w':World} {A:Option Addr} {n c:Nat} {l:List α}
theorem OMem.nil_:OMem enc ok base w none 0 0 []:=⟨EMem.nil_,Nat.le_refl _,Nat.zero_le _,.inl ⟨rfl,rfl⟩⟩
theorem OMem.mem (h:OMem enc ok base w A n c l):EMem enc ok w A n l:=h.1
theorem OMem.le (h:OMem enc ok base w A n c l):n<=c:=h.2.1
theorem OMem.max (h:OMem enc ok base w A n c l):c<=maxLen:=h.2.2.1
theorem OMem.same (h:OMem enc ok base w A n c l) (hs:w.heap.size<=w'.heap.size) (hb:∀ k,base<=k->k<w.heap.size->w'.heap[k]?=w.heap[k]?):OMem enc ok base w' A n c l:=by
 obtain⟨h1,h2,h3,h4⟩:=h;rcases h4 with ⟨rfl,rfl⟩ | ⟨b,off,rfl,h5,h6,h7⟩
 . refine⟨⟨h1.1,h1.2.1,λ hn=>absurd hn (by omega)⟩,h2,h3,.inl ⟨rfl,rfl⟩⟩
 . have e:=hb b h5 h6
   refine⟨⟨h1.1,h1.2.1,λ hn=>?_⟩,h2,h3,.inr ⟨b,off,rfl,h5,by omega,λ j hj=>?_⟩⟩
   . obtain⟨b',off',e',hb',hc⟩:=h1.2.2 hn
     cases e';exact⟨b,off,rfl,by omega,λ j x hx=>(World.cell?_of_block (a:=⟨b,off+j,none⟩) e).trans (hc j x hx)⟩
   . rw [World.cell?_of_block (a:=⟨b,off+j,none⟩) e,World.frozen?_of_block (a:=⟨b,off+j,none⟩) e]
     exact h7 j hj
theorem OMem.gr (h:OMem enc ok base w A n c l) (g:Gr w w'):OMem enc ok base w' A n c l:=h.same g.size λ k _ hk=>g.block k hk
theorem OMem.st (h:OMem enc ok base w A n c l) {p:Addr} (hp:p.block<base) (u:Value):OMem enc ok base (w.setCell p u) A n c l :=
 h.same (by simp [World.setCell]) λ k hk _=>Below.heap_setCell w p u k (by omega)
theorem own_omem {e:TypeId} {v:Value} (hl:l.length=n) (hb:∀ x∈l,ok x) (h:w.ownsRow base e 1 v n (l.map enc)):∃ A c,v=.slice A n c/\OMem enc ok base w A n c l:=by
 obtain⟨B,m,rfl,hm,h1,h2⟩:=own_emem (ok:=ok) hl hb h;refine⟨B,m,rfl,hm,h1,h2,?_⟩;rcases h.2 with ⟨hv,rfl⟩ | ⟨g,cap,cur,hv,hbg,hg,hnc,hcm,hs,ht⟩
 . cases hv
   exact .inl ⟨rfl,rfl⟩
 . cases hv
   refine .inr ⟨g,0,rfl,hbg,(zal hg),λ j hj=>⟨?_,by simp [World.frozen?,hg]⟩⟩;rw [Nat.zero_add,cell_of_row w g j cur _ (0,0) hg,Array.getElem?_eq_getElem (by omega)];rfl
end
section
variable {P:Program} (w:World) {α:Type} (enc:α->Value) (ok:α->Prop)
theorem tape_setCells (b:Nat):∀ (vs:List Value) (o:Nat) (w:World),(w.setCells b o vs).tape=w.tape
 | [],_,_=>rfl
 | v::r,o,w=>by rw [World.setCells,tape_setCells b r];rfl
theorem omem_nonews {A:Option Addr} {m:Nat} {news:List α} (hr:EMem enc ok w A m news) (h:A=none):m=0/\news=[]:=by
 have hm:m=0:=by
  rcases Nat.eq_zero_or_pos m with h0 | h0
  . exact h0
  . obtain⟨b,off,h',_⟩:=hr.2.2 h0
    rw [h] at h';cases h'
 exact⟨hm,zen (by rw [hr.1,hm])⟩
theorem run_append_omem2 (h1c:∀ x,(enc x).oneCell'=true) (base:Nat) (t ty e:TypeId) (i:TypeInfo) (z:Value) (bytes:Nat) (ht:P.underlying t=some (.slice e)) (hi:P.info? e=some i) (hz:i.zero=some z)
 (hsize:i.size=1) (hby:i.bytes=bytes) (hzs:z.cells.size=1)
 (A0:Option Addr) (n c0:Nat) (xs:List α) (ho:OMem enc ok base w A0 n c0 xs) (A:Option Addr) (m c:Nat) (news:List α) (hr:EMem enc ok w A m news)
 (h63:n+m<=maxLen) (hbytes:(n+m)*bytes<=140737488355328) (hbase:base<=w.heap.size) :
 ∃ A' c' w',(Builtin.append_ #[t,t] ty #[.slice A0 n c0,.slice A m c]).run P w=.ok (.slice A' (n+m) c') w'/\OMem enc ok base w' A' (n+m) c' (xs++news)/\w.grownBy w' (A0.map (·.block))/\∀ k,A'.map (·.block)=some k->A0.map (·.block)=some k\/w.heap.size<=k:=by
 have hok:∀ x∈xs++news,ok x:=λ x hx=>by
  rcases List.mem_append.1 hx with h | h
  . exact ho.1.2.1 x h
  . exact hr.2.1 x h
 have hlen:(xs++news).length=n+m:=by rw [List.length_append,ho.1.1,hr.1]
 obtain⟨h1,h2,h3,h4⟩:=ho;rcases h4 with ⟨rfl,rfl⟩ | ⟨b,off,rfl,h5,h6,h7⟩
 . obtain rfl:n=0:=by omega
   have hx:xs=[]:=zen h1.1;subst hx;obtain⟨v',w',hrun,hw,hg⟩:=run_append_emem (P:=P) w enc ok h1c w.heap.size t ty e i z bytes ht hi hz hsize hby hzs (.slice none 0 0) 0 [] (World.ownsRow_nil w w.heap.size e 1) A m c news hr h63 hbytes (Nat.le_refl _);obtain⟨A',c',rfl,hm⟩:=own_omem (ok:=ok) (l:=[]++news) hlen hok hw;refine⟨A',c',w',hrun,⟨hm.1,hm.2.1,hm.2.2.1,?_⟩,by simpa [Value.ownBlock] using hg,λ k hk=>.inr ?_⟩
   . rcases hm.2.2.2 with h | ⟨b',off',e1,e2,e3⟩
     . exact .inl h
     . exact .inr ⟨b',off',e1,by omega,e3⟩
   . rcases hm.2.2.2 with ⟨rfl,_⟩ | ⟨b',off',rfl,e2,e3⟩
     . cases hk
     . cases hk;exact e2
 . rcases A with _ | ad
   . obtain⟨rfl,rfl⟩:=omem_nonews w enc ok hr rfl
     refine⟨_,_,w,?_,⟨by simpa using h1,by simpa using h2,h3,.inr ⟨b,off,rfl,h5,h6,h7⟩⟩,World.grownBy.refl w _,λ k hk=>.inl hk⟩;simp [Builtin.append_,run_underlying ht,sizeOf,typeInfo,hi,Builtin.lenOf,Builtin.firstCells,h2,storeCells]
   . have hcells:∀ j u,(news.map enc)[j]?=some u->w.cell? (ad.add j)=some u:=by
      intro j u hu;rcases Nat.eq_zero_or_pos m with h0 | h0
      . subst h0
        have hn:news=[]:=zen hr.1;subst hn;simp at hu
      . obtain⟨b',off',h',_,hc⟩:=hr.2.2 h0
        cases h';rw [List.getElem?_map,Option.map_eq_some_iff] at hu;obtain⟨x,hx,rfl⟩:=hu;rw [add_plain];exact hc j x hx
     have hl:(news.map enc).length=m*i.size:=by rw [List.length_map,hr.1,hsize,Nat.mul_one]
     have h1n:∀ u∈news.map enc,u.oneCell'=true:=λ u hu=>by obtain⟨x,_,rfl⟩:=List.mem_map.1 hu;exact h1c x
     have old:∀ j x,xs[j]?=some x->w.cell? ⟨b,off+j,none⟩=some (enc x):=λ j x hx=>by
      have h0:0<n:=by have:=(zgl hx);rw [h1.1] at this;omega
      obtain⟨b',off',h',_,hc⟩:=h1.2.2 h0;cases h';exact hc j x hx
     by_cases hroom:n+m<=c0
     . have hsome:∀ j,j<(news.map enc).length->(w.cell? ⟨b,off+n*i.size+j,none⟩).isSome=true/\w.frozen? ⟨b,off+n*i.size+j,none⟩=false:=λ j hj=>by
        rw [List.length_map,hr.1] at hj;rw [hsize,Nat.mul_one,Nat.add_assoc];exact h7 (n+j) (by omega)
       have hrun:=run_append_room_cells (P:=P) w t ty e i ht hi b off n c0 ad m c (news.map enc) hl hcells h1n hroom (λ j hj=>(hsome j hj).1) (λ j hj=>(hsome j hj).2);have hkept:=World.keptBut_setCells b (may:=λ p=>p.block=b) (news.map enc) (off+n*i.size) w (λ _ _=>rfl);have hin:=World.cell?_setCells_in b (news.map enc) (off+n*i.size) w (λ j hj=>(hsome j hj).1);have hsz:w.heap.size<=(w.setCells b (off+n*i.size) (news.map enc)).heap.size:=hkept.size;refine⟨_,_,_,hrun,⟨⟨hlen,hok,λ _=>⟨b,off,rfl,by omega,λ j u hu=>?_⟩⟩,hroom,h3,.inr ⟨b,off,rfl,h5,by omega,λ j hj=>⟨?_,?_⟩⟩⟩,⟨World.os_setCells _ _ _ _,?_,World.output_setCells _ _ _ _,hsz,λ k hk hne=>World.heap_setCells_other w b _ _ hk (λ e=>hne (by rw [e];rfl))⟩,λ k hk=>.inl hk⟩
       . by_cases hj:j<n
         . rw [World.cell?_setCells_out b (news.map enc) _ w ⟨b,off+j,none⟩ (λ _ _=>.inl (by simp [hsize];omega))]
           rw [List.getElem?_append_left (by rw [h1.1];omega)] at hu;exact old j u hu
         . rw [List.getElem?_append_right (by rw [h1.1];omega),h1.1] at hu
           have hlt:j-n<(news.map enc).length:=by have:=(zgl hu);rw [List.length_map];omega
           have:=hin (j-n) hlt;rw [show off+n*i.size+(j-n)=off+j from by rw [hsize];omega] at this;rw [this];have hx:=(List.getElem?_eq_some_iff.1 hu).2;simp [hx]
       . by_cases hj2:n<=j/\j<n+m
         . have hlt:j-n<(news.map enc).length:=by rw [List.length_map,hr.1];omega
           have:=hin (j-n) hlt;rw [show off+n*i.size+(j-n)=off+j from by rw [hsize];omega] at this;rw [this];rfl
         . rw [World.cell?_setCells_out b (news.map enc) _ w ⟨b,off+j,none⟩ (λ _ _=>by simp [hsize,hr.1];omega)]
           exact (h7 j hj).1
       . rw [World.frozen?_setCells]
         exact (h7 j hj).2
       . exact tape_setCells b _ _ w
     . have holds:∀ j u,(xs.map enc)[j]?=some u->w.cell? ((⟨b,off,none⟩:Addr).add j)=some u:=λ j u hu=>by
        rw [List.getElem?_map,Option.map_eq_some_iff] at hu;obtain⟨x,hx,rfl⟩:=hu;rw [add_plain];exact old j x hx
       obtain⟨v',w',hrun,hw,hg⟩:=run_append_arg_grows (P:=P) w t ty e i z 1 bytes ht hi hz hsize hby hzs (by omega) ⟨b,off,none⟩ n c0 (xs.map enc) (by rw [List.length_map,h1.1,Nat.mul_one]) holds ad m c (news.map enc) (by rw [List.length_map,hr.1,Nat.mul_one]) hcells (by omega) h63 hbytes;rw [<- List.map_append] at hw;obtain⟨A',c',rfl,hm⟩:=own_omem (ok:=ok) (l:=xs++news) hlen hok hw;refine⟨A',c',w',hrun,⟨hm.1,hm.2.1,hm.2.2.1,?_⟩,⟨hg.os,hg.tape,hg.output,hg.size,λ k hk _=>hg.block k hk (by simp)⟩,λ k hk=>.inr ?_⟩
       . rcases hm.2.2.2 with h | ⟨b',off',e1,e2,e3⟩
         . exact .inl h
         . exact .inr ⟨b',off',e1,by omega,e3⟩
       . rcases hm.2.2.2 with ⟨rfl,_⟩ | ⟨b',off',rfl,e2,e3⟩
         . cases hk
         . cases hk;exact e2
theorem run_append_omem (h1c:∀ x,(enc x).oneCell'=true) (base:Nat) (t ty e:TypeId) (i:TypeInfo) (z:Value) (bytes:Nat) (ht:P.underlying t=some (.slice e)) (hi:P.info? e=some i) (hz:i.zero=some z)
 (hsize:i.size=1) (hby:i.bytes=bytes) (hzs:z.cells.size=1)
 (A0:Option Addr) (n c0:Nat) (xs:List α) (ho:OMem enc ok base w A0 n c0 xs) (A:Option Addr) (m c:Nat) (news:List α) (hr:EMem enc ok w A m news)
 (h63:n+m<=maxLen) (hbytes:(n+m)*bytes<=140737488355328) (hbase:base<=w.heap.size) :
 ∃ A' c' w',(Builtin.append_ #[t,t] ty #[.slice A0 n c0,.slice A m c]).run P w=.ok (.slice A' (n+m) c') w'/\OMem enc ok base w' A' (n+m) c' (xs++news)/\w.grownBy w' (A0.map (·.block)):=by
 obtain⟨A',c',w',h1,h2,h3,_⟩:=run_append_omem2 (P:=P) w enc ok h1c base t ty e i z bytes ht hi hz hsize hby hzs A0 n c0 xs ho A m c news hr h63 hbytes hbase;exact⟨A',c',w',h1,h2,h3⟩
theorem wp_append_omem {o:Oper} {a:Act} {K:Act->World->Prop} {Q:Exit->Act->World->Prop} (s x:Operand) (t:TypeId)
 (ho:o.op=.call { callee:=.builtin .append,args:=#[s,x],argTypes:=#[t,t] })
 (h1c:∀ x,(enc x).oneCell'=true) (base:Nat) (e:TypeId) (i:TypeInfo) (z:Value) (bytes:Nat) (ht:P.underlying t=some (.slice e)) (hi:P.info? e=some i) (hz:i.zero=some z)
 (hsize:i.size=1) (hby:i.bytes=bytes) (hzs:z.cells.size=1)
 (A0:Option Addr) (n c0:Nat) (xs:List α) (hs:a.eval s=.slice A0 n c0) (hown:OMem enc ok base w A0 n c0 xs) (A:Option Addr) (m c:Nat) (news:List α) (hx:a.eval x=.slice A m c) (hr:EMem enc ok w A m news)
 (h63:n+m<=maxLen) (hbytes:(n+m)*bytes<=140737488355328) (hbase:base<=w.heap.size)
 (h:∀ A' c' w',OMem enc ok base w' A' (n+m) c' (xs++news)->w.grownBy w' (A0.map (·.block))->K (a.put o.dst (.slice A' (n+m) c')) w'):o.wp P a w K Q:=by
 obtain⟨A',c',w',hrun,h2,h3⟩:=run_append_omem (P:=P) w enc ok h1c base t o.type e i z bytes ht hi hz hsize hby hzs A0 n c0 xs hown A m c news hr h63 hbytes hbase;unfold Oper.wp execOp;simp only [ho,resolve,invoke,builtin,Sem.run_bind,Sem.run_pure,Result.andThen_ok,List.map_toArray,List.map_cons,List.map_nil,hs,hx,hrun];exact h A' c' w' h2 h3
theorem wpList_append_omem {ops:Array Oper} {rest:List Oper} {o:Oper} {a:Act} {Q:Exit->Act->World->Prop} (hgd:o.guard=none) (s x:Operand) (t:TypeId)
 (ho:o.op=.call { callee:=.builtin .append,args:=#[s,x],argTypes:=#[t,t] })
 (h1c:∀ x,(enc x).oneCell'=true) (base:Nat) (e:TypeId) (i:TypeInfo) (z:Value) (bytes:Nat) (ht:P.underlying t=some (.slice e)) (hi:P.info? e=some i) (hz:i.zero=some z)
 (hsize:i.size=1) (hby:i.bytes=bytes) (hzs:z.cells.size=1)
 (A0:Option Addr) (n c0:Nat) (xs:List α) (hs:a.eval s=.slice A0 n c0) (hown:OMem enc ok base w A0 n c0 xs) (A:Option Addr) (m c:Nat) (news:List α) (hx:a.eval x=.slice A m c) (hr:EMem enc ok w A m news)
 (h63:n+m<=maxLen) (hbytes:(n+m)*bytes<=140737488355328) (hbase:base<=w.heap.size)
 (h:∀ A' c' w',OMem enc ok base w' A' (n+m) c' (xs++news)->w.grownBy w' (A0.map (·.block))->wpList P ops Q rest (a.put o.dst (.slice A' (n+m) c')) w'):wpList P ops Q (o::rest) a w :=
 wpList_plain hgd λ _ hK=>wp_append_omem w enc ok s x t ho h1c base e i z bytes ht hi hz hsize hby hzs A0 n c0 xs hs hown A m c news hx hr h63 hbytes hbase λ A' c' w' h2 h3=>hK _ _ (h A' c' w' h2 h3)
end
end
section
namespace P12
theorem infoActs:(prog.info? 64).map (λ i=>(i.zero,i.size,i.bytes))=some (some (.slice none 0 0),1,24):=by kernel_rfl
theorem info_parts {t:TypeId} {a:Option Value×Nat×Nat} (h:(prog.info? t).map (λ i=>(i.zero,i.size,i.bytes))=some a):∃ i,prog.info? t=some i/\i.zero=a.1/\i.size=a.2.1/\i.bytes=a.2.2:=by
 rw [Option.map_eq_some_iff] at h;obtain⟨i,hi,rfl⟩:=h;exact⟨i,hi,rfl,rfl,rfl⟩
def Late (B:Nat) (A:Option Addr):Prop:=∀ k,A.map (·.block)=some k->B<=k
theorem Late.none {B:Nat}:Late B none:=λ k h=>by cases h
theorem Late.low {B C:Nat} {A:Option Addr} (h:Late B A) (hc:C<=B):Late C A:=λ k hk=>Nat.le_trans hc (h k hk)
section
variable {w w':World} {A:Option Addr} {n:Nat} {l:List Ac}
theorem mem_kept {row:Option Nat} (h:Mem w A n l) (hg:w.grownBy w' row) (hr:0<n->∀ k,A.map (·.block)=some k->row≠some k):Mem w' A n l :=
 ⟨h.1,h.2.1,λ hn=>by
   obtain⟨b,off,rfl,hb,hc⟩:=h.2.2 hn;refine⟨b,off,rfl,zlt hb hg.size,λ j x hj=>?_⟩;exact (World.cell?_of_block (a:=⟨b,off+j,none⟩) (hg.block b hb (λ e=>hr hn b rfl e.symm))).trans (hc j x hj)⟩
end
abbrev AOwn (w:World) (base:Nat) (v:Value) (l:List Ac):Prop:=w.ownsRow base 67 2 v l.length (flat l)
theorem own_mem {w:World} {base:Nat} {v:Value} {l:List Ac} (h:AOwn w base v l) (hb:∀ x∈l,Inb x.1/\Inb x.2):∃ A c,v=.slice A l.length c/\Mem w A l.length l/\l.length<=c/\c<=9223372036854775807/\Late base A:=by
 rcases h.2 with ⟨rfl,h0⟩ | ⟨g,cap,cur,rfl,hbg,hg,hnc,hcm,hs,ht⟩
 . have hl:l=[]:=by
    cases l with
    | nil=>rfl
    | cons x r=>cases h0
   subst hl;exact⟨none,0,rfl,Mem.nil_,Nat.le_refl _,by omega,Late.none⟩
 . refine⟨_,_,rfl,⟨rfl,hb,λ _=>⟨g,0,rfl,(zal hg),λ j u hu=>?_⟩⟩,hnc,by unfold maxLen at hcm;omega,λ k hk=>by simp at hk;omega⟩
   rw [Nat.zero_add,cell_of_row w g j cur _ (0,0) hg];rw [<- ht,List.getElem?_take] at hu
   split at hu
   . simpa using hu
   . cases hu
theorem AOwn.nil (w:World) (base:Nat):AOwn w base (.slice none 0 0) []:=World.ownsRow_nil w base _ 2
structure PV where
 A:Option Addr
 n:Nat
 c:Nat
 l:List Ac
instance:Inhabited PV:=⟨⟨none,0,0,[]⟩⟩
def PV.enc (x:PV):Value:=.slice x.A x.n x.c
def PV.ok (w:World) (x:PV):Prop:=Mem w x.A x.n x.l/\x.n<=x.c/\x.c<=9223372036854775807
theorem PV.ok.gr {w w':World} {x:PV} (h:x.ok w) (g:Gr w w'):x.ok w':=⟨h.1.gr g,h.2⟩
theorem PV.ok.lt {w:World} {x:PV} (h:x.ok w):x.n<=9223372036854775807:=by have:=h.2;omega
def pl (R:List PV):List (List Ac):=R.map PV.l
def PMem (w:World) (A:Option Addr) (n:Nat) (R:List PV):Prop:=EMem PV.enc (λ _=>True) w A n R/\∀ x∈R,x.ok w
section
variable {w w':World} {A:Option Addr} {n:Nat} {R:List PV}
theorem PMem.len (h:PMem w A n R):R.length=n:=h.1.1
theorem PMem.gr (h:PMem w A n R) (g:Gr w w'):PMem w' A n R:=⟨h.1.gr g,λ x hx=>(h.2 x hx).gr g⟩
theorem PMem.at_ {k:Nat} (h:PMem w A n R) (hk:k<n):∃ b off x,A=some ⟨b,off,none⟩/\b<w.heap.size/\R[k]?=some x/\x.ok w/\w.cell? ⟨b,off+k,none⟩=some (.slice x.A x.n x.c):=by
 obtain⟨b,off,x,h1,h2,h3,_,h4⟩:=h.1.at_ hk;exact⟨b,off,x,h1,h2,h3,h.2 x (zmo h3),h4⟩
theorem PMem.nil_:PMem w A 0 []:=⟨EMem.nil_,by simp⟩
end
structure POwn (w:World) (base lo:Nat) (A:Option Addr) (n c:Nat) (R:List PV):Prop where
 row:OMem PV.enc (λ _=>True) base w A n c R
 ok:∀ x∈R,x.ok w
 off:∀ x∈R,0<x.n->∀ k,x.A.map (·.block)=some k->lo<=k/\k<w.heap.size/\A.map (·.block)≠some k
section
variable {w w':World} {base lo:Nat} {A:Option Addr} {n c:Nat} {R:List PV}
theorem POwn.nil:POwn w base lo none 0 0 []:=⟨OMem.nil_,by simp,by simp⟩
def Grown (w:World) (base lo:Nat) (A:Option Addr) (n m:Nat) (R news:List PV) (A':Option Addr) (c':Nat) (w':World):Prop :=
 POwn w' base lo A' (n+m) c' (R++news)/\w.grownBy w' (A.map (·.block))
variable {B:Option Addr} {m d:Nat} {news:List PV}
theorem run_append_progs (h:POwn w base lo A n c R) (hr:PMem w B m news) (hoff:∀ x∈news,0<x.n->∀ k,x.A.map (·.block)=some k->lo<=k/\k<w.heap.size/\A.map (·.block)≠some k)
 (hl:n+m<=1000000) (hbase:base<=w.heap.size) (ty:TypeId) (d:Nat) :
 ∃ A' c' w',(Builtin.append_ #[22,22] ty #[.slice A n c,.slice B m d]).run prog w=.ok (.slice A' (n+m) c') w'/\Grown w base lo A n m R news A' c' w':=by
 obtain⟨i,hi,hz,hs,hb⟩:=info_parts infoActs;obtain⟨A',c',w',h1,h2,h3,h4⟩:=run_append_omem2 (P:=prog) w PV.enc (λ _=>True) (λ _=>rfl) base 22 ty 64 i (.slice none 0 0) 24 underlying22 hi hz hs hb rfl A n c R h.row B m d news hr.1 (by unfold maxLen;omega) (by omega) hbase;have all:∀ x∈R++news,x.ok w/\(0<x.n->∀ k,x.A.map (·.block)=some k->lo<=k/\k<w.heap.size/\A.map (·.block)≠some k):=by
  intro x hx;rcases List.mem_append.1 hx with hx | hx
  . exact⟨h.ok x hx,h.off x hx⟩
  . exact⟨hr.2 x hx,hoff x hx⟩
 refine⟨A',c',w',h1,⟨h2,λ x hx=>?_,λ x hx h0 k hk=>?_⟩,h3⟩
 . obtain⟨⟨a1,a2⟩,ho⟩:=all x hx
   exact⟨mem_kept a1 h3 λ h0 k hk=>(ho h0 k hk).2.2,a2⟩
 . obtain⟨e1,e2,e3⟩:=(all x hx).2 h0 k hk
   refine⟨e1,zlt e2 h3.size,λ e=>?_⟩;rcases h4 k e with e' | e'
   . exact e3 e'
   . omega
theorem wp_append_progs {o:Oper} {a:Act} {K:Act->World->Prop} {Q:Exit->Act->World->Prop} (s x:Operand)
 (ho:o.op=.call { callee:=.builtin .append,args:=#[s,x],argTypes:=#[22,22] }) (hs:a.eval s=.slice A n c) (hx:a.eval x=.slice B m d)
 (h:POwn w base lo A n c R) (hr:PMem w B m news) (hoff:∀ x∈news,0<x.n->∀ k,x.A.map (·.block)=some k->lo<=k/\k<w.heap.size/\A.map (·.block)≠some k)
 (hl:n+m<=1000000) (hbase:base<=w.heap.size)
 (hK:∀ A' c' w',Grown w base lo A n m R news A' c' w'->K (a.put o.dst (.slice A' (n+m) c')) w'):o.wp prog a w K Q:=by
 obtain⟨A',c',w',h1,h2⟩:=run_append_progs h hr hoff hl hbase o.type d;unfold Oper.wp execOp;simp only [ho,resolve,invoke,builtin,Sem.run_bind,Sem.run_pure,Result.andThen_ok,List.map_toArray,List.map_cons,List.map_nil,hs,hx,h1];exact hK A' c' w' h2
theorem wpList_append_progs {ops:Array Oper} {rest:List Oper} {o:Oper} {a:Act} {Q:Exit->Act->World->Prop} (hgd:o.guard=none) (s x:Operand)
 (ho:o.op=.call { callee:=.builtin .append,args:=#[s,x],argTypes:=#[22,22] }) (hs:a.eval s=.slice A n c) (hx:a.eval x=.slice B m d)
 (h:POwn w base lo A n c R) (hr:PMem w B m news) (hoff:∀ x∈news,0<x.n->∀ k,x.A.map (·.block)=some k->lo<=k/\k<w.heap.size/\A.map (·.block)≠some k)
 (hl:n+m<=1000000) (hbase:base<=w.heap.size)
 (hK:∀ A' c' w',Grown w base lo A n m R news A' c' w'->wpList prog ops Q rest (a.put o.dst (.slice A' (n+m) c')) w'):wpList prog ops Q (o::rest) a w :=
 wpList_plain hgd λ _ hK'=>wp_append_progs s x ho hs hx h hr hoff hl hbase λ A' c' w' h1=>hK' _ _ (hK A' c' w' h1)
end
theorem pmem_one {w:World} {g:Nat} {x:PV} {t:TypeId} (h:Blk w g #[.slice x.A x.n x.c] t) (hx:x.ok w):PMem w (some ⟨g,0,none⟩) 1 [x] :=
 ⟨⟨rfl,by simp,λ _=>⟨g,0,rfl,h.lt,λ j y hj=>by
   match j,hj with
   | 0,hj=>simp at hj;subst hj;exact (h.at_ (k:=0) rfl).1⟩⟩,by simpa using hx⟩
end P12
end
section
def B64 (v:Int):Prop:=-9223372036854775808<=v/\v<=9223372036854775807
abbrev IMem:=EMem (Value.int .i64) B64
abbrev IOwn:=OMem (Value.int .i64) B64
theorem infoInt:(prog.info? 3).map (λ i=>(i.zero,i.size,i.bytes))=some (some (.int .i64 0),1,8):=by kernel_rfl
theorem wrap_id {x:Int} (h:-9223372036854775808<=x) (h':x<=9223372036854775807):IntKind.i64.wrap x=x:=by
 rw [IntKind.wrap_i64];omega
section
variable {α:Type} {enc:α->Value} {ok:α->Prop} {base:Nat} {w w':World} {A:Option Addr} {n c:Nat} {l:List α}
theorem OMem.lt (h:OMem enc ok base w A n c l):∀ k,A.map (·.block)=some k->base<=k/\k<w.heap.size:=by
 intro k hk;rcases h.2.2.2 with ⟨rfl,_⟩ | ⟨b,off,rfl,h5,h6,_⟩
 . cases hk
 . cases hk
   exact⟨h5,h6⟩
theorem OMem.low {b2:Nat} (h:OMem enc ok base w A n c l) (hb:b2<=base):OMem enc ok b2 w A n c l:=by
 refine⟨h.1,h.2.1,h.2.2.1,?_⟩;rcases h.2.2.2 with h1 | ⟨b,off,e,h5,h6⟩
 . exact .inl h1
 . exact .inr ⟨b,off,e,Nat.le_trans hb h5,h6⟩
theorem emem_one (w:World) (x:α) (hx:ok x) (t:TypeId):EMem enc ok (w.alloc (.cells #[enc x] t)) (some ⟨w.heap.size,0,none⟩) 1 [x] :=
 ⟨rfl,λ y hy=>by simp at hy;subst hy;exact hx,λ _=>⟨_,0,rfl,by simp,λ j u hu=>by
   match j,hu with
   | 0,hu=>simp at hu;subst hu;simp⟩⟩
theorem emem_one' (w:World) (x:α) (hx:ok x) (t:TypeId) {s:Nat} (hs:w.heap.size=s):EMem enc ok (w.alloc (.cells #[enc x] t)) (some ⟨s,0,none⟩) 1 [x]:=hs▸emem_one w x hx t
def Off (A R:Option Addr):Prop:=∀ k,A.map (·.block)=some k->R.map (·.block)=some k->False
theorem Off.nil (A:Option Addr):Off A none:=λ k _ h=>by cases h
theorem EMem.gb {R:Option Addr} (h:EMem enc ok w A n l) (hg:w.grownBy w' (R.map (·.block))) (ho:Off A R):EMem enc ok w' A n l :=
 ⟨h.1,h.2.1,λ hn=>by
   obtain⟨b,off,rfl,hb,hc⟩:=h.2.2 hn;refine⟨b,off,rfl,zlt hb hg.size,λ j u hu=>?_⟩;exact (World.cell?_of_block (a:=⟨b,off+j,none⟩) (hg.block b hb (λ e=>ho b rfl e.symm))).trans (hc j u hu)⟩
theorem OMem.gb2 {R:Option Addr} (h:OMem enc ok base w A n c l) (hg:w.grownBy w' (R.map (·.block))) (ho:Off A R):OMem enc ok base w' A n c l:=by
 refine⟨h.1.gb hg ho,h.2.1,h.2.2.1,?_⟩;rcases h.2.2.2 with h1 | ⟨b,off,rfl,h5,h6,h7⟩
 . exact .inl h1
 . have e:=hg.block b h6 (λ e=>ho b rfl e.symm)
   refine .inr ⟨b,off,rfl,h5,zlt h6 hg.size,λ j hj=>?_⟩;rw [World.cell?_of_block (a:=⟨b,off+j,none⟩) e,World.frozen?_of_block (a:=⟨b,off+j,none⟩) e];exact h7 j hj
end
end
end Go.Proofs.YtainfijdhcehlaaGreatDoor
namespace Go.Proofs.YtainfijdhcehlaaGreatDoor.L7
open Go.ChangeShapes Go.WideShapes Go.ChangeAt Go.RowKit
def Good (l:List Int):Prop:=(∀ x∈l,0<=x)/\l.Nodup
def Ln (l:List Int):Prop:=l.length<=64/\Good l
theorem Good.nil:Good []:=⟨by simp,List.nodup_nil⟩
theorem Ln.nil:Ln []:=⟨by simp,Good.nil⟩
theorem good_app {a b:List Int}:Good (a++b)↔Good a/\Good b/\∀ x∈a,x ∉ b:=by
 unfold Good
 rw [List.nodup_append]
 constructor
 . rintro⟨h1,h2,h3,h4⟩
   exact⟨⟨λ x hx=>h1 x (List.mem_append_left _ hx),h2⟩,⟨λ x hx=>h1 x (List.mem_append_right _ hx),h3⟩,λ x hx hb=>h4 x hx x hb rfl⟩
 . rintro⟨⟨h1,h2⟩,⟨h3,h4⟩,h5⟩
   refine⟨λ x hx=>?_,h2,h4,λ x hx y hy e=>h5 x hx (e▸hy)⟩
   rcases List.mem_append.1 hx with h | h
   . exact h1 x h
   . exact h3 x h
theorem good_one {x:Int}:Good [x]↔0<=x:=by simp [Good]
theorem good_cons {x:Int} {l:List Int}:Good (x::l)↔0<=x/\x ∉ l/\Good l:=by
 rw [show x::l=[x]++l from rfl,good_app,good_one]
 simp only [List.mem_singleton,forall_eq]
 exact⟨λ h=>⟨h.1,h.2.2,h.2.1⟩,λ h=>⟨h.1,h.2.2,h.2.1⟩⟩
theorem take_more {l:List Int} {k:Nat} {x:Int} (h:l[k]?=some x):l.take (k+1)=l.take k++[x]:=by
 rw [List.take_add_one,h];rfl
theorem take_drop_at {l:List Int} {k:Nat} {x:Int} (h:l[k]?=some x):l=l.take k++x::l.drop (k+1):=by
 have hk:=(List.getElem?_eq_some_iff.1 h).1
 have hx:=(List.getElem?_eq_some_iff.1 h).2
 rw [<- hx,<- List.drop_eq_getElem_cons hk,List.take_append_drop]
theorem not_mem_take {l:List Int} {k:Nat} {x:Int} (hk:k<=l.length):x ∉ l.take k↔∀ j,j<k->l[j]?≠some x:=by
 constructor
 . intro h j hj e
   exact h (List.mem_iff_getElem?.2 ⟨j,by rw [List.getElem?_take,if_pos hj];exact e⟩)
 . intro h hm
   obtain⟨j,hj⟩:=List.mem_iff_getElem?.1 hm
   rw [List.getElem?_take] at hj
   split at hj
   . exact h j (by assumption) hj
   . cases hj
theorem not_good_dup {l:List Int} {k j:Nat} {x:Int} (h1:l[k]?=some x) (h2:l[j]?=some x) (hj:j<k):¬ Good l:=by
 intro h
 rw [take_drop_at h1,good_app] at h
 exact h.2.2 x (List.mem_iff_getElem?.2 ⟨j,by rw [List.getElem?_take,if_pos hj];exact h2⟩) (by simp)
theorem split_at {l:List Int} {x:Int} (h:x∈l):∃ a b,l=a++x::b:=by
 exact List.append_of_mem h
theorem at_of {a b l:List Int} {x:Int} (hl:l=a++x::b) (hg:Good l):l[a.length]?=some x/\∀ j,j<a.length->l[j]?≠some x:=by
 subst hl
 refine⟨by simp,λ j hj e=>?_⟩
 rw [List.getElem?_append_left hj] at e
 exact (good_app.1 hg).2.2 x (List.mem_iff_getElem?.2 ⟨j,e⟩) (by simp)
section
variable {w:World} {A:Option Addr} {n c:Nat} {l:List Int}
theorem sound_is (hm:IMem w A n l) (hc:n<=c) (hn:n<=9223372036854775807) :
 Calls Tryz.prog 203 #[.slice A n c] w λ e w'=>(∃ k:Nat,e=.returned (.int .i64 (k:Int))/\((k=n/\Good l)\/(k<n/\¬ Good l)))/\w'=w:=by
 have HM:=Lib.hid hm
 clear hm
 have hlen:=HM.out.1
 go_enter Tryz.func203,Tryz.ntmps203
 go_wp2_with fail
 go_step3
 go_wp2_with fail
 go_step3
 go_wp2_with fail
 go_loop [3,10] (λ N i=>∃ k:Nat,k<=n/\N=.int .i64 (k:Int)/\i=.int .i64 (k:Int)/\Hid (Good (l.take k))) (λ _ i=>n-(intOf i).toNat)
 case atStart=>exact⟨0,by omega,rfl,rfl,Lib.hid (by simpa using Good.nil)⟩
 case round =>
  obtain⟨k,hk,rfl,rfl,HG⟩:=hrel
  by_cases hlt:k<n
  . obtain⟨b,off,x,rfl,hbl,hx,hix,cx⟩:=HM.out.at_ hlt
    have HX:=Lib.hid hx
    clear hx
    by_cases h0:x<0
    . have hng:Hid (¬ Good l):=Lib.hid λ h=>by have:=h.1 x (List.mem_of_getElem? HX.out);omega
      go_wp2_with fail
      first | go_ret | (rw [Exit.noGoto_ret];go_ret)
      exact⟨⟨k,rfl,.inr ⟨hlt,hng.out⟩⟩,rfl⟩
    . have hkc:(k:Int)<=(c:Int):=by omega
      have hk0:(0:Int)<=(k:Int):=by omega
      go_wp2_with fail
      go_loop [20] (λ i=>∃ q:Nat,q<=k/\i=.int .i64 (q:Int)/\Hid (∀ j,j<q->l[j]?≠some x)) (λ i=>k-(intOf i).toNat)
      case atStart=>exact⟨0,by omega,rfl,Lib.hid λ j hj=>absurd hj (by omega)⟩
      case round =>
       obtain⟨q,hq,rfl,HQ⟩:=hrel
       by_cases hqk:q<k
       . obtain⟨b',off',y,hb',hbl',hy,hiy,cy⟩:=HM.out.at_ (show q<n by omega)
         cases hb'
         by_cases he:y=x
         . subst he
           have hng:Hid (¬ Good l):=Lib.hid (not_good_dup HX.out hy hqk)
           clear hy
           go_wp2_with fail
           first | go_ret | (rw [Exit.noGoto_ret];go_ret)
           exact⟨⟨k,rfl,.inr ⟨hlt,hng.out⟩⟩,rfl⟩
         . have ne:(y==x)=false:=beq_eq_false_iff_ne.2 he
           have HQ':Hid (∀ j,j<q+1->l[j]?≠some x):=Lib.hid λ j hj e=>by
            by_cases h:j<q
            . exact HQ.out j h e
            . obtain rfl:j=q:=by omega
              rw [hy] at e;exact he (Option.some.inj e)
           clear hy
           go_wp2_with fail
           go_round
           case rel=>exact⟨q+1,by omega,by go_num,HQ'⟩
           case measure=>simp [intOf];omega
       . obtain rfl:q=k:=by omega
         have HG':Hid (Good (l.take (q+1))):=Lib.hid (by
          rw [take_more HX.out,good_app,good_one]
          refine⟨HG.out,by omega,λ y hy hy1=>?_⟩
          rw [List.mem_singleton] at hy1
          subst hy1
          exact (not_mem_take (by omega)).2 HQ.out hy)
         go_wp2_with fail
         go_round
         case rel=>exact⟨q+1,by omega,by go_num,by go_num,HG'⟩
         case measure=>simp [intOf];omega
  . obtain rfl:k=n:=by omega
    have hg:=HG.out
    rw [<- hlen,List.take_length] at hg
    go_wp2_with fail
    first | go_ret | (rw [Exit.noGoto_ret];go_ret)
    exact⟨⟨k,rfl,.inl ⟨rfl,hg⟩⟩,rfl⟩
theorem Right_is (hm:IMem w A n l) (hc:n<=c) (hn:n<=9223372036854775807) {v:Bool} (hv:v=true↔Ln l) :
 Calls Tryz.prog 169 #[.slice A n c] w λ e w'=>e=.returned (.bool v)/\w'=w:=by
 have hlen:=hm.1
 have HV:=Lib.hid hv
 clear hv
 have k1:=Lib.hid (sound_is (c:=c) hm hc hn)
 clear hm
 by_cases h:n<=64
 . have h1:(n:Int)<=64:=by omega
   go_enter Tryz.func169,Tryz.ntmps169
   go_wp2_with fail
   refine k1.out.mono ?_
   rintro e w1 ⟨⟨k,rfl,hk⟩,rfl⟩
   have HV':v=((k:Int)==(n:Int)):=by
    rcases hk with ⟨rfl,hg⟩ | ⟨hk,hg⟩
    . rw [HV.out.2 ⟨by omega,hg⟩];simp
    . rw [beq_eq_false_iff_ne.2 (by omega)]
      cases v
      . rfl
      . exact absurd (HV.out.1 rfl).2 hg
   subst HV'
   clear hk
   go_wp2_with fail
   go_ret
   exact⟨rfl,rfl⟩
 . have h1:¬ (n:Int)<=64:=by omega
   obtain rfl:v=false:=by
    cases v
    . rfl
    . have:=(HV.out.1 rfl).1;omega
   go_enter Tryz.func169,Tryz.ntmps169
   go_wp2_with fail
   go_ret
   exact⟨rfl,rfl⟩
end
section
variable {w:World} {A B:Option Addr} {n c m d:Nat} {l r:List Int}
end
end Go.Proofs.YtainfijdhcehlaaGreatDoor.L7
namespace Go.Proofs.YtainfijdhcehlaaGreatDoor
open Lib (hid)
open Go.Proofs.Tryz
open Go.ChangeAt Go.ChangeShapes Go.Deep Go.Joins Go.RowKit Go.WideShapes
structure Nd where
 key:Int
 left:Int
 right:Int
instance:Inhabited Nd:=⟨⟨0,0,0⟩⟩
inductive T where
 | nil:T
 | node:Nat->Int->T->T->T
def pri (k:Int):Int:=k*2654435761 % 4294967296
def IsKey (k:Int):Prop:=0<=k/\k<=4294967295
theorem pri_back {a:Int} (ha:IsKey a):pri a*244002641 % 4294967296=a:=by
 unfold pri;rw [Int.mul_emod,Int.emod_emod_of_dvd _ (Int.dvd_refl _),<- Int.mul_emod,Int.mul_assoc,Int.mul_emod,show ((2654435761:Int)*244002641) % 4294967296=1 from by decide,Int.mul_one,Int.emod_emod_of_dvd _ (Int.dvd_refl _)];unfold IsKey at ha;exact Int.emod_eq_of_lt ha.1 (by omega)
theorem pri_inj {a b:Int} (ha:IsKey a) (hb:IsKey b) (h:pri a=pri b):a=b:=by
 rw [<- pri_back ha,<- pri_back hb,h]
theorem pri_range (k:Int):0<=pri k/\pri k<4294967296:=by unfold pri;omega
def T.size:T->Nat
 | .nil=>0
 | .node _ _ L R=>L.size+R.size+1
def T.inord:T->List Int
 | .nil=>[]
 | .node _ k L R=>L.inord++k::R.inord
def T.ids:T->List Nat
 | .nil=>[]
 | .node i _ L R=>L.ids++i::R.ids
theorem T.inord_len:∀ t:T,t.inord.length=t.size
 | .nil=>rfl
 | .node _ _ L R=>by simp [T.inord,T.size,T.inord_len L,T.inord_len R];omega
theorem T.ids_len:∀ t:T,t.ids.length=t.size
 | .nil=>rfl
 | .node _ _ L R=>by simp [T.ids,T.size,T.ids_len L,T.ids_len R];omega
def Lay (l:List Nd):T->Int->Prop
 | .nil,a=>a=-1
 | .node i k L R,a=>a=(i:Int)/\∃ nd,l[i]?=some nd/\nd.key=k/\Lay l L nd.left/\Lay l R nd.right
def Bst:T->Int->Int->Prop
 | .nil,_,_=>True
 | .node _ k L R,lo,hi=>lo<k/\k<hi/\Bst L lo k/\Bst R k hi
def Hp:T->Int->Prop
 | .nil,_=>True
 | .node _ k L R,w=>pri k<w/\Hp L (pri k)/\Hp R (pri k)
def Good (l:List Nd) (r:Int) (t:T):Prop:=Lay l t r/\t.size=l.length/\l.length<=64/\Bst t (-1) 4294967296/\Hp t 4294967296
theorem Lay.det {l:List Nd}:∀ {t u:T} {a:Int},Lay l t a->Lay l u a->t=u
 | .nil,.nil,_,_,_=>rfl
 | .nil,.node i k L R,a,h,g=>by obtain⟨h1,_⟩:=g;simp only [Lay] at h;omega
 | .node i k L R,.nil,a,h,g=>by obtain⟨h1,_⟩:=h;simp only [Lay] at g;omega
 | .node i k L R,.node j m L' R',a,h,g=>by
  obtain⟨h1,nd,h2,h3,h4,h5⟩:=h;obtain⟨g1,nd',g2,g3,g4,g5⟩:=g;obtain rfl:i=j:=by omega
  rw [h2] at g2;cases g2;rw [Lay.det h4 g4,Lay.det h5 g5,<- h3,<- g3]
theorem Lay.node_at {l:List Nd} {t:T} {i:Nat} (h:Lay l t i):∃ nd L R,l[i]?=some nd/\t=.node i nd.key L R/\Lay l L nd.left/\Lay l R nd.right:=by
 cases t with
 | nil=>simp only [Lay] at h;omega
 | node j k L R =>
  obtain⟨h1,nd,h2,h3,h4,h5⟩:=h;obtain rfl:i=j:=by omega
  exact⟨nd,L,R,h2,by rw [h3],h4,h5⟩
theorem Lay.bad {l:List Nd} {t:T} {a:Int} (h:Lay l t a) (h1:a≠-1):0<=a/\a<(l.length:Int):=by
 cases t with
 | nil=>exact absurd h h1
 | node j k L R =>
  obtain⟨rfl,nd,h2,_⟩:=h;have:=(zgl h2);omega
def cnt (l:List Nd) (lo hi:Int):Nat:=l.countP λ nd=>decide (lo<nd.key)&&decide (nd.key<hi)
theorem cnt_split0 (lo k hi:Int) (h1:lo<k) (h2:k<hi):∀ l:List Nd,cnt l lo k+cnt l k hi+l.countP (λ nd=>decide (nd.key=k))<=cnt l lo hi
 | []=>by simp [cnt]
 | nd::r=>by
  have ih:=cnt_split0 lo k hi h1 h2 r;unfold cnt at *;simp only [List.countP_cons,Bool.and_eq_true,decide_eq_true_eq]
  repeat' split
  all_goals omega
theorem cnt_split {l:List Nd} {i:Nat} {nd:Nd} {lo hi:Int} (h:l[i]?=some nd) (h1:lo<nd.key) (h2:nd.key<hi):1+cnt l lo nd.key+cnt l nd.key hi<=cnt l lo hi:=by
 have:=cnt_split0 lo nd.key hi h1 h2 l;have hp:0<l.countP (λ x=>decide (x.key=nd.key)):=List.countP_pos_iff.2 ⟨nd,zmo h,by simp⟩;omega
theorem cnt_le (l:List Nd) (lo hi:Int):cnt l lo hi<=l.length:=List.countP_le_length
inductive Snd (l:List Nd):Int->Int->Int->Int->Bool->Nat->Prop
 | nil (lo hi w:Int):Snd l (-1) lo hi w true 0
 | out (a lo hi w:Int):a≠-1->(a<0\/(l.length:Int)<=a)->Snd l a lo hi w false 0
 | no (i:Nat) (nd:Nd) (lo hi w:Int):l[i]?=some nd->(nd.key<=lo\/hi<=nd.key\/(lo<nd.key/\nd.key<hi/\w<=pri nd.key))->Snd l i lo hi w false 0
 | left (i:Nat) (nd:Nd) (lo hi w:Int) (q:Nat):l[i]?=some nd->lo<nd.key->nd.key<hi->pri nd.key<w->Snd l nd.left lo nd.key (pri nd.key) false q->Snd l i lo hi w false (q+1)
 | both (i:Nat) (nd:Nd) (lo hi w:Int) (b:Bool) (q p:Nat):l[i]?=some nd->lo<nd.key->nd.key<hi->pri nd.key<w->Snd l nd.left lo nd.key (pri nd.key) true q->Snd l nd.right nd.key hi (pri nd.key) b p->Snd l i lo hi w b (q+p+1)
theorem snd_ex (l:List Nd):∀ (N:Nat) (a lo hi w:Int),w<=N->-1<=lo->hi<=4294967296->∃ b q,Snd l a lo hi w b q/\q<=cnt l lo hi /\
 (b=true->∃ t,Lay l t a/\Bst t lo hi/\Hp t w/\t.size=q)/\(b=false->∀ t,Lay l t a->Bst t lo hi->Hp t w->False):=by
 intro N
 induction N with
 | zero =>
  intro a lo hi w hw hlo hhi;by_cases h1:a=-1
  . subst h1
    exact⟨true,0,.nil lo hi w,by omega,λ _=>⟨.nil,rfl,trivial,trivial,rfl⟩,λ h=>(by cases h)⟩
  by_cases h2:a<0\/(l.length:Int)<=a
  . exact⟨false,0,.out a lo hi w h1 h2,by omega,λ h=>(by cases h),λ _ t ht _ _=>by have:=ht.bad h1;omega⟩
  obtain⟨i,rfl⟩:∃ i:Nat,a=i:=⟨a.toNat,by omega⟩;have hx:l[i]?=some l[i]:=zge (by omega);generalize l[i]=nd at hx;have hp:=pri_range nd.key;refine⟨false,0,.no i nd lo hi w hx (by omega),by omega,λ h=>(by cases h),λ _ t ht _ hh=>?_⟩;obtain⟨nd',L,R,e1,rfl,_⟩:=ht.node_at
  rw [hx] at e1;cases e1;have:=hh.1;omega
 | succ N ih =>
  intro a lo hi w hw hlo hhi;by_cases h1:a=-1
  . subst h1
    exact⟨true,0,.nil lo hi w,by omega,λ _=>⟨.nil,rfl,trivial,trivial,rfl⟩,λ h=>(by cases h)⟩
  by_cases h2:a<0\/(l.length:Int)<=a
  . exact⟨false,0,.out a lo hi w h1 h2,by omega,λ h=>(by cases h),λ _ t ht _ _=>by have:=ht.bad h1;omega⟩
  obtain⟨i,rfl⟩:∃ i:Nat,a=i:=⟨a.toNat,by omega⟩;have hx:l[i]?=some l[i]:=zge (by omega);generalize l[i]=nd at hx;have hp:=pri_range nd.key;by_cases h3:lo<nd.key/\nd.key<hi/\pri nd.key<w
  . obtain⟨k1,k2,k3⟩:=h3
    obtain⟨b1,q1,s1,c1,t1,f1⟩:=ih nd.left lo nd.key (pri nd.key) (by omega) hlo (by omega);have hc:=cnt_split hx k1 k2
    cases b1 with
    | false =>
     refine⟨false,q1+1,.left i nd lo hi w q1 hx k1 k2 k3 s1,by omega,λ h=>(by cases h),λ _ t ht hb hh=>?_⟩;obtain⟨nd',L,R,e1,rfl,hl,hr⟩:=ht.node_at
     rw [hx] at e1;cases e1;exact f1 rfl L hl hb.2.2.1 hh.2.1
    | true =>
     obtain⟨b2,q2,s2,c2,t2,f2⟩:=ih nd.right nd.key hi (pri nd.key) (by omega) (by omega) hhi;refine⟨b2,q1+q2+1,.both i nd lo hi w b2 q1 q2 hx k1 k2 k3 s1 s2,by omega,λ h=>?_,λ h t ht hb hh=>?_⟩
     . obtain⟨L,l1,l2,l3,l4⟩:=t1 rfl
       obtain⟨R,r1,r2,r3,r4⟩:=t2 h;exact⟨.node i nd.key L R,⟨rfl,nd,hx,rfl,l1,r1⟩,⟨k1,k2,l2,r2⟩,⟨k3,l3,r3⟩,by simp [T.size];omega⟩
     . obtain⟨nd',L,R,e1,rfl,hl,hr⟩:=ht.node_at
       rw [hx] at e1;cases e1;exact f2 h R hr hb.2.2.2 hh.2.2
  . refine⟨false,0,.no i nd lo hi w hx (by omega),by omega,λ h=>(by cases h),λ _ t ht hb hh=>?_⟩
    obtain⟨nd',L,R,e1,rfl,_⟩:=ht.node_at
    rw [hx] at e1;cases e1;exact h3 ⟨hb.1,hb.2.1,hh.1⟩
theorem right_ex {l:List Nd} {r:Int} (hn:l.length<=64):∃ b q,Snd l r (-1) 4294967296 4294967296 b q/\q<=64/\((b=true/\q=l.length)↔∃ t,Good l r t):=by
 obtain⟨b,q,s,c,t,f⟩:=snd_ex l 4294967296 r (-1) 4294967296 4294967296 (by omega) (by omega) (by omega);have:=cnt_le l (-1) 4294967296;refine⟨b,q,s,by omega,λ ⟨hb,hq⟩=>?_,λ ⟨u,hu⟩=>?_⟩
 . obtain⟨u,u1,u2,u3,u4⟩:=t hb
   exact⟨u,u1,by omega,hn,u2,u3⟩
 . cases b with
   | false=>exact (f rfl u hu.1 hu.2.2.2.1 hu.2.2.2.2).elim
   | true =>
    obtain⟨v,v1,v2,v3,v4⟩:=t rfl;rw [Lay.det hu.1 v1] at hu;exact⟨rfl,by have:=hu.2.1;omega⟩
theorem Bst.mem:∀ {t:T} {lo hi x:Int},Bst t lo hi->x∈t.inord->lo<x/\x<hi
 | .nil,_,_,_,_,h=>by simp [T.inord] at h
 | .node i k L R,lo,hi,x,b,h=>by
  obtain⟨b1,b2,b3,b4⟩:=b;simp only [T.inord,List.mem_append,List.mem_cons] at h;rcases h with h | rfl | h
  . have:=Bst.mem b3 h;omega
  . omega
  . have:=Bst.mem b4 h;omega
def Rising (l:List Int):Prop:=l.Pairwise (·<·)
theorem Bst.rising:∀ {t:T} {lo hi:Int},Bst t lo hi->Rising t.inord
 | .nil,_,_,_=>List.Pairwise.nil
 | .node i k L R,lo,hi,b=>by
  obtain⟨b1,b2,b3,b4⟩:=b;unfold Rising;simp only [T.inord,List.pairwise_append,List.pairwise_cons];refine⟨Bst.rising b3,⟨λ y hy=>(Bst.mem b4 hy).1,Bst.rising b4⟩,λ x hx y hy=>?_⟩;have:=(Bst.mem b3 hx).2;rcases List.mem_cons.1 hy with rfl | hy
  . exact this
  . have:=(Bst.mem b4 hy).1;omega
theorem bst_of:∀ {t:T} {lo hi:Int},Rising t.inord->(∀ x∈t.inord,lo<x/\x<hi)->Bst t lo hi
 | .nil,_,_,_,_=>trivial
 | .node i k L R,lo,hi,s,h=>by
  unfold Rising at s;simp only [T.inord,List.pairwise_append,List.pairwise_cons] at s;obtain⟨s1,⟨s2,s3⟩,s4⟩:=s;have hk:=h k (by simp [T.inord]);refine⟨hk.1,hk.2,bst_of s1 λ x hx=>⟨(h x (by simp [T.inord,hx])).1,s4 x hx k (by simp)⟩,bst_of s3 λ x hx=>⟨s2 x hx,(h x (by simp [T.inord,hx])).2⟩⟩
theorem Rising.nodup {l:List Int} (h:Rising l):l.Nodup:=List.Pairwise.imp (λ h=>by omega) h
theorem rising_ext:∀ {l m:List Int},Rising l->Rising m->(∀ x,x∈l↔x∈m)->l=m
 | [],[],_,_,_=>rfl
 | [],y::m,_,_,h=>by have:=(h y).2 (by simp);simp at this
 | x::l,[],_,_,h=>by have:=(h x).1 (by simp);simp at this
 | x::l,y::m,hl,hm,h=>by
  obtain⟨a1,a2⟩:=List.pairwise_cons.1 hl;obtain⟨b1,b2⟩:=List.pairwise_cons.1 hm;have e:x=y:=by
   rcases List.mem_cons.1 ((h x).1 (by simp)) with e | e
   . exact e
   . rcases List.mem_cons.1 ((h y).2 (by simp)) with e' | e'
     . exact e'.symm
     . have:=b1 x e;have:=a1 y e';omega
  subst e;rw [rising_ext a2 b2 λ z=>⟨λ hz=>?_,λ hz=>?_⟩]
  . rcases List.mem_cons.1 ((h z).1 (by simp [hz])) with e | e
    . subst e;have:=a1 z hz;omega
    . exact e
  . rcases List.mem_cons.1 ((h z).2 (by simp [hz])) with e | e
    . subst e;have:=b1 z hz;omega
    . exact e
theorem nodup_le:∀ (n:Nat) (s:List Nat),s.Nodup->(∀ x∈s,x<n)->s.length<=n
 | 0,s,_,h=>by
  cases s with
  | nil=>simp
  | cons x r=>have:=h x (by simp);omega
 | n+1,s,hs,h=>by
  have:=nodup_le n (s.erase n) (hs.erase n) λ x hx=>by
   have h1:=(hs.mem_erase_iff.1 hx);have:=h x h1.2;omega
  have:=List.length_erase (l:=s) (a:=n)
  split at this<;>omega
theorem nodup_all {n:Nat} {s:List Nat} (hs:s.Nodup) (h:∀ x∈s,x<n) (hl:s.length=n) {i:Nat} (hi:i<n):i∈s:=by
 apply Classical.byContradiction;intro hn;have:=nodup_le n (i::s) (List.nodup_cons.2 ⟨hn,hs⟩) λ x hx=>by
  rcases List.mem_cons.1 hx with rfl | hx
  . exact hi
  . exact h x hx
 simp at this;omega
theorem Lay.key_of {l:List Nd}:∀ {t:T} {a:Int},Lay l t a->∀ i∈t.ids,∃ nd,l[i]?=some nd/\nd.key∈t.inord
 | .nil,_,_,i,h=>by simp [T.ids] at h
 | .node j k L R,a,h,i,hi=>by
  obtain⟨h1,nd,h2,h3,h4,h5⟩:=h;simp only [T.ids,List.mem_append,List.mem_cons] at hi;rcases hi with hi | rfl | hi
  . obtain⟨m,e1,e2⟩:=Lay.key_of h4 i hi
    exact⟨m,e1,by simp [T.inord,e2]⟩
  . exact⟨nd,h2,by simp [T.inord,h3]⟩
  . obtain⟨m,e1,e2⟩:=Lay.key_of h5 i hi
    exact⟨m,e1,by simp [T.inord,e2]⟩
theorem Lay.nodup {l:List Nd}:∀ {t:T} {a lo hi:Int},Lay l t a->Bst t lo hi->t.ids.Nodup
 | .nil,_,_,_,_,_=>List.nodup_nil
 | .node j k L R,a,lo,hi,h,b=>by
  obtain⟨h1,nd,h2,h3,h4,h5⟩:=h;obtain⟨b1,b2,b3,b4⟩:=b;have inL:∀ i∈L.ids,∃ m,l[i]?=some m/\m.key<k:=λ i hi=>by
   obtain⟨m,e1,e2⟩:=Lay.key_of h4 i hi;exact⟨m,e1,(Bst.mem b3 e2).2⟩
  have inR:∀ i∈R.ids,∃ m,l[i]?=some m/\k<m.key:=λ i hi=>by
   obtain⟨m,e1,e2⟩:=Lay.key_of h5 i hi;exact⟨m,e1,(Bst.mem b4 e2).1⟩
  simp only [T.ids,List.nodup_append,List.nodup_cons];refine⟨Lay.nodup h4 b3,⟨λ hj=>?_,Lay.nodup h5 b4⟩,λ x hx y hy e=>?_⟩
  . obtain⟨m,e1,e2⟩:=inR j hj
    rw [h2] at e1;cases e1;omega
  . subst e
    obtain⟨m,e1,e2⟩:=inL x hx;rcases List.mem_cons.1 hy with rfl | hy
    . rw [h2] at e1;cases e1;omega
    . obtain⟨m',e3,e4⟩:=inR x hy
      rw [e1] at e3;cases e3;omega
theorem Good.all {l:List Nd} {r:Int} {t:T} (h:Good l r t) {i:Nat} (hi:i<l.length):i∈t.ids :=
 nodup_all (h.1.nodup h.2.2.2.1) (λ x hx=>by
  obtain⟨nd,e,_⟩:=h.1.key_of x hx;exact (zgl e)) (by rw [T.ids_len];exact h.2.1) hi
theorem Lay.key_in {l:List Nd}:∀ {t:T} {a:Int},Lay l t a->∀ x∈t.inord,x∈l.map Nd.key
 | .nil,_,_,x,h=>by simp [T.inord] at h
 | .node j k L R,a,h,x,hx=>by
  obtain⟨h1,nd,h2,h3,h4,h5⟩:=h;simp only [T.inord,List.mem_append,List.mem_cons] at hx;rcases hx with hx | rfl | hx
  . exact Lay.key_in h4 x hx
  . exact List.mem_map.2 ⟨nd,zmo h2,h3⟩
  . exact Lay.key_in h5 x hx
theorem Good.keys {l:List Nd} {r:Int} {t:T} (h:Good l r t) (x:Int):x∈l.map Nd.key↔x∈t.inord:=by
 refine⟨λ hx=>?_,λ hx=>h.1.key_in x hx⟩;obtain⟨nd,h1,rfl⟩:=List.mem_map.1 hx;obtain⟨i,hi,e⟩:=List.mem_iff_getElem.1 h1;obtain⟨m,e1,e2⟩:=h.1.key_of i (h.all hi);rw [zge hi,e] at e1;cases e1;exact e2
theorem Good.isKey {l:List Nd} {r:Int} {t:T} (h:Good l r t) {x:Int} (hx:x∈t.inord):IsKey x:=by
 have:=h.2.2.2.1.mem hx;unfold IsKey;omega
def dpt:T->Int->Nat
 | .nil,_=>0
 | .node _ k L R,x=>if x=k then 0 else if x<k then dpt L x+1 else dpt R x+1
def btw (a b y:Int):Prop:=(a<=y/\y<=b)\/(b<=y/\y<=a)
instance (a b y:Int):Decidable (btw a b y):=by unfold btw;infer_instance
def nx:T->Int->Int->Int
 | .nil,_,s=>s
 | .node _ k L R,x,s=>if k<x then nx R x s else nx L x k
theorem nx_find:∀ {t:T} {lo hi x s:Int},Bst t lo hi->nx t x s=(t.inord.find? (λ k=>decide (x<=k))).getD s
 | .nil,_,_,_,_,_=>rfl
 | .node i k L R,lo,hi,x,s,b=>by
  obtain⟨b1,b2,b3,b4⟩:=b;unfold nx;simp only [T.inord,List.find?_append,List.find?_cons]
  split
  . rename_i h
    have e:L.inord.find? (λ k=>decide (x<=k))=none:=List.find?_eq_none.2 λ y hy=>by
     have:=(b3.mem hy).2;simp;omega
    rw [nx_find b4,e,decide_eq_false (by omega)];rfl
  . rename_i h
    rw [nx_find b3,decide_eq_true (by omega)];cases L.inord.find? (λ k=>decide (x<=k))<;>rfl
structure SV where
 addr:Int
 cnt:Int
 A:Option Addr
 n:Nat
 c:Nat
 line:List Int
instance:Inhabited SV:=⟨⟨0,0,none,0,0,[]⟩⟩
def SV.pl (x:SV):Int×Int×List Int:=(x.addr,x.cnt,x.line)
def SV.val (x:SV):Value:=.agg #[.int .i64 x.addr,.int .i64 x.cnt,.slice x.A x.n x.c]
def rt (a:Int):Int:=a / 8 % 251
def Lt (a b:Int):Prop:=rt a<rt b\/(rt a=rt b/\a<b)
theorem Lt.irrefl {a:Int} (h:Lt a a):False:=by unfold Lt at h;omega
theorem Lt.trans {a b c:Int} (h:Lt a b) (k:Lt b c):Lt a c:=by unfold Lt at *;omega
theorem Lt.tri (a b:Int):Lt a b\/a=b\/Lt b a:=by
 unfold Lt;by_cases h:a=b
 . exact .inr (.inl h)
 . omega
theorem Lt.asymm {a b:Int} (h:Lt a b) (k:Lt b a):False:=by unfold Lt at *;omega
instance (a b:Int):Decidable (Lt a b):=by unfold Lt;infer_instance
def SOk (x:SV):Prop:=IsKey x.addr/\0<=x.cnt/\x.cnt<=2147483647/\L7.Ln x.line/\(x.cnt=0\/x.line=[])
def SNil (x:SV):Prop:=x.cnt=0/\x.line=[]
instance (x:SV):Decidable (SNil x):=by unfold SNil;infer_instance
def TOk (l:List SV):Prop:=(∀ x∈l,SOk x/\¬ SNil x)/\l.Pairwise (λ a b=>Lt a.addr b.addr)
def Tab (l:List SV):Prop:=l.length<=64/\TOk l
theorem TOk.nil:TOk []:=⟨by simp,List.Pairwise.nil⟩
theorem Tab.key {l:List SV} (h:TOk l) {x:SV} (hx:x∈l):IsKey x.addr:=(h.1 x hx).1.1
theorem TOk.snoc {l:List SV} {x:SV}:TOk (l++[x])↔TOk l/\SOk x/\¬ SNil x/\∀ y∈l,Lt y.addr x.addr:=by
 unfold TOk;rw [List.pairwise_append];constructor
 . rintro⟨h1,h2,_,h3⟩
   exact⟨⟨λ y hy=>h1 y (List.mem_append_left _ hy),h2⟩,(h1 x (by simp)).1,(h1 x (by simp)).2,λ y hy=>h3 y hy x (by simp)⟩
 . rintro⟨⟨h1,h2⟩,h3,h4,h5⟩
   refine⟨λ y hy=>?_,h2,by simp,λ y hy z hz=>?_⟩
   . rcases List.mem_append.1 hy with h | h
     . exact h1 y h
     . rw [List.mem_singleton] at h;subst h;exact⟨h3,h4⟩
   . rw [List.mem_singleton] at hz;subst hz;exact h5 y hy
theorem TOk.take {l:List SV} (h:TOk l) (k:Nat):TOk (l.take k) :=
 ⟨λ x hx=>h.1 x (List.mem_of_mem_take hx),h.2.sublist (List.take_sublist k l)⟩
theorem take_snoc {α:Type} {l:List α} {k:Nat} {x:α} (h:l[k]?=some x):l.take (k+1)=l.take k++[x]:=by
 rw [List.take_add_one,h];rfl
theorem TOk.step {l:List SV} {k:Nat} {x:SV} (hx:l[k]?=some x) (h:TOk (l.take k)):TOk (l.take (k+1))↔SOk x/\¬ SNil x/\(∀ p y,k=p+1->l[p]?=some y->Lt y.addr x.addr):=by
 rw [take_snoc hx,TOk.snoc];constructor
 . rintro⟨_,h1,h2,h3⟩
   refine⟨h1,h2,λ p y hk hy=>h3 y ?_⟩;subst hk;exact List.mem_iff_getElem?.2 ⟨p,by rw [List.getElem?_take,if_pos (by omega)];exact hy⟩
 . rintro⟨h1,h2,h3⟩
   refine⟨h,h1,h2,λ y hy=>?_⟩
   cases k with
   | zero=>simp at hy
   | succ p =>
    have hlt:p<l.length:=by have:=(zgl hx);omega
    have hp:l[p]?=some l[p]:=zge hlt;have h4:=h3 p l[p] rfl hp;rw [take_snoc hp] at hy h;rcases List.mem_append.1 hy with hy | hy
    . exact ((TOk.snoc.1 h).2.2.2 y hy).trans h4
    . rw [List.mem_singleton] at hy;subst hy;exact h4
theorem TOk.at_ {l:List SV} (h:TOk l) {i j:Nat} {x y:SV} (hij:i<j) (hx:l[i]?=some x) (hy:l[j]?=some y):Lt x.addr y.addr:=by
 obtain⟨hi,rfl⟩:=List.getElem?_eq_some_iff.1 hx;obtain⟨hj,rfl⟩:=List.getElem?_eq_some_iff.1 hy;exact List.pairwise_iff_getElem.1 h.2 i j hi hj hij
def und (l:List SV) (r:Int):List Int:=(l.filter λ x=>decide (rt x.addr=r)).map (·.addr)
theorem und_snoc_hit {l:List SV} {x:SV} {r:Int} (h:rt x.addr=r):und (l++[x]) r=und l r++[x.addr]:=by simp [und,List.filter_append,h]
theorem und_snoc_miss {l:List SV} {x:SV} {r:Int} (h:rt x.addr≠r):und (l++[x]) r=und l r:=by simp [und,List.filter_append,h]
theorem mem_und {l:List SV} {r a:Int}:a∈und l r↔∃ x∈l,x.addr=a/\rt a=r:=by
 unfold und;rw [List.mem_map];constructor
 . rintro⟨x,hx,rfl⟩
   rw [List.mem_filter,decide_eq_true_eq] at hx;exact⟨x,hx.1,rfl,hx.2⟩
 . rintro⟨x,hx,rfl,h⟩
   exact⟨x,List.mem_filter.2 ⟨hx,by simpa using h⟩,rfl⟩
theorem und_len (l:List SV) (r:Int):(und l r).length<=l.length:=by
 unfold und;rw [List.length_map];exact List.length_filter_le _ _
theorem und_rising {l:List SV} (h:TOk l) (r:Int):Rising (und l r):=by
 unfold Rising und;rw [List.pairwise_map];refine List.Pairwise.imp_of_mem ?_ (h.2.sublist List.filter_sublist);intro a b ha hb hab;rw [List.mem_filter,decide_eq_true_eq] at ha hb;unfold Lt at hab;omega
def plc (l:List SV) (a:Int):Nat:=(l.filter λ x=>decide (Lt x.addr a)).length
theorem plc_le (l:List SV) (a:Int):plc l a<=l.length:=List.length_filter_le _ _
theorem filter_split {l:List SV} (h:TOk l) (a:Int):∀ k,(∀ i x,l[i]?=some x->(Lt x.addr a↔i<k))->k<=l.length->plc l a=k:=by
 intro k hk hl;unfold plc;rw [<- List.take_append_drop k l,List.filter_append,List.filter_eq_self.2,List.filter_eq_nil_iff.2]
 . simp;omega
 . intro x hx
   obtain⟨i,hi⟩:=List.mem_iff_getElem?.1 hx;rw [List.getElem?_drop] at hi;have:=(hk _ _ hi).1;simp only [decide_eq_true_eq];intro h;have:=this h;omega
 . intro x hx
   obtain⟨i,hi⟩:=List.mem_iff_getElem?.1 hx;rw [List.getElem?_take] at hi
   split at hi
   . simp only [decide_eq_true_eq]
     exact (hk _ _ hi).2 (by assumption)
   . cases hi
theorem plc_at {l:List SV} (h:TOk l) {a:Int} {k:Nat} {x:SV} (hx:l[k]?=some x) (h1:¬ Lt x.addr a) (h2:∀ p y,k=p+1->l[p]?=some y->Lt y.addr a):plc l a=k:=by
 refine filter_split h a k (λ i y hy=>?_) (by have:=(zgl hx);omega);constructor
 . intro hya
   rcases Nat.lt_trichotomy i k with h3 | h3 | h3
   . exact h3
   . subst h3;rw [hx] at hy;cases hy;exact absurd hya h1
   . exact absurd ((h.at_ h3 hx hy).trans hya) h1
 . intro hi
   cases k with
   | zero=>omega
   | succ p =>
    have hlt:p<l.length:=by have:=(zgl hx);omega
    have h3:=h2 p l[p] rfl (zge hlt);by_cases hip:i=p
    . subst hip;rw [zge hlt] at hy;cases hy;exact h3
    . exact (h.at_ (show i<p from by omega) hy (zge hlt)).trans h3
theorem plc_end {l:List SV} (h:TOk l) {a:Int} (h1:∀ x∈l,Lt x.addr a):plc l a=l.length :=
 filter_split h a _ (λ i x hx=>⟨λ _=>(zgl hx),λ _=>h1 x (zmo hx)⟩) (Nat.le_refl _)
theorem plc_iff {l:List SV} (h:TOk l) (a:Int) {i:Nat} {x:SV} (hx:l[i]?=some x):Lt x.addr a↔i<plc l a:=by
 by_cases hall:∀ y∈l,Lt y.addr a
 . rw [plc_end h hall]
   exact⟨λ _=>(zgl hx),λ _=>hall x (zmo hx)⟩
 . have hex:∃ k:Nat,∃ y:SV,l[k]?=some y/\¬ Lt y.addr a:=by
    simp only [Classical.not_forall] at hall;obtain⟨y,hy,hn⟩:=hall;obtain⟨k,hk⟩:=List.mem_iff_getElem?.1 hy;exact⟨k,y,hk,hn⟩
   have hmin:∃ k:Nat,(∃ y:SV,l[k]?=some y/\¬ Lt y.addr a)/\∀ j,j<k->¬ ∃ y:SV,l[j]?=some y/\¬ Lt y.addr a:=by
    obtain⟨k,hk⟩:=hex
    induction k using Nat.strongRecOn with
    | _ k ih =>
     by_cases hj:∃ j,j<k/\∃ y:SV,l[j]?=some y/\¬ Lt y.addr a
     . obtain⟨j,hj1,hj2⟩:=hj
       exact ih j hj1 hj2
     . exact⟨k,hk,λ j hjk hc=>hj ⟨j,hjk,hc⟩⟩
   obtain⟨k,⟨y,hy,hn⟩,hf⟩:=hmin;have hp:plc l a=k:=plc_at h hy hn (λ p z hz hz2=>Classical.byContradiction λ hc=>hf p (by omega) ⟨z,hz2,hc⟩);rw [hp];constructor
   . intro hxa
     rcases Nat.lt_trichotomy i k with h3 | h3 | h3
     . exact h3
     . subst h3;rw [hx] at hy;cases hy;exact absurd hxa hn
     . exact absurd ((h.at_ h3 hy hx).trans hxa) hn
   . intro hi
     exact Classical.byContradiction λ hc=>hf i hi ⟨x,hx,hc⟩
def Has (l:List SV) (a:Int):Prop:=∃ x∈l,x.addr=a
theorem has_iff {l:List SV} (h:TOk l) (a:Int):Has l a↔∃ x:SV,l[plc l a]?=some x/\x.addr=a:=by
 constructor
 . rintro⟨x,hx,rfl⟩
   obtain⟨i,hi⟩:=List.mem_iff_getElem?.1 hx;have hp:plc l x.addr=i:=plc_at h hi (λ hc=>hc.irrefl) (λ p y hp hy=>h.at_ (show p<i from by omega) hy hi);exact⟨x,by rw [hp];exact hi,rfl⟩
 . rintro⟨x,hx,rfl⟩
   exact⟨x,zmo hx,rfl⟩
def front (l:List SV) (a:Int):List SV:=l.filter λ x=>decide (Lt x.addr a)
def back (l:List SV) (a:Int):List SV:=l.filter λ x=>decide (Lt a x.addr)
theorem front_take {l:List SV} (h:TOk l) (a:Int):l.take (plc l a)=front l a:=by
 conv=>rhs;unfold front;rw [<- List.take_append_drop (plc l a) l]
 rw [List.filter_append,List.filter_eq_self.2,List.filter_eq_nil_iff.2,List.append_nil]
 . intro x hx
   obtain⟨i,hi⟩:=List.mem_iff_getElem?.1 hx;rw [List.getElem?_drop] at hi;have:=(plc_iff h a hi).1;simp only [decide_eq_true_eq];intro h;have:=this h;omega
 . intro x hx
   obtain⟨i,hi⟩:=List.mem_iff_getElem?.1 hx;rw [List.getElem?_take] at hi
   split at hi
   . simp only [decide_eq_true_eq]
     exact (plc_iff h a hi).2 (by assumption)
   . cases hi
theorem back_drop {l:List SV} (h:TOk l) (a:Int) {k:Nat} (hk:(Has l a/\k=plc l a+1)\/(¬ Has l a/\k=plc l a)):l.drop k=back l a:=by
 conv=>rhs;unfold back;rw [<- List.take_append_drop k l]
 rw [List.filter_append,List.filter_eq_nil_iff.2,List.filter_eq_self.2,List.nil_append]
 . intro x hx
   obtain⟨i,hi⟩:=List.mem_iff_getElem?.1 hx;rw [List.getElem?_drop] at hi;simp only [decide_eq_true_eq];rcases Lt.tri a x.addr with h1 | h1 | h1
   . exact h1
   . exfalso
     rcases hk with ⟨hh,rfl⟩ | ⟨hh,rfl⟩
     . obtain⟨y,hy,hya⟩:=(has_iff h a).1 hh
       have:=h.at_ (show plc l a<plc l a+1+i from by omega) hy hi;rw [hya,<- h1] at this;exact this.irrefl
     . exact hh ⟨x,zmo hi,h1.symm⟩
   . have:=(plc_iff h a hi).1 h1
     rcases hk with ⟨hh,rfl⟩ | ⟨hh,rfl⟩<;>omega
 . intro x hx
   obtain⟨i,hi⟩:=List.mem_iff_getElem?.1 hx;rw [List.getElem?_take] at hi
   split at hi
   . rename_i hik
     simp only [decide_eq_true_eq];intro hc;rcases hk with ⟨hh,rfl⟩ | ⟨hh,rfl⟩
     . by_cases he:i=plc l a
       . subst he
         obtain⟨y,hy,hya⟩:=(has_iff h a).1 hh;rw [hi] at hy;cases hy;rw [hya] at hc;exact hc.irrefl
       . exact ((plc_iff h a hi).2 (by omega)).asymm hc
     . exact ((plc_iff h a hi).2 hik).asymm hc
   . cases hi
def setl (l:List SV) (s:SV):List SV:=front l s.addr++(if SNil s then [] else [s])++back l s.addr
theorem mem_setl {l:List SV} {s x:SV}:x∈setl l s↔(x∈l/\x.addr≠s.addr)\/(x=s/\¬ SNil s):=by
 unfold setl front back;by_cases hs:SNil s
 . rw [if_pos hs]
   simp only [List.append_nil,List.mem_append,List.mem_filter,decide_eq_true_eq];constructor
   . rintro (⟨h,k⟩ | ⟨h,k⟩)
     . exact .inl ⟨h,λ e=>by rw [e] at k;exact k.irrefl⟩
     . exact .inl ⟨h,λ e=>by rw [e] at k;exact k.irrefl⟩
   . rintro (⟨h,k⟩ | ⟨h,k⟩)
     . rcases Lt.tri x.addr s.addr with h1 | h1 | h1
       . exact .inl ⟨h,h1⟩
       . exact absurd h1 k
       . exact .inr ⟨h,h1⟩
     . exact absurd hs k
 . rw [if_neg hs]
   simp only [List.mem_append,List.mem_filter,decide_eq_true_eq,List.mem_singleton];constructor
   . rintro ((⟨h,k⟩ | h) | ⟨h,k⟩)
     . exact .inl ⟨h,λ e=>by rw [e] at k;exact k.irrefl⟩
     . exact .inr ⟨h,hs⟩
     . exact .inl ⟨h,λ e=>by rw [e] at k;exact k.irrefl⟩
   . rintro (⟨h,k⟩ | ⟨h,k⟩)
     . rcases Lt.tri x.addr s.addr with h1 | h1 | h1
       . exact .inl (.inl ⟨h,h1⟩)
       . exact absurd h1 k
       . exact .inr ⟨h,h1⟩
     . exact .inl (.inr h)
theorem setl_ok {l:List SV} {s:SV} (h:TOk l) (hs:SOk s):TOk (setl l s):=by
 refine⟨λ x hx=>?_,?_⟩
 . rcases mem_setl.1 hx with ⟨h1,_⟩ | ⟨rfl,h1⟩
   . exact h.1 x h1
   . exact⟨hs,h1⟩
 . unfold setl
   rw [List.pairwise_append,List.pairwise_append];refine⟨⟨h.2.sublist List.filter_sublist,?_,?_⟩,h.2.sublist List.filter_sublist,?_⟩
   . split
     . exact List.Pairwise.nil
     . exact List.pairwise_singleton _ _
   . intro a ha b hb
     split at hb
     . cases hb
     . rw [List.mem_singleton] at hb;subst hb
       unfold front at ha;rw [List.mem_filter,decide_eq_true_eq] at ha;exact ha.2
   . intro a ha b hb
     unfold back at hb;rw [List.mem_filter,decide_eq_true_eq] at hb;rcases List.mem_append.1 ha with ha | ha
     . unfold front at ha
       rw [List.mem_filter,decide_eq_true_eq] at ha;exact ha.2.trans hb.2
     . split at ha
       . cases ha
       . rw [List.mem_singleton] at ha;subst ha;exact hb.2
theorem tok_ext:∀ {l m:List SV},TOk l->TOk m->(∀ x,x∈l↔x∈m)->l=m
 | [],[],_,_,_=>rfl
 | [],y::m,_,_,h=>by have:=(h y).2 (by simp);cases this
 | x::l,[],_,_,h=>by have:=(h x).1 (by simp);cases this
 | x::l,y::m,hl,hm,h=>by
  have h1:=List.pairwise_cons.1 hl.2;have h2:=List.pairwise_cons.1 hm.2;have hxy:x=y:=by
   rcases List.mem_cons.1 ((h x).1 (by simp)) with e | e
   . exact e
   rcases List.mem_cons.1 ((h y).2 (by simp)) with e' | e'
   . exact e'.symm
   exact absurd (h1.1 y e') (λ c=>(h2.1 x e).asymm c)
  subst hxy;have hr:=tok_ext (l:=l) (m:=m) ⟨λ z hz=>hl.1 z (by simp [hz]),h1.2⟩ ⟨λ z hz=>hm.1 z (by simp [hz]),h2.2⟩ (λ z=>by
   constructor
   . intro hz
     rcases List.mem_cons.1 ((h z).1 (by simp [hz])) with e | e
     . subst e;exact absurd (h1.1 z hz) (λ c=>c.irrefl)
     . exact e
   . intro hz
     rcases List.mem_cons.1 ((h z).2 (by simp [hz])) with e | e
     . subst e;exact absurd (h2.1 z hz) (λ c=>c.irrefl)
     . exact e)
  rw [hr]
section
def NMem (w:World) (A:Option Addr) (n:Nat) (l:List Nd):Prop :=
 l.length=n/\(∀ nd∈l,B64 nd.key/\B64 nd.left/\B64 nd.right)/\(0<n->∃ b off,A=some ⟨b,off,none⟩/\b<w.heap.size/\∀ j nd,l[j]?=some nd ->
  w.cell? ⟨b,off+j*3,none⟩=some (.int .i64 nd.key)/\w.cell? ⟨b,off+j*3+1,none⟩=some (.int .i64 nd.left)/\w.cell? ⟨b,off+j*3+2,none⟩=some (.int .i64 nd.right))
section
variable {w w':World} {A:Option Addr} {n:Nat} {l:List Nd}
theorem NMem.nil_:NMem w A 0 []:=⟨rfl,by simp,λ h=>absurd h (by omega)⟩
theorem NMem.stays (h:NMem w A n l) (hs:w.heap.size<=w'.heap.size) (hb:∀ k,A.map (·.block)=some k->k<w.heap.size->w'.heap[k]?=w.heap[k]?):NMem w' A n l :=
 ⟨h.1,h.2.1,λ hn=>by
   obtain⟨b,off,rfl,hlt,hc⟩:=h.2.2 hn;have e:=hb b rfl hlt;refine⟨b,off,rfl,zlt hlt hs,λ j nd hj=>?_⟩;rw [World.cell?_of_block (a:=⟨b,off+j*3,none⟩) e,World.cell?_of_block (a:=⟨b,off+j*3+1,none⟩) e,World.cell?_of_block (a:=⟨b,off+j*3+2,none⟩) e];exact hc j nd hj⟩
theorem NMem.gr (h:NMem w A n l) (g:Gr w w'):NMem w' A n l:=h.stays g.size λ k _ hk=>g.block k hk
theorem NMem.at_ {k:Nat} (h:NMem w A n l) (hk:k<n) :
 ∃ b off nd,A=some ⟨b,off,none⟩/\b<w.heap.size/\l[k]?=some nd/\B64 nd.key/\B64 nd.left/\B64 nd.right /\
  w.cell? ⟨b,off+k*3,none⟩=some (.int .i64 nd.key)/\w.cell? ⟨b,off+k*3+1,none⟩=some (.int .i64 nd.left)/\w.cell? ⟨b,off+k*3+2,none⟩=some (.int .i64 nd.right):=by
 obtain⟨b,off,e,hb,hc⟩:=h.2.2 (by omega);have hl:k<l.length:=by have:=h.1;omega
 have hx:l[k]?=some l[k]:=zge hl;have hi:=h.2.1 l[k] (List.getElem_mem hl);obtain⟨c0,c1,c2⟩:=hc k _ hx;exact⟨b,off,l[k],e,hb,hx,hi.1,hi.2.1,hi.2.2,c0,c1,c2⟩
theorem NMem.cells {b off i:Nat} {nd:Nd} (h:NMem w (some ⟨b,off,none⟩) n l) (hx:l[i]?=some nd) :
 w.cell? ⟨b,off+i*3,none⟩=some (.int .i64 nd.key)/\w.cell? ⟨b,off+i*3+1,none⟩=some (.int .i64 nd.left)/\w.cell? ⟨b,off+i*3+2,none⟩=some (.int .i64 nd.right):=by
 obtain⟨b',off',e,hb,hc⟩:=h.2.2 (by have:=(zgl hx);have:=h.1;omega);cases e;exact hc i nd hx
end
end
section
def SV.ok (w:World) (x:SV):Prop:=B64 x.addr/\B64 x.cnt/\IMem w x.A x.n x.line/\x.n<=x.c/\x.c<=9223372036854775807
theorem SV.ok.gr {w w':World} {x:SV} (h:x.ok w) (g:Gr w w'):x.ok w':=⟨h.1,h.2.1,h.2.2.1.gr g,h.2.2.2⟩
theorem SV.ok.len {w:World} {x:SV} (h:x.ok w):x.line.length=x.n:=h.2.2.1.1
theorem SV.ok.lt {w:World} {x:SV} (h:x.ok w):x.n<=9223372036854775807:=by have:=h.2.2.2;omega
def SMem (w:World) (A:Option Addr) (n:Nat) (l:List SV):Prop :=
 l.length=n/\(∀ x∈l,x.ok w)/\(0<n->∃ b off,A=some ⟨b,off,none⟩/\b<w.heap.size/\∀ j x,l[j]?=some x ->
  w.cell? ⟨b,off+j*3,none⟩=some (.int .i64 x.addr)/\w.cell? ⟨b,off+j*3+1,none⟩=some (.int .i64 x.cnt)/\w.cell? ⟨b,off+j*3+2,none⟩=some (.slice x.A x.n x.c))
section
variable {w w':World} {A:Option Addr} {n:Nat} {l:List SV}
theorem SMem.nil_ {A:Option Addr}:SMem w A 0 []:=⟨rfl,by simp,λ h=>absurd h (by omega)⟩
theorem SMem.gr (h:SMem w A n l) (g:Gr w w'):SMem w' A n l :=
 ⟨h.1,λ x hx=>(h.2.1 x hx).gr g,λ hn=>by
   obtain⟨b,off,rfl,hlt,hc⟩:=h.2.2 hn;refine⟨b,off,rfl,zlt hlt g.size,λ j x hj=>?_⟩;rw [g.cell (p:=⟨b,off+j*3,none⟩) hlt,g.cell (p:=⟨b,off+j*3+1,none⟩) hlt,g.cell (p:=⟨b,off+j*3+2,none⟩) hlt];exact hc j x hj⟩
theorem SMem.at_ {k:Nat} (h:SMem w A n l) (hk:k<n) :
 ∃ b off x,A=some ⟨b,off,none⟩/\b<w.heap.size/\l[k]?=some x/\x.ok w /\
  w.cell? ⟨b,off+k*3,none⟩=some (.int .i64 x.addr)/\w.cell? ⟨b,off+k*3+1,none⟩=some (.int .i64 x.cnt)/\w.cell? ⟨b,off+k*3+2,none⟩=some (.slice x.A x.n x.c):=by
 obtain⟨b,off,e,hb,hc⟩:=h.2.2 (by omega);have hl:k<l.length:=by have:=h.1;omega
 have hx:l[k]?=some l[k]:=zge hl;obtain⟨c0,c1,c2⟩:=hc k _ hx;exact⟨b,off,l[k],e,hb,hx,h.2.1 _ (List.getElem_mem hl),c0,c1,c2⟩
theorem SMem.take_ (h:SMem w A n l) (k:Nat) (hk:k<=n):SMem w A k (l.take k) :=
 ⟨by rw [List.length_take,h.1];omega,λ x hx=>h.2.1 x (List.mem_of_mem_take hx),λ hn=>by
   obtain⟨b,off,e,hb,hc⟩:=h.2.2 (by omega);refine⟨b,off,e,hb,λ j u hu=>hc j u ?_⟩;rw [List.getElem?_take] at hu
   split at hu
   . exact hu
   . cases hu⟩
theorem SMem.drop_ (h:SMem w A n l) {b off:Nat} (hA:A=some ⟨b,off,none⟩) (k:Nat) (hk:k<=n):SMem w (some ⟨b,off+k*3,none⟩) (n-k) (l.drop k) :=
 ⟨by rw [List.length_drop,h.1],λ x hx=>h.2.1 x (List.mem_of_mem_drop hx),λ hn=>by
   obtain⟨b',off',e,hb,hc⟩:=h.2.2 (by omega);rw [hA] at e;cases e;refine⟨b,off+k*3,rfl,hb,λ j u hu=>?_⟩;rw [List.getElem?_drop] at hu;have:=hc _ u hu;rw [show off+k*3+j*3=off+(k+j)*3 from by omega];exact this⟩
theorem SMem.cut (h:SMem w A n l) (k c:Nat) (hk:k<=n) (hc:n<=c):SMem w (if c=k then A else A.map (·.add (k*3))) (n-k) (l.drop k):=by
 by_cases hn:n-k=0
 . rw [hn]
   have:l.drop k=[]:=zen (by rw [List.length_drop,h.1,hn]);rw [this];exact SMem.nil_
 . obtain⟨b,off,rfl,_,_⟩:=h.2.2 (by omega)
   rw [if_neg (by omega),Option.map_some,add_plain];exact h.drop_ rfl k hk
end
def flatS:List SV->List Value
 | []=>[]
 | x::r=>.int .i64 x.addr::.int .i64 x.cnt::.slice x.A x.n x.c::flatS r
theorem flatS_len:∀ l:List SV,(flatS l).length=l.length*3
 | []=>rfl
 | x::r=>by simp [flatS,flatS_len r];omega
theorem flatS_app:∀ l m:List SV,flatS (l++m)=flatS l++flatS m
 | [],m=>rfl
 | x::r,m=>by simp [flatS,flatS_app r m]
theorem flatS_get:∀ (l:List SV) (i:Nat) (x:SV),l[i]?=some x->(flatS l)[i*3]?=some (.int .i64 x.addr)/\(flatS l)[i*3+1]?=some (.int .i64 x.cnt)/\(flatS l)[i*3+2]?=some (.slice x.A x.n x.c)
 | [],i,x,h=>by simp at h
 | y::r,0,x,h=>by simp at h;subst h;exact⟨rfl,rfl,rfl⟩
 | y::r,i+1,x,h=>by
  have:=flatS_get r i x (by simpa using h);rw [show (i+1)*3=i*3+1+1+1 from by omega];simpa [flatS] using this
abbrev SRow (w:World) (base:Nat) (v:Value) (n:Nat) (l:List SV):Prop:=w.ownsRow base 91 3 v n (flatS l)
theorem SRow.len {w:World} {base n:Nat} {v:Value} {l:List SV} (h:SRow w base v n l):l.length=n:=by
 have:=h.1;rw [flatS_len] at this;omega
theorem own_smem {w:World} {base n:Nat} {v:Value} {l:List SV} (h:SRow w base v n l) (hok:∀ x∈l,x.ok w):∃ B m,v=.slice B n m/\SMem w B n l/\n<=m/\m<=9223372036854775807:=by
 have hl:=h.len;rcases h.2 with ⟨rfl,rfl⟩ | ⟨g,cap,cur,rfl,_,hg,hnc,hcm,hs,ht⟩
 . exact⟨none,0,rfl,⟨hl,hok,λ h=>absurd h (by omega)⟩,Nat.le_refl _,by omega⟩
 . refine⟨_,_,rfl,⟨hl,hok,λ _=>⟨g,0,rfl,(zal hg),λ j u hu=>?_⟩⟩,hnc,by unfold maxLen at hcm;omega⟩
   have hj:j<n:=by rw [<- hl];exact (zgl hu)
   obtain⟨f0,f1,f2⟩:=flatS_get l j u hu;rw [<- ht] at f0 f1 f2;rw [List.getElem?_take,if_pos (by omega)] at f0 f1 f2;rw [Nat.zero_add,cell_of_row w g _ cur _ (0,0) hg,cell_of_row w g _ cur _ (0,0) hg,cell_of_row w g _ cur _ (0,0) hg];exact⟨by simpa using f0,by simpa using f1,by simpa using f2⟩
theorem infoSpot:(prog.info? 91).map (λ i=>(i.zero,i.size,i.bytes))=some (some (.agg #[.int .i64 0,.int .i64 0,.slice none 0 0]),3,40):=by kernel_rfl
section
variable {P:Program} (w:World)
theorem run_append_fine (t ty:TypeId) (base:Nat) (e:TypeId) (i:TypeInfo) (z:Value) (size bytes:Nat) (ht:P.underlying t=some (.slice e)) (hi:P.info? e=some i) (hz:i.zero=some z)
 (hsize:i.size=size) (hby:i.bytes=bytes) (hzs:z.cells.size=size) (hsz:0<size)
 (v:Value) (n:Nat) (xs:List Value) (hown:w.ownsRow base e size v n xs)
 (ad:Addr) (m c:Nat) (news:List Value) (hl:news.length=m*size) (hnews:∀ j u,news[j]?=some u->w.cell? (ad.add j)=some u) (h1:∀ u∈news,u.oneCell'=true)
 (hm:0<m) (h63:n+m<=maxLen) (hbytes:(n+m)*bytes<=140737488355328) (hbase:base<=w.heap.size) :
 ∃ g cap w',(Builtin.append_ #[t,t] ty #[v,.slice (some ad) m c]).run P w=.ok (.slice (some ⟨g,0,none⟩) (n+m) cap) w' /\
  w'.ownsRow base e size (.slice (some ⟨g,0,none⟩) (n+m) cap) (n+m) (xs++news)/\w.grownBy w' v.ownBlock/\(v.ownBlock=some g\/g=w.heap.size) /\
  (w.grownBy w' none\/∃ g0 cap0,v=.slice (some ⟨g0,0,none⟩) n cap0/\n+m<=cap0):=by
 obtain⟨g,cap,w',hr,h2,h3,h4,h5⟩:=run_append_lies (P:=P) w t ty base e i z size bytes ht hi hz hsize hby hzs hsz v n xs hown ad m c news hl hnews h1 hm h63 hbytes hbase _ rfl;refine⟨g,cap,w',hr,h2,h3,h4,?_⟩;rcases hown.2 with ⟨rfl,rfl⟩ | ⟨g0,cap0,cur,rfl,hb,hg,hnc,hcm,hcs,htk⟩
 . exact .inl h3
 . by_cases hroom:n+m<=cap0
   . exact .inr ⟨g0,cap0,rfl,hroom⟩
   . left
     obtain⟨v'',w'',hr',_,hg'⟩:=run_append_arg_grows (P:=P) w t ty e i z size bytes ht hi hz hsize hby hzs hsz ⟨g0,0,none⟩ n cap0 xs hown.1 (λ j u hu=>by
      rw [add_plain,Nat.zero_add,cell_of_row w g0 j cur _ (0,0) hg];rw [<- htk,List.getElem?_take] at hu
      split at hu
      . simpa using hu
      . cases hu) ad m c news hl hnews (by omega) h63 hbytes
     rw [hr] at hr';cases hr';exact hg'
end
end
section
instance (a:Int):Decidable (IsKey a):=by unfold IsKey;infer_instance
theorem yes_no (p:Prop):∃ b:Bool,(b=true↔p):=by
 by_cases h:p
 . exact⟨true,by simp [h]⟩
 . exact⟨false,by simp [h]⟩
def rf (a:Int):Int:=if IsKey a then rt a else 0
def re (a:Int):Int:=if IsKey a then 0 else 1
theorem rf_key {a:Int} (h:IsKey a):rf a=rt a:=if_pos h
theorem re_key {a:Int} (h:IsKey a):re a=0:=if_pos h
theorem rf_no {a:Int} (h:¬ IsKey a):rf a=0:=if_neg h
theorem re_no {a:Int} (h:¬ IsKey a):re a=1:=if_neg h
theorem Root_is (a:Int) (w:World):Calls prog 168 #[.int .i64 a] w λ e w'=>e=.returned (.tuple #[.int .i64 (rf a),.int .i64 (re a)])/\w'=w:=by
 by_cases h:IsKey a
 . rw [rf_key h,re_key h]
   have h1:¬ a<0:=by have:=h.1;omega
   have h2:¬ 4294967295<a:=by have:=h.2;omega
   have h3:a.tdiv 8=a / 8:=Int.tdiv_eq_ediv_of_nonneg h.1;have h4:(a / 8).tmod 251=rt a:=by rw [Int.tmod_eq_emod_of_nonneg (by have:=h.1;omega)];rfl
   have h5:IntKind.i64.wrap (a / 8)=a / 8:=wrap_id (by have:=h.1;omega) (by have:=h.2;omega);go_enter func168,ntmps168;go_wp2_with fail;go_ret2;exact⟨rfl,rfl⟩
 . rw [rf_no h,re_no h]
   by_cases h1:a<0
   . go_enter func168,ntmps168
     go_wp2_with fail;go_ret2;exact⟨rfl,rfl⟩
   . have h2:4294967295<a:=by unfold IsKey at h;omega
     go_enter func168,ntmps168;go_wp2_with fail;go_ret2;exact⟨rfl,rfl⟩
section
variable {w:World} {A:Option Addr} {n c:Nat} {l:List Int} {a q:Int}
theorem rsound_is' (hm:IMem w A n l) (hc:n<=c) (hn:n<=9223372036854775807) {v:Bool} (hv:v=true↔SOk ⟨a,q,A,n,c,l⟩) :
 Calls prog 123 #[.agg #[.int .i64 a,.int .i64 q,.slice A n c]] w λ e w'=>e=.returned (.bool v)/\Gr w w':=by
 have g0:=(zr w).al (.cells #[.int .i64 a,.int .i64 q,.slice A n c] 91);have hlen:=hm.1;have hR:=λ W=>Root_is a W
 obtain⟨r,hr⟩:∃ r,rf a=r:=⟨_,rfl⟩;rw [hr] at hR;by_cases hk:IsKey a
 . rw [re_key hk] at hR
   have KR:=hid hR;clear hR hr;obtain⟨b,hb⟩:=yes_no (L7.Ln l);have KL:=hid (L7.Right_is (c:=c) (hm.gr g0) hc hn hb);by_cases h1:0<=q
   . by_cases h2:q<=2147483647
     . cases b with
       | true =>
        have hl:=hb.1 rfl;clear hb;by_cases h3:q=0
        . obtain rfl:v=true:=hv.2 ⟨hk,h1,h2,hl,.inl h3⟩
          clear hv hk hm hl hlen;subst h3;go_enter func123,ntmps123;go_wp2_with fail;refine (KR.out _).mono ?_;rintro e w1 ⟨rfl,rfl⟩;go_wp2_with fail;refine KL.out.mono ?_;rintro e w1 ⟨rfl,rfl⟩;go_wp2_with fail;go_ret;exact⟨rfl,g0⟩
        . have h3':(q==0)=false:=beq_eq_false_iff_ne.2 h3
          by_cases h4:n=0
          . obtain rfl:v=true:=hv.2 ⟨hk,h1,h2,hl,.inr (zen (show l.length=0 from by omega))⟩
            clear hv hk hm hl hlen h3;subst h4;go_enter func123,ntmps123;go_wp2_with fail;refine (KR.out _).mono ?_;rintro e w1 ⟨rfl,rfl⟩;go_wp2_with fail;refine KL.out.mono ?_;rintro e w1 ⟨rfl,rfl⟩;go_wp2_with fail;go_ret;exact⟨rfl,g0⟩
          . obtain rfl:v=false:=by
             cases v
             . rfl
             . rcases (hv.1 rfl).2.2.2.2 with h | h
               . exact absurd h h3
               . rw [show l=[] from h] at hlen;exact absurd hlen.symm h4
            have h4':((n:Int)==0)=false:=beq_eq_false_iff_ne.2 (by omega);clear hv hk hm hl hlen h3 h4;go_enter func123,ntmps123;go_wp2_with fail;refine (KR.out _).mono ?_;rintro e w1 ⟨rfl,rfl⟩;go_wp2_with fail;refine KL.out.mono ?_;rintro e w1 ⟨rfl,rfl⟩;go_wp2_with fail;go_ret;exact⟨rfl,g0⟩
       | false =>
        obtain rfl:v=false:=by
         cases v
         . rfl
         . exact absurd (hb.2 (hv.1 rfl).2.2.2.1) (by simp)
        clear hv hk hm hb hlen;go_enter func123,ntmps123;go_wp2_with fail;refine (KR.out _).mono ?_;rintro e w1 ⟨rfl,rfl⟩;go_wp2_with fail;refine KL.out.mono ?_;rintro e w1 ⟨rfl,rfl⟩;go_wp2_with fail;go_ret;exact⟨rfl,g0⟩
     . obtain rfl:v=false:=by
        cases v
        . rfl
        . exact absurd (hv.1 rfl).2.2.1 h2
       clear hv hk hm hb hlen KL;go_enter func123,ntmps123;go_wp2_with fail;refine (KR.out _).mono ?_;rintro e w1 ⟨rfl,rfl⟩;go_wp2_with fail;go_ret;exact⟨rfl,g0⟩
   . obtain rfl:v=false:=by
      cases v
      . rfl
      . exact absurd (hv.1 rfl).2.1 h1
     clear hv hk hm hb hlen KL;go_enter func123,ntmps123;go_wp2_with fail;refine (KR.out _).mono ?_;rintro e w1 ⟨rfl,rfl⟩;go_wp2_with fail;go_ret;exact⟨rfl,g0⟩
 . rw [re_no hk] at hR
   have KR:=hid hR;clear hR hr;obtain rfl:v=false:=by
    cases v
    . rfl
    . exact absurd (hv.1 rfl).1 hk
   clear hv hk hm hlen;by_cases h1:0<=q
   . by_cases h2:q<=2147483647
     . go_enter func123,ntmps123
       go_wp2_with fail;refine (KR.out _).mono ?_;rintro e w1 ⟨rfl,rfl⟩;go_wp2_with fail;go_ret;exact⟨rfl,g0⟩
     . go_enter func123,ntmps123
       go_wp2_with fail;refine (KR.out _).mono ?_;rintro e w1 ⟨rfl,rfl⟩;go_wp2_with fail;go_ret;exact⟨rfl,g0⟩
   . go_enter func123,ntmps123
     go_wp2_with fail;refine (KR.out _).mono ?_;rintro e w1 ⟨rfl,rfl⟩;go_wp2_with fail;go_ret;exact⟨rfl,g0⟩
theorem rsound_is {x:SV} (h:x.ok w) {v:Bool} (hv:v=true↔SOk x) :
 Calls prog 123 #[.agg #[.int .i64 x.addr,.int .i64 x.cnt,.slice x.A x.n x.c]] w λ e w'=>e=.returned (.bool v)/\Gr w w' :=
 rsound_is' h.2.2.1 h.2.2.2.1 h.lt hv
theorem empty_is' (hlen:l.length=n) {v:Bool} (hv:v=true↔SNil ⟨a,q,A,n,c,l⟩) (w:World) :
 Calls prog 124 #[.agg #[.int .i64 a,.int .i64 q,.slice A n c]] w λ e w'=>e=.returned (.bool v)/\Gr w w':=by
 have g0:=(zr w).al (.cells #[.int .i64 a,.int .i64 q,.slice A n c] 91);by_cases h3:q=0
 . by_cases h4:n=0
   . obtain rfl:v=true:=hv.2 ⟨h3,zen (show l.length=0 from by omega)⟩
     clear hv hlen;subst h3 h4;go_enter func124,ntmps124;go_wp2_with fail;go_ret;exact⟨rfl,g0⟩
   . obtain rfl:v=false:=by
      cases v
      . rfl
      . rw [show l=[] from (hv.1 rfl).2] at hlen;exact absurd hlen.symm h4
     have h4':((n:Int)==0)=false:=beq_eq_false_iff_ne.2 (by omega);clear hv hlen h4;subst h3;go_enter func124,ntmps124;go_wp2_with fail;go_ret;exact⟨rfl,g0⟩
 . obtain rfl:v=false:=by
    cases v
    . rfl
    . exact absurd (hv.1 rfl).1 h3
   have h3':(q==0)=false:=beq_eq_false_iff_ne.2 h3;clear hv hlen h3;go_enter func124,ntmps124;go_wp2_with fail;go_ret;exact⟨rfl,g0⟩
theorem empty_is {x:SV} (h:x.ok w) {v:Bool} (hv:v=true↔SNil x) (w':World) :
 Calls prog 124 #[.agg #[.int .i64 x.addr,.int .i64 x.cnt,.slice x.A x.n x.c]] w' λ e w''=>e=.returned (.bool v)/\Gr w' w'' :=
 empty_is' (l:=x.line) h.len hv w'
theorem ahead_is {a b:Int} (ha:IsKey a) (hb:IsKey b) {v:Bool} (hv:v=true↔Lt a b) (w:World) :
 Calls prog 125 #[.int .i64 a,.int .i64 b] w λ e w'=>e=.returned (.bool v)/\w'=w:=by
 have hA:=λ W=>Root_is a W
 have hB:=λ W=>Root_is b W
 rw [rf_key ha,re_key ha] at hA;rw [rf_key hb,re_key hb] at hB;unfold Lt at hv;generalize rt a=r at *;generalize rt b=s at *;have KA:=hid hA;have KB:=hid hB;clear hA hB;by_cases h1:r<s
 . obtain rfl:v=true:=hv.2 (.inl h1)
   clear hv;go_enter func125,ntmps125;go_wp2_with fail;refine (KA.out _).mono ?_;rintro e w1 ⟨rfl,rfl⟩;go_wp2_with fail;refine (KB.out _).mono ?_;rintro e w1 ⟨rfl,rfl⟩;go_wp2_with fail;go_ret;exact⟨rfl,rfl⟩
 . by_cases h2:r=s
   . subst h2
     by_cases h3:a<b
     . obtain rfl:v=true:=hv.2 (.inr ⟨rfl,h3⟩)
       clear hv;go_enter func125,ntmps125;go_wp2_with fail;refine (KA.out _).mono ?_;rintro e w1 ⟨rfl,rfl⟩;go_wp2_with fail;refine (KB.out _).mono ?_;rintro e w1 ⟨rfl,rfl⟩;go_wp2_with fail;go_ret;exact⟨rfl,rfl⟩
     . obtain rfl:v=false:=by
        cases v
        . rfl
        . have:=hv.1 rfl;omega
       have h3':decide (a<b)=false:=decide_eq_false h3;clear hv h3;go_enter func125,ntmps125;go_wp2_with fail;refine (KA.out _).mono ?_;rintro e w1 ⟨rfl,rfl⟩;go_wp2_with fail;refine (KB.out _).mono ?_;rintro e w1 ⟨rfl,rfl⟩;go_wp2_with fail;go_ret;exact⟨rfl,rfl⟩
   . obtain rfl:v=false:=by
      cases v
      . rfl
      . have:=hv.1 rfl;omega
     have h2':(r==s)=false:=beq_eq_false_iff_ne.2 h2;have h1':decide (r<s)=false:=decide_eq_false h1;clear hv h2 h1;go_enter func125,ntmps125;go_wp2_with fail;refine (KA.out _).mono ?_;rintro e w1 ⟨rfl,rfl⟩;go_wp2_with fail;refine (KB.out _).mono ?_;rintro e w1 ⟨rfl,rfl⟩;go_wp2_with fail;go_ret;exact⟨rfl,rfl⟩
end
end
section
section
variable {P:Program} {ops:Array Oper} {Q:Exit->Act->World->Prop} {md:Region.Mode} {S:World->Prop}
theorem wpAnyH_pass (i:Nat) {oi:Oper} {d fuel:Nat} {listed:Array Bool} {t:Array Value} {ds:List Deferred} {w:World} (hi:ops[i]?=some oi) (hd:oi.dst=some d)
 (hs:Region.noSelect ops=true) (hf:Region.free md ops listed i=true) (hr:(Region.ready md ops listed).contains i=true)
 (hQ:∀ c a w,Q (.panic c) (a.put (some d) undef) w->Q (.panic c) a w) (hw:Region.wanted oi (yielded ops t)=false) (hS:S w)
 (h:wpAnyH P md ops Q S fuel (listed.setIfInBounds i true) { tmps:=t.setIfInBounds d undef,defers:=ds } w):wpAnyH P md ops Q S (fuel+1) listed { tmps:=t,defers:=ds } w :=
 wpAnyH_take (v:=undef) hi hs hf hr (by rw [hd];exact hQ) (.inr ⟨hw,rfl⟩) hS (by rw [hd];exact h)
theorem wpAnyH_goes (i:Nat) {oi:Oper} {d fuel:Nat} {v:Value} {listed:Array Bool} {t:Array Value} {ds:List Deferred} {w:World} (hi:ops[i]?=some oi) (hd:oi.dst=some d)
 (hs:Region.noSelect ops=true) (hf:Region.free md ops listed i=true) (hr:(Region.ready md ops listed).contains i=true)
 (hQ:∀ c a w,Q (.panic c) (a.put (some d) v) w->Q (.panic c) a w) (hw:Region.wanted oi (yielded ops t)=true)
 (hy:∀ w,S w->(execOp (Act.eval { tmps:=t,defers:=ds }) oi).run P w=.ok (.value v) w) (hS:S w)
 (h:wpAnyH P md ops Q S fuel (listed.setIfInBounds i true) { tmps:=t.setIfInBounds d v,defers:=ds } w):wpAnyH P md ops Q S (fuel+1) listed { tmps:=t,defers:=ds } w :=
 wpAnyH_take (v:=v) hi hs hf hr (by rw [hd];exact hQ) (.inl ⟨hw,hy⟩) hS (by rw [hd];exact h)
end
end
theorem pA (t : Array Value) (ds : List Deferred) (d : Nat) (v : Value) : Act.put { tmps := t, defers := ds } (some d) v = { tmps := t.setIfInBounds d v, defers := ds } := rfl
theorem pN (t : Array Value) (ds : List Deferred) (v : Value) : Act.put { tmps := t, defers := ds } none v = { tmps := t, defers := ds } := rfl
theorem pS (l : List Value) (i : Nat) (a : Value) : l.toArray.setIfInBounds i a = (l.set i a).toArray := List.setIfInBounds_toArray ..
theorem pZ (x : Value) (l : List Value) (a : Value) : (x :: l).set 0 a = a :: l := List.set_cons_zero ..
theorem pX (x : Value) (l : List Value) (n : Nat) (a : Value) : (x :: l).set (n + 1) a = x :: l.set n a := List.set_cons_succ ..
theorem pL : (∀ (t : Array Value) (ds : List Deferred) (d : Nat) (v : Value), Act.put { tmps := t, defers := ds } (some d) v = { tmps := t.setIfInBounds d v, defers := ds }) ∧ (∀ (t : Array Value) (ds : List Deferred) (v : Value), Act.put { tmps := t, defers := ds } none v = { tmps := t, defers := ds }) ∧ (∀ (l : List Value) (i : Nat) (a : Value), l.toArray.setIfInBounds i a = (l.set i a).toArray) ∧ (∀ (x : Value) (l : List Value) (a : Value), (x :: l).set 0 a = a :: l) ∧ ∀ (x : Value) (l : List Value) (n : Nat) (a : Value), (x :: l).set (n + 1) a = x :: l.set n a := ⟨pA, pN, pS, pZ, pX⟩
theorem mkF : ∀ (fn : Fn) (first cap : Array Value) (w : World), (Instr.makeFunc fn first cap).run Tryz.prog w = .ok (.func fn first cap) w := fun _ _ _ _ => rfl
section
variable {P : Program} {ops : Array Oper} {Q : Exit → Act → World → Prop} {md : Region.Mode} {S : World → Prop}
theorem wG (i : Nat) {oi : Oper} {d fuel : Nat} {v : Value} {listed : Array Bool} {t t' : Array Value} {ds : List Deferred} {w : World} (hS : S w)
    (h : wpAnyH P md ops Q S fuel (listed.setIfInBounds i true) { tmps := t', defers := ds } w) (hi : ops[i]? = some oi := by exact rfl) (hd : oi.dst = some d := by exact rfl)
    (hs : Region.noSelect ops = true := by kernel_rfl) (hf : Region.free md ops listed i = true := by kernel_rfl) (hr : (Region.ready md ops listed).contains i = true := by kernel_rfl)
    (hw : Region.wanted oi (yielded ops t) = true := by rfl)
    (hy : ∀ w, S w → (execOp (Act.eval { tmps := t, defers := ds }) oi).run P w = .ok (.value v) w := by intro w9 hw9; (try dsimp only at hw9); go_simp; try with_reducible rfl)
    (ht : t.setIfInBounds d v = t' := by (try simp only [List.setIfInBounds_toArray, List.set_cons_zero, List.set_cons_succ]); exact rfl)
    (hQ : ∀ c a w, Q (.panic c) (a.put (some d) v) w → Q (.panic c) a w := by exact fun _ _ _ h => h) : wpAnyH P md ops Q S (fuel + 1) listed { tmps := t, defers := ds } w :=
  wpAnyH_goes i hi hd hs hf hr hQ hw hy hS (by rw [ht]; exact h)
theorem wP (i : Nat) {oi : Oper} {d fuel : Nat} {listed : Array Bool} {t t' : Array Value} {ds : List Deferred} {w : World} (hS : S w)
    (h : wpAnyH P md ops Q S fuel (listed.setIfInBounds i true) { tmps := t', defers := ds } w) (hi : ops[i]? = some oi := by exact rfl) (hd : oi.dst = some d := by exact rfl)
    (hs : Region.noSelect ops = true := by kernel_rfl) (hf : Region.free md ops listed i = true := by kernel_rfl) (hr : (Region.ready md ops listed).contains i = true := by kernel_rfl)
    (hw : Region.wanted oi (yielded ops t) = false := by rfl)
    (ht : t.setIfInBounds d undef = t' := by (try simp only [List.setIfInBounds_toArray, List.set_cons_zero, List.set_cons_succ]); exact rfl)
    (hQ : ∀ c a w, Q (.panic c) (a.put (some d) undef) w → Q (.panic c) a w := by exact fun _ _ _ h => h) : wpAnyH P md ops Q S (fuel + 1) listed { tmps := t, defers := ds } w :=
  wpAnyH_pass i hi hd hs hf hr hQ hw hS (by rw [ht]; exact h)
theorem wR1 (i : Nat) {o : Oper} {fuel : Nat} {listed : Array Bool} {a : Act} {w : World}
    (h : ∀ K' : Act → World → Prop, Shut (∀ a w, S w → (S w → wpAnyH P md ops Q S fuel (listed.setIfInBounds i true) a w) → K' a w) → if Region.wanted o (yielded ops a.tmps) = true then Oper.wp P o a w K' Q else K' (a.put o.dst undef) w)
    (hr : Region.ready md ops listed = [i] := by kernel_rfl) (ho : ops[i]? = some o := by exact rfl) : wpAnyH P md ops Q S (fuel + 1) listed a w :=
  wpAnyH_ready hr (by simp) (AllReadyH.cons ho h AllReadyH.nil)
theorem wR2 (i j : Nat) {o o2 : Oper} {fuel : Nat} {listed : Array Bool} {a : Act} {w : World}
    (h : ∀ K' : Act → World → Prop, Shut (∀ a w, S w → (S w → wpAnyH P md ops Q S fuel (listed.setIfInBounds i true) a w) → K' a w) → if Region.wanted o (yielded ops a.tmps) = true then Oper.wp P o a w K' Q else K' (a.put o.dst undef) w)
    (h2 : ∀ K' : Act → World → Prop, Shut (∀ a w, S w → (S w → wpAnyH P md ops Q S fuel (listed.setIfInBounds j true) a w) → K' a w) → if Region.wanted o2 (yielded ops a.tmps) = true then Oper.wp P o2 a w K' Q else K' (a.put o2.dst undef) w)
    (hr : Region.ready md ops listed = [i, j] := by kernel_rfl) (ho : ops[i]? = some o := by exact rfl) (ho2 : ops[j]? = some o2 := by exact rfl) : wpAnyH P md ops Q S (fuel + 1) listed a w :=
  wpAnyH_ready hr (by simp) (AllReadyH.cons ho h (AllReadyH.cons ho2 h2 AllReadyH.nil))
end
end Go.Proofs.YtainfijdhcehlaaGreatDoor
