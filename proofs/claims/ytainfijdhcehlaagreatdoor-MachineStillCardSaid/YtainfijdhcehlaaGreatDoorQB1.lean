/-
  A part of the proof.
-/
import Derived.ChangeSlices
import Derived.ChangeArms
import Derived.Deep.Slices
import Derived.Test.YtainfijdhcehlaaGreatDoorRows
import Derived.WalkKit
import Derived.ProofKit
import Derived.OpenShut
import Derived.Lib.Hide
import Derived.Handy
import Derived.Deep.Draws
import Derived.Deep.AppendLies
import Derived.OwnWalk
import Derived.RegionTactic
import Derived.Laws.OwnMore
import Derived.Lib.ItoaNum
import Derived.Lib.Split
import Derived.Lib.SplitLaws
import Derived.Lib.Join
import Derived.Lib.Strings
import Derived.Laws.MakeOwn
import Derived.Laws.CopyOwn
import Derived.Deep.QuietTactic
import Derived.BigQuiet
import Derived.Outline
import Derived.ArgAppend
import Derived.Deep.Upon
import Derived.Deep.SlicePairs
import Derived.OwnWalkIn
import Derived.Deep.RegionHeld3
import Derived.WalkMore
set_option linter.unusedVariables false
set_option linter.unusedSimpArgs false
set_option maxRecDepth 100000
set_option maxHeartbeats 8000000
namespace Go.Proofs.YtainfijdhcehlaaGreatDoor
open Lib (hid)
section
open Go.ChangeShapes Go.WideShapes Go.ChangeAt Go.RowKit
theorem own:ownKnob Tryz.prog.godebug=none:=by kernel_rfl
def Gr (w w':World):Prop:=Below w.heap.size w w'
theorem Gr.refl (w:World):Gr w w:=Below.refl _ _
theorem Gr.trans {a b c:World} (h:Gr a b) (k:Gr b c):Gr a c:=Below.trans h (Below.mono k h.size)
theorem Gr.trans' {a b c:World} (h:Gr a b) (k:Below a.heap.size b c):Gr a c:=Below.trans h k
theorem Gr.al {a w:World} (h:Gr a w) (o:Obj):Gr a (w.alloc o):=Below.alloc h h.size o
theorem Gr.st {a w:World} (h:Gr a w) {p:Addr} (hp:a.heap.size<=p.block) (u:Value):Gr a (w.setCell p u):=Below.setCell h hp u
theorem Gr.dr {a w:World} (h:Gr a w):Gr a w.drew:=Below.drew h
theorem Gr.drN {a w:World} (h:Gr a w) (n:Nat):Gr a (w.drewN n):=⟨h.os,h.tape,h.output,h.size,h.block⟩
theorem Gr.gb {a w w':World} {row:Option Nat} (h:Gr a w) (hg:w.grownBy w' row) (hr:∀ k,row=some k->a.heap.size<=k):Gr a w':=Below.grown h hg h.size hr
end
section
open Go.ChangeShapes Go.WideShapes Go.ChangeAt Go.RowKit
def Mark (p:Prop):Prop:=p
theorem Mark.stop {p:Prop} (h:Mark p):p:=h
theorem Mark.go {p:Prop} (h:p):Mark p:=h
section
variable {α:Type}
def EMem (enc:α->Value) (ok:α->Prop) (w:World) (A:Option Addr) (n:Nat) (l:List α):Prop :=
 l.length=n/\(∀ x∈l,ok x)/\(0<n->∃ b off,A=some ⟨b,off,none⟩/\b<w.heap.size/\∀ j x,l[j]?=some x->w.cell? ⟨b,off+j,none⟩=some (enc x))
variable {enc:α->Value} {ok:α->Prop} {w w':World} {A:Option Addr} {n:Nat} {l:List α}
theorem EMem.nil_:EMem enc ok w A 0 []:=⟨rfl,by simp,λ h=>absurd h (by omega)⟩
theorem EMem.gr (h:EMem enc ok w A n l) (g:Gr w w'):EMem enc ok w' A n l :=
 ⟨h.1,h.2.1,λ hn=>by
   obtain⟨b,off,e,hb,hc⟩:=h.2.2 hn
   exact⟨b,off,e,Nat.lt_of_lt_of_le hb g.size,λ j u hu=>(g.cell (p:=⟨b,off+j,none⟩) hb).trans (hc j u hu)⟩⟩
theorem EMem.below {B:Nat} (h:EMem enc ok w A n l) (g:Below B w w') (hs:w.heap.size<=B):EMem enc ok w' A n l :=
 h.gr (Below.mono g hs)
theorem EMem.at_ {k:Nat} (h:EMem enc ok w A n l) (hk:k<n) :
 ∃ b off x,A=some ⟨b,off,none⟩/\b<w.heap.size/\l[k]?=some x/\ok x/\w.cell? ⟨b,off+k,none⟩=some (enc x):=by
 obtain⟨b,off,e,hb,hc⟩:=h.2.2 (by omega)
 have hl:k<l.length:=by have:=h.1;omega
 have hx:l[k]?=some l[k]:=List.getElem?_eq_getElem hl
 exact⟨b,off,l[k],e,hb,hx,h.2.1 l[k] (List.getElem_mem hl),hc _ _ hx⟩
theorem EMem.take_ (h:EMem enc ok w A n l) (k:Nat) (hk:k<=n):EMem enc ok w A k (l.take k) :=
 ⟨by rw [List.length_take,h.1];omega,λ x hx=>h.2.1 x (List.mem_of_mem_take hx),λ hn=>by
   obtain⟨b,off,e,hb,hc⟩:=h.2.2 (by omega)
   refine⟨b,off,e,hb,λ j u hu=>hc j u ?_⟩
   rw [List.getElem?_take] at hu
   split at hu
   . exact hu
   . cases hu⟩
theorem EMem.drop_ (h:EMem enc ok w A n l) {b off:Nat} (hA:A=some ⟨b,off,none⟩) (k:Nat) (hk:k<=n):EMem enc ok w (some ⟨b,off+k,none⟩) (n-k) (l.drop k) :=
 ⟨by rw [List.length_drop,h.1],λ x hx=>h.2.1 x (List.mem_of_mem_drop hx),λ hn=>by
   obtain⟨b',off',e,hb,hc⟩:=h.2.2 (by omega)
   rw [hA] at e
   cases e
   refine⟨b,off+k,rfl,hb,λ j u hu=>?_⟩
   rw [List.getElem?_drop] at hu
   rw [Nat.add_assoc]
   exact hc _ u hu⟩
theorem EMem.len (h:EMem enc ok w A n l):l.length=n:=h.1
theorem EMem.all (h:EMem enc ok w A n l):∀ x∈l,ok x:=h.2.1
theorem own_emem {base:Nat} {e:TypeId} {v:Value} (hl:l.length=n) (hb:∀ x∈l,ok x) (h:w.ownsRow base e 1 v n (l.map enc)):∃ B m,v=.slice B n m/\EMem enc ok w B n l/\n<=m/\m<=maxLen:=by
 rcases h.2 with ⟨rfl,rfl⟩ | ⟨g,cap,cur,rfl,_,hg,hnc,hcm,hs,ht⟩
 . exact⟨none,0,rfl,⟨hl,hb,λ h=>absurd h (by omega)⟩,Nat.le_refl _,Nat.zero_le _⟩
 . refine⟨_,_,rfl,⟨hl,hb,λ _=>⟨g,0,rfl,(Array.getElem?_eq_some_iff.1 hg).1,λ j u hu=>?_⟩⟩,hnc,hcm⟩
   rw [Nat.zero_add,cell_of_row w g j cur _ (0,0) hg]
   have hu':(l.map enc)[j]?=some (enc u):=by rw [List.getElem?_map,hu];rfl
   rw [<- ht,List.getElem?_take] at hu'
   split at hu'
   . simpa using hu'
   . cases hu'
end
section
variable {P:Program} (w:World)
theorem run_append_of_nil (base:Nat) (t ty e:TypeId) (i:TypeInfo) (size:Nat) (ht:P.underlying t=some (.slice e)) (hi:P.info? e=some i)
 (v:Value) (n:Nat) (xs:List Value) (hown:w.ownsRow base e size v n xs) (c:Nat):(Builtin.append_ #[t,t] ty #[v,.slice none 0 c]).run P w=.ok v w:=by
 rcases hown.2 with ⟨rfl,rfl⟩ | ⟨g,cap,cur,rfl,_,_,hnc,_⟩
 . simp [Builtin.append_,run_underlying ht,sizeOf,typeInfo,hi,Builtin.lenOf,Builtin.firstCells]
 . simp [Builtin.append_,run_underlying ht,sizeOf,typeInfo,hi,Builtin.lenOf,Builtin.firstCells,hnc,storeCells]
variable {α:Type} (enc:α->Value) (ok:α->Prop)
theorem run_append_emem (h1c:∀ x,(enc x).oneCell'=true) (base:Nat) (t ty e:TypeId) (i:TypeInfo) (z:Value) (bytes:Nat) (ht:P.underlying t=some (.slice e)) (hi:P.info? e=some i) (hz:i.zero=some z)
 (hsize:i.size=1) (hby:i.bytes=bytes) (hzs:z.cells.size=1)
 (v:Value) (n:Nat) (xs:List α) (hown:w.ownsRow base e 1 v n (xs.map enc)) (A:Option Addr) (m c:Nat) (news:List α) (hr:EMem enc ok w A m news)
 (h63:n+m<=maxLen) (hbytes:(n+m)*bytes<=140737488355328) (hbase:base<=w.heap.size) :
 ∃ v' w',(Builtin.append_ #[t,t] ty #[v,.slice A m c]).run P w=.ok v' w'/\w'.ownsRow base e 1 v' (n+m) ((xs++news).map enc)/\w.grownBy w' v.ownBlock:=by
 rw [List.map_append]
 rcases A with _ | ad
 . have hm:m=0:=by
    rcases Nat.eq_zero_or_pos m with h0 | h0
    . exact h0
    . obtain⟨b,off,h,_⟩:=hr.2.2 h0
      cases h
   subst hm
   have hn:news=[]:=List.eq_nil_of_length_eq_zero hr.1
   subst hn
   exact⟨v,w,run_append_of_nil w base t ty e i 1 ht hi v n _ hown c,by simpa using hown,World.grownBy.refl w _⟩
 . have hcells:∀ j u,(news.map enc)[j]?=some u->w.cell? (ad.add j)=some u:=by
    intro j u hu
    rcases Nat.eq_zero_or_pos m with h0 | h0
    . subst h0
      have hn:news=[]:=List.eq_nil_of_length_eq_zero hr.1
      subst hn
      simp at hu
    . obtain⟨b,off,h,_,hc⟩:=hr.2.2 h0
      injection h with h
      subst h
      rw [List.getElem?_map,Option.map_eq_some_iff] at hu
      obtain⟨x,hx,rfl⟩:=hu
      rw [add_plain]
      exact hc j x hx
   obtain⟨v',w',hrun,h2,h3,_⟩:=run_append_own (P:=P) w base t ty e i z 1 bytes ht hi hz hsize hby hzs (by decide) v n _ hown ad m c (news.map enc) (by rw [List.length_map,hr.1];omega) hcells (λ u hu=>by obtain⟨x,_,rfl⟩:=List.mem_map.1 hu;exact h1c x) h63 hbytes hbase
   exact⟨v',w',hrun,h2,h3⟩
end
end
section
open Go.ChangeShapes Go.WideShapes Go.ChangeAt Go.RowKit
def Blk (w:World) (b:Nat) (vs:Array Value) (t:TypeId):Prop:=w.heap[b]?=some (.cells vs t (0,0))
section
variable {w w':World} {b:Nat} {vs:Array Value} {t:TypeId}
theorem Blk.gr (h:Blk w b vs t) (g:Gr w w'):Blk w' b vs t:=by
 have:b<w.heap.size:=(Array.getElem?_eq_some_iff.1 h).1
 unfold Blk;rw [g.block b this];exact h
theorem Blk.lt (h:Blk w b vs t):b<w.heap.size:=(Array.getElem?_eq_some_iff.1 h).1
theorem Blk.new (w:World) (vs:Array Value) (t:TypeId):Blk (w.alloc (.cells vs t)) w.heap.size vs t:=by
 unfold Blk
 exact heap_alloc_new w _
theorem Blk.at_ (h:Blk w b vs t) {k:Nat} {v:Value} (hv:vs[k]?=some v):w.cell? ⟨b,k,none⟩=some v/\w.frozen? ⟨b,k,none⟩=false:=by
 have h':w.heap[b]?=_:=h
 refine⟨?_,by simp [World.frozen?,h']⟩
 rw [cell_of_row w b k vs t (0,0) h']
 exact hv
theorem Blk.set (h:Blk w b vs t) (k:Nat) (v:Value):Blk (w.setCell ⟨b,k,none⟩ v) b (vs.setIfInBounds k v) t:=by
 unfold Blk at *
 simp [World.setCell,Array.getElem?_modify,h]
theorem Blk.al (h:Blk w b vs t) (o:Obj):Blk (w.alloc o) b vs t:=h.gr ((Gr.refl w).al o)
theorem Blk.st (h:Blk w b vs t) {p:Addr} (hp:p.block≠b) (v:Value):Blk (w.setCell p v) b vs t:=by
 unfold Blk at *
 simp [World.setCell,Array.getElem?_modify,hp,h]
theorem Blk.gb (h:Blk w b vs t) {R:Option Nat} (hg:w.grownBy w' R) (hr:R≠some b):Blk w' b vs t:=by
 unfold Blk
 rw [hg.block b h.lt (λ e=>hr e.symm)];exact h
end
end
section
open Go.ChangeShapes Go.WideShapes Go.ChangeAt Go.RowKit
section
variable {α:Type}
def RMem (en:α->List Value) (q:Nat) (ok:α->Prop) (w:World) (A:Option Addr) (n:Nat) (l:List α):Prop :=
 l.length=n/\(∀ x∈l,ok x)/\(0<n->∃ b off,A=some ⟨b,off,none⟩/\b<w.heap.size/\∀ i x,l[i]?=some x->∀ j v,(en x)[j]?=some v->w.cell? ⟨b,off+i*q+j,none⟩=some v)
variable {en:α->List Value} {q:Nat} {ok:α->Prop} {w w':World} {A:Option Addr} {n:Nat} {l:List α}
theorem RMem.nil_:RMem en q ok w A 0 []:=⟨rfl,by simp,λ h=>absurd h (by omega)⟩
theorem RMem.len (h:RMem en q ok w A n l):l.length=n:=h.1
theorem RMem.all (h:RMem en q ok w A n l):∀ x∈l,ok x:=h.2.1
theorem RMem.gr (h:RMem en q ok w A n l) (g:Gr w w'):RMem en q ok w' A n l :=
 ⟨h.1,h.2.1,λ hn=>by
   obtain⟨b,off,e,hb,hc⟩:=h.2.2 hn
   exact⟨b,off,e,Nat.lt_of_lt_of_le hb g.size,λ i x hx j v hv=>(g.cell (p:=⟨b,off+i*q+j,none⟩) hb).trans (hc i x hx j v hv)⟩⟩
theorem RMem.at_ {k:Nat} (h:RMem en q ok w A n l) (hk:k<n) :
 ∃ b off x,A=some ⟨b,off,none⟩/\b<w.heap.size/\l[k]?=some x/\ok x/\∀ j v,(en x)[j]?=some v->w.cell? ⟨b,off+k*q+j,none⟩=some v:=by
 obtain⟨b,off,e,hb,hc⟩:=h.2.2 (by omega)
 have hl:k<l.length:=by have:=h.1;omega
 have hx:l[k]?=some l[k]:=List.getElem?_eq_getElem hl
 exact⟨b,off,l[k],e,hb,hx,h.2.1 l[k] (List.getElem_mem hl),hc k _ hx⟩
end
end
section
namespace P12
abbrev Bs:=List UInt8
abbrev Ac:=Int×Int
def okA (a:Ac):Bool:=if a.1=3 then decide (0<=a.2)&&decide (a.2<=1000) else decide (0<=a.1)&&decide (a.1<=2)&&decide (0<=a.2)&&decide (a.2<=3)
theorem okA_iff {a:Ac}:okA a=true↔(a.1=3/\0<=a.2/\a.2<=1000)\/(0<=a.1/\a.1<=2/\0<=a.2/\a.2<=3):=by
 unfold okA
 split<;>simp<;>omega
def rightB (l:List (List Ac)):Bool:=decide (l.length<=8)&&l.all λ p=>decide (p.length<=64)&&p.all okA
end P12
end
section
open Go.ChangeShapes Go.WideShapes Go.ChangeAt Go.RowKit
def Inb (v:Int):Prop:=-9223372036854775808<=v/\v<=9223372036854775807
def flat:List (Int×Int)->List Value
 | []=>[]
 | x::r=>.int .i64 x.1::.int .i64 x.2::flat r
theorem flat_len (l:List (Int×Int)):(flat l).length=l.length*2:=by
 induction l with
 | nil=>rfl
 | cons x r ih=>simp [flat,ih];omega
theorem flat_get0:∀ (l:List (Int×Int)) (i:Nat) (x:Int×Int),l[i]?=some x->(flat l)[i*2]?=some (.int .i64 x.1)
 | [],i,x,h=>by simp at h
 | y::r,0,x,h=>by simp at h;subst h;rfl
 | y::r,i+1,x,h=>by
  rw [show (i+1)*2=i*2+1+1 from by omega]
  simpa [flat] using flat_get0 r i x (by simpa using h)
theorem flat_get1:∀ (l:List (Int×Int)) (i:Nat) (x:Int×Int),l[i]?=some x->(flat l)[i*2+1]?=some (.int .i64 x.2)
 | [],i,x,h=>by simp at h
 | y::r,0,x,h=>by simp at h;subst h;rfl
 | y::r,i+1,x,h=>by
  rw [show (i+1)*2+1=i*2+1+1+1 from by omega]
  simpa [flat] using flat_get1 r i x (by simpa using h)
theorem flat_one (l:List (Int×Int)):∀ u∈flat l,u.oneCell'=true:=by
 induction l with
 | nil=>simp [flat]
 | cons x r ih =>
  intro u hu
  simp only [flat,List.mem_cons] at hu
  rcases hu with rfl | rfl | hu
  . rfl
  . rfl
  . exact ih u hu
theorem flat_take (l:List (Int×Int)) (k:Nat):flat (l.take k)=(flat l).take (k*2):=by
 induction l generalizing k with
 | nil=>simp [flat]
 | cons x r ih =>
  cases k with
  | zero=>simp [flat]
  | succ k=>rw [show (k+1)*2=k*2+1+1 from by omega];simp [flat,ih]
def Mem (w:World) (A:Option Addr) (n:Nat) (l:List (Int×Int)):Prop :=
 l.length=n/\(∀ x∈l,Inb x.1/\Inb x.2)/\(0<n->∃ b off,A=some ⟨b,off,none⟩/\b<w.heap.size/\∀ j u,(flat l)[j]?=some u->w.cell? ⟨b,off+j,none⟩=some u)
section
variable {w w':World} {A:Option Addr} {n:Nat} {l:List (Int×Int)}
theorem Mem.nil_:Mem w A 0 []:=⟨rfl,by simp,λ h=>absurd h (by omega)⟩
theorem Mem.gr (h:Mem w A n l) (g:Gr w w'):Mem w' A n l :=
 ⟨h.1,h.2.1,λ hn=>by
   obtain⟨b,off,e,hb,hc⟩:=h.2.2 hn
   exact⟨b,off,e,Nat.lt_of_lt_of_le hb g.size,λ j u hu=>(g.cell (p:=⟨b,off+j,none⟩) hb).trans (hc j u hu)⟩⟩
theorem Mem.at_ {k:Nat} (h:Mem w A n l) (hk:k<n) :
 ∃ b off x,A=some ⟨b,off,none⟩/\b<w.heap.size/\l[k]?=some x/\Inb x.1/\Inb x.2/\w.cell? ⟨b,off+k*2,none⟩=some (.int .i64 x.1)/\w.cell? ⟨b,off+k*2+1,none⟩=some (.int .i64 x.2):=by
 obtain⟨b,off,e,hb,hc⟩:=h.2.2 (by omega)
 have hl:k<l.length:=by have:=h.1;omega
 have hx:l[k]?=some l[k]:=List.getElem?_eq_getElem hl
 have hi:=h.2.1 l[k] (List.getElem_mem hl)
 exact⟨b,off,l[k],e,hb,hx,hi.1,hi.2,hc _ _ (flat_get0 l k _ hx),hc _ _ (flat_get1 l k _ hx)⟩
theorem Mem.take_ (h:Mem w A n l) (k:Nat) (hk:k<=n):Mem w A k (l.take k) :=
 ⟨by rw [List.length_take,h.1];omega,λ x hx=>h.2.1 x (List.mem_of_mem_take hx),λ hn=>by
   obtain⟨b,off,e,hb,hc⟩:=h.2.2 (by omega)
   refine⟨b,off,e,hb,λ j u hu=>hc j u ?_⟩
   rw [flat_take,List.getElem?_take] at hu
   split at hu
   . exact hu
   . cases hu⟩
end
end
section
open Go.ChangeShapes Go.WideShapes Go.ChangeAt Go.RowKit
section
variable {α:Type}
def OMem (enc:α->Value) (ok:α->Prop) (base:Nat) (w:World) (A:Option Addr) (n c:Nat) (l:List α):Prop :=
 EMem enc ok w A n l/\n<=c/\c<=maxLen/\((A=none/\c=0)\/∃ b off,A=some ⟨b,off,none⟩/\base<=b/\b<w.heap.size/\∀ j,j<c->(w.cell? ⟨b,off+j,none⟩).isSome=true/\w.frozen? ⟨b,off+j,none⟩=false)
variable {enc:α->Value} {ok:α->Prop} {base:Nat} {w w':World} {A:Option Addr} {n c:Nat} {l:List α}
theorem OMem.nil_:OMem enc ok base w none 0 0 []:=⟨EMem.nil_,Nat.le_refl _,Nat.zero_le _,.inl ⟨rfl,rfl⟩⟩
theorem OMem.mem (h:OMem enc ok base w A n c l):EMem enc ok w A n l:=h.1
theorem OMem.le (h:OMem enc ok base w A n c l):n<=c:=h.2.1
theorem OMem.max (h:OMem enc ok base w A n c l):c<=maxLen:=h.2.2.1
theorem OMem.same (h:OMem enc ok base w A n c l) (hs:w.heap.size<=w'.heap.size) (hb:∀ k,base<=k->k<w.heap.size->w'.heap[k]?=w.heap[k]?):OMem enc ok base w' A n c l:=by
 obtain⟨h1,h2,h3,h4⟩:=h
 rcases h4 with ⟨rfl,rfl⟩ | ⟨b,off,rfl,h5,h6,h7⟩
 . refine⟨⟨h1.1,h1.2.1,λ hn=>absurd hn (by omega)⟩,h2,h3,.inl ⟨rfl,rfl⟩⟩
 . have e:=hb b h5 h6
   refine⟨⟨h1.1,h1.2.1,λ hn=>?_⟩,h2,h3,.inr ⟨b,off,rfl,h5,by omega,λ j hj=>?_⟩⟩
   . obtain⟨b',off',e',hb',hc⟩:=h1.2.2 hn
     cases e'
     exact⟨b,off,rfl,by omega,λ j x hx=>(World.cell?_of_block (a:=⟨b,off+j,none⟩) e).trans (hc j x hx)⟩
   . rw [World.cell?_of_block (a:=⟨b,off+j,none⟩) e,World.frozen?_of_block (a:=⟨b,off+j,none⟩) e]
     exact h7 j hj
theorem OMem.gr (h:OMem enc ok base w A n c l) (g:Gr w w'):OMem enc ok base w' A n c l:=h.same g.size λ k _ hk=>g.block k hk
theorem OMem.st (h:OMem enc ok base w A n c l) {p:Addr} (hp:p.block<base) (u:Value):OMem enc ok base (w.setCell p u) A n c l :=
 h.same (by simp [World.setCell]) λ k hk _=>Below.heap_setCell w p u k (by omega)
theorem own_omem {e:TypeId} {v:Value} (hl:l.length=n) (hb:∀ x∈l,ok x) (h:w.ownsRow base e 1 v n (l.map enc)):∃ A c,v=.slice A n c/\OMem enc ok base w A n c l:=by
 obtain⟨B,m,rfl,hm,h1,h2⟩:=own_emem (ok:=ok) hl hb h
 refine⟨B,m,rfl,hm,h1,h2,?_⟩
 rcases h.2 with ⟨hv,rfl⟩ | ⟨g,cap,cur,hv,hbg,hg,hnc,hcm,hs,ht⟩
 . cases hv
   exact .inl ⟨rfl,rfl⟩
 . cases hv
   refine .inr ⟨g,0,rfl,hbg,(Array.getElem?_eq_some_iff.1 hg).1,λ j hj=>⟨?_,by simp [World.frozen?,hg]⟩⟩
   rw [Nat.zero_add,cell_of_row w g j cur _ (0,0) hg,Array.getElem?_eq_getElem (by omega)]
   rfl
end
section
variable {P:Program} (w:World) {α:Type} (enc:α->Value) (ok:α->Prop)
theorem tape_setCells (b:Nat):∀ (vs:List Value) (o:Nat) (w:World),(w.setCells b o vs).tape=w.tape
 | [],_,_=>rfl
 | v::r,o,w=>by rw [World.setCells,tape_setCells b r];rfl
theorem omem_nonews {A:Option Addr} {m:Nat} {news:List α} (hr:EMem enc ok w A m news) (h:A=none):m=0/\news=[]:=by
 have hm:m=0:=by
  rcases Nat.eq_zero_or_pos m with h0 | h0
  . exact h0
  . obtain⟨b,off,h',_⟩:=hr.2.2 h0
    rw [h] at h';cases h'
 exact⟨hm,List.eq_nil_of_length_eq_zero (by rw [hr.1,hm])⟩
theorem run_append_omem2 (h1c:∀ x,(enc x).oneCell'=true) (base:Nat) (t ty e:TypeId) (i:TypeInfo) (z:Value) (bytes:Nat) (ht:P.underlying t=some (.slice e)) (hi:P.info? e=some i) (hz:i.zero=some z)
 (hsize:i.size=1) (hby:i.bytes=bytes) (hzs:z.cells.size=1)
 (A0:Option Addr) (n c0:Nat) (xs:List α) (ho:OMem enc ok base w A0 n c0 xs) (A:Option Addr) (m c:Nat) (news:List α) (hr:EMem enc ok w A m news)
 (h63:n+m<=maxLen) (hbytes:(n+m)*bytes<=140737488355328) (hbase:base<=w.heap.size) :
 ∃ A' c' w',(Builtin.append_ #[t,t] ty #[.slice A0 n c0,.slice A m c]).run P w=.ok (.slice A' (n+m) c') w'/\OMem enc ok base w' A' (n+m) c' (xs++news)/\w.grownBy w' (A0.map (·.block))/\∀ k,A'.map (·.block)=some k->A0.map (·.block)=some k\/w.heap.size<=k:=by
 have hok:∀ x∈xs++news,ok x:=λ x hx=>by
  rcases List.mem_append.1 hx with h | h
  . exact ho.1.2.1 x h
  . exact hr.2.1 x h
 have hlen:(xs++news).length=n+m:=by rw [List.length_append,ho.1.1,hr.1]
 obtain⟨h1,h2,h3,h4⟩:=ho
 rcases h4 with ⟨rfl,rfl⟩ | ⟨b,off,rfl,h5,h6,h7⟩
 . obtain rfl:n=0:=by omega
   have hx:xs=[]:=List.eq_nil_of_length_eq_zero h1.1
   subst hx
   obtain⟨v',w',hrun,hw,hg⟩:=run_append_emem (P:=P) w enc ok h1c w.heap.size t ty e i z bytes ht hi hz hsize hby hzs (.slice none 0 0) 0 [] (World.ownsRow_nil w w.heap.size e 1) A m c news hr h63 hbytes (Nat.le_refl _)
   obtain⟨A',c',rfl,hm⟩:=own_omem (ok:=ok) (l:=[]++news) hlen hok hw
   refine⟨A',c',w',hrun,⟨hm.1,hm.2.1,hm.2.2.1,?_⟩,by simpa [Value.ownBlock] using hg,λ k hk=>.inr ?_⟩
   . rcases hm.2.2.2 with h | ⟨b',off',e1,e2,e3⟩
     . exact .inl h
     . exact .inr ⟨b',off',e1,by omega,e3⟩
   . rcases hm.2.2.2 with ⟨rfl,_⟩ | ⟨b',off',rfl,e2,e3⟩
     . cases hk
     . cases hk;exact e2
 . rcases A with _ | ad
   . obtain⟨rfl,rfl⟩:=omem_nonews w enc ok hr rfl
     refine⟨_,_,w,?_,⟨by simpa using h1,by simpa using h2,h3,.inr ⟨b,off,rfl,h5,h6,h7⟩⟩,World.grownBy.refl w _,λ k hk=>.inl hk⟩
     simp [Builtin.append_,run_underlying ht,sizeOf,typeInfo,hi,Builtin.lenOf,Builtin.firstCells,h2,storeCells]
   . have hcells:∀ j u,(news.map enc)[j]?=some u->w.cell? (ad.add j)=some u:=by
      intro j u hu
      rcases Nat.eq_zero_or_pos m with h0 | h0
      . subst h0
        have hn:news=[]:=List.eq_nil_of_length_eq_zero hr.1
        subst hn
        simp at hu
      . obtain⟨b',off',h',_,hc⟩:=hr.2.2 h0
        cases h'
        rw [List.getElem?_map,Option.map_eq_some_iff] at hu
        obtain⟨x,hx,rfl⟩:=hu
        rw [add_plain]
        exact hc j x hx
     have hl:(news.map enc).length=m*i.size:=by rw [List.length_map,hr.1,hsize,Nat.mul_one]
     have h1n:∀ u∈news.map enc,u.oneCell'=true:=λ u hu=>by obtain⟨x,_,rfl⟩:=List.mem_map.1 hu;exact h1c x
     have old:∀ j x,xs[j]?=some x->w.cell? ⟨b,off+j,none⟩=some (enc x):=λ j x hx=>by
      have h0:0<n:=by have:=(List.getElem?_eq_some_iff.1 hx).1;rw [h1.1] at this;omega
      obtain⟨b',off',h',_,hc⟩:=h1.2.2 h0
      cases h'
      exact hc j x hx
     by_cases hroom:n+m<=c0
     . have hsome:∀ j,j<(news.map enc).length->(w.cell? ⟨b,off+n*i.size+j,none⟩).isSome=true/\w.frozen? ⟨b,off+n*i.size+j,none⟩=false:=λ j hj=>by
        rw [List.length_map,hr.1] at hj
        rw [hsize,Nat.mul_one,Nat.add_assoc]
        exact h7 (n+j) (by omega)
       have hrun:=run_append_room_cells (P:=P) w t ty e i ht hi b off n c0 ad m c (news.map enc) hl hcells h1n hroom (λ j hj=>(hsome j hj).1) (λ j hj=>(hsome j hj).2)
       have hkept:=World.keptBut_setCells b (may:=λ p=>p.block=b) (news.map enc) (off+n*i.size) w (λ _ _=>rfl)
       have hin:=World.cell?_setCells_in b (news.map enc) (off+n*i.size) w (λ j hj=>(hsome j hj).1)
       have hsz:w.heap.size<=(w.setCells b (off+n*i.size) (news.map enc)).heap.size:=hkept.size
       refine⟨_,_,_,hrun,⟨⟨hlen,hok,λ _=>⟨b,off,rfl,by omega,λ j u hu=>?_⟩⟩,hroom,h3,.inr ⟨b,off,rfl,h5,by omega,λ j hj=>⟨?_,?_⟩⟩⟩,⟨World.os_setCells _ _ _ _,?_,World.output_setCells _ _ _ _,hsz,λ k hk hne=>World.heap_setCells_other w b _ _ hk (λ e=>hne (by rw [e];rfl))⟩,λ k hk=>.inl hk⟩
       . by_cases hj:j<n
         . rw [World.cell?_setCells_out b (news.map enc) _ w ⟨b,off+j,none⟩ (λ _ _=>.inl (by simp [hsize];omega))]
           rw [List.getElem?_append_left (by rw [h1.1];omega)] at hu
           exact old j u hu
         . rw [List.getElem?_append_right (by rw [h1.1];omega),h1.1] at hu
           have hlt:j-n<(news.map enc).length:=by have:=(List.getElem?_eq_some_iff.1 hu).1;rw [List.length_map];omega
           have:=hin (j-n) hlt
           rw [show off+n*i.size+(j-n)=off+j from by rw [hsize];omega] at this
           rw [this]
           have hx:=(List.getElem?_eq_some_iff.1 hu).2
           simp [hx]
       . by_cases hj2:n<=j/\j<n+m
         . have hlt:j-n<(news.map enc).length:=by rw [List.length_map,hr.1];omega
           have:=hin (j-n) hlt
           rw [show off+n*i.size+(j-n)=off+j from by rw [hsize];omega] at this
           rw [this];rfl
         . rw [World.cell?_setCells_out b (news.map enc) _ w ⟨b,off+j,none⟩ (λ _ _=>by simp [hsize,hr.1];omega)]
           exact (h7 j hj).1
       . rw [World.frozen?_setCells]
         exact (h7 j hj).2
       . exact tape_setCells b _ _ w
     . have holds:∀ j u,(xs.map enc)[j]?=some u->w.cell? ((⟨b,off,none⟩:Addr).add j)=some u:=λ j u hu=>by
        rw [List.getElem?_map,Option.map_eq_some_iff] at hu
        obtain⟨x,hx,rfl⟩:=hu
        rw [add_plain]
        exact old j x hx
       obtain⟨v',w',hrun,hw,hg⟩:=run_append_arg_grows (P:=P) w t ty e i z 1 bytes ht hi hz hsize hby hzs (by omega) ⟨b,off,none⟩ n c0 (xs.map enc) (by rw [List.length_map,h1.1,Nat.mul_one]) holds ad m c (news.map enc) (by rw [List.length_map,hr.1,Nat.mul_one]) hcells (by omega) h63 hbytes
       rw [<- List.map_append] at hw
       obtain⟨A',c',rfl,hm⟩:=own_omem (ok:=ok) (l:=xs++news) hlen hok hw
       refine⟨A',c',w',hrun,⟨hm.1,hm.2.1,hm.2.2.1,?_⟩,⟨hg.os,hg.tape,hg.output,hg.size,λ k hk _=>hg.block k hk (by simp)⟩,λ k hk=>.inr ?_⟩
       . rcases hm.2.2.2 with h | ⟨b',off',e1,e2,e3⟩
         . exact .inl h
         . exact .inr ⟨b',off',e1,by omega,e3⟩
       . rcases hm.2.2.2 with ⟨rfl,_⟩ | ⟨b',off',rfl,e2,e3⟩
         . cases hk
         . cases hk;exact e2
theorem run_append_omem (h1c:∀ x,(enc x).oneCell'=true) (base:Nat) (t ty e:TypeId) (i:TypeInfo) (z:Value) (bytes:Nat) (ht:P.underlying t=some (.slice e)) (hi:P.info? e=some i) (hz:i.zero=some z)
 (hsize:i.size=1) (hby:i.bytes=bytes) (hzs:z.cells.size=1)
 (A0:Option Addr) (n c0:Nat) (xs:List α) (ho:OMem enc ok base w A0 n c0 xs) (A:Option Addr) (m c:Nat) (news:List α) (hr:EMem enc ok w A m news)
 (h63:n+m<=maxLen) (hbytes:(n+m)*bytes<=140737488355328) (hbase:base<=w.heap.size) :
 ∃ A' c' w',(Builtin.append_ #[t,t] ty #[.slice A0 n c0,.slice A m c]).run P w=.ok (.slice A' (n+m) c') w'/\OMem enc ok base w' A' (n+m) c' (xs++news)/\w.grownBy w' (A0.map (·.block)):=by
 obtain⟨A',c',w',h1,h2,h3,_⟩:=run_append_omem2 (P:=P) w enc ok h1c base t ty e i z bytes ht hi hz hsize hby hzs A0 n c0 xs ho A m c news hr h63 hbytes hbase
 exact⟨A',c',w',h1,h2,h3⟩
theorem wp_append_omem {o:Oper} {a:Act} {K:Act->World->Prop} {Q:Exit->Act->World->Prop} (s x:Operand) (t:TypeId)
 (ho:o.op=.call { callee:=.builtin .append,args:=#[s,x],argTypes:=#[t,t] })
 (h1c:∀ x,(enc x).oneCell'=true) (base:Nat) (e:TypeId) (i:TypeInfo) (z:Value) (bytes:Nat) (ht:P.underlying t=some (.slice e)) (hi:P.info? e=some i) (hz:i.zero=some z)
 (hsize:i.size=1) (hby:i.bytes=bytes) (hzs:z.cells.size=1)
 (A0:Option Addr) (n c0:Nat) (xs:List α) (hs:a.eval s=.slice A0 n c0) (hown:OMem enc ok base w A0 n c0 xs) (A:Option Addr) (m c:Nat) (news:List α) (hx:a.eval x=.slice A m c) (hr:EMem enc ok w A m news)
 (h63:n+m<=maxLen) (hbytes:(n+m)*bytes<=140737488355328) (hbase:base<=w.heap.size)
 (h:∀ A' c' w',OMem enc ok base w' A' (n+m) c' (xs++news)->w.grownBy w' (A0.map (·.block))->K (a.put o.dst (.slice A' (n+m) c')) w'):o.wp P a w K Q:=by
 obtain⟨A',c',w',hrun,h2,h3⟩:=run_append_omem (P:=P) w enc ok h1c base t o.type e i z bytes ht hi hz hsize hby hzs A0 n c0 xs hown A m c news hr h63 hbytes hbase
 unfold Oper.wp execOp
 simp only [ho,resolve,invoke,builtin,Sem.run_bind,Sem.run_pure,Result.andThen_ok,List.map_toArray,List.map_cons,List.map_nil,hs,hx,hrun]
 exact h A' c' w' h2 h3
theorem wpList_append_omem {ops:Array Oper} {rest:List Oper} {o:Oper} {a:Act} {Q:Exit->Act->World->Prop} (hgd:o.guard=none) (s x:Operand) (t:TypeId)
 (ho:o.op=.call { callee:=.builtin .append,args:=#[s,x],argTypes:=#[t,t] })
 (h1c:∀ x,(enc x).oneCell'=true) (base:Nat) (e:TypeId) (i:TypeInfo) (z:Value) (bytes:Nat) (ht:P.underlying t=some (.slice e)) (hi:P.info? e=some i) (hz:i.zero=some z)
 (hsize:i.size=1) (hby:i.bytes=bytes) (hzs:z.cells.size=1)
 (A0:Option Addr) (n c0:Nat) (xs:List α) (hs:a.eval s=.slice A0 n c0) (hown:OMem enc ok base w A0 n c0 xs) (A:Option Addr) (m c:Nat) (news:List α) (hx:a.eval x=.slice A m c) (hr:EMem enc ok w A m news)
 (h63:n+m<=maxLen) (hbytes:(n+m)*bytes<=140737488355328) (hbase:base<=w.heap.size)
 (h:∀ A' c' w',OMem enc ok base w' A' (n+m) c' (xs++news)->w.grownBy w' (A0.map (·.block))->wpList P ops Q rest (a.put o.dst (.slice A' (n+m) c')) w'):wpList P ops Q (o::rest) a w :=
 wpList_plain hgd λ _ hK=>wp_append_omem w enc ok s x t ho h1c base e i z bytes ht hi hz hsize hby hzs A0 n c0 xs hs hown A m c news hx hr h63 hbytes hbase λ A' c' w' h2 h3=>hK _ _ (h A' c' w' h2 h3)
end
end
section
open Go.ChangeShapes Go.WideShapes Go.ChangeAt Go.RowKit Go.Deep
namespace P12
theorem infoActs:(Tryz.prog.info? 64).map (λ i=>(i.zero,i.size,i.bytes))=some (some (.slice none 0 0),1,24):=by kernel_rfl
theorem info_parts {t:TypeId} {a:Option Value×Nat×Nat} (h:(Tryz.prog.info? t).map (λ i=>(i.zero,i.size,i.bytes))=some a):∃ i,Tryz.prog.info? t=some i/\i.zero=a.1/\i.size=a.2.1/\i.bytes=a.2.2:=by
 rw [Option.map_eq_some_iff] at h
 obtain⟨i,hi,rfl⟩:=h
 exact⟨i,hi,rfl,rfl,rfl⟩
def Late (B:Nat) (A:Option Addr):Prop:=∀ k,A.map (·.block)=some k->B<=k
theorem Late.none {B:Nat}:Late B none:=λ k h=>by cases h
theorem Late.low {B C:Nat} {A:Option Addr} (h:Late B A) (hc:C<=B):Late C A:=λ k hk=>Nat.le_trans hc (h k hk)
section
variable {w w':World} {A:Option Addr} {n:Nat} {l:List Ac}
theorem mem_kept {row:Option Nat} (h:Mem w A n l) (hg:w.grownBy w' row) (hr:0<n->∀ k,A.map (·.block)=some k->row≠some k):Mem w' A n l :=
 ⟨h.1,h.2.1,λ hn=>by
   obtain⟨b,off,rfl,hb,hc⟩:=h.2.2 hn
   refine⟨b,off,rfl,Nat.lt_of_lt_of_le hb hg.size,λ j x hj=>?_⟩
   exact (World.cell?_of_block (a:=⟨b,off+j,none⟩) (hg.block b hb (λ e=>hr hn b rfl e.symm))).trans (hc j x hj)⟩
end
abbrev AOwn (w:World) (base:Nat) (v:Value) (l:List Ac):Prop:=w.ownsRow base 67 2 v l.length (flat l)
theorem own_mem {w:World} {base:Nat} {v:Value} {l:List Ac} (h:AOwn w base v l) (hb:∀ x∈l,Inb x.1/\Inb x.2):∃ A c,v=.slice A l.length c/\Mem w A l.length l/\l.length<=c/\c<=9223372036854775807/\Late base A:=by
 rcases h.2 with ⟨rfl,h0⟩ | ⟨g,cap,cur,rfl,hbg,hg,hnc,hcm,hs,ht⟩
 . have hl:l=[]:=by
    cases l with
    | nil=>rfl
    | cons x r=>cases h0
   subst hl
   exact⟨none,0,rfl,Mem.nil_,Nat.le_refl _,by omega,Late.none⟩
 . refine⟨_,_,rfl,⟨rfl,hb,λ _=>⟨g,0,rfl,(Array.getElem?_eq_some_iff.1 hg).1,λ j u hu=>?_⟩⟩,hnc,by unfold maxLen at hcm;omega,λ k hk=>by simp at hk;omega⟩
   rw [Nat.zero_add,cell_of_row w g j cur _ (0,0) hg]
   rw [<- ht,List.getElem?_take] at hu
   split at hu
   . simpa using hu
   . cases hu
theorem AOwn.nil (w:World) (base:Nat):AOwn w base (.slice none 0 0) []:=World.ownsRow_nil w base _ 2
structure PV where
 A:Option Addr
 n:Nat
 c:Nat
 l:List Ac
instance:Inhabited PV:=⟨⟨none,0,0,[]⟩⟩
def PV.enc (x:PV):Value:=.slice x.A x.n x.c
def PV.ok (w:World) (x:PV):Prop:=Mem w x.A x.n x.l/\x.n<=x.c/\x.c<=9223372036854775807
theorem PV.ok.gr {w w':World} {x:PV} (h:x.ok w) (g:Gr w w'):x.ok w':=⟨h.1.gr g,h.2⟩
theorem PV.ok.lt {w:World} {x:PV} (h:x.ok w):x.n<=9223372036854775807:=by have:=h.2;omega
def pl (R:List PV):List (List Ac):=R.map PV.l
def PMem (w:World) (A:Option Addr) (n:Nat) (R:List PV):Prop:=EMem PV.enc (λ _=>True) w A n R/\∀ x∈R,x.ok w
section
variable {w w':World} {A:Option Addr} {n:Nat} {R:List PV}
theorem PMem.len (h:PMem w A n R):R.length=n:=h.1.1
theorem PMem.gr (h:PMem w A n R) (g:Gr w w'):PMem w' A n R:=⟨h.1.gr g,λ x hx=>(h.2 x hx).gr g⟩
theorem PMem.at_ {k:Nat} (h:PMem w A n R) (hk:k<n):∃ b off x,A=some ⟨b,off,none⟩/\b<w.heap.size/\R[k]?=some x/\x.ok w/\w.cell? ⟨b,off+k,none⟩=some (.slice x.A x.n x.c):=by
 obtain⟨b,off,x,h1,h2,h3,_,h4⟩:=h.1.at_ hk
 exact⟨b,off,x,h1,h2,h3,h.2 x (List.mem_of_getElem? h3),h4⟩
theorem PMem.nil_:PMem w A 0 []:=⟨EMem.nil_,by simp⟩
end
structure POwn (w:World) (base lo:Nat) (A:Option Addr) (n c:Nat) (R:List PV):Prop where
 row:OMem PV.enc (λ _=>True) base w A n c R
 ok:∀ x∈R,x.ok w
 off:∀ x∈R,0<x.n->∀ k,x.A.map (·.block)=some k->lo<=k/\k<w.heap.size/\A.map (·.block)≠some k
section
variable {w w':World} {base lo:Nat} {A:Option Addr} {n c:Nat} {R:List PV}
theorem POwn.nil:POwn w base lo none 0 0 []:=⟨OMem.nil_,by simp,by simp⟩
def Grown (w:World) (base lo:Nat) (A:Option Addr) (n m:Nat) (R news:List PV) (A':Option Addr) (c':Nat) (w':World):Prop :=
 POwn w' base lo A' (n+m) c' (R++news)/\w.grownBy w' (A.map (·.block))
variable {B:Option Addr} {m d:Nat} {news:List PV}
theorem run_append_progs (h:POwn w base lo A n c R) (hr:PMem w B m news) (hoff:∀ x∈news,0<x.n->∀ k,x.A.map (·.block)=some k->lo<=k/\k<w.heap.size/\A.map (·.block)≠some k)
 (hl:n+m<=1000000) (hbase:base<=w.heap.size) (ty:TypeId) (d:Nat) :
 ∃ A' c' w',(Builtin.append_ #[22,22] ty #[.slice A n c,.slice B m d]).run Tryz.prog w=.ok (.slice A' (n+m) c') w'/\Grown w base lo A n m R news A' c' w':=by
 obtain⟨i,hi,hz,hs,hb⟩:=info_parts infoActs
 obtain⟨A',c',w',h1,h2,h3,h4⟩:=run_append_omem2 (P:=Tryz.prog) w PV.enc (λ _=>True) (λ _=>rfl) base 22 ty 64 i (.slice none 0 0) 24 Tryz.underlying22 hi hz hs hb rfl A n c R h.row B m d news hr.1 (by unfold maxLen;omega) (by omega) hbase
 have all:∀ x∈R++news,x.ok w/\(0<x.n->∀ k,x.A.map (·.block)=some k->lo<=k/\k<w.heap.size/\A.map (·.block)≠some k):=by
  intro x hx
  rcases List.mem_append.1 hx with hx | hx
  . exact⟨h.ok x hx,h.off x hx⟩
  . exact⟨hr.2 x hx,hoff x hx⟩
 refine⟨A',c',w',h1,⟨h2,λ x hx=>?_,λ x hx h0 k hk=>?_⟩,h3⟩
 . obtain⟨⟨a1,a2⟩,ho⟩:=all x hx
   exact⟨mem_kept a1 h3 λ h0 k hk=>(ho h0 k hk).2.2,a2⟩
 . obtain⟨e1,e2,e3⟩:=(all x hx).2 h0 k hk
   refine⟨e1,Nat.lt_of_lt_of_le e2 h3.size,λ e=>?_⟩
   rcases h4 k e with e' | e'
   . exact e3 e'
   . omega
theorem wp_append_progs {o:Oper} {a:Act} {K:Act->World->Prop} {Q:Exit->Act->World->Prop} (s x:Operand)
 (ho:o.op=.call { callee:=.builtin .append,args:=#[s,x],argTypes:=#[22,22] }) (hs:a.eval s=.slice A n c) (hx:a.eval x=.slice B m d)
 (h:POwn w base lo A n c R) (hr:PMem w B m news) (hoff:∀ x∈news,0<x.n->∀ k,x.A.map (·.block)=some k->lo<=k/\k<w.heap.size/\A.map (·.block)≠some k)
 (hl:n+m<=1000000) (hbase:base<=w.heap.size)
 (hK:∀ A' c' w',Grown w base lo A n m R news A' c' w'->K (a.put o.dst (.slice A' (n+m) c')) w'):o.wp Tryz.prog a w K Q:=by
 obtain⟨A',c',w',h1,h2⟩:=run_append_progs h hr hoff hl hbase o.type d
 unfold Oper.wp execOp
 simp only [ho,resolve,invoke,builtin,Sem.run_bind,Sem.run_pure,Result.andThen_ok,List.map_toArray,List.map_cons,List.map_nil,hs,hx,h1]
 exact hK A' c' w' h2
theorem wpList_append_progs {ops:Array Oper} {rest:List Oper} {o:Oper} {a:Act} {Q:Exit->Act->World->Prop} (hgd:o.guard=none) (s x:Operand)
 (ho:o.op=.call { callee:=.builtin .append,args:=#[s,x],argTypes:=#[22,22] }) (hs:a.eval s=.slice A n c) (hx:a.eval x=.slice B m d)
 (h:POwn w base lo A n c R) (hr:PMem w B m news) (hoff:∀ x∈news,0<x.n->∀ k,x.A.map (·.block)=some k->lo<=k/\k<w.heap.size/\A.map (·.block)≠some k)
 (hl:n+m<=1000000) (hbase:base<=w.heap.size)
 (hK:∀ A' c' w',Grown w base lo A n m R news A' c' w'->wpList Tryz.prog ops Q rest (a.put o.dst (.slice A' (n+m) c')) w'):wpList Tryz.prog ops Q (o::rest) a w :=
 wpList_plain hgd λ _ hK'=>wp_append_progs s x ho hs hx h hr hoff hl hbase λ A' c' w' h1=>hK' _ _ (hK A' c' w' h1)
end
theorem pmem_one {w:World} {g:Nat} {x:PV} {t:TypeId} (h:Blk w g #[.slice x.A x.n x.c] t) (hx:x.ok w):PMem w (some ⟨g,0,none⟩) 1 [x] :=
 ⟨⟨rfl,by simp,λ _=>⟨g,0,rfl,h.lt,λ j y hj=>by
   match j,hj with
   | 0,hj=>simp at hj;subst hj;exact (h.at_ (k:=0) rfl).1⟩⟩,by simpa using hx⟩
end P12
end
section
open Go.ChangeShapes Go.WideShapes Go.ChangeAt Go.RowKit
def B64 (v:Int):Prop:=-9223372036854775808<=v/\v<=9223372036854775807
abbrev IMem:=EMem (Value.int .i64) B64
abbrev IOwn:=OMem (Value.int .i64) B64
theorem infoInt:(Tryz.prog.info? 3).map (λ i=>(i.zero,i.size,i.bytes))=some (some (.int .i64 0),1,8):=by kernel_rfl
theorem wrap_id {x:Int} (h:-9223372036854775808<=x) (h':x<=9223372036854775807):IntKind.i64.wrap x=x:=by
 rw [IntKind.wrap_i64];omega
section
variable {α:Type} {enc:α->Value} {ok:α->Prop} {base:Nat} {w w':World} {A:Option Addr} {n c:Nat} {l:List α}
theorem OMem.lt (h:OMem enc ok base w A n c l):∀ k,A.map (·.block)=some k->base<=k/\k<w.heap.size:=by
 intro k hk
 rcases h.2.2.2 with ⟨rfl,_⟩ | ⟨b,off,rfl,h5,h6,_⟩
 . cases hk
 . cases hk
   exact⟨h5,h6⟩
theorem OMem.low {b2:Nat} (h:OMem enc ok base w A n c l) (hb:b2<=base):OMem enc ok b2 w A n c l:=by
 refine⟨h.1,h.2.1,h.2.2.1,?_⟩
 rcases h.2.2.2 with h1 | ⟨b,off,e,h5,h6⟩
 . exact .inl h1
 . exact .inr ⟨b,off,e,Nat.le_trans hb h5,h6⟩
theorem emem_one (w:World) (x:α) (hx:ok x) (t:TypeId):EMem enc ok (w.alloc (.cells #[enc x] t)) (some ⟨w.heap.size,0,none⟩) 1 [x] :=
 ⟨rfl,λ y hy=>by simp at hy;subst hy;exact hx,λ _=>⟨_,0,rfl,by simp,λ j u hu=>by
   match j,hu with
   | 0,hu=>simp at hu;subst hu;simp⟩⟩
theorem emem_one' (w:World) (x:α) (hx:ok x) (t:TypeId) {s:Nat} (hs:w.heap.size=s):EMem enc ok (w.alloc (.cells #[enc x] t)) (some ⟨s,0,none⟩) 1 [x]:=hs▸emem_one w x hx t
def Off (A R:Option Addr):Prop:=∀ k,A.map (·.block)=some k->R.map (·.block)=some k->False
theorem Off.nil (A:Option Addr):Off A none:=λ k _ h=>by cases h
theorem EMem.gb {R:Option Addr} (h:EMem enc ok w A n l) (hg:w.grownBy w' (R.map (·.block))) (ho:Off A R):EMem enc ok w' A n l :=
 ⟨h.1,h.2.1,λ hn=>by
   obtain⟨b,off,rfl,hb,hc⟩:=h.2.2 hn
   refine⟨b,off,rfl,Nat.lt_of_lt_of_le hb hg.size,λ j u hu=>?_⟩
   exact (World.cell?_of_block (a:=⟨b,off+j,none⟩) (hg.block b hb (λ e=>ho b rfl e.symm))).trans (hc j u hu)⟩
theorem OMem.gb2 {R:Option Addr} (h:OMem enc ok base w A n c l) (hg:w.grownBy w' (R.map (·.block))) (ho:Off A R):OMem enc ok base w' A n c l:=by
 refine⟨h.1.gb hg ho,h.2.1,h.2.2.1,?_⟩
 rcases h.2.2.2 with h1 | ⟨b,off,rfl,h5,h6,h7⟩
 . exact .inl h1
 . have e:=hg.block b h6 (λ e=>ho b rfl e.symm)
   refine .inr ⟨b,off,rfl,h5,Nat.lt_of_lt_of_le h6 hg.size,λ j hj=>?_⟩
   rw [World.cell?_of_block (a:=⟨b,off+j,none⟩) e,World.frozen?_of_block (a:=⟨b,off+j,none⟩) e]
   exact h7 j hj
end
end
end Go.Proofs.YtainfijdhcehlaaGreatDoor
namespace Go.Proofs.YtainfijdhcehlaaGreatDoor.L7
open Go.ChangeShapes Go.WideShapes Go.ChangeAt Go.RowKit
def Good (l:List Int):Prop:=(∀ x∈l,0<=x)/\l.Nodup
def Ln (l:List Int):Prop:=l.length<=64/\Good l
theorem Good.nil:Good []:=⟨by simp,List.nodup_nil⟩
theorem Ln.nil:Ln []:=⟨by simp,Good.nil⟩
theorem good_app {a b:List Int}:Good (a++b)↔Good a/\Good b/\∀ x∈a,x ∉ b:=by
 unfold Good
 rw [List.nodup_append]
 constructor
 . rintro⟨h1,h2,h3,h4⟩
   exact⟨⟨λ x hx=>h1 x (List.mem_append_left _ hx),h2⟩,⟨λ x hx=>h1 x (List.mem_append_right _ hx),h3⟩,λ x hx hb=>h4 x hx x hb rfl⟩
 . rintro⟨⟨h1,h2⟩,⟨h3,h4⟩,h5⟩
   refine⟨λ x hx=>?_,h2,h4,λ x hx y hy e=>h5 x hx (e▸hy)⟩
   rcases List.mem_append.1 hx with h | h
   . exact h1 x h
   . exact h3 x h
theorem good_one {x:Int}:Good [x]↔0<=x:=by simp [Good]
theorem good_cons {x:Int} {l:List Int}:Good (x::l)↔0<=x/\x ∉ l/\Good l:=by
 rw [show x::l=[x]++l from rfl,good_app,good_one]
 simp only [List.mem_singleton,forall_eq]
 exact⟨λ h=>⟨h.1,h.2.2,h.2.1⟩,λ h=>⟨h.1,h.2.2,h.2.1⟩⟩
theorem take_more {l:List Int} {k:Nat} {x:Int} (h:l[k]?=some x):l.take (k+1)=l.take k++[x]:=by
 rw [List.take_add_one,h];rfl
theorem take_drop_at {l:List Int} {k:Nat} {x:Int} (h:l[k]?=some x):l=l.take k++x::l.drop (k+1):=by
 have hk:=(List.getElem?_eq_some_iff.1 h).1
 have hx:=(List.getElem?_eq_some_iff.1 h).2
 rw [<- hx,<- List.drop_eq_getElem_cons hk,List.take_append_drop]
theorem not_mem_take {l:List Int} {k:Nat} {x:Int} (hk:k<=l.length):x ∉ l.take k↔∀ j,j<k->l[j]?≠some x:=by
 constructor
 . intro h j hj e
   exact h (List.mem_iff_getElem?.2 ⟨j,by rw [List.getElem?_take,if_pos hj];exact e⟩)
 . intro h hm
   obtain⟨j,hj⟩:=List.mem_iff_getElem?.1 hm
   rw [List.getElem?_take] at hj
   split at hj
   . exact h j (by assumption) hj
   . cases hj
theorem not_good_dup {l:List Int} {k j:Nat} {x:Int} (h1:l[k]?=some x) (h2:l[j]?=some x) (hj:j<k):¬ Good l:=by
 intro h
 rw [take_drop_at h1,good_app] at h
 exact h.2.2 x (List.mem_iff_getElem?.2 ⟨j,by rw [List.getElem?_take,if_pos hj];exact h2⟩) (by simp)
theorem split_at {l:List Int} {x:Int} (h:x∈l):∃ a b,l=a++x::b:=by
 exact List.append_of_mem h
theorem at_of {a b l:List Int} {x:Int} (hl:l=a++x::b) (hg:Good l):l[a.length]?=some x/\∀ j,j<a.length->l[j]?≠some x:=by
 subst hl
 refine⟨by simp,λ j hj e=>?_⟩
 rw [List.getElem?_append_left hj] at e
 exact (good_app.1 hg).2.2 x (List.mem_iff_getElem?.2 ⟨j,e⟩) (by simp)
section
variable {w:World} {A:Option Addr} {n c:Nat} {l:List Int}
theorem sound_is (hm:IMem w A n l) (hc:n<=c) (hn:n<=9223372036854775807) :
 Calls Tryz.prog 203 #[.slice A n c] w λ e w'=>(∃ k:Nat,e=.returned (.int .i64 (k:Int))/\((k=n/\Good l)\/(k<n/\¬ Good l)))/\w'=w:=by
 have HM:=Lib.hid hm
 clear hm
 have hlen:=HM.out.1
 go_enter Tryz.func203,Tryz.ntmps203
 go_wp2_with fail
 go_step3
 go_wp2_with fail
 go_step3
 go_wp2_with fail
 go_loop [3,10] (λ N i=>∃ k:Nat,k<=n/\N=.int .i64 (k:Int)/\i=.int .i64 (k:Int)/\Hid (Good (l.take k))) (λ _ i=>n-(intOf i).toNat)
 case atStart=>exact⟨0,by omega,rfl,rfl,Lib.hid (by simpa using Good.nil)⟩
 case round =>
  obtain⟨k,hk,rfl,rfl,HG⟩:=hrel
  by_cases hlt:k<n
  . obtain⟨b,off,x,rfl,hbl,hx,hix,cx⟩:=HM.out.at_ hlt
    have HX:=Lib.hid hx
    clear hx
    by_cases h0:x<0
    . have hng:Hid (¬ Good l):=Lib.hid λ h=>by have:=h.1 x (List.mem_of_getElem? HX.out);omega
      go_wp2_with fail
      first | go_ret | (rw [Exit.noGoto_ret];go_ret)
      exact⟨⟨k,rfl,.inr ⟨hlt,hng.out⟩⟩,rfl⟩
    . have hkc:(k:Int)<=(c:Int):=by omega
      have hk0:(0:Int)<=(k:Int):=by omega
      go_wp2_with fail
      go_loop [20] (λ i=>∃ q:Nat,q<=k/\i=.int .i64 (q:Int)/\Hid (∀ j,j<q->l[j]?≠some x)) (λ i=>k-(intOf i).toNat)
      case atStart=>exact⟨0,by omega,rfl,Lib.hid λ j hj=>absurd hj (by omega)⟩
      case round =>
       obtain⟨q,hq,rfl,HQ⟩:=hrel
       by_cases hqk:q<k
       . obtain⟨b',off',y,hb',hbl',hy,hiy,cy⟩:=HM.out.at_ (show q<n by omega)
         cases hb'
         by_cases he:y=x
         . subst he
           have hng:Hid (¬ Good l):=Lib.hid (not_good_dup HX.out hy hqk)
           clear hy
           go_wp2_with fail
           first | go_ret | (rw [Exit.noGoto_ret];go_ret)
           exact⟨⟨k,rfl,.inr ⟨hlt,hng.out⟩⟩,rfl⟩
         . have ne:(y==x)=false:=beq_eq_false_iff_ne.2 he
           have HQ':Hid (∀ j,j<q+1->l[j]?≠some x):=Lib.hid λ j hj e=>by
            by_cases h:j<q
            . exact HQ.out j h e
            . obtain rfl:j=q:=by omega
              rw [hy] at e;exact he (Option.some.inj e)
           clear hy
           go_wp2_with fail
           go_round
           case rel=>exact⟨q+1,by omega,by go_num,HQ'⟩
           case measure=>simp [intOf];omega
       . obtain rfl:q=k:=by omega
         have HG':Hid (Good (l.take (q+1))):=Lib.hid (by
          rw [take_more HX.out,good_app,good_one]
          refine⟨HG.out,by omega,λ y hy hy1=>?_⟩
          rw [List.mem_singleton] at hy1
          subst hy1
          exact (not_mem_take (by omega)).2 HQ.out hy)
         go_wp2_with fail
         go_round
         case rel=>exact⟨q+1,by omega,by go_num,by go_num,HG'⟩
         case measure=>simp [intOf];omega
  . obtain rfl:k=n:=by omega
    have hg:=HG.out
    rw [<- hlen,List.take_length] at hg
    go_wp2_with fail
    first | go_ret | (rw [Exit.noGoto_ret];go_ret)
    exact⟨⟨k,rfl,.inl ⟨rfl,hg⟩⟩,rfl⟩
theorem Right_is (hm:IMem w A n l) (hc:n<=c) (hn:n<=9223372036854775807) {v:Bool} (hv:v=true↔Ln l) :
 Calls Tryz.prog 169 #[.slice A n c] w λ e w'=>e=.returned (.bool v)/\w'=w:=by
 have hlen:=hm.1
 have HV:=Lib.hid hv
 clear hv
 have k1:=Lib.hid (sound_is (c:=c) hm hc hn)
 clear hm
 by_cases h:n<=64
 . have h1:(n:Int)<=64:=by omega
   go_enter Tryz.func169,Tryz.ntmps169
   go_wp2_with fail
   refine k1.out.mono ?_
   rintro e w1 ⟨⟨k,rfl,hk⟩,rfl⟩
   have HV':v=((k:Int)==(n:Int)):=by
    rcases hk with ⟨rfl,hg⟩ | ⟨hk,hg⟩
    . rw [HV.out.2 ⟨by omega,hg⟩];simp
    . rw [beq_eq_false_iff_ne.2 (by omega)]
      cases v
      . rfl
      . exact absurd (HV.out.1 rfl).2 hg
   subst HV'
   clear hk
   go_wp2_with fail
   go_ret
   exact⟨rfl,rfl⟩
 . have h1:¬ (n:Int)<=64:=by omega
   obtain rfl:v=false:=by
    cases v
    . rfl
    . have:=(HV.out.1 rfl).1;omega
   go_enter Tryz.func169,Tryz.ntmps169
   go_wp2_with fail
   go_ret
   exact⟨rfl,rfl⟩
end
section
variable {w:World} {A B:Option Addr} {n c m d:Nat} {l r:List Int}
end
end Go.Proofs.YtainfijdhcehlaaGreatDoor.L7
namespace Go.Proofs.YtainfijdhcehlaaGreatDoor
open Lib (hid)
end Go.Proofs.YtainfijdhcehlaaGreatDoor
