/-
  A part of the proof.
-/
import Derived.Test.YtainfijdhcehlaaGreatDoorQB1
import Derived.Test.YtainfijdhcehlaaGreatDoorQB5
import Derived.Test.YtainfijdhcehlaaGreatDoorQB9
import Derived.Stop.LaidErr
import Derived.LaidLaws
import Derived.SizedLaws
import Derived.ChangeMaps5
import Derived.Lay
import Derived.LaidMore
import Derived.Shelf.Vars
import Derived.SevenTiedAt
import Derived.LaidByTextLater
import Derived.Lib.SmallJoins
import Derived.Carry
import Derived.Lib.Hide
import Derived.Deep.SlicePairs
import Derived.Deep.QuietTactic
import Derived.BigQuiet
import Derived.Outline
import Derived.Deep.RegionHeld3
import Derived.RegionTactic
set_option linter.unusedVariables false
set_option linter.unusedSimpArgs false
set_option maxRecDepth 100000
set_option maxHeartbeats 8000000
namespace Go.Proofs.YtainfijdhcehlaaGreatDoor
open Lib (hid)
section
open Go.ChangeShapes Go.WideShapes Go.ChangeAt Go.RowKit
namespace P3
theorem i64_or_low (m y z:Nat) (hy:y<8) (hz:z<8) (hm:m<2 ^ 59):bits .or .i64 ((8*m+y:Nat):Int) (z:Int)=((8*m+(y ||| z):Nat):Int):=by
 have hyz:y ||| z<8:=Nat.or_lt_two_pow (n:=3) hy hz
 show IntKind.i64.wrap ((BitVec.ofInt 64 ((8*m+y:Nat):Int) ||| BitVec.ofInt 64 (z:Int)).toNat:Int)=_
 rw [BitVec.toNat_or,ofInt_i64 _ (by omega),ofInt_i64 _ (by omega),<- nat_join 3 (8*m) y (by omega) hy,Nat.or_assoc,nat_join 3 (8*m) (y ||| z) (by omega) hyz,i64_small (by omega)]
theorem bv_andNot (X Y:BitVec 64):(X &&& ~~~Y)+(X &&& Y)=X:=by
 have h:(X &&& ~~~Y) &&& (X &&& Y)=0#64:=by
  ext i hi
  simp
  cases X[i]<;>cases Y[i]<;>decide
 rw [BitVec.add_eq_or_of_and_eq_zero _ _ h]
 ext i hi
 simp
 cases X[i]<;>cases Y[i]<;>rfl
theorem i64_andNot (x z:Nat) (hx:x<2 ^ 63) (hz:z<2 ^ 63):bits .andNot .i64 (x:Int) (z:Int)=((x-(x &&& z):Nat):Int):=by
 have e:=congrArg BitVec.toNat (bv_andNot (BitVec.ofInt 64 (x:Int)) (BitVec.ofInt 64 (z:Int)))
 have l:(BitVec.ofInt 64 (x:Int) &&& ~~~BitVec.ofInt 64 (z:Int)).toNat<=x:=by
  rw [BitVec.toNat_and,ofInt_i64 x hx];exact Nat.and_le_left
 have l2:x &&& z<=x:=Nat.and_le_left
 rw [BitVec.toNat_add,BitVec.toNat_and (BitVec.ofInt 64 (x:Int)) (BitVec.ofInt 64 (z:Int)),ofInt_i64 x hx,ofInt_i64 z hz] at e
 show IntKind.i64.wrap ((BitVec.ofInt 64 (x:Int) &&& ~~~BitVec.ofInt 64 (z:Int)).toNat:Int)=_
 generalize (BitVec.ofInt 64 (x:Int) &&& ~~~BitVec.ofInt 64 (z:Int)).toNat=q at *
 rw [Nat.mod_eq_of_lt (by omega)] at e
 rw [i64_small (by omega)]
 omega
section
variable {a b c:Bool} {n:Int}
theorem low_of (a b c:Bool) (n:Int) (h:0<=n/\n<536870912):∃ m y:Nat,pw a b c n=((8*m+y:Nat):Int)/\(m:Int)=n/\y=(if c then 4 else 0)+(if b then 2 else 0)+(if a then 1 else 0)/\y<8:=by
 refine⟨n.toNat,(if c then 4 else 0)+(if b then 2 else 0)+(if a then 1 else 0),?_,by omega,rfl,by cases a<;>cases b<;>cases c<;>decide⟩
 unfold pw
 cases a<;>cases b<;>cases c<;>simp [b1]<;>omega
theorem or_1 (h:0<=n/\n<536870912):bits .or .i64 (pw a b c n) 1=pw true b c n:=by
 obtain⟨m,y,e,hm,hy,hl⟩:=low_of a b c n h
 rw [e,show (1:Int)=((1:Nat):Int) from rfl,i64_or_low m y 1 hl (by decide) (by omega)]
 unfold pw
 subst hy
 cases a<;>cases b<;>cases c<;>simp [b1]<;>omega
theorem or_4 (h:0<=n/\n<536870912):bits .or .i64 (pw a b c n) 4=pw a b true n:=by
 obtain⟨m,y,e,hm,hy,hl⟩:=low_of a b c n h
 rw [e,show (4:Int)=((4:Nat):Int) from rfl,i64_or_low m y 4 hl (by decide) (by omega)]
 unfold pw
 subst hy
 cases a<;>cases b<;>cases c<;>simp [b1]<;>omega
theorem or_2 (h:0<=n/\n<536870912):bits .or .i64 (pw a b c n) 2=pw a true c n:=by
 obtain⟨m,y,e,hm,hy,hl⟩:=low_of a b c n h
 rw [e,show (2:Int)=((2:Nat):Int) from rfl,i64_or_low m y 2 hl (by decide) (by omega)]
 unfold pw
 subst hy
 cases a<;>cases b<;>cases c<;>simp [b1]<;>omega
def lowI (a b c:Bool):Int:=4*b1 c+2*b1 b+b1 a
theorem and7 (h:0<=n/\n<536870912):bits .and .i64 (pw a b c n) 7=lowI a b c:=by
 obtain⟨m,y,e,hm,hy,hl⟩:=low_of a b c n h
 rw [e,show (7:Int)=((7:Nat):Int) from rfl]
 show IntKind.i64.wrap ((BitVec.ofInt 64 ((8*m+y:Nat):Int) &&& BitVec.ofInt 64 ((7:Nat):Int)).toNat:Int)=_
 rw [BitVec.toNat_and,ofInt_i64 _ (by omega),ofInt_i64 7 (by decide),show (7:Nat)=2 ^ 3-1 from rfl,Nat.and_two_pow_sub_one_eq_mod,i64_small (by omega)]
 have h8:(8*m+y) % 2 ^ 3=y:=by omega
 rw [h8]
 subst hy
 cases a<;>cases b<;>cases c<;>rfl
theorem not_2 (h:0<=n/\n<536870912):bits .andNot .i64 (pw a b c n) 2=pw a false c n:=by
 obtain⟨m,y,e,hm,hy,hl⟩:=low_of a b c n h
 rw [e,show (2:Int)=((2:Nat):Int) from rfl,i64_andNot _ 2 (by omega) (by decide),nat_bit1]
 unfold pw
 subst hy
 cases a<;>cases b<;>cases c<;>simp [b1]<;>omega
end
end P3
end
section
open Go.ChangeShapes Go.WideShapes Go.ChangeAt Go.RowKit
namespace P15
open P3 (fl pw lowI)
def Glob (w : World) : Prop := w.var? Tryz.prog "deadbolt/give.states" = some #[.int .i64 0, .int .i64 3, .int .i64 1, .int .i64 3, .int .i64 2, .int .i64 3, .int .i64 2, .int .i64 3]
theorem Glob.gr {w w':World} (h:Glob w) (g:Gr w w'):Glob w' :=
 Joins.var_stays (by kernel_rfl : Tryz.prog.globalNamed "deadbolt/give.states" = some 0) h g (Nat.le_refl _)
def st (a b c:Bool):Int:=if a then 3 else if c then 2 else if b then 1 else 0
theorem Glob.at_ {w:World} (h:Glob w) (a b c:Bool):w.cell? ⟨0,(lowI a b c).toNat,none⟩=some (.int .i64 (st a b c)):=by
 have hn : Tryz.prog.globalNamed "deadbolt/give.states" = some 0 := by kernel_rfl
 have hc:=World.var?_cell hn h
 cases a<;>cases b<;>cases c
 . exact hc 0
 . exact hc 4
 . exact hc 2
 . exact hc 6
 . exact hc 1
 . exact hc 5
 . exact hc 3
 . exact hc 7
theorem low_in (a b c:Bool):0<=lowI a b c/\lowI a b c<8:=by cases a<;>cases b<;>cases c<;>decide
section
variable {a b c:Bool} {n v:Int} {w:World}
theorem state_of (hg:Glob w) (hv:bits .and .i64 v 7=lowI a b c) :
 Calls Tryz.prog 199 #[.int .i64 v] w λ e w'=>e=.returned (.int .i64 (st a b c))/\w'=w:=by
 have h0:=hg.at_ a b c
 obtain⟨h1,h2⟩:=low_in a b c
 generalize lowI a b c=k at *
 go_enter Tryz.func199,Tryz.ntmps199
 go_wp2_with fail
 go_ret
 exact⟨rfl,rfl⟩
end
end P15
end
section
open Go.ChangeShapes Go.WideShapes Go.ChangeAt Go.RowKit
namespace P16
open P12 (PV PMem)
def FromB (B:Nat) (W W':World):Prop:=W.heap.size<=W'.heap.size/\∀ k,B<=k->k<W.heap.size->W'.heap[k]?=W.heap[k]?
section
variable {B B':Nat} {W W' W'':World}
theorem FromB.refl:FromB B W W:=⟨Nat.le_refl _,λ _ _ _=>rfl⟩
theorem FromB.trans (h:FromB B W W') (k:FromB B W' W''):FromB B W W'' :=
 ⟨Nat.le_trans h.1 k.1,λ j h1 h2=>(k.2 j h1 (Nat.lt_of_lt_of_le h2 h.1)).trans (h.2 j h1 h2)⟩
theorem FromB.up (h:FromB B W W') (hb:B<=B'):FromB B' W W':=⟨h.1,λ k h1 h2=>h.2 k (Nat.le_trans hb h1) h2⟩
theorem FromB.gr (g:Gr W W'):FromB B W W':=⟨g.size,λ k _ h=>g.block k h⟩
theorem FromB.st {p:Addr} (hp:p.block<B) (u:Value):FromB B W (W.setCell p u) :=
 ⟨by simp [World.setCell],λ k h1 _=>Below.heap_setCell W p u k (by omega)⟩
def WNew (B:Nat) (W:World) (r:WR) (ω:Wv):Prop:=∀ W',FromB B W W'->WIs W' r ω
variable {r:WR} {ω:Wv}
theorem WNew.is (h:WNew B W r ω):WIs W r ω:=h W FromB.refl
theorem WNew.to (h:WNew B W r ω) (g:FromB B W W'):WNew B W' r ω:=λ _ k=>h _ (g.trans k)
theorem WNew.gr (h:WNew B W r ω) (g:Gr W W'):WNew B W' r ω:=h.to (FromB.gr g)
theorem WNew.low (h:WNew B W r ω) (hb:B'<=B):WNew B' W r ω:=λ _ k=>h _ (k.up hb)
def ENew (B:Nat) (W:World) (A:Option Addr) (n:Nat) (l:List T3):Prop:=∀ W',FromB B W W'->T3Mem W' A n l
variable {A:Option Addr} {n:Nat} {l:List T3}
theorem ENew.is (h:ENew B W A n l):T3Mem W A n l:=h W FromB.refl
theorem ENew.to (h:ENew B W A n l) (g:FromB B W W'):ENew B W' A n l:=λ _ k=>h _ (g.trans k)
theorem ENew.gr (h:ENew B W A n l) (g:Gr W W'):ENew B W' A n l:=h.to (FromB.gr g)
theorem ENew.low (h:ENew B W A n l) (hb:B'<=B):ENew B' W A n l:=λ _ k=>h _ (k.up hb)
theorem ENew.nil:ENew B W none 0 []:=λ _ _=>RMem.nil_
theorem FromB.put6 {b:Nat} (hb:b<B) (x0 x1 x2 x3 x4 x5:Value):FromB B W ((((((W.setCell ⟨b,0,none⟩ x0).setCell ⟨b,1,none⟩ x1).setCell ⟨b,2,none⟩ x2).setCell ⟨b,3,none⟩ x3).setCell ⟨b,4,none⟩ x4).setCell ⟨b,5,none⟩ x5) :=
 ((((((FromB.st (p:=⟨b,0,none⟩) hb x0).trans (FromB.st (p:=⟨b,1,none⟩) hb x1)).trans (FromB.st (p:=⟨b,2,none⟩) hb x2)).trans (FromB.st (p:=⟨b,3,none⟩) hb x3)).trans (FromB.st (p:=⟨b,4,none⟩) hb x4)).trans (FromB.st (p:=⟨b,5,none⟩) hb x5))
end
def svs (tb:List Sp):List SV:=tb.map λ s=>⟨s.1,s.2.1,none,0,0,s.2.2⟩
theorem svs_pl (tb:List Sp):(svs tb).map SV.pl=tb:=by
 unfold svs
 rw [List.map_map]
 exact (List.map_congr_left λ x _=>rfl).trans (List.map_id _)
def TabA (tb:List Sp):Prop:=Tab (svs tb)/\∀ s∈tb,∃ m:Nat,m<4/\s.1=8*(m:Int)
def gtA (tb:List Sp) (m:Nat):Int×List Int:=gt (svs tb) (8*(m:Int))
def mxAt (l:List T3) (m:Nat):T3:=(l[m]?).getD (0,0,0)
def mw (ω:Wv):Mw:=⟨ω.now,ω.progs,ω.cl,λ m=>⟨(mxAt ω.mx m).1,(mxAt ω.mx m).2.1,(mxAt ω.mx m).2.2,(gtA ω.tb m).1,(gtA ω.tb m).2⟩,ω.stop⟩
def zeroW:Wv:=⟨0,[],[],[],[],0⟩
def newW (l:List (List Ac)):Wv:=⟨0,l,l.map λ p=>first 0 false 0 p.length,[(0,0,0),(0,0,0),(0,0,0),(0,0,0)],[],0⟩
structure CRight (p:List Ac) (c:Cl):Prop where
 a0:0<=c.act
 a1:c.act<=p.length
 dn:c.act=p.length↔c.gst=2
 tk:0<=c.ticket/\c.ticket<4294967296
 sc:c.since=-1\/(0<=c.since/\c.since<=4611686018427387904)
 rd:0<=c.rounds/\c.rounds<=4
 ol:OkW c.old
 fin:c.act=p.length->c.pc=0/\c.worked=0
 at_:∀ k n,p[c.act.toNat]?=some (k,n)->OkPc k c.pc/\(c.worked=0\/(k=3/\0<c.worked/\c.worked<n))
structure RightW (ω:Wv):Prop where
 now:0<=ω.now/\ω.now<=4611686018427387904
 progs:P12.rightB ω.progs=true
 len:ω.cl.length=ω.progs.length
 m4:ω.mx.length=4
 tab:TabA ω.tb
 ids:∀ s∈ω.tb,∀ x∈s.2.2,x<(ω.cl.length:Int)
 gors:∀ c∈ω.cl,(c.gst=0\/c.gst=1\/c.gst=2)/\(c.permit=true->c.gst=0)
 cls:∀ (i:Nat) c p,ω.cl[i]?=some c->ω.progs[i]?=some p->CRight p c
 mxs:∀ x∈ω.mx,OkW x.1/\(0<=x.2.1/\x.2.1<4294967296)/\(0<=x.2.2/\x.2.2<4294967296)
 stop:ω.stop=0\/ω.stop=11\/ω.stop=12
def Still (ω:Wv) (who:Int):Prop:=ω.stop≠0\/who<0\/(ω.cl.length:Int)<=who\/∃ c,ω.cl[who.toNat]?=some c/\c.gst≠0
def NewM (l:List (List Ac)) (ψ:Wv) (x:Int):Prop:=(P12.rightB l=true/\ψ=newW l/\x=0)\/(P12.rightB l=false/\ψ=zeroW/\x=1)
def StepM (ω:Wv) (who:Int) (ψ:Wv) (ev:List T3) (x:Int):Prop :=
 (¬ RightW ω/\ψ=zeroW/\ev=[]/\x=1) \/
 (RightW ω/\Still ω who/\ψ=ω/\ev=[]/\x=0) \/
 (RightW ω/\¬ Still ω who/\ψ.mx.length=4/\TabA ψ.tb/\mw ψ=(stp (mw ω) who.toNat).1/\ev=(stp (mw ω) who.toNat).2.toList/\x=0)
def Tim (d:Int):Prop:=0<=d/\d<=4611686018427387904
def TickM (ω:Wv) (d:Int) (ψ:Wv) (x:Int):Prop :=
 (¬ (RightW ω/\Tim d)/\ψ=zeroW/\x=1) \/
 (RightW ω/\Tim d/\ω.stop≠0/\ψ=ω/\x=0) \/
 (RightW ω/\Tim d/\ω.stop=0/\ω.now+d<=4611686018427387904/\ψ={ ω with now:=ω.now+d }/\x=0) \/
 (RightW ω/\Tim d/\ω.stop=0/\4611686018427387904<ω.now+d/\ψ=zeroW/\x=10)
structure Mach:Prop where
 new:∀ (W:World) (A:Option Addr) (n c:Nat) (R:List PV),P15.Glob W->PMem W A n R->n<=9223372036854775807 ->
  Calls Tryz.prog 12 #[.slice A n c] W λ e W'=>(∃ (s:WR) (ψ:Wv) (x:Int),e=.returned (.tuple #[s.v,.int .i64 x])/\NewM (P12.pl R) ψ x/\WNew W.heap.size W' s ψ)/\Gr W W'
 step:∀ (W:World) (r:WR) (ω:Wv) (who:Int),P15.Glob W->WIs W r ω->B64 who ->
  Calls Tryz.prog 20 #[r.v,.int .i64 who] W λ e W'=>(∃ (s:WR) (ψ:Wv) (A:Option Addr) (n c:Nat) (ev:List T3) (x:Int),e=.returned (.tuple #[s.v,.slice A n c,.int .i64 x])/\StepM ω who ψ ev x/\WNew W.heap.size W' s ψ/\ENew W.heap.size W' A n ev/\n<=c/\c<=9223372036854775807)/\Gr W W'
 tick:∀ (W:World) (r:WR) (ω:Wv) (d:Int),P15.Glob W->WIs W r ω->B64 d ->
  Calls Tryz.prog 21 #[r.v,.int .i64 d] W λ e W'=>(∃ (s:WR) (ψ:Wv) (x:Int),e=.returned (.tuple #[s.v,.int .i64 x])/\TickM ω d ψ x/\WNew W.heap.size W' s ψ)/\Gr W W'
theorem right_facts {l:List (List Ac)} (h:P12.rightB l=true):l.length<=8/\∀ p∈l,p.length<=64/\∀ a∈p,P12.okA a=true:=by
 unfold P12.rightB at h
 simp only [Bool.and_eq_true,decide_eq_true_eq,List.all_eq_true] at h
 exact⟨h.1,λ p hp=>h.2 p hp⟩
theorem mxAt_get {l:List T3} {m:Nat} {x:T3} (h:l[m]?=some x):mxAt l m=x:=by unfold mxAt;rw [h];rfl
end P16
end
section
open Go.ChangeShapes Go.WideShapes Go.ChangeAt Go.RowKit
namespace P16
open P12 (PV PMem)
def ORow {α:Type} (en:α->List Value) (q:Nat) (W:World) (b o:Nat) (l:List α):Prop :=
 ∃ vs t,Blk W b vs t/\∀ i x,l[i]?=some x->∀ j v,(en x)[j]?=some v->vs[o+i*q+j]?=some v
section
variable {α:Type} {en:α->List Value} {q:Nat} {W W':World} {b o i j:Nat} {l:List α} {x y:α} {v:Value}
theorem ORow.lt (h:ORow en q W b o l):b<W.heap.size:=by obtain⟨_,_,h,_⟩:=h;exact h.lt
theorem ORow.kept (h:ORow en q W b o l) (e:W'.heap[b]?=W.heap[b]?):ORow en q W' b o l:=by
 obtain⟨vs,t,h,k⟩:=h
 exact⟨vs,t,by unfold Blk at *;rw [e];exact h,k⟩
theorem ORow.gr (h:ORow en q W b o l) (g:Gr W W'):ORow en q W' b o l:=h.kept (g.block b h.lt)
theorem ORow.st (h:ORow en q W b o l) {p:Addr} (hp:p.block≠b) (v:Value):ORow en q (W.setCell p v) b o l :=
 h.kept (Below.heap_setCell W p v b (λ e=>hp e.symm))
theorem ORow.at_ (h:ORow en q W b o l) (hi:l[i]?=some x) (hj:(en x)[j]?=some v):W.cell? ⟨b,o+i*q+j,none⟩=some v/\W.frozen? ⟨b,o+i*q+j,none⟩=false:=by
 obtain⟨vs,t,h,k⟩:=h
 exact h.at_ (k i x hi j v hj)
theorem ORow.put (h:ORow en q W b o l) (hq:∀ x,(en x).length=q) (hi:l[i]?=some x) (hj:j<q) (hy:en y=(en x).set j v):ORow en q (W.setCell ⟨b,o+i*q+j,none⟩ v) b o (l.set i y):=by
 obtain⟨vs,t,h,k⟩:=h
 have hlt:=(List.getElem?_eq_some_iff.1 hi).1
 have hsz:o+i*q+j<vs.size:=by
  have hjx:j<(en x).length:=by rw [hq];exact hj
  have:=k i x hi j _ (List.getElem?_eq_getElem hjx)
  exact (Array.getElem?_eq_some_iff.1 this).1
 refine⟨_,t,h.set _ v,λ i' x' hi' j' v' hj'=>?_⟩
 have hjl':j'<q:=by rw [<- hq x'];exact (List.getElem?_eq_some_iff.1 hj').1
 rw [Array.getElem?_setIfInBounds]
 by_cases hii:i'=i
 . subst hii
   rw [List.getElem?_set_self hlt] at hi'
   cases hi'
   rw [hy,List.getElem?_set] at hj'
   by_cases hjj:j'=j
   . subst hjj
     rw [if_pos rfl,if_pos (by rw [hq];exact hj)] at hj'
     rw [if_pos rfl,if_pos hsz]
     exact hj'
   . rw [if_neg (Ne.symm hjj)] at hj'
     rw [if_neg (by omega)]
     exact k _ x hi _ _ hj'
 . rw [List.getElem?_set_ne (Ne.symm hii)] at hi'
   have hne:o+i*q+j≠o+i'*q+j':=by
    intro e
    have e2:i*q+j=i'*q+j':=by omega
    have a1:(i*q+j) / q=i:=by rw [Nat.mul_comm,Nat.mul_add_div (by omega),Nat.div_eq_of_lt hj];omega
    have a2:(i'*q+j') / q=i':=by rw [Nat.mul_comm,Nat.mul_add_div (by omega),Nat.div_eq_of_lt hjl'];omega
    rw [e2,a2] at a1
    exact hii a1
   rw [if_neg hne]
   exact k _ x' hi' _ _ hj'
end
theorem clV_len (c:Cl):(clV c).length=13:=rfl
theorem t3V_len (x:T3):(t3V x).length=3:=rfl
structure Cx where
 B:Nat
 b:Nat
 bc:Nat
 oc:Nat
 bm:Nat
 om:Nat
 now:Int
 who:Int
 k:Int
 n:Int
 p:Sl
 nc:Nat
 cc:Nat
 cm:Nat
 progs:List (List Ac)
 st:Int
def Cx.i (x:Cx):Nat:=x.who.toNat
def Cx.m (x:Cx):Nat:=x.n.toNat
structure Kx (x:Cx) (W W':World):Prop where
 os:W'.os=W.os
 tape:W'.tape=W.tape
 output:W'.output=W.output
 size:W.heap.size<=W'.heap.size
 block:∀ k,k<W.heap.size->k≠x.b->k≠x.bc->k≠x.bm->W'.heap[k]?=W.heap[k]?
def Kb (x:Cx) (W W':World):Prop:=W.heap.size<=W'.heap.size/\∀ k,x.B<=k->k<W.heap.size->k≠x.b->k≠x.bc->k≠x.bm->W'.heap[k]?=W.heap[k]?
section
variable {x:Cx} {W W' W'':World}
theorem Kx.trans (h:Kx x W W') (g:Kx x W' W''):Kx x W W'' :=
 ⟨g.os.trans h.os,g.tape.trans h.tape,g.output.trans h.output,Nat.le_trans h.size g.size,λ k hk h1 h2 h3=>(g.block k (Nat.lt_of_lt_of_le hk h.size) h1 h2 h3).trans (h.block k hk h1 h2 h3)⟩
theorem Kx.gr (g:Gr W W'):Kx x W W':=⟨g.os,g.tape,g.output,g.size,λ k hk _ _ _=>g.block k hk⟩
theorem Kx.st {p:Addr} (hp:p.block=x.b\/p.block=x.bc\/p.block=x.bm) (v:Value):Kx x W (W.setCell p v) :=
 ⟨rfl,rfl,rfl,by simp [World.setCell],λ k hk h1 h2 h3=>Below.heap_setCell W p v k (by rcases hp with e | e | e<;>rw [e]<;>assumption)⟩
theorem Kx.kb (h:Kx x W W'):Kb x W W':=⟨h.size,λ k _=>h.block k⟩
theorem Kb.trans (h:Kb x W W') (g:Kb x W' W''):Kb x W W'' :=
 ⟨Nat.le_trans h.1 g.1,λ k hb hk h1 h2 h3=>(g.2 k hb (Nat.lt_of_lt_of_le hk h.1) h1 h2 h3).trans (h.2 k hb hk h1 h2 h3)⟩
theorem FromB.kb (h:FromB x.B W W'):Kb x W W':=⟨h.1,λ k hb hk _ _ _=>h.2 k hb hk⟩
theorem Kx.old {V:World} (g:Gr V W) (h:Kx x W W') (h1:V.heap.size<=x.b) (h2:V.heap.size<=x.bc) (h3:V.heap.size<=x.bm):Gr V W' :=
 ⟨h.os.trans g.os,h.tape.trans g.tape,h.output.trans g.output,Nat.le_trans g.size h.size,λ k hk=>(h.block k (Nat.lt_of_lt_of_le hk g.size) (by omega) (by omega) (by omega)).trans (g.block k hk)⟩
end
abbrev Cx.cells (x:Cx) (T E:Sl):Array Value :=
 #[.int .i64 x.now,.slice x.p.A x.p.n x.p.c,.slice (some ⟨x.bc,x.oc,none⟩) x.nc x.cc,.slice (some ⟨x.bm,x.om,none⟩) 4 x.cm,.slice T.A T.n T.c,.int .i64 x.st,.int .i64 x.who,.pointer (some ⟨x.bc,x.oc+x.who.toNat*13,none⟩),.int .i64 x.k,.int .i64 x.n,.slice E.A E.n E.c]
structure TS (x:Cx) (W:World) (T E:Sl) (cl:List Cl) (mx:List T3) (tb:List Sp) (ev:List T3):Prop where
 lb:x.B<=x.b
 lc:x.B<=x.bc
 lm:x.B<=x.bm
 n1:x.b≠x.bc
 n2:x.b≠x.bm
 n3:x.bc≠x.bm
 t:Blk W x.b (x.cells T E) 99
 c:ORow clV 13 W x.bc x.oc cl
 m:ORow t3V 3 W x.bm x.om mx
 cb:∀ c∈cl,CB c
 mb:∀ c∈mx,TB3 c
 lenc:cl.length=x.nc
 lenm:mx.length=4
 pr:∀ W',Kb x W W'->∃ R,PMem W' x.p.A x.p.n R/\P12.pl R=x.progs
 tb:∀ W',Kb x W W'->∃ S,SMem W' T.A T.n S/\S.map SV.pl=tb
 ev:∀ W',Kb x W W'->T3Mem W' E.A E.n ev
 op:x.p.ok
 ot:T.ok
 oe:E.ok
 oc:x.nc<=x.cc/\x.cc<=9223372036854775807
 om:4<=x.cm/\x.cm<=9223372036854775807
 w0:0<=x.who
 w1:x.who<x.nc
 wi:B64 x.who
 ni:B64 x.n
 kt:B64 x.now
section
variable {x:Cx} {W W':World} {T E:Sl} {cl:List Cl} {mx:List T3} {tb:List Sp} {ev:List T3} {c d:Cl} {a:T3} {j:Nat} {v:Value}
theorem TS.gr (h:TS x W T E cl mx tb ev) (g:Gr W W'):TS x W' T E cl mx tb ev :=
 { h with t:=h.t.gr g,c:=h.c.gr g,m:=h.m.gr g,pr:=λ _ k=>h.pr _ ((Kx.gr g).kb.trans k),tb:=λ _ k=>h.tb _ ((Kx.gr g).kb.trans k),ev:=λ _ k=>h.ev _ ((Kx.gr g).kb.trans k) }
theorem TS.putC (h:TS x W T E cl mx tb ev) {i:Nat} (hc:cl[i]?=some c) (j:Nat) (v:Value) (d:Cl) (hd:clV d=(clV c).set j v) (hj:j<13) (hb:CB d):TS x (W.setCell ⟨x.bc,x.oc+i*13+j,none⟩ v) T E (cl.set i d) mx tb ev :=
 have k:Kx x W (W.setCell ⟨x.bc,x.oc+i*13+j,none⟩ v):=Kx.st (.inr (.inl rfl)) v
 { h with t:=h.t.st (p:=⟨x.bc,x.oc+i*13+j,none⟩) h.n1.symm v,c:=h.c.put clV_len hc hj hd,m:=h.m.st (p:=⟨x.bc,x.oc+i*13+j,none⟩) h.n3 v,cb:=(λ c hc=>(List.mem_or_eq_of_mem_set hc).elim (h.cb _) (λ e=>e▸hb)),lenc:=(List.length_set ..).trans h.lenc,pr:=λ _ q=>h.pr _ (k.kb.trans q),tb:=λ _ q=>h.tb _ (k.kb.trans q),ev:=λ _ q=>h.ev _ (k.kb.trans q) }
theorem TS.putC2 {i:Nat} {c0:Cl} (hc:cl[i]?=some c0) (h:TS x W T E (cl.set i c) mx tb ev) (j:Nat) (v:Value) (d:Cl) (hd:clV d=(clV c).set j v) (hj:j<13) (hb:CB d):TS x (W.setCell ⟨x.bc,x.oc+i*13+j,none⟩ v) T E (cl.set i d) mx tb ev:=by
 have q:=h.putC (c:=c) (by rw [List.getElem?_set_self (List.getElem?_eq_some_iff.1 hc).1]) j v d hd hj hb
 rwa [List.set_set] at q
theorem TS.putM (h:TS x W T E cl mx tb ev) {i:Nat} {a:T3} (ha:mx[i]?=some a) (j:Nat) (v:Value) (d:T3) (hd:t3V d=(t3V a).set j v) (hj:j<3) (hb:TB3 d):TS x (W.setCell ⟨x.bm,x.om+i*3+j,none⟩ v) T E cl (mx.set i d) tb ev :=
 have k:Kx x W (W.setCell ⟨x.bm,x.om+i*3+j,none⟩ v):=Kx.st (.inr (.inr rfl)) v
 { h with t:=h.t.st (p:=⟨x.bm,x.om+i*3+j,none⟩) h.n2.symm v,m:=h.m.put t3V_len ha hj hd,c:=h.c.st (p:=⟨x.bm,x.om+i*3+j,none⟩) h.n3.symm v,mb:=(λ c hc=>(List.mem_or_eq_of_mem_set hc).elim (h.mb _) (λ e=>e▸hb)),lenm:=(List.length_set ..).trans h.lenm,pr:=λ _ q=>h.pr _ (k.kb.trans q),tb:=λ _ q=>h.tb _ (k.kb.trans q),ev:=λ _ q=>h.ev _ (k.kb.trans q) }
theorem TS.putT (h:TS x W T E cl mx tb ev) {U:Sl} {ub:List Sp} (hu:∀ W',Kb x W W'->∃ S,SMem W' U.A U.n S/\S.map SV.pl=ub) (ok:U.ok):TS x (W.setCell ⟨x.b,4,none⟩ (.slice U.A U.n U.c)) U E cl mx ub ev :=
 have k:Kx x W (W.setCell ⟨x.b,4,none⟩ (.slice U.A U.n U.c)):=Kx.st (.inl rfl) _
 { h with t:=h.t.set 4 _,c:=h.c.st (p:=⟨x.b,4,none⟩) h.n1 _,m:=h.m.st (p:=⟨x.b,4,none⟩) h.n2 _,pr:=λ _ q=>h.pr _ (k.kb.trans q),tb:=λ _ q=>hu _ (k.kb.trans q),ev:=λ _ q=>h.ev _ (k.kb.trans q),ot:=ok }
theorem TS.putE (h:TS x W T E cl mx tb ev) {U:Sl} {l:List T3} (hu:∀ W',Kb x W W'->T3Mem W' U.A U.n l) (ok:U.ok):TS x (W.setCell ⟨x.b,10,none⟩ (.slice U.A U.n U.c)) T U cl mx tb l :=
 have k:Kx x W (W.setCell ⟨x.b,10,none⟩ (.slice U.A U.n U.c)):=Kx.st (.inl rfl) _
 { h with t:=h.t.set 10 _,c:=h.c.st (p:=⟨x.b,10,none⟩) h.n1 _,m:=h.m.st (p:=⟨x.b,10,none⟩) h.n2 _,pr:=λ _ q=>h.pr _ (k.kb.trans q),tb:=λ _ q=>h.tb _ (k.kb.trans q),ev:=λ _ q=>hu _ (k.kb.trans q),oe:=ok }
theorem TS.cells (h:TS x W T E cl mx tb ev) :
 (W.cell? ⟨x.b,0,none⟩=some (.int .i64 x.now))/\(W.cell? ⟨x.b,1,none⟩=some (.slice x.p.A x.p.n x.p.c))/\(W.cell? ⟨x.b,2,none⟩=some (.slice (some ⟨x.bc,x.oc,none⟩) x.nc x.cc)) /\
 (W.cell? ⟨x.b,3,none⟩=some (.slice (some ⟨x.bm,x.om,none⟩) 4 x.cm))/\(W.cell? ⟨x.b,4,none⟩=some (.slice T.A T.n T.c))/\(W.cell? ⟨x.b,5,none⟩=some (.int .i64 x.st)) /\
 (W.cell? ⟨x.b,6,none⟩=some (.int .i64 x.who))/\(W.cell? ⟨x.b,7,none⟩=some (.pointer (some ⟨x.bc,x.oc+x.who.toNat*13,none⟩)))/\(W.cell? ⟨x.b,8,none⟩=some (.int .i64 x.k)) /\
 (W.cell? ⟨x.b,9,none⟩=some (.int .i64 x.n))/\(W.cell? ⟨x.b,10,none⟩=some (.slice E.A E.n E.c))/\(∀ j,j<=10->W.frozen? ⟨x.b,j,none⟩=false):=by
 refine⟨(h.t.at_ rfl).1,(h.t.at_ rfl).1,(h.t.at_ rfl).1,(h.t.at_ rfl).1,(h.t.at_ rfl).1,(h.t.at_ rfl).1,(h.t.at_ rfl).1,(h.t.at_ rfl).1,(h.t.at_ rfl).1,(h.t.at_ rfl).1,(h.t.at_ rfl).1,λ j hj=>?_⟩
 have:j<(x.cells T E).size:=by show j<11;omega
 exact (h.t.at_ (Array.getElem?_eq_getElem this)).2
theorem TS.cl_ (h:TS x W T E cl mx tb ev) {i:Nat} (hc:cl[i]?=some c) :
 (W.cell? ⟨x.bc,x.oc+i*13,none⟩=some (.int .i64 c.gst))/\(W.cell? ⟨x.bc,x.oc+i*13+1,none⟩=some (.bool c.permit))/\(W.cell? ⟨x.bc,x.oc+i*13+2,none⟩=some (.int .i64 c.act)) /\
 (W.cell? ⟨x.bc,x.oc+i*13+3,none⟩=some (.int .i64 c.pc))/\(W.cell? ⟨x.bc,x.oc+i*13+4,none⟩=some (.int .i64 c.worked))/\(W.cell? ⟨x.bc,x.oc+i*13+5,none⟩=some (.int .i64 c.ticket)) /\
 (W.cell? ⟨x.bc,x.oc+i*13+6,none⟩=some (.bool c.first))/\(W.cell? ⟨x.bc,x.oc+i*13+7,none⟩=some (.bool c.told))/\(W.cell? ⟨x.bc,x.oc+i*13+8,none⟩=some (.int .i64 c.since)) /\
 (W.cell? ⟨x.bc,x.oc+i*13+9,none⟩=some (.bool c.st))/\(W.cell? ⟨x.bc,x.oc+i*13+10,none⟩=some (.bool c.aw))/\(W.cell? ⟨x.bc,x.oc+i*13+11,none⟩=some (.int .i64 c.rounds)) /\
 (W.cell? ⟨x.bc,x.oc+i*13+12,none⟩=some (.int .i64 c.old))/\(∀ j,j<13->W.frozen? ⟨x.bc,x.oc+i*13+j,none⟩=false):=by
 refine⟨(h.c.at_ (j:=0) hc rfl).1,(h.c.at_ (j:=1) hc rfl).1,(h.c.at_ (j:=2) hc rfl).1,(h.c.at_ (j:=3) hc rfl).1,(h.c.at_ (j:=4) hc rfl).1,(h.c.at_ (j:=5) hc rfl).1,(h.c.at_ (j:=6) hc rfl).1,(h.c.at_ (j:=7) hc rfl).1,(h.c.at_ (j:=8) hc rfl).1,(h.c.at_ (j:=9) hc rfl).1,(h.c.at_ (j:=10) hc rfl).1,(h.c.at_ (j:=11) hc rfl).1,(h.c.at_ (j:=12) hc rfl).1,λ j hj=>?_⟩
 have:j<(clV c).length:=by rw [clV_len];exact hj
 exact (h.c.at_ hc (List.getElem?_eq_getElem this)).2
theorem TS.mx_ (h:TS x W T E cl mx tb ev) {i:Nat} (ha:mx[i]?=some a) :
 (W.cell? ⟨x.bm,x.om+i*3,none⟩=some (.int .i64 a.1))/\(W.cell? ⟨x.bm,x.om+i*3+1,none⟩=some (.int .i64 a.2.1))/\(W.cell? ⟨x.bm,x.om+i*3+2,none⟩=some (.int .i64 a.2.2)) /\
 (∀ j,j<3->W.frozen? ⟨x.bm,x.om+i*3+j,none⟩=false):=by
 refine⟨(h.m.at_ (j:=0) ha rfl).1,(h.m.at_ (j:=1) ha rfl).1,(h.m.at_ (j:=2) ha rfl).1,λ j hj=>?_⟩
 have:j<(t3V a).length:=by rw [t3V_len];exact hj
 exact (h.m.at_ ha (List.getElem?_eq_getElem this)).2
end
end P16
end
section
open Go.ChangeShapes Go.WideShapes Go.ChangeAt Go.RowKit Go.Deep
namespace P11
abbrev G:=Int×Bool
def flat:List G->List Value
 | []=>[]
 | x::r=>.int .i64 x.1::.bool x.2::flat r
theorem flat_len (l:List G):(flat l).length=l.length*2:=by
 induction l with
 | nil=>rfl
 | cons x r ih=>simp [flat,ih];omega
theorem flat_get0:∀ (l:List G) (i:Nat) (x:G),l[i]?=some x->(flat l)[i*2]?=some (.int .i64 x.1)
 | [],i,x,h=>by simp at h
 | y::r,0,x,h=>by simp at h;subst h;rfl
 | y::r,i+1,x,h=>by
  rw [show (i+1)*2=i*2+1+1 from by omega]
  simpa [flat] using flat_get0 r i x (by simpa using h)
theorem flat_get1:∀ (l:List G) (i:Nat) (x:G),l[i]?=some x->(flat l)[i*2+1]?=some (.bool x.2)
 | [],i,x,h=>by simp at h
 | y::r,0,x,h=>by simp at h;subst h;rfl
 | y::r,i+1,x,h=>by
  rw [show (i+1)*2+1=i*2+1+1+1 from by omega]
  simpa [flat] using flat_get1 r i x (by simpa using h)
theorem flat_one (l:List G):∀ u∈flat l,u.oneCell'=true:=by
 induction l with
 | nil=>simp [flat]
 | cons x r ih =>
  intro u hu
  simp only [flat,List.mem_cons] at hu
  rcases hu with rfl | rfl | hu
  . rfl
  . rfl
  . exact ih u hu
theorem flat_set1:∀ (l:List G) (i:Nat) (x:G) (v:Int),l[i]?=some x->flat (l.set i (v,x.2))=(flat l).set (i*2) (.int .i64 v)
 | [],i,x,v,h=>by simp at h
 | y::r,0,x,v,h=>by simp at h;subst h;rfl
 | y::r,i+1,x,v,h=>by
  rw [show (i+1)*2=i*2+1+1 from by omega]
  simpa [flat] using flat_set1 r i x v (by simpa using h)
theorem flat_set2:∀ (l:List G) (i:Nat) (x:G) (v:Bool),l[i]?=some x->flat (l.set i (x.1,v))=(flat l).set (i*2+1) (.bool v)
 | [],i,x,v,h=>by simp at h
 | y::r,0,x,v,h=>by simp at h;subst h;rfl
 | y::r,i+1,x,v,h=>by
  rw [show (i+1)*2+1=i*2+1+1+1 from by omega]
  simpa [flat] using flat_set2 r i x v (by simpa using h)
theorem flat_inv:∀ (l:List G) (j:Nat) (u:Value),(flat l)[j]?=some u->∃ i x,l[i]?=some x/\((j=i*2/\u=.int .i64 x.1)\/(j=i*2+1/\u=.bool x.2))
 | [],j,u,h=>by simp [flat] at h
 | x::r,0,u,h=>by simp [flat] at h;exact⟨0,x,rfl,.inl ⟨rfl,h.symm⟩⟩
 | x::r,1,u,h=>by simp [flat] at h;exact⟨0,x,rfl,.inr ⟨rfl,h.symm⟩⟩
 | x::r,j+2,u,h=>by
  obtain⟨i,y,hy,h⟩:=flat_inv r j u (by simpa [flat] using h)
  refine⟨i+1,y,by simpa using hy,?_⟩
  rcases h with ⟨rfl,rfl⟩ | ⟨rfl,rfl⟩
  . exact .inl ⟨by omega,rfl⟩
  . exact .inr ⟨by omega,rfl⟩
def GMem (w:World) (A:Option Addr) (n:Nat) (l:List G):Prop :=
 l.length=n/\(∀ x∈l,B64 x.1)/\(0<n->∃ b off,A=some ⟨b,off,none⟩/\b<w.heap.size/\∀ j u,(flat l)[j]?=some u->w.cell? ⟨b,off+j,none⟩=some u)
def Late (B:Nat) (A:Option Addr):Prop:=∀ k,A.map (·.block)=some k->B<=k
section
variable {w w':World} {A:Option Addr} {n:Nat} {l:List G}
theorem GMem.nil_:GMem w A 0 []:=⟨rfl,by simp,λ h=>absurd h (by omega)⟩
theorem GMem.gr (h:GMem w A n l) (g:Gr w w'):GMem w' A n l :=
 ⟨h.1,h.2.1,λ hn=>by
   obtain⟨b,off,e,hb,hc⟩:=h.2.2 hn
   exact⟨b,off,e,Nat.lt_of_lt_of_le hb g.size,λ j u hu=>(g.cell (p:=⟨b,off+j,none⟩) hb).trans (hc j u hu)⟩⟩
theorem GMem.at_ {k:Nat} (h:GMem w A n l) (hk:k<n) :
 ∃ b off x,A=some ⟨b,off,none⟩/\b<w.heap.size/\l[k]?=some x/\B64 x.1/\w.cell? ⟨b,off+k*2,none⟩=some (.int .i64 x.1)/\w.cell? ⟨b,off+k*2+1,none⟩=some (.bool x.2):=by
 obtain⟨b,off,e,hb,hc⟩:=h.2.2 (by omega)
 have hl:k<l.length:=by have:=h.1;omega
 have hx:l[k]?=some l[k]:=List.getElem?_eq_getElem hl
 exact⟨b,off,l[k],e,hb,hx,h.2.1 l[k] (List.getElem_mem hl),hc _ _ (flat_get0 l k _ hx),hc _ _ (flat_get1 l k _ hx)⟩
theorem GMem.of_blk {g:Nat} {vs:Array Value} {t:TypeId} (h:Blk w g vs t) (hv:vs.toList=flat l) (hb:∀ x∈l,B64 x.1):GMem w (some ⟨g,0,none⟩) l.length l :=
 ⟨rfl,hb,λ _=>⟨g,0,rfl,h.lt,λ j u hu=>by
   rw [Nat.zero_add]
   refine (h.at_ ?_).1
   rw [<- hv] at hu
   simpa using hu⟩⟩
end
theorem infoGor:(Tryz.prog.info? 51).map (λ i=>(i.zero,i.size,i.bytes))=some (some (.agg #[.int .i64 0,.bool false]),2,16):=by kernel_rfl
def okG (x:G):Bool:=decide (0<=x.1)&&decide (x.1<=2)&&(!x.2||x.1==0)
def rightB (l:List G):Bool:=decide (l.length<=8)&&l.all okG
def pkG (x:G):Int×G:=if x.1=0 then (0,(if x.2 then 0 else 1,false)) else (6,x)
def rdG (x:G):Int×G:=if x.1=2 then (6,x) else if x.2 then (7,x) else (0,(0,x.1==0))
def enG (x:G):Int×G:=if x.1=0 then (0,(2,false)) else (6,x)
def outc (p:G->Int×G) (l:List G) (who:Int):Int×List G :=
 if rightB l=false then (1,[]) else if who<0 then (3,[]) else
 match l[who.toNat]? with
 | none=>(3,[])
 | some x=>if (p x).1=0 then (0,l.set who.toNat (p x).2) else ((p x).1,[])
theorem outc_arg {p:G->Int×G} {l:List G} {who:Int} (h:rightB l=false):outc p l who=(1,[]):=by simp [outc,h]
theorem outc_range {p:G->Int×G} {l:List G} {who:Int} (h:rightB l=true) (hw:who<0\/(l.length:Int)<=who):outc p l who=(3,[]):=by
 unfold outc
 rw [if_neg (by simp [h])]
 split
 . rfl
 . rw [List.getElem?_eq_none (by omega)]
theorem outc_at {p:G->Int×G} {l:List G} {k:Nat} {x:G} (h:rightB l=true) (hx:l[k]?=some x) :
 outc p l (k:Int)=if (p x).1=0 then (0,l.set k (p x).2) else ((p x).1,[]):=by
 unfold outc
 rw [if_neg (by simp [h]),if_neg (by omega),Int.toNat_natCast,hx]
end P11
end
section
open Go.ChangeShapes Go.WideShapes Go.ChangeAt Go.RowKit
namespace P11
theorem unfit_ok (x:G) (w:World):Calls Tryz.prog 77 #[.agg #[.int .i64 x.1,.bool x.2]] w λ e w'=>e=.returned (.bool (!okG x))/\Gr w w':=by
 obtain⟨s,p⟩:=x
 by_cases h0:s<0
 . have HO:=hid (show okG (s,p)=false by simp [okG];omega)
   go_enter Tryz.func77,Tryz.ntmps77
   go_wp2_with fail
   go_ret
   rw [HO.out]
   exact⟨rfl,(Gr.refl w).al _⟩
 . by_cases h2:2<s
   . have HO:=hid (show okG (s,p)=false by simp [okG];omega)
     go_enter Tryz.func77,Tryz.ntmps77
     go_wp2_with fail
     go_ret
     rw [HO.out]
     exact⟨rfl,(Gr.refl w).al _⟩
   . cases p
     . have HO:=hid (show okG (s,false)=true by simp [okG];omega)
       go_enter Tryz.func77,Tryz.ntmps77
       go_wp2_with fail
       go_ret
       rw [HO.out]
       exact⟨rfl,(Gr.refl w).al _⟩
     . have hz:(s==0)=okG (s,true):=by simp only [okG];rw [decide_eq_true (by omega),decide_eq_true (by omega)];simp
       have HZ:=hid hz
       obtain⟨B,hB⟩:∃ B,(s==0)=B:=⟨_,rfl⟩
       have hB':(s != 0)=!B:=by simp [bne,hB]
       rw [hB] at HZ
       clear hz
       go_enter Tryz.func77,Tryz.ntmps77
       go_wp2_with fail
       go_ret
       rw [<- HZ.out]
       exact⟨rfl,(Gr.refl w).al _⟩
def badAt:List G->Nat->Int
 | [],_=>-1
 | x::r,k=>if okG x then badAt r (k+1) else k
theorem unfit_is {x:G} {B:Bool} (h:okG x=B) (w:World):Calls Tryz.prog 77 #[.agg #[.int .i64 x.1,.bool x.2]] w λ e w'=>e=.returned (.bool (!B))/\Gr w w':=h▸unfit_ok x w
theorem IndexFunc_ok (A:Option Addr) (n c:Nat) (l:List G) (w:World) (hm:GMem w A n l) (hn:n<=9223372036854775807) :
 Calls Tryz.prog 115 #[.slice A n c,.func (.func 77) #[] #[]] w λ e w'=>e=.returned (.int .i64 (badAt l 0))/\Gr w w':=by
 go_enter Tryz.func115,Tryz.ntmps115
 go_wp2_with fail
 go_loopw [8] (λ i wr=>∃ k:Nat,k<=n/\i=.int .i64 k/\Hid (badAt (l.drop k) k=badAt l 0)/\Gr w wr) (λ i _=>n-(intOf i).toNat)
 case atStart=>exact⟨0,Nat.zero_le _,rfl,hid rfl,Gr.refl _⟩
 case round =>
  obtain⟨k,hk,rfl,HB,hg⟩:=hrel
  by_cases hlt:k<n
  . obtain⟨b,off,x,rfl,hbl,hx,h1,c0,c1⟩:=(hm.gr hg).at_ hlt
    have hd:l.drop k=x::l.drop (k+1):=by
     obtain⟨hl,rfl⟩:=List.getElem?_eq_some_iff.1 hx
     exact List.drop_eq_getElem_cons hl
    cases hf:okG x
    . have hr:badAt l 0=(k:Int):=by rw [<- HB.out,hd];simp [badAt,hf]
      have cc:=λ w=>hid (unfit_is hf w)
      have HR:=hid hr
      clear hr hd hf hx HB hm
      go_wp2_with fail
      refine (cc _).out.mono ?_
      rintro e w1 ⟨rfl,hb1⟩
      go_wp2_with fail
      go_ret
      rw [HR.out]
      exact⟨rfl,hg.trans hb1⟩
    . have hr:Hid (badAt (l.drop (k+1)) (k+1)=badAt l 0):=hid (by rw [<- HB.out,hd];simp [badAt,hf])
      have cc:=λ w=>hid (unfit_is hf w)
      clear hd hf hx HB hm
      go_wp2_with fail
      refine (cc _).out.mono ?_
      rintro e w1 ⟨rfl,hb1⟩
      go_wp2_with fail
      go_roundw
      case rel=>exact⟨k+1,by omega,by go_num,hr,hg.trans hb1⟩
      case measure=>simp [intOf];omega
  . obtain rfl:k=n:=by omega
    have hr:badAt l 0=-1:=by rw [<- HB.out,List.drop_of_length_le (by have:=hm.1;omega)];rfl
    have HR:=hid hr
    clear hr HB hm
    go_wp2_with fail
    go_ret
    rw [HR.out]
    exact⟨rfl,hg⟩
theorem badAt_is (l:List G):∀ k:Nat,decide (0<=badAt l k)=!l.all okG:=by
 induction l with
 | nil=>intro k;rfl
 | cons x r ih =>
  intro k
  unfold badAt
  cases hx:okG x
  . simp [hx]
  . simp [hx,ih]
theorem ret_bool {a b:Bool} (h:a=b):Ending.returned (.bool a)=.returned (.bool b):=by rw [h]
theorem ContainsFunc_ok (A:Option Addr) (n c:Nat) (l:List G) (w:World) (hm:GMem w A n l) (hn:n<=9223372036854775807) :
 Calls Tryz.prog 76 #[.slice A n c,.func (.func 77) #[] #[]] w λ e w'=>e=.returned (.bool (!l.all okG))/\Gr w w':=by
 have cc:=λ w hm=>hid (IndexFunc_ok A n c l w hm hn)
 have HB:=hid (badAt_is l 0)
 generalize badAt l 0=r at *
 go_enter Tryz.func76,Tryz.ntmps76
 go_wp2_with fail
 refine (cc _ hm).out.mono ?_
 rintro e w1 ⟨rfl,hb1⟩
 go_wp2_with fail
 go_ret
 exact⟨ret_bool HB.out,hb1⟩
theorem Right_ok (A:Option Addr) (n c:Nat) (l:List G) (w:World) (hm:GMem w A n l) (hn:n<=9223372036854775807) :
 Calls Tryz.prog 47 #[.slice A n c] w λ e w'=>e=.returned (.bool (rightB l))/\Gr w w':=by
 by_cases h64:n<=8
 . have hr:rightB l=l.all okG:=by simp [rightB,hm.1,h64]
   have cc:=λ w hm=>hid (ContainsFunc_ok A n c l w hm hn)
   have HR:=hid hr
   clear hr
   generalize l.all okG=B at *
   go_enter Tryz.func47,Tryz.ntmps47
   go_wp2_with fail
   refine (cc _ hm).out.mono ?_
   rintro e w1 ⟨rfl,hb1⟩
   go_wp2_with fail
   go_ret
   rw [HR.out]
   exact⟨ret_bool (by simp),hb1⟩
 . have hr:rightB l=false:=by simp [rightB,hm.1,h64]
   have HR:=hid hr
   have h65:decide (n<=8)=false:=by simpa using h64
   clear hr
   go_enter Tryz.func47,Tryz.ntmps47
   go_wp2_with fail
   go_ret
   rw [HR.out]
   exact⟨rfl,Gr.refl _⟩
theorem Right_is {A:Option Addr} {n c:Nat} {l:List G} {r:Bool} (hr:rightB l=r) (hn:n<=9223372036854775807) (w:World) (hm:GMem w A n l) :
 Calls Tryz.prog 47 #[.slice A n c] w λ e w'=>e=.returned (.bool r)/\Gr w w':=hr▸Right_ok A n c l w hm hn
def Chosen (w:World) (cp g k:Nat) (l:List G):Prop :=
 cp≠g/\Blk w cp #[.slice (some ⟨g,0,none⟩) l.length l.length,.pointer (some ⟨g,k*2,none⟩),.int .i64 0] 178/\∃ vs,Blk w g vs 51/\vs.toList=flat l
def chg (p:G->Int×G) (l:List G) (k:Nat) (x:G):List G:=if (p x).1=0 then l.set k (p x).2 else l
theorem chg_no {p:G->Int×G} {l:List G} {k:Nat} {x:G} {e:Int} {y:G} (h:p x=(e,y)) (he:e≠0):chg p l k x=l:=by simp [chg,h,he]
theorem chg_yes {p:G->Int×G} {l:List G} {k:Nat} {x y:G} (h:p x=(0,y)):chg p l k x=l.set k y:=by simp [chg,h]
def ChgIs (F:Nat) (p:G->Int×G):Prop :=
 ∀ (w:World) (base cp g k:Nat) (l:List G) (x:G),Chosen w cp g k l->l[k]?=some x->base<=g->Calls Tryz.prog F #[.pointer (some ⟨cp,0,none⟩)] w λ e w' =>
  e=.returned (.int .i64 (p x).1)/\Below base w w'/\Chosen w' cp g k (chg p l k x)
section
variable {w:World} {cp g k:Nat} {l:List G} {x:G}
theorem Chosen.facts (h:Chosen w cp g k l) (hx:l[k]?=some x) :
 w.cell? ⟨cp,1,none⟩=some (.pointer (some ⟨g,k*2,none⟩))/\w.cell? ⟨g,k*2,none⟩=some (.int .i64 x.1)/\w.cell? ⟨g,k*2+1,none⟩=some (.bool x.2) /\
 w.frozen? ⟨g,k*2,none⟩=false/\w.frozen? ⟨g,k*2+1,none⟩=false/\cp<w.heap.size/\g<w.heap.size:=by
 obtain⟨hne,hc,vs,hg,hv⟩:=h
 have h0:vs[k*2]?=some (.int .i64 x.1):=by have:=flat_get0 l k x hx;rw [<- hv] at this;simpa using this
 have h1:vs[k*2+1]?=some (.bool x.2):=by have:=flat_get1 l k x hx;rw [<- hv] at this;simpa using this
 exact⟨(hc.at_ rfl).1,(hg.at_ h0).1,(hg.at_ h1).1,(hg.at_ h0).2,(hg.at_ h1).2,hc.lt,hg.lt⟩
theorem Chosen.set1 (h:Chosen w cp g k l) (hx:l[k]?=some x) (v:Int):Chosen (w.setCell ⟨g,k*2,none⟩ (.int .i64 v)) cp g k (l.set k (v,x.2)):=by
 obtain⟨hne,hc,vs,hg,hv⟩:=h
 rw [Chosen,List.length_set]
 exact⟨hne,hc.st (p:=⟨g,k*2,none⟩) (Ne.symm hne) _,_,hg.set (k*2) _,by rw [Array.toList_setIfInBounds,hv,flat_set1 l k x v hx]⟩
theorem Chosen.set2 (h:Chosen w cp g k l) (hx:l[k]?=some x) (v:Bool):Chosen (w.setCell ⟨g,k*2+1,none⟩ (.bool v)) cp g k (l.set k (x.1,v)):=by
 obtain⟨hne,hc,vs,hg,hv⟩:=h
 rw [Chosen,List.length_set]
 exact⟨hne,hc.st (p:=⟨g,k*2+1,none⟩) (Ne.symm hne) _,_,hg.set (k*2+1) _,by rw [Array.toList_setIfInBounds,hv,flat_set2 l k x v hx]⟩
theorem Chosen.drew (h:Chosen w cp g k l):Chosen w.drew cp g k l:=h
end
end P11
end
end Go.Proofs.YtainfijdhcehlaaGreatDoor
