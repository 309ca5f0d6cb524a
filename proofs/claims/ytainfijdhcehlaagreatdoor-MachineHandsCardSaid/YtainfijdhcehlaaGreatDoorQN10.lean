/-
  A part of the proof.
-/
import Derived.Test.YtainfijdhcehlaaGreatDoorQN9
import Derived.Laws.StructEq
import Derived.Lib.AtoiAll
import Derived.Lib.CutLaws
import Derived.Deep.RegionHeld3
import Derived.RegionTactic
import Derived.BigQuiet
import Derived.Deep.QuietTactic
import Derived.Laws.BytesArg
set_option linter.all false
set_option maxRecDepth 100000
set_option maxHeartbeats 8000000
namespace Go.Proofs.YtainfijdhcehlaaGreatDoor
open Lib (hid)
section
open Go.ChangeShapes Go.WideShapes Go.ChangeAt Go.RowKit
namespace P16
open P12 (PV PMem)
def FromB (B:Nat) (W W':World):Prop:=W.heap.size<=W'.heap.size/\∀ k,B<=k->k<W.heap.size->W'.heap[k]?=W.heap[k]?
section
variable {B B':Nat} {W W' W'':World}
theorem FromB.refl:FromB B W W:=⟨Nat.le_refl _,λ _ _ _=>rfl⟩
theorem FromB.trans (h:FromB B W W') (k:FromB B W' W''):FromB B W W'' :=
 ⟨Nat.le_trans h.1 k.1,λ j h1 h2=>(k.2 j h1 (Nat.lt_of_lt_of_le h2 h.1)).trans (h.2 j h1 h2)⟩
theorem FromB.up (h:FromB B W W') (hb:B<=B'):FromB B' W W':=⟨h.1,λ k h1 h2=>h.2 k (Nat.le_trans hb h1) h2⟩
theorem FromB.gr (g:Gr W W'):FromB B W W':=⟨g.size,λ k _ h=>g.block k h⟩
theorem FromB.st {p:Addr} (hp:p.block<B) (u:Value):FromB B W (W.setCell p u) :=
 ⟨by simp [World.setCell],λ k h1 _=>Below.heap_setCell W p u k (by omega)⟩
def WNew (B:Nat) (W:World) (r:WR) (ω:Wv):Prop:=∀ W',FromB B W W'->WIs W' r ω
variable {r:WR} {ω:Wv}
theorem WNew.is (h:WNew B W r ω):WIs W r ω:=h W FromB.refl
theorem WNew.to (h:WNew B W r ω) (g:FromB B W W'):WNew B W' r ω:=λ _ k=>h _ (g.trans k)
theorem WNew.gr (h:WNew B W r ω) (g:Gr W W'):WNew B W' r ω:=h.to (FromB.gr g)
theorem WNew.low (h:WNew B W r ω) (hb:B'<=B):WNew B' W r ω:=λ _ k=>h _ (k.up hb)
def ENew (B:Nat) (W:World) (A:Option Addr) (n:Nat) (l:List T3):Prop:=∀ W',FromB B W W'->T3Mem W' A n l
variable {A:Option Addr} {n:Nat} {l:List T3}
theorem ENew.is (h:ENew B W A n l):T3Mem W A n l:=h W FromB.refl
theorem ENew.to (h:ENew B W A n l) (g:FromB B W W'):ENew B W' A n l:=λ _ k=>h _ (g.trans k)
theorem ENew.gr (h:ENew B W A n l) (g:Gr W W'):ENew B W' A n l:=h.to (FromB.gr g)
theorem ENew.low (h:ENew B W A n l) (hb:B'<=B):ENew B' W A n l:=λ _ k=>h _ (k.up hb)
theorem ENew.nil:ENew B W none 0 []:=λ _ _=>RMem.nil_
theorem FromB.put6 {b:Nat} (hb:b<B) (x0 x1 x2 x3 x4 x5:Value):FromB B W ((((((W.setCell ⟨b,0,none⟩ x0).setCell ⟨b,1,none⟩ x1).setCell ⟨b,2,none⟩ x2).setCell ⟨b,3,none⟩ x3).setCell ⟨b,4,none⟩ x4).setCell ⟨b,5,none⟩ x5) :=
 ((((((FromB.st (p:=⟨b,0,none⟩) hb x0).trans (FromB.st (p:=⟨b,1,none⟩) hb x1)).trans (FromB.st (p:=⟨b,2,none⟩) hb x2)).trans (FromB.st (p:=⟨b,3,none⟩) hb x3)).trans (FromB.st (p:=⟨b,4,none⟩) hb x4)).trans (FromB.st (p:=⟨b,5,none⟩) hb x5))
end
def svs (tb:List Sp):List SV:=tb.map λ s=>⟨s.1,s.2.1,none,0,0,s.2.2⟩
theorem svs_pl (tb:List Sp):(svs tb).map SV.pl=tb:=by
 unfold svs
 rw [List.map_map]
 exact (List.map_congr_left λ x _=>rfl).trans (List.map_id _)
def TabA (tb:List Sp):Prop:=Tab (svs tb)/\∀ s∈tb,∃ m:Nat,m<4/\s.1=8*(m:Int)
def gtA (tb:List Sp) (m:Nat):Int×List Int:=gt (svs tb) (8*(m:Int))
def mxAt (l:List T3) (m:Nat):T3:=(l[m]?).getD (0,0,0)
def mw (ω:Wv):Mw:=⟨ω.now,ω.progs,ω.cl,λ m=>⟨(mxAt ω.mx m).1,(mxAt ω.mx m).2.1,(mxAt ω.mx m).2.2,(gtA ω.tb m).1,(gtA ω.tb m).2⟩,ω.stop⟩
def zeroW:Wv:=⟨0,[],[],[],[],0⟩
def newW (l:List (List Ac)):Wv:=⟨0,l,l.map λ p=>first 0 false 0 p.length,[(0,0,0),(0,0,0),(0,0,0),(0,0,0)],[],0⟩
theorem mxAt_zero (m:Nat):mxAt [(0,0,0),(0,0,0),(0,0,0),(0,0,0)] m=(0,0,0):=by
 unfold mxAt
 match m with
 | 0=>rfl
 | 1=>rfl
 | 2=>rfl
 | 3=>rfl
 | n+4=>rfl
theorem mw_new (l:List (List Ac)):mw (newW l)=P16.new l:=by
 unfold mw newW P16.new
 congr 1
 funext m
 dsimp only
 rw [mxAt_zero]
 rfl
structure CRight (p:List Ac) (c:Cl):Prop where
 a0:0<=c.act
 a1:c.act<=p.length
 dn:c.act=p.length↔c.gst=2
 tk:0<=c.ticket/\c.ticket<4294967296
 sc:c.since=-1\/(0<=c.since/\c.since<=4611686018427387904)
 rd:0<=c.rounds/\c.rounds<=4
 ol:OkW c.old
 fin:c.act=p.length->c.pc=0/\c.worked=0
 at_:∀ k n,p[c.act.toNat]?=some (k,n)->OkPc k c.pc/\(c.worked=0\/(k=3/\0<c.worked/\c.worked<n))
structure RightW (ω:Wv):Prop where
 now:0<=ω.now/\ω.now<=4611686018427387904
 progs:P12.rightB ω.progs=true
 len:ω.cl.length=ω.progs.length
 m4:ω.mx.length=4
 tab:TabA ω.tb
 ids:∀ s∈ω.tb,∀ x∈s.2.2,x<(ω.cl.length:Int)
 gors:∀ c∈ω.cl,(c.gst=0\/c.gst=1\/c.gst=2)/\(c.permit=true->c.gst=0)
 cls:∀ (i:Nat) c p,ω.cl[i]?=some c->ω.progs[i]?=some p->CRight p c
 mxs:∀ x∈ω.mx,OkW x.1/\(0<=x.2.1/\x.2.1<4294967296)/\(0<=x.2.2/\x.2.2<4294967296)
 stop:ω.stop=0\/ω.stop=11\/ω.stop=12
def Still (ω:Wv) (who:Int):Prop:=ω.stop≠0\/who<0\/(ω.cl.length:Int)<=who\/∃ c,ω.cl[who.toNat]?=some c/\c.gst≠0
def NewM (l:List (List Ac)) (ψ:Wv) (x:Int):Prop:=(P12.rightB l=true/\ψ=newW l/\x=0)\/(P12.rightB l=false/\ψ=zeroW/\x=1)
def StepM (ω:Wv) (who:Int) (ψ:Wv) (ev:List T3) (x:Int):Prop :=
 (¬ RightW ω/\ψ=zeroW/\ev=[]/\x=1) \/
 (RightW ω/\Still ω who/\ψ=ω/\ev=[]/\x=0) \/
 (RightW ω/\¬ Still ω who/\ψ.mx.length=4/\TabA ψ.tb/\mw ψ=(stp (mw ω) who.toNat).1/\ev=(stp (mw ω) who.toNat).2.toList/\x=0)
def Tim (d:Int):Prop:=0<=d/\d<=4611686018427387904
def TickM (ω:Wv) (d:Int) (ψ:Wv) (x:Int):Prop :=
 (¬ (RightW ω/\Tim d)/\ψ=zeroW/\x=1) \/
 (RightW ω/\Tim d/\ω.stop≠0/\ψ=ω/\x=0) \/
 (RightW ω/\Tim d/\ω.stop=0/\ω.now+d<=4611686018427387904/\ψ={ ω with now:=ω.now+d }/\x=0) \/
 (RightW ω/\Tim d/\ω.stop=0/\4611686018427387904<ω.now+d/\ψ=zeroW/\x=10)
structure Mach:Prop where
 new:∀ (W:World) (A:Option Addr) (n c:Nat) (R:List PV),P15.Glob W->PMem W A n R->n<=9223372036854775807 ->
  Calls Tryz.prog 12 #[.slice A n c] W λ e W'=>(∃ (s:WR) (ψ:Wv) (x:Int),e=.returned (.tuple #[s.v,.int .i64 x])/\NewM (P12.pl R) ψ x/\WNew W.heap.size W' s ψ)/\Gr W W'
 step:∀ (W:World) (r:WR) (ω:Wv) (who:Int),P15.Glob W->WIs W r ω->B64 who ->
  Calls Tryz.prog 20 #[r.v,.int .i64 who] W λ e W'=>(∃ (s:WR) (ψ:Wv) (A:Option Addr) (n c:Nat) (ev:List T3) (x:Int),e=.returned (.tuple #[s.v,.slice A n c,.int .i64 x])/\StepM ω who ψ ev x/\WNew W.heap.size W' s ψ/\ENew W.heap.size W' A n ev/\n<=c/\c<=9223372036854775807)/\Gr W W'
 tick:∀ (W:World) (r:WR) (ω:Wv) (d:Int),P15.Glob W->WIs W r ω->B64 d ->
  Calls Tryz.prog 21 #[r.v,.int .i64 d] W λ e W'=>(∃ (s:WR) (ψ:Wv) (x:Int),e=.returned (.tuple #[s.v,.int .i64 x])/\TickM ω d ψ x/\WNew W.heap.size W' s ψ)/\Gr W W'
structure Fine (ω:Wv):Prop where
 inv:WInv (mw ω)
 progs:P12.rightB ω.progs=true
 m4:ω.mx.length=4
 tab:TabA ω.tb
theorem right_facts {l:List (List Ac)} (h:P12.rightB l=true):l.length<=8/\∀ p∈l,p.length<=64/\∀ a∈p,P12.okA a=true:=by
 unfold P12.rightB at h
 simp only [Bool.and_eq_true,decide_eq_true_eq,List.all_eq_true] at h
 exact⟨h.1,λ p hp=>h.2 p hp⟩
theorem okA_OkA {a:Ac} (h:P12.okA a=true):OkA a:=by
 rcases P12.okA_iff.1 h with h | h<;>unfold OkA<;>omega
theorem Fine.new {l:List (List Ac)} (h:P12.rightB l=true):Fine (newW l):=by
 refine⟨?_,h,rfl,Tab.nil,λ s hs=>by cases hs⟩
 rw [mw_new]
 obtain⟨h1,h2⟩:=right_facts h
 exact WInv.new h1 λ p hp a ha=>okA_OkA ((h2 p hp).2 a ha)
theorem mxAt_get {l:List T3} {m:Nat} {x:T3} (h:l[m]?=some x):mxAt l m=x:=by unfold mxAt;rw [h];rfl
section
variable {ω ψ:Wv} {who d:Int} {ev:List T3} {x:Int}
theorem Fine.right (h:Fine ω):RightW ω:=by
 have hi:=h.inv
 refine⟨hi.tm,h.progs,hi.len,h.m4,h.tab,λ s hs y hy=>?_,λ c hc=>?_,λ i c p hc hp=>?_,λ y hy=>?_,?_⟩
 . obtain⟨m,hm,e⟩:=h.tab.2 s hs
   have hmem:(⟨s.1,s.2.1,none,0,0,s.2.2⟩:SV)∈svs ω.tb:=List.mem_map.2 ⟨s,hs,rfl⟩
   have hg:=gt_mem h.tab.1.2 hmem
   have hL:=(hi.iv m hm).L.lm y
   have e2:(mw ω).cm m=⟨(mxAt ω.mx m).1,(mxAt ω.mx m).2.1,(mxAt ω.mx m).2.2,s.2.1,s.2.2⟩:=by
    show (⟨_,_,_,(gtA ω.tb m).1,(gtA ω.tb m).2⟩:Cm)=_
    unfold gtA
    rw [<- e]
    rw [hg]
   rw [e2] at hL
   obtain⟨i,hi1,rfl,_⟩:=hL.1 hy
   have:ω.cl.length=ω.progs.length:=hi.len
   have hi1:i<ω.progs.length:=hi1
   omega
 . obtain⟨i,hc⟩:=List.getElem?_of_mem hc
   have hlt:=(List.getElem?_eq_some_iff.1 hc).1
   have hl:ω.cl.length=ω.progs.length:=hi.len
   have hci:=hi.ci i c (ω.progs[i]'(by omega)) hc (List.getElem?_eq_getElem _)
   exact⟨hci.g,λ q=>by rw [hci.pm] at q;cases q⟩
 . have hci:=hi.ci i c p hc hp
   refine⟨hci.a0,hci.a1,hci.dn.symm,hci.tb,hci.sc,hci.rd,hci.ol,λ e=>⟨hci.fin e,?_⟩,λ k n ha=>⟨hci.pcs k n ha,?_⟩⟩
   . rcases hci.wk with q | ⟨_,n,q,_⟩
     . exact q
     . have:=(List.getElem?_eq_some_iff.1 q).1
       omega
   . rcases hci.wk with q | ⟨q0,n',q,q2⟩
     . exact .inl q
     . rw [ha] at q
       cases q
       exact .inr ⟨rfl,q0,q2⟩
 . obtain⟨m,hy⟩:=List.getElem?_of_mem hy
   have hlt:=(List.getElem?_eq_some_iff.1 hy).1
   have hm:m<4:=by rw [<- h.m4];exact hlt
   have e:mxAt ω.mx m=y:=mxAt_get hy
   have h1:=hi.ow m hm
   have h2:=(hi.iv m hm).T.nb
   have h3:=(hi.iv m hm).T.sb
   have h1:OkW (mxAt ω.mx m).1:=h1
   have h2:0<=(mxAt ω.mx m).2.1/\(mxAt ω.mx m).2.1<4294967296:=h2
   have h3:0<=(mxAt ω.mx m).2.2/\(mxAt ω.mx m).2.2<4294967296:=h3
   rw [e] at h1 h2 h3
   exact⟨h1,h2,h3⟩
 . rcases hi.st with q | q
   . exact .inl q
   . exact .inr (.inl q)
theorem still_stp (h:RightW ω) (hs:Still ω who) (h0:0<=who):stp (mw ω) who.toNat=(mw ω,none):=by
 unfold stp
 cases hc:(mw ω).cl[who.toNat]? with
 | none=>rfl
 | some c =>
  cases hp:(mw ω).progs[who.toNat]? with
  | none=>rfl
  | some p =>
   have hc:ω.cl[who.toNat]?=some c:=hc
   have hlt:=(List.getElem?_eq_some_iff.1 hc).1
   dsimp only
   rw [if_pos]
   rcases hs with q | q | q | ⟨c',q1,q2⟩
   . exact .inl q
   . omega
   . omega
   . rw [hc] at q1;cases q1;exact .inr q2
theorem StepM.fine (h:Fine ω) (hs:StepM ω who ψ ev x):Fine ψ/\x=0/\ψ.progs=ω.progs/\((who<0/\ψ=ω/\ev=[])\/(0<=who/\StpR (mw ω) who.toNat (mw ψ) ((stp (mw ω) who.toNat).2)/\(ω.stop≠0->ψ=ω)/\mw ψ=(stp (mw ω) who.toNat).1/\ev=(stp (mw ω) who.toNat).2.toList)):=by
 have hr:=h.right
 rcases hs with ⟨q,_⟩ | ⟨_,q,rfl,rfl,rfl⟩ | ⟨_,q,m4,tab,e1,rfl,rfl⟩
 . exact absurd hr q
 . refine⟨h,rfl,rfl,?_⟩
   by_cases h0:who<0
   . exact .inl ⟨h0,rfl,rfl⟩
   . have e:=still_stp hr q (by omega)
     have hi:=stp_inv h.inv who.toNat
     rw [e] at hi ⊢
     exact .inr ⟨by omega,hi,λ _=>rfl,rfl,rfl⟩
 . have hi:=stp_inv h.inv who.toNat
   rw [<- e1] at hi
   have hp:ψ.progs=ω.progs:=hi.pr
   have h0:0<=who:=by
    by_cases h0:0<=who
    . exact h0
    . exact absurd (.inr (.inl (by omega))) q
   exact⟨⟨hi.inv,by rw [hp];exact h.progs,m4,tab⟩,rfl,hp,.inr ⟨h0,hi,λ hn=>absurd (.inl hn) q,e1,rfl⟩⟩
theorem TickM.fine (h:Fine ω) (hd:Tim d) (hn:ω.now+d<=4611686018427387904) (hs:TickM ω d ψ x):Fine ψ/\x=0/\((ω.stop≠0/\ψ=ω)\/(ω.stop=0/\ψ={ ω with now:=ω.now+d })):=by
 have hr:=h.right
 rcases hs with ⟨q,_⟩ | ⟨_,_,q,rfl,rfl⟩ | ⟨_,_,q,_,rfl,rfl⟩ | ⟨_,_,_,q,_⟩
 . exact absurd ⟨hr,hd⟩ q
 . exact⟨h,rfl,.inl ⟨q,rfl⟩⟩
 . have e:mw { ω with now:=ω.now+d }=tick (mw ω) d:=by
    unfold tick
    rw [if_neg (by show ¬ ω.stop≠0;omega)]
    rfl
   exact⟨⟨by rw [e];exact h.inv.tick hd.1 hn,h.progs,h.m4,h.tab⟩,rfl,.inr ⟨q,rfl⟩⟩
 . omega
end
end P16
end
section
open Go.ChangeShapes Go.WideShapes Go.ChangeAt Go.RowKit
namespace P12
def cutV (x:PV):PV:=⟨x.A,if 70<x.n then 70 else x.n,x.c,x.l.take 70⟩
theorem cutV_ok {w:World} {x:PV} (h:x.ok w):(cutV x).ok w:=by
 obtain⟨h1,h2,h3⟩:=h
 refine⟨?_,?_,h3⟩
 . show Mem w x.A (if 70<x.n then 70 else x.n) (x.l.take 70)
   split
   . exact h1.take_ 70 (by omega)
   . rw [List.take_of_length_le (by have:=h1.1;omega)]
     exact h1
 . show (if 70<x.n then 70 else x.n)<=x.c
   split<;>omega
def fewP (l:List (List Ac)):List (List Ac):=(l.take 10).map λ p=>p.take 70
end P12
end
section
open Go.ChangeShapes Go.WideShapes Go.ChangeAt Go.RowKit
namespace P16
open P12 (PV PMem POwn pl fewP cutV cutV_ok pmem_one wpList_append_progs Ac)
theorem few_is {w:World} {A:Option Addr} {n c:Nat} {L:List PV} (hm:PMem w A n L) (hc:n<=c) (hn:n<=9223372036854775807) :
 Calls Tryz.prog 13 #[.slice A n c] w λ e w'=>(∃ B m d R,e=.returned (.slice B m d)/\R=(L.take 10).map cutV/\pl R=fewP (pl L)/\m<=10/\POwn w' w.heap.size 0 B m d R)/\Gr w w':=by
 have hlen:=hm.len
 obtain⟨N,hN⟩:∃ N:Nat,(if (10:Int)<(n:Int) then (10:Int) else (n:Int))=(N:Int)/\N<=n/\N<=10/\L.take 10=L.take N:=by
  by_cases h:10<n
  . exact⟨10,by rw [if_pos (by omega)];rfl,by omega,by omega,rfl⟩
  . exact⟨n,by rw [if_neg (by omega)],by omega,by omega,by rw [List.take_of_length_le (by omega),List.take_of_length_le (by omega)]⟩
 obtain⟨hN,hNn,hN10,htk⟩:=hN
 have hNm:min (n:Int) 10=(N:Int):=by rw [<- hN];split<;>omega
 have HM:=hid hm
 have HTK:=hid htk
 have h0:(0:Int)<=(N:Int):=by omega
 have h1:(N:Int)<=(c:Int):=by omega
 clear hm htk
 go_enter Tryz.func13,Tryz.ntmps13
 go_wp2_with fail
 go_loopw [3,12] (λ O i wr=>∃ (k:Nat) (B:Option Addr) (d:Nat),k<=N/\i=.int .i64 (k:Int)/\O=.slice B k d/\Hid (POwn wr w.heap.size 0 B k d ((L.take k).map cutV))/\Hid (Gr w wr)) (λ _ i _=>N-(intOf i).toNat)
 case atStart=>exact⟨0,none,0,Nat.zero_le _,rfl,rfl,hid POwn.nil,hid (Gr.refl _)⟩
 case round =>
  obtain⟨k,B,d,hk,rfl,rfl,HR,HG⟩:=hrel
  by_cases hlt:k<N
  . obtain⟨b,off,x,rfl,hbl,hx,hok,d0⟩:=(HM.out.gr HG.out).at_ (show k<n by omega)
    have hxold:x.ok w:=HM.out.2 x (List.mem_of_getElem? hx)
    have HX:=hid (show (L.take (k+1)).map cutV=(L.take k).map cutV++[cutV x] from by rw [take_snoc hx,List.map_append];rfl)
    have k0:(0:Int)<=(k:Int):=by omega
    have k1:(k:Int)<(N:Int):=by omega
    obtain⟨q,hq⟩:∃ q,(if 70<x.n then 70 else x.n)=q:=⟨_,rfl⟩
    have hqi:(if (70:Int)<(x.n:Int) then (70:Int) else (x.n:Int))=(q:Int):=by rw [<- hq];split<;>split<;>omega
    have hqm:min (x.n:Int) 70=(q:Int):=by rw [<- hqi];split<;>omega
    have q0:(0:Int)<=(q:Int):=by omega
    have q1:(q:Int)<=(x.c:Int):=by have:=hok.2.1;rw [<- hq];split<;>omega
    have hcv:cutV x=⟨x.A,q,x.c,x.l.take 70⟩:=by unfold cutV;rw [hq]
    have g1:=(Gr.refl wr).al (.cells #[.slice x.A q x.c] 64)
    have hcok:(cutV x).ok (wr.alloc (.cells #[.slice x.A q x.c] 64)):=(cutV_ok hok).gr g1
    have HPM:=hid (pmem_one (x:=cutV x) (by rw [hcv];exact Blk.new wr #[.slice x.A q x.c] 64) hcok)
    have HOW:=hid (HR.out.gr g1)
    have hlate:=HR.out.late
    have hws:=HG.out.size
    have HOFF:Hid (∀ z∈[cutV x],0<z.n->∀ j,z.A.map (·.block)=some j->0<=j/\j<(wr.alloc (.cells #[.slice x.A q x.c] 64)).heap.size/\B.map (·.block)≠some j):=hid λ z hz hz0 j hj=>by
     rw [List.mem_singleton] at hz
     subst hz
     obtain⟨b',off',e,hb',_⟩:=(cutV_ok hxold).1.2.2 hz0
     rw [e] at hj
     simp at hj
     refine⟨Nat.zero_le _,by rw [World.size_alloc];omega,λ e2=>?_⟩
     have:=hlate _ e2
     omega
    have HG2:=hid (HG.out.trans g1)
    have hbase:w.heap.size<=(wr.alloc (.cells #[.slice x.A q x.c] 64)).heap.size:=HG2.out.size
    have HLT:=hid hlate
    clear hx hok g1 hcok hcv hq hxold hlate
    go_wp2_with (at_builtin;refine Mark.stop ?_)
    refine Mark.go ?_
    refine wpList_append_progs (news:=[cutV x]) rfl (.tmp 16) (.tmp 22) rfl rfl rfl HOW.out HPM.out HOFF.out (by omega) hbase ?_
    intro A' c' w3 hG
    have HP3:=hG.1
    rw [<- HX.out] at HP3
    have HP3:=hid HP3
    have HG3:=hid (HG2.out.gb hG.2 (λ j e=>HLT.out j e))
    clear hG
    go_wp2_with fail
    go_roundw
    case rel=>exact⟨k+1,A',c',by omega,by go_num,rfl,HP3,HG3⟩
    case measure=>simp [intOf];omega
  . obtain rfl:k=N:=by omega
    have HF:=hid (show pl ((L.take k).map cutV)=fewP (pl L) from by
     unfold pl fewP
     rw [<- List.map_take,HTK.out,List.map_map,List.map_map]
     rfl)
    go_wp2_with fail
    go_ret
    exact⟨⟨B,k,d,_,rfl,by rw [HTK.out],HF.out,hN10,HR.out⟩,HG.out⟩
end P16
end
section
namespace P12
def ho (b:Bool) (m:Int):Option Int:=if b then some m else none
end P12
end
section
open Go.ChangeShapes Go.WideShapes Go.ChangeAt Go.RowKit
namespace P12
theorem ret_bool {a b:Bool} (h:a=b):Ending.returned (.bool a)=.returned (.bool b):=by rw [h]
theorem unfit_is {a:Ac} {B:Bool} (hB:okA a=B) (w:World):Calls Tryz.prog 83 #[.agg #[.int .i64 a.1,.int .i64 a.2]] w λ e w'=>e=.returned (.bool (!B))/\Gr w w':=by
 obtain⟨k,n⟩:=a
 have key:∀ B',okA (k,n)=B'->Hid (B'=B):=λ B' h=>hid (by rw [<- h,hB])
 clear hB
 by_cases h4:0<=k/\k<=2
 . have e:k=0\/k=1\/k=2:=by omega
   clear h4
   by_cases h0:n<0
   . have HB:=key false (by unfold okA;rcases e with rfl | rfl | rfl<;>simp<;>omega)
     clear key
     rcases e with rfl | rfl | rfl<;>(
      go_enter Tryz.func83,Tryz.ntmps83
      go_wp2_with fail
      go_ret
      rw [<- HB.out]
      exact⟨rfl,(Gr.refl w).al _⟩)
   . by_cases h3:n<4
     . have HB:=key true (by unfold okA;rcases e with rfl | rfl | rfl<;>simp<;>omega)
       have h3':¬ (4:Int)<=n:=by omega
       clear key
       rcases e with rfl | rfl | rfl<;>(
        go_enter Tryz.func83,Tryz.ntmps83
        go_wp2_with fail
        go_ret
        rw [<- HB.out]
        exact⟨rfl,(Gr.refl w).al _⟩)
     . have HB:=key false (by unfold okA;rcases e with rfl | rfl | rfl<;>simp<;>omega)
       have h3':(4:Int)<=n:=by omega
       clear key
       rcases e with rfl | rfl | rfl<;>(
        go_enter Tryz.func83,Tryz.ntmps83
        go_wp2_with fail
        go_ret
        rw [<- HB.out]
        exact⟨rfl,(Gr.refl w).al _⟩)
 . by_cases h5:k=3
   . subst h5
     by_cases h0:n<0
     . have HB:=key false (by unfold okA;simp;omega)
       clear key
       go_enter Tryz.func83,Tryz.ntmps83
       go_wp2_with fail
       go_ret
       rw [<- HB.out]
       exact⟨rfl,(Gr.refl w).al _⟩
     . by_cases h3:1000<n
       . have HB:=key false (by unfold okA;simp;omega)
         clear key
         go_enter Tryz.func83,Tryz.ntmps83
         go_wp2_with fail
         go_ret
         rw [<- HB.out]
         exact⟨rfl,(Gr.refl w).al _⟩
       . have HB:=key true (by unfold okA;simp;omega)
         clear key
         go_enter Tryz.func83,Tryz.ntmps83
         go_wp2_with fail
         go_ret
         rw [<- HB.out]
         exact⟨rfl,(Gr.refl w).al _⟩
   . have HB:=key false (by unfold okA;rw [if_neg h5];simp;omega)
     have e0:(k==0)=false:=by simp;omega
     have e1:(k==1)=false:=by simp;omega
     have e2:(k==2)=false:=by simp;omega
     have e3:(k==3)=false:=by simp;omega
     clear key h4 h5
     go_enter Tryz.func83,Tryz.ntmps83
     go_wp2_with fail
     go_ret
     rw [<- HB.out]
     exact⟨rfl,(Gr.refl w).al _⟩
def badAt {α:Type} (p:α->Bool):List α->Nat->Int
 | [],_=>-1
 | x::r,k=>if p x then badAt p r (k+1) else k
theorem badAt_is {α:Type} (p:α->Bool) (l:List α):∀ k:Nat,decide (0<=badAt p l k)=!l.all p:=by
 induction l with
 | nil=>intro k;rfl
 | cons x r ih =>
  intro k
  unfold badAt
  cases hx:p x
  . simp [hx]
  . simp [hx,ih]
theorem IndexFunc_ok (A:Option Addr) (n c:Nat) (l:List Ac) (w:World) (hm:Mem w A n l) (hn:n<=9223372036854775807) :
 Calls Tryz.prog 120 #[.slice A n c,.func (.func 83) #[] #[]] w λ e w'=>e=.returned (.int .i64 (badAt okA l 0))/\Gr w w':=by
 go_enter Tryz.func120,Tryz.ntmps120
 go_wp2_with fail
 go_loopw [8] (λ i wr=>∃ k:Nat,k<=n/\i=.int .i64 k/\Hid (badAt okA (l.drop k) k=badAt okA l 0)/\Gr w wr) (λ i _=>n-(intOf i).toNat)
 case atStart=>exact⟨0,Nat.zero_le _,rfl,hid rfl,Gr.refl _⟩
 case round =>
  obtain⟨k,hk,rfl,HB,hg⟩:=hrel
  by_cases hlt:k<n
  . obtain⟨b,off,x,rfl,hbl,hx,h1,h2,c0,c1⟩:=(hm.gr hg).at_ hlt
    have hd:l.drop k=x::l.drop (k+1):=by
     obtain⟨hl,rfl⟩:=List.getElem?_eq_some_iff.1 hx
     exact List.drop_eq_getElem_cons hl
    cases hf:okA x
    . have hr:badAt okA l 0=(k:Int):=by rw [<- HB.out,hd];simp [badAt,hf]
      have cc:=λ w=>hid (unfit_is hf w)
      have HR:=hid hr
      clear hr hd hf hx HB hm
      go_wp2_with fail
      with_reducible refine (cc _).out.mono ?_
      rintro e w1 ⟨rfl,hb1⟩
      go_wp2_with fail
      go_ret
      rw [HR.out]
      exact⟨rfl,hg.trans hb1⟩
    . have hr:Hid (badAt okA (l.drop (k+1)) (k+1)=badAt okA l 0):=hid (by rw [<- HB.out,hd];simp [badAt,hf])
      have cc:=λ w=>hid (unfit_is hf w)
      clear hd hf hx HB hm
      go_wp2_with fail
      with_reducible refine (cc _).out.mono ?_
      rintro e w1 ⟨rfl,hb1⟩
      go_wp2_with fail
      go_roundw
      case rel=>exact⟨k+1,by omega,by go_num,hr,hg.trans hb1⟩
      case measure=>simp [intOf];omega
  . obtain rfl:k=n:=by omega
    have hr:badAt okA l 0=-1:=by rw [<- HB.out,List.drop_of_length_le (by have:=hm.1;omega)];rfl
    have HR:=hid hr
    clear hr HB hm
    go_wp2_with fail
    go_ret
    rw [HR.out]
    exact⟨rfl,hg⟩
theorem ContainsFunc_ok (A:Option Addr) (n c:Nat) (l:List Ac) (w:World) (hm:Mem w A n l) (hn:n<=9223372036854775807) :
 Calls Tryz.prog 82 #[.slice A n c,.func (.func 83) #[] #[]] w λ e w'=>e=.returned (.bool (!l.all okA))/\Gr w w':=by
 have cc:=λ w hm=>hid (IndexFunc_ok A n c l w hm hn)
 have HB:=hid (badAt_is okA l 0)
 generalize badAt okA l 0=r at *
 go_enter Tryz.func82,Tryz.ntmps82
 go_wp2_with fail
 with_reducible refine (cc _ hm).out.mono ?_
 rintro e w1 ⟨rfl,hb1⟩
 go_wp2_with fail
 go_ret
 exact⟨ret_bool HB.out,hb1⟩
def okP (p:List Ac):Bool:=decide (p.length<=64)&&p.all okA
theorem rightB_okP (l:List (List Ac)):rightB l=(decide (l.length<=8)&&l.all okP):=rfl
theorem unfitProgram_is (x:PV) {B:Bool} (hB:okP x.l=B) (w:World) (hm:x.ok w) :
 Calls Tryz.prog 56 #[.slice x.A x.n x.c] w λ e w'=>e=.returned (.bool (!B))/\Gr w w':=by
 have hn:=hm.lt
 obtain⟨A,n,c,l⟩:=x
 have hm:=hm.1
 dsimp only at hm hn hB ⊢
 by_cases h64:n<=64
 . have hr:l.all okA=B:=by rw [<- hB];simp [okP,hm.1,h64]
   have cc:=λ w hm=>hid (ContainsFunc_ok A n c l w hm hn)
   have HR:=hid hr
   clear hr hB
   generalize l.all okA=B' at *
   have h65:¬ 64<n:=by omega
   go_enter Tryz.func56,Tryz.ntmps56
   go_wp2_with fail
   with_reducible refine (cc _ hm).out.mono ?_
   rintro e w1 ⟨rfl,hb1⟩
   go_wp2_with fail
   go_ret
   rw [HR.out]
   exact⟨ret_bool (by simp;intro h;omega),hb1⟩
 . have hr:false=B:=by rw [<- hB];simp [okP,hm.1,h64]
   have HR:=hid hr
   have h65:64<n:=by omega
   clear hr hB
   go_enter Tryz.func56,Tryz.ntmps56
   go_wp2_with fail
   go_ret
   rw [<- HR.out]
   exact⟨rfl,Gr.refl _⟩
def okV (x:PV):Bool:=okP x.l
theorem IndexFuncP_ok (A:Option Addr) (n c:Nat) (R:List PV) (w:World) (hm:PMem w A n R) (hn:n<=9223372036854775807) :
 Calls Tryz.prog 81 #[.slice A n c,.func (.func 56) #[] #[]] w λ e w'=>e=.returned (.int .i64 (badAt okV R 0))/\Gr w w':=by
 go_enter Tryz.func81,Tryz.ntmps81
 go_wp2_with fail
 go_loopw [8] (λ i wr=>∃ k:Nat,k<=n/\i=.int .i64 k/\Hid (badAt okV (R.drop k) k=badAt okV R 0)/\Gr w wr) (λ i _=>n-(intOf i).toNat)
 case atStart=>exact⟨0,Nat.zero_le _,rfl,hid rfl,Gr.refl _⟩
 case round =>
  obtain⟨k,hk,rfl,HB,hg⟩:=hrel
  by_cases hlt:k<n
  . obtain⟨b,off,x,rfl,hbl,hx,ho,c0⟩:=(hm.gr hg).at_ hlt
    have hd:R.drop k=x::R.drop (k+1):=by
     obtain⟨hl,rfl⟩:=List.getElem?_eq_some_iff.1 hx
     exact List.drop_eq_getElem_cons hl
    have cc:=λ w hm B hf=>hid (unfitProgram_is x (B:=B) hf w hm)
    cases hf:okP x.l
    . have hr:badAt okV R 0=(k:Int):=by rw [<- HB.out,hd];simp [badAt,okV,hf]
      have HR:=hid hr
      have cc:=λ w hm=>cc w hm _ hf
      clear hr hd hf hx HB hm
      go_wp2_with fail
      with_reducible refine (cc _ ho).out.mono ?_
      rintro e w1 ⟨rfl,hb1⟩
      go_wp2_with fail
      go_ret
      rw [HR.out]
      exact⟨rfl,hg.trans hb1⟩
    . have hr:Hid (badAt okV (R.drop (k+1)) (k+1)=badAt okV R 0):=hid (by rw [<- HB.out,hd];simp [badAt,okV,hf])
      have cc:=λ w hm=>cc w hm _ hf
      clear hd hf hx HB hm
      go_wp2_with fail
      with_reducible refine (cc _ ho).out.mono ?_
      rintro e w1 ⟨rfl,hb1⟩
      go_wp2_with fail
      go_roundw
      case rel=>exact⟨k+1,by omega,by go_num,hr,hg.trans hb1⟩
      case measure=>simp [intOf];omega
  . obtain rfl:k=n:=by omega
    have hr:badAt okV R 0=-1:=by rw [<- HB.out,List.drop_of_length_le (by have:=hm.len;omega)];rfl
    have HR:=hid hr
    clear hr HB hm
    go_wp2_with fail
    go_ret
    rw [HR.out]
    exact⟨rfl,hg⟩
theorem ContainsFuncP_ok (A:Option Addr) (n c:Nat) (R:List PV) (w:World) (hm:PMem w A n R) (hn:n<=9223372036854775807) :
 Calls Tryz.prog 55 #[.slice A n c,.func (.func 56) #[] #[]] w λ e w'=>e=.returned (.bool (!R.all okV))/\Gr w w':=by
 have cc:=λ w hm=>hid (IndexFuncP_ok A n c R w hm hn)
 have HB:=hid (badAt_is okV R 0)
 generalize badAt okV R 0=r at *
 go_enter Tryz.func55,Tryz.ntmps55
 go_wp2_with fail
 with_reducible refine (cc _ hm).out.mono ?_
 rintro e w1 ⟨rfl,hb1⟩
 go_wp2_with fail
 go_ret
 exact⟨ret_bool HB.out,hb1⟩
theorem Right_is {A:Option Addr} {n c:Nat} {R:List PV} {B:Bool} (hB:rightB (pl R)=B) (hn:n<=9223372036854775807) (w:World) (hm:PMem w A n R) :
 Calls Tryz.prog 34 #[.slice A n c] w λ e w'=>e=.returned (.bool B)/\Gr w w':=by
 have hall:(pl R).all okP=R.all okV:=by unfold pl;rw [List.all_map];rfl
 have hlen:(pl R).length=n:=by unfold pl;rw [List.length_map,hm.len]
 rw [rightB_okP,hall,hlen] at hB
 by_cases h64:n<=8
 . have hr:R.all okV=B:=by rw [<- hB];simp [h64]
   have cc:=λ w hm=>hid (ContainsFuncP_ok A n c R w hm hn)
   have HR:=hid hr
   clear hr hB hall
   generalize R.all okV=B' at *
   go_enter Tryz.func34,Tryz.ntmps34
   go_wp2_with fail
   with_reducible refine (cc _ hm).out.mono ?_
   rintro e w1 ⟨rfl,hb1⟩
   go_wp2_with fail
   go_ret
   rw [<- HR.out]
   exact⟨ret_bool (by simp),hb1⟩
 . have hr:false=B:=by rw [<- hB];simp [h64]
   have HR:=hid hr
   have h65:decide (n<=8)=false:=by simpa using h64
   clear hr hB hall
   go_enter Tryz.func34,Tryz.ntmps34
   go_wp2_with fail
   go_ret
   rw [<- HR.out]
   exact⟨rfl,Gr.refl _⟩
end P12
end
section
open Go.ChangeShapes Go.WideShapes Go.ChangeAt Go.RowKit Go.Joins
namespace P16
open P12 (PV PMem)
theorem yn (p:Prop):∃ b:Bool,b=true↔p:=by
 by_cases h:p
 . exact⟨true,by simp [h]⟩
 . exact⟨false,by simp [h]⟩
end P16
end
section
open Go.ChangeShapes Go.WideShapes Go.ChangeAt Go.RowKit
section
variable {w W w':World} {base:Nat} {v:Value} {R:List SV} {y:SV} {g cap:Nat}
theorem Appended.row (h:Appended W base v R y g cap w'):SRow w' base (.slice (some ⟨g,0,none⟩) (R.length+1) cap) (R++[y]).length (R++[y]):=by
 rw [List.length_append]
 exact h.1
end
end
section
open Go.ChangeShapes Go.WideShapes Go.ChangeAt Go.RowKit
theorem grownBy_cell (W:World) (b o:Nat) (v:Value):W.grownBy (W.setCell ⟨b,o,none⟩ v) (some b) :=
 ⟨rfl,rfl,rfl,by simp [World.setCell],λ k _ hk=>Below.heap_setCell _ _ _ k (λ e=>hk (by rw [e]))⟩
theorem spot_stored {W:World} {b:Nat} {vs:Array Value} {t:TypeId} (h:Blk W b vs t) (h3:vs.size=3) (x y z:Value) :
 Blk (((W.setCell ⟨b,0,none⟩ x).setCell ⟨b,1,none⟩ y).setCell ⟨b,2,none⟩ z) b #[x,y,z] t:=by
 have h2:=((h.set 0 x).set 1 y).set 2 z
 have e:((vs.setIfInBounds 0 x).setIfInBounds 1 y).setIfInBounds 2 z=#[x,y,z]:=by
  match vs,h3 with
  | ⟨[p,q,r]⟩,_=>rfl
 rw [e] at h2
 exact h2
end
section
open Go.ChangeShapes Go.WideShapes Go.ChangeAt Go.RowKit
namespace P16
open P12 (PV PMem POwn fewP)
theorem least (n K:Nat):∃ N:Nat,(if (K:Int)<(n:Int) then (K:Int) else (n:Int))=(N:Int)/\min (n:Int) (K:Int)=(N:Int)/\N<=n/\N<=K/\∀ {α:Type} (l:List α),l.length=n->l.take K=l.take N:=by
 by_cases h:K<n
 . exact⟨K,by rw [if_pos (by omega)],by omega,by omega,by omega,λ l _=>rfl⟩
 . exact⟨n,by rw [if_neg (by omega)],by omega,by omega,by omega,λ l hl=>by rw [List.take_of_length_le (by omega),List.take_of_length_le (by omega)]⟩
section
variable {W:World} {b:Nat} {x0 x1 x2 x3 x4 x5:Value}
theorem put6_blk {vs:Array Value} {t:TypeId} (h:Blk W b vs t) (h6:vs.size=6) (x0 x1 x2 x3 x4 x5:Value):Blk ((((((W.setCell ⟨b,0,none⟩ x0).setCell ⟨b,1,none⟩ x1).setCell ⟨b,2,none⟩ x2).setCell ⟨b,3,none⟩ x3).setCell ⟨b,4,none⟩ x4).setCell ⟨b,5,none⟩ x5) b #[x0,x1,x2,x3,x4,x5] t:=by
 have h2:=(((((h.set 0 x0).set 1 x1).set 2 x2).set 3 x3).set 4 x4).set 5 x5
 have e:((((((vs.setIfInBounds 0 x0).setIfInBounds 1 x1).setIfInBounds 2 x2).setIfInBounds 3 x3).setIfInBounds 4 x4).setIfInBounds 5 x5)=#[x0,x1,x2,x3,x4,x5]:=by
  obtain⟨c0,c1,c2,c3,c4,c5,rfl⟩:=array6 h6
  simp
 rw [e] at h2
 exact h2
theorem put6_gr {w:World} (g:Gr w W) (hb:w.heap.size<=b):Gr w ((((((W.setCell ⟨b,0,none⟩ x0).setCell ⟨b,1,none⟩ x1).setCell ⟨b,2,none⟩ x2).setCell ⟨b,3,none⟩ x3).setCell ⟨b,4,none⟩ x4).setCell ⟨b,5,none⟩ x5) :=
 (((((g.st (p:=⟨b,0,none⟩) hb x0).st (p:=⟨b,1,none⟩) hb x1).st (p:=⟨b,2,none⟩) hb x2).st (p:=⟨b,3,none⟩) hb x3).st (p:=⟨b,4,none⟩) hb x4).st (p:=⟨b,5,none⟩) hb x5
end
end P16
end
section
open Go.ChangeShapes Go.WideShapes Go.ChangeAt Go.RowKit
namespace P16
open P12 (PV PMem)
def NextM (ω:Wv) (v:Int) (ψ:Wv) (ev:List T3) (who:Int) (b:Bool):Prop :=
 (v<0/\∃ x,TickM ω ((-v-1) % 5000000) ψ x/\ev=[]/\who=-1/\b=(x==0)) \/
 (0<=v/\∃ x,StepM ω (v % 9) ψ ev x/\who=v % 9/\b=(x==0))
section
variable {w:World} {r:WR} {ω:Wv} {v:Int}
theorem next_tick (hM:Mach) (hg:P15.Glob w) (h:WIs w r ω) (hv:B64 v) (h0:v<0) :
 Calls Tryz.prog 15 #[r.v,.int .i64 v] w λ e W'=>(∃ (s:WR) (ψ:Wv) (A:Option Addr) (n c:Nat) (ev:List T3) (who:Int) (b:Bool),e=.returned (.tuple #[s.v,.slice A n c,.int .i64 who,.bool b])/\NextM ω v ψ ev who b/\WNew w.heap.size W' s ψ/\ENew w.heap.size W' A n ev/\n<=c/\c<=9223372036854775807)/\Gr w W':=by
 obtain⟨D,hD⟩:∃ D,-v-1=D:=⟨_,rfl⟩
 obtain⟨d,hd⟩:∃ d,D % 5000000=d:=⟨_,rfl⟩
 have hv':=hv
 unfold B64 at hv'
 have e1:wrap64 (v+1)=v+1:=by unfold wrap64;omega
 have e2:wrap64 (-(v+1))=D:=by unfold wrap64;omega
 have e3:D.tmod 5000000=d:=by rw [Int.tmod_eq_emod_of_nonneg (by omega),hd]
 have cT:=λ W (g:Gr w W)=>hid (hM.tick W r ω d (hg.gr g) (h.gr g) ⟨by omega,by omega⟩)
 have HD:=hid (show (-v-1) % 5000000=d from by rw [hD,hd])
 have d0:0<=d:=by omega
 have d1:d<5000000:=by omega
 have D0:0<=D:=by omega
 have D1:D<=9223372036854775807:=by omega
 clear hd hv hv' h hg
 have HDv:=hid hD
 clear hD
 go_enter Tryz.func15,Tryz.ntmps15
 go_wp2_with fail
 with_reducible refine (cT _ (((Gr.refl w).al _).al _)).out.mono ?_
 rintro e w1 ⟨⟨s,ψ,x,rfl,hT,hW⟩,g1⟩
 obtain⟨now,⟨A1,n1,c1⟩,⟨A2,n2,c2⟩,⟨A3,n3,c3⟩,⟨A4,n4,c4⟩,stop⟩:=s
 dsimp only at *
 have K1:=Blk.new (w.alloc (.cells r.a 29)) #[.int .i64 0,.slice none 0 0,.slice none 0 0,.slice none 0 0,.slice none 0 0,.int .i64 0] 29 |>.gr g1
 rw [World.size_alloc] at K1
 have G1:=((((Gr.refl w).al (.cells r.a 29)).al (.cells #[.int .i64 0,.slice none 0 0,.slice none 0 0,.slice none 0 0,.slice none 0 0,.int .i64 0] 29)).trans g1)
 have B1:=Blk.new w1 #[.int .i64 now,.slice A1 n1 c1,.slice A2 n2 c2,.slice A3 n3 c3,.slice A4 n4 c4,.int .i64 stop] 29
 have K2:=K1.al (.cells #[.int .i64 now,.slice A1 n1 c1,.slice A2 n2 c2,.slice A3 n3 c3,.slice A4 n4 c4,.int .i64 stop] 29)
 have G2:=G1.al (.cells #[.int .i64 now,.slice A1 n1 c1,.slice A2 n2 c2,.slice A3 n3 c3,.slice A4 n4 c4,.int .i64 stop] 29)
 have hB:w.heap.size+1<((w.alloc (.cells r.a 29)).alloc (.cells #[.int .i64 0,.slice none 0 0,.slice none 0 0,.slice none 0 0,.slice none 0 0,.int .i64 0] 29)).heap.size:=by rw [World.size_alloc,World.size_alloc];omega
 have hB2:w.heap.size<=((w.alloc (.cells r.a 29)).alloc (.cells #[.int .i64 0,.slice none 0 0,.slice none 0 0,.slice none 0 0,.slice none 0 0,.int .i64 0] 29)).heap.size:=by omega
 have WW:=hid (hW.gr ((Gr.refl w1).al (.cells #[.int .i64 now,.slice A1 n1 c1,.slice A2 n2 c2,.slice A3 n3 c3,.slice A4 n4 c4,.int .i64 stop] 29)))
 have HX:=hid hT
 clear g1 K1 hT hW G1 e1 e2 e3 d0 d1 D0 D1 cT hM
 go_upto_region 3 with fail
 generalize w1.alloc (.cells #[.int .i64 now,.slice A1 n1 c1,.slice A2 n2 c2,.slice A3 n3 c3,.slice A4 n4 c4,.int .i64 stop] 29)=W1 at B1 K2 G2 WW ⊢
 generalize w1.heap.size=g at B1 ⊢
 have lt1:=K2.lt
 have ltg:=B1.lt
 have b0:=(B1.at_ (k:=0) (v:=.int .i64 now) rfl).1
 have b1:=(B1.at_ (k:=1) (v:=.slice A1 n1 c1) rfl).1
 have b2:=(B1.at_ (k:=2) (v:=.slice A2 n2 c2) rfl).1
 have b3:=(B1.at_ (k:=3) (v:=.slice A3 n3 c3) rfl).1
 have b4:=(B1.at_ (k:=4) (v:=.slice A4 n4 c4) rfl).1
 have b5:=(B1.at_ (k:=5) (v:=.int .i64 stop) rfl).1
 obtain⟨v0,x0⟩:=K2.at_ (k:=0) (v:=.int .i64 0) rfl
 obtain⟨v1,x1⟩:=K2.at_ (k:=1) (v:=.slice none 0 0) rfl
 obtain⟨v2,x2⟩:=K2.at_ (k:=2) (v:=.slice none 0 0) rfl
 obtain⟨v3,x3⟩:=K2.at_ (k:=3) (v:=.slice none 0 0) rfl
 obtain⟨v4,x4⟩:=K2.at_ (k:=4) (v:=.slice none 0 0) rfl
 obtain⟨v5,x5⟩:=K2.at_ (k:=5) (v:=.int .i64 0) rfl
 have WF:=hid (put6_blk K2 rfl (.int .i64 now) (.slice A1 n1 c1) (.slice A2 n2 c2) (.slice A3 n3 c3) (.slice A4 n4 c4) (.int .i64 stop))
 have HG:=hid (put6_gr (x0:=.int .i64 now) (x1:=.slice A1 n1 c1) (x2:=.slice A2 n2 c2) (x3:=.slice A3 n3 c3) (x4:=.slice A4 n4 c4) (x5:=.int .i64 stop) (b:=w.heap.size+1) G2 (Nat.le_succ _))
 clear B1 K2 G2
 have WF2:=hid ((WW.out.to (FromB.put6 (b:=w.heap.size+1) hB (.int .i64 now) (.slice A1 n1 c1) (.slice A2 n2 c2) (.slice A3 n3 c3) (.slice A4 n4 c4) (.int .i64 stop))).low hB2)
 go_wp2_with fail
 clear v0 v1 v2 v3 v4 v5 x0 x1 x2 x3 x4 x5 b0 b1 b2 b3 b4 b5 lt1 ltg WW
 generalize (((((W1.setCell ⟨w.heap.size+1,0,none⟩ (.int .i64 now)).setCell ⟨w.heap.size+1,1,none⟩ (.slice A1 n1 c1)).setCell ⟨w.heap.size+1,2,none⟩ (.slice A2 n2 c2)).setCell ⟨w.heap.size+1,3,none⟩ (.slice A3 n3 c3)).setCell ⟨w.heap.size+1,4,none⟩ (.slice A4 n4 c4)).setCell ⟨w.heap.size+1,5,none⟩ (.int .i64 stop)=Wf at WF HG WF2 ⊢
 have F0:=(WF.out.at_ (k:=0) (v:=.int .i64 now) rfl).1
 have F1:=(WF.out.at_ (k:=1) (v:=.slice A1 n1 c1) rfl).1
 have F2:=(WF.out.at_ (k:=2) (v:=.slice A2 n2 c2) rfl).1
 have F3:=(WF.out.at_ (k:=3) (v:=.slice A3 n3 c3) rfl).1
 have F4:=(WF.out.at_ (k:=4) (v:=.slice A4 n4 c4) rfl).1
 have F5:=(WF.out.at_ (k:=5) (v:=.int .i64 stop) rfl).1
 exact bodyPost_ret (v:=.tuple #[WR.v ⟨now,⟨A1,n1,c1⟩,⟨A2,n2,c2⟩,⟨A3,n3,c3⟩,⟨A4,n4,c4⟩,stop⟩,.slice none 0 0,.int .i64 (-1),.bool (x==0)]) (by simp [results,Tryz.results15,go_sem,F0,F1,F2,F3,F4,F5]) rfl
  ⟨⟨⟨now,⟨A1,n1,c1⟩,⟨A2,n2,c2⟩,⟨A3,n3,c3⟩,⟨A4,n4,c4⟩,stop⟩,ψ,none,0,0,[],-1,x==0,rfl,.inl ⟨h0,x,by rw [HD.out];exact HX.out,rfl,rfl,rfl⟩,WF2.out,ENew.nil,Nat.le_refl _,Nat.zero_le _⟩,HG.out⟩
theorem next_step (hM:Mach) (hg:P15.Glob w) (h:WIs w r ω) (hv:B64 v) (h0:0<=v) :
 Calls Tryz.prog 15 #[r.v,.int .i64 v] w λ e W'=>(∃ (s:WR) (ψ:Wv) (A:Option Addr) (n c:Nat) (ev:List T3) (who:Int) (b:Bool),e=.returned (.tuple #[s.v,.slice A n c,.int .i64 who,.bool b])/\NextM ω v ψ ev who b/\WNew w.heap.size W' s ψ/\ENew w.heap.size W' A n ev/\n<=c/\c<=9223372036854775807)/\Gr w W':=by
 obtain⟨d,hd⟩:∃ d,v % 9=d:=⟨_,rfl⟩
 have hv':=hv
 unfold B64 at hv'
 have e3:v.tmod 9=d:=by rw [Int.tmod_eq_emod_of_nonneg (by omega),hd]
 have cS:=λ W (g:Gr w W)=>hid (hM.step W r ω d (hg.gr g) (h.gr g) ⟨by omega,by omega⟩)
 have HD:=hid hd
 have hn:¬ v<0:=by omega
 clear hd hv hv' h hg
 go_enter Tryz.func15,Tryz.ntmps15
 go_wp2_with fail
 with_reducible refine (cS _ (((Gr.refl w).al _).al _)).out.mono ?_
 rintro e w1 ⟨⟨s,ψ,A,n,c,ev,x,rfl,hT,hW,hE,hnc,hcm⟩,g1⟩
 obtain⟨now,⟨A1,n1,c1⟩,⟨A2,n2,c2⟩,⟨A3,n3,c3⟩,⟨A4,n4,c4⟩,stop⟩:=s
 dsimp only at *
 have K1:=Blk.new (w.alloc (.cells r.a 29)) #[.int .i64 0,.slice none 0 0,.slice none 0 0,.slice none 0 0,.slice none 0 0,.int .i64 0] 29 |>.gr g1
 rw [World.size_alloc] at K1
 have G1:=((((Gr.refl w).al (.cells r.a 29)).al (.cells #[.int .i64 0,.slice none 0 0,.slice none 0 0,.slice none 0 0,.slice none 0 0,.int .i64 0] 29)).trans g1)
 have B1:=Blk.new w1 #[.int .i64 now,.slice A1 n1 c1,.slice A2 n2 c2,.slice A3 n3 c3,.slice A4 n4 c4,.int .i64 stop] 29
 have K2:=K1.al (.cells #[.int .i64 now,.slice A1 n1 c1,.slice A2 n2 c2,.slice A3 n3 c3,.slice A4 n4 c4,.int .i64 stop] 29)
 have G2:=G1.al (.cells #[.int .i64 now,.slice A1 n1 c1,.slice A2 n2 c2,.slice A3 n3 c3,.slice A4 n4 c4,.int .i64 stop] 29)
 have hB:w.heap.size+1<((w.alloc (.cells r.a 29)).alloc (.cells #[.int .i64 0,.slice none 0 0,.slice none 0 0,.slice none 0 0,.slice none 0 0,.int .i64 0] 29)).heap.size:=by rw [World.size_alloc,World.size_alloc];omega
 have hB2:w.heap.size<=((w.alloc (.cells r.a 29)).alloc (.cells #[.int .i64 0,.slice none 0 0,.slice none 0 0,.slice none 0 0,.slice none 0 0,.int .i64 0] 29)).heap.size:=by omega
 have WW:=hid (hW.gr ((Gr.refl w1).al (.cells #[.int .i64 now,.slice A1 n1 c1,.slice A2 n2 c2,.slice A3 n3 c3,.slice A4 n4 c4,.int .i64 stop] 29)))
 have HX:=hid hT
 have EE:=hid (hE.gr ((Gr.refl w1).al (.cells #[.int .i64 now,.slice A1 n1 c1,.slice A2 n2 c2,.slice A3 n3 c3,.slice A4 n4 c4,.int .i64 stop] 29)))
 clear g1 K1 hT hW hE G1 e3 cS hM
 go_upto_region 5 with fail
 generalize w1.alloc (.cells #[.int .i64 now,.slice A1 n1 c1,.slice A2 n2 c2,.slice A3 n3 c3,.slice A4 n4 c4,.int .i64 stop] 29)=W1 at B1 K2 G2 WW EE ⊢
 generalize w1.heap.size=g at B1 ⊢
 have lt1:=K2.lt
 have ltg:=B1.lt
 have b0:=(B1.at_ (k:=0) (v:=.int .i64 now) rfl).1
 have b1:=(B1.at_ (k:=1) (v:=.slice A1 n1 c1) rfl).1
 have b2:=(B1.at_ (k:=2) (v:=.slice A2 n2 c2) rfl).1
 have b3:=(B1.at_ (k:=3) (v:=.slice A3 n3 c3) rfl).1
 have b4:=(B1.at_ (k:=4) (v:=.slice A4 n4 c4) rfl).1
 have b5:=(B1.at_ (k:=5) (v:=.int .i64 stop) rfl).1
 obtain⟨v0,x0⟩:=K2.at_ (k:=0) (v:=.int .i64 0) rfl
 obtain⟨v1,x1⟩:=K2.at_ (k:=1) (v:=.slice none 0 0) rfl
 obtain⟨v2,x2⟩:=K2.at_ (k:=2) (v:=.slice none 0 0) rfl
 obtain⟨v3,x3⟩:=K2.at_ (k:=3) (v:=.slice none 0 0) rfl
 obtain⟨v4,x4⟩:=K2.at_ (k:=4) (v:=.slice none 0 0) rfl
 obtain⟨v5,x5⟩:=K2.at_ (k:=5) (v:=.int .i64 0) rfl
 have WF:=hid (put6_blk K2 rfl (.int .i64 now) (.slice A1 n1 c1) (.slice A2 n2 c2) (.slice A3 n3 c3) (.slice A4 n4 c4) (.int .i64 stop))
 have HG:=hid (put6_gr (x0:=.int .i64 now) (x1:=.slice A1 n1 c1) (x2:=.slice A2 n2 c2) (x3:=.slice A3 n3 c3) (x4:=.slice A4 n4 c4) (x5:=.int .i64 stop) (b:=w.heap.size+1) G2 (Nat.le_succ _))
 clear B1 K2 G2
 have WF2:=hid ((WW.out.to (FromB.put6 (b:=w.heap.size+1) hB (.int .i64 now) (.slice A1 n1 c1) (.slice A2 n2 c2) (.slice A3 n3 c3) (.slice A4 n4 c4) (.int .i64 stop))).low hB2)
 have EF2:=hid ((EE.out.to (FromB.put6 (b:=w.heap.size+1) hB (.int .i64 now) (.slice A1 n1 c1) (.slice A2 n2 c2) (.slice A3 n3 c3) (.slice A4 n4 c4) (.int .i64 stop))).low hB2)
 clear EE
 go_wp2_with fail
 clear v0 v1 v2 v3 v4 v5 x0 x1 x2 x3 x4 x5 b0 b1 b2 b3 b4 b5 lt1 ltg WW
 generalize (((((W1.setCell ⟨w.heap.size+1,0,none⟩ (.int .i64 now)).setCell ⟨w.heap.size+1,1,none⟩ (.slice A1 n1 c1)).setCell ⟨w.heap.size+1,2,none⟩ (.slice A2 n2 c2)).setCell ⟨w.heap.size+1,3,none⟩ (.slice A3 n3 c3)).setCell ⟨w.heap.size+1,4,none⟩ (.slice A4 n4 c4)).setCell ⟨w.heap.size+1,5,none⟩ (.int .i64 stop)=Wf at WF HG WF2 EF2 ⊢
 have F0:=(WF.out.at_ (k:=0) (v:=.int .i64 now) rfl).1
 have F1:=(WF.out.at_ (k:=1) (v:=.slice A1 n1 c1) rfl).1
 have F2:=(WF.out.at_ (k:=2) (v:=.slice A2 n2 c2) rfl).1
 have F3:=(WF.out.at_ (k:=3) (v:=.slice A3 n3 c3) rfl).1
 have F4:=(WF.out.at_ (k:=4) (v:=.slice A4 n4 c4) rfl).1
 have F5:=(WF.out.at_ (k:=5) (v:=.int .i64 stop) rfl).1
 exact bodyPost_ret (v:=.tuple #[WR.v ⟨now,⟨A1,n1,c1⟩,⟨A2,n2,c2⟩,⟨A3,n3,c3⟩,⟨A4,n4,c4⟩,stop⟩,.slice A n c,.int .i64 d,.bool (x==0)]) (by simp [results,Tryz.results15,go_sem,F0,F1,F2,F3,F4,F5,HD.out]) rfl
  ⟨⟨⟨now,⟨A1,n1,c1⟩,⟨A2,n2,c2⟩,⟨A3,n3,c3⟩,⟨A4,n4,c4⟩,stop⟩,ψ,A,n,c,ev,d,x==0,rfl,.inr ⟨h0,x,by rw [HD.out];exact HX.out,HD.out.symm,rfl⟩,WF2.out,EF2.out,hnc,hcm⟩,HG.out⟩
theorem next_is (hM:Mach) (hg:P15.Glob w) (h:WIs w r ω) (hv:B64 v) :
 Calls Tryz.prog 15 #[r.v,.int .i64 v] w λ e W'=>(∃ (s:WR) (ψ:Wv) (A:Option Addr) (n c:Nat) (ev:List T3) (who:Int) (b:Bool),e=.returned (.tuple #[s.v,.slice A n c,.int .i64 who,.bool b])/\NextM ω v ψ ev who b/\WNew w.heap.size W' s ψ/\ENew w.heap.size W' A n ev/\n<=c/\c<=9223372036854775807)/\Gr w W':=by
 by_cases h0:v<0
 . exact next_tick hM hg h hv h0
 . exact next_step hM hg h hv (by omega)
end
end P16
end
section
open Go.ChangeShapes Go.WideShapes Go.ChangeAt Go.RowKit
namespace P16
open P12 (PV PMem)
abbrev p0:List Ac:=[(0,0),(2,0)]
theorem p0_right:P12.rightB [p0]=true:=by decide
theorem alive_math {ψ ψ':Wv} {ev ev':List T3} {x x':Int} (h1:StepM (newW [p0]) 0 ψ ev x) (h2:StepM ψ 0 ψ' ev' x') :
 x=0/\x'=0/\ev=[(0,0,0)]/\ev'=[(0,3,0)]/\∃ c,ψ'.cl=[c]/\c.gst=2:=by
 have f0:=Fine.new p0_right
 obtain⟨f1,rfl,_,q | ⟨_,_,_,e1,rfl⟩⟩:=StepM.fine f0 h1
 . exact absurd q.1 (by decide)
 obtain⟨f2,rfl,_,q | ⟨_,_,_,e2,rfl⟩⟩:=StepM.fine f1 h2
 . exact absurd q.1 (by decide)
 have s1:stp (mw (newW [p0])) (0:Int).toNat=(W1 p0 1 0 (some 0) 0,some (0,0,0)):=by
  rw [mw_new,new_one]
  exact alone_lock (p:=p0) (a:=0) (n:=0) rfl
 rw [s1] at e1 ⊢
 have s2:stp (mw ψ) (0:Int).toNat=(W1 p0 2 0 none 0,some (0,3,0)):=by
  rw [e1]
  exact alone_give (p:=p0) (a:=1) (n:=0) rfl
 rw [s2] at e2 ⊢
 refine⟨rfl,rfl,rfl,rfl,?_⟩
 have e3:ψ'.cl=(W1 p0 2 0 none 0).cl:=congrArg Mw.cl e2
 exact⟨cAt 2 0 2,e3,by decide⟩
section
variable {w:World}
theorem alive_is (hM:Mach) (hg:P15.Glob w):Calls Tryz.prog 14 #[] w λ e w'=>e=.returned (.bool true)/\Gr w w':=by
 have b0:=Blk.new w #[.int .i64 0,.int .i64 0,.int .i64 2,.int .i64 0] 67
 have b1:=Blk.new (w.alloc (.cells #[.int .i64 0,.int .i64 0,.int .i64 2,.int .i64 0] 67)) #[.slice (some ⟨w.heap.size,0,none⟩) 2 2] 64
 have g1:=((Gr.refl w).al (.cells #[.int .i64 0,.int .i64 0,.int .i64 2,.int .i64 0] 67)).al (.cells #[.slice (some ⟨w.heap.size,0,none⟩) 2 2] 64)
 have hm:=P12.mem_blk (b0.al (.cells #[.slice (some ⟨w.heap.size,0,none⟩) 2 2] 64)) (l:=p0) rfl (by simp [Inb])
 have hP:=P12.pmem_one (x:=⟨some ⟨w.heap.size,0,none⟩,2,2,p0⟩) b1 ⟨hm,Nat.le_refl _,by show (2:Nat)<=9223372036854775807;decide⟩
 rw [World.size_alloc] at hP
 have cN:=hid (hM.new _ _ 1 1 _ (hg.gr g1) hP (by decide))
 have HG1:=hid g1
 clear b0 b1 hm hP g1
 go_enter Tryz.func14,Tryz.ntmps14
 go_wp2_with fail
 with_reducible refine cN.out.mono ?_
 rintro e w1 ⟨⟨s,ψ,x,rfl,hN,hW⟩,g2⟩
 obtain⟨rfl,rfl⟩:ψ=newW [p0]/\x=0:=by
  rcases hN with ⟨_,q⟩ | ⟨q,_⟩
  . exact q
  . exact absurd (show P12.rightB [p0]=false from q) (by decide)
 obtain⟨now,⟨A1,n1,c1⟩,⟨A2,n2,c2⟩,⟨A3,n3,c3⟩,⟨A4,n4,c4⟩,stop⟩:=s
 dsimp only at *
 have B1:=Blk.new w1 #[.int .i64 now,.slice A1 n1 c1,.slice A2 n2 c2,.slice A3 n3 c3,.slice A4 n4 c4,.int .i64 stop] 29
 have WW:=hid (hW.gr ((Gr.refl w1).al (.cells #[.int .i64 now,.slice A1 n1 c1,.slice A2 n2 c2,.slice A3 n3 c3,.slice A4 n4 c4,.int .i64 stop] 29)))
 have G1:=(HG1.out.trans g2).al (.cells #[.int .i64 now,.slice A1 n1 c1,.slice A2 n2 c2,.slice A3 n3 c3,.slice A4 n4 c4,.int .i64 stop] 29)
 have KK:=g2.size
 have hK:w.heap.size<=w1.heap.size:=(HG1.out.trans g2).size
 clear hN hW g2 cN
 go_upto_region 2 with fail
 generalize w1.alloc (.cells #[.int .i64 now,.slice A1 n1 c1,.slice A2 n2 c2,.slice A3 n3 c3,.slice A4 n4 c4,.int .i64 stop] 29)=W1 at B1 WW G1 ⊢
 generalize w1.heap.size=K at B1 KK hK ⊢
 have lt1:=B1.lt
 obtain⟨a0,az0⟩:=B1.at_ (k:=0) (v:=.int .i64 now) rfl
 obtain⟨a1,az1⟩:=B1.at_ (k:=1) (v:=.slice A1 n1 c1) rfl
 obtain⟨a2,az2⟩:=B1.at_ (k:=2) (v:=.slice A2 n2 c2) rfl
 obtain⟨a3,az3⟩:=B1.at_ (k:=3) (v:=.slice A3 n3 c3) rfl
 obtain⟨a4,az4⟩:=B1.at_ (k:=4) (v:=.slice A4 n4 c4) rfl
 obtain⟨a5,az5⟩:=B1.at_ (k:=5) (v:=.int .i64 stop) rfl
 have cS:=hid (hM.step W1 ⟨now,⟨A1,n1,c1⟩,⟨A2,n2,c2⟩,⟨A3,n3,c3⟩,⟨A4,n4,c4⟩,stop⟩ _ 0 (hg.gr G1) WW.out.is ⟨by decide,by decide⟩)
 go_wp2_with fail
 with_reducible refine cS.out.mono ?_
 rintro e w2 ⟨⟨s,ψ,A,n,c,ev,x,rfl,hS,hW,hE,hnc,hcm⟩,g3⟩
 obtain⟨now',⟨A1',n1',c1'⟩,⟨A2',n2',c2'⟩,⟨A3',n3',c3'⟩,⟨A4',n4',c4'⟩,stop'⟩:=s
 dsimp only at *
 have B2:=B1.gr g3
 have G2:=G1.trans g3
 have lt2:=B2.lt
 clear a0 az0 a1 az1 a2 az2 a3 az3 a4 az4 a5 az5
 obtain⟨a0,az0⟩:=B2.at_ (k:=0) (v:=.int .i64 now) rfl
 obtain⟨a1,az1⟩:=B2.at_ (k:=1) (v:=.slice A1 n1 c1) rfl
 obtain⟨a2,az2⟩:=B2.at_ (k:=2) (v:=.slice A2 n2 c2) rfl
 obtain⟨a3,az3⟩:=B2.at_ (k:=3) (v:=.slice A3 n3 c3) rfl
 obtain⟨a4,az4⟩:=B2.at_ (k:=4) (v:=.slice A4 n4 c4) rfl
 obtain⟨a5,az5⟩:=B2.at_ (k:=5) (v:=.int .i64 stop) rfl
 have B3:=put6_blk B2 rfl (.int .i64 now') (.slice A1' n1' c1') (.slice A2' n2' c2') (.slice A3' n3' c3') (.slice A4' n4' c4') (.int .i64 stop')
 have G3:=hid (put6_gr (x0:=.int .i64 now') (x1:=.slice A1' n1' c1') (x2:=.slice A2' n2' c2') (x3:=.slice A3' n3' c3') (x4:=.slice A4' n4' c4') (x5:=.int .i64 stop') (b:=K) G2 hK)
 have W3:=hid (hW.to (FromB.put6 (b:=K) lt1 (.int .i64 now') (.slice A1' n1' c1') (.slice A2' n2' c2') (.slice A3' n3' c3') (.slice A4' n4' c4') (.int .i64 stop')))
 have E3:=hid (hE.to (FromB.put6 (b:=K) lt1 (.int .i64 now') (.slice A1' n1' c1') (.slice A2' n2' c2') (.slice A3' n3' c3') (.slice A4' n4' c4') (.int .i64 stop')))
 clear hW hE g3 cS B1 B2 G1 G2
 go_upto_region 3 with fail
 clear a0 az0 a1 az1 a2 az2 a3 az3 a4 az4 a5 az5
 generalize (((((w2.setCell ⟨K,0,none⟩ (.int .i64 now')).setCell ⟨K,1,none⟩ (.slice A1' n1' c1')).setCell ⟨K,2,none⟩ (.slice A2' n2' c2')).setCell ⟨K,3,none⟩ (.slice A3' n3' c3')).setCell ⟨K,4,none⟩ (.slice A4' n4' c4')).setCell ⟨K,5,none⟩ (.int .i64 stop')=V3 at B3 G3 W3 E3 ⊢
 have lt3:=B3.lt
 clear lt2
 obtain⟨b0,bz0⟩:=B3.at_ (k:=0) (v:=.int .i64 now') rfl
 obtain⟨b1,bz1⟩:=B3.at_ (k:=1) (v:=.slice A1' n1' c1') rfl
 obtain⟨b2,bz2⟩:=B3.at_ (k:=2) (v:=.slice A2' n2' c2') rfl
 obtain⟨b3,bz3⟩:=B3.at_ (k:=3) (v:=.slice A3' n3' c3') rfl
 obtain⟨b4,bz4⟩:=B3.at_ (k:=4) (v:=.slice A4' n4' c4') rfl
 obtain⟨b5,bz5⟩:=B3.at_ (k:=5) (v:=.int .i64 stop') rfl
 have cS:=hid (hM.step V3 _ _ 0 (hg.gr G3.out) W3.out.is ⟨by decide,by decide⟩)
 go_wp2_with fail
 with_reducible refine cS.out.mono ?_
 rintro e w4 ⟨⟨s,ψ',A',n',c',ev',x',rfl,hS',hW,hE,hnc',hcm'⟩,g3⟩
 obtain⟨now'',⟨A1'',n1'',c1''⟩,⟨A2'',n2'',c2''⟩,⟨A3'',n3'',c3''⟩,⟨A4'',n4'',c4''⟩,stop''⟩:=s
 dsimp only at *
 obtain⟨rfl,rfl,rfl,rfl,cc,hcl,hgst⟩:=alive_math hS hS'
 have B2:=B3.gr g3
 have G2:=G3.out.trans g3
 have lt2:=B2.lt
 clear b0 bz0 b1 bz1 b2 bz2 b3 bz3 b4 bz4 b5 bz5
 obtain⟨b0,bz0⟩:=B2.at_ (k:=0) (v:=.int .i64 now') rfl
 obtain⟨b1,bz1⟩:=B2.at_ (k:=1) (v:=.slice A1' n1' c1') rfl
 obtain⟨b2,bz2⟩:=B2.at_ (k:=2) (v:=.slice A2' n2' c2') rfl
 obtain⟨b3,bz3⟩:=B2.at_ (k:=3) (v:=.slice A3' n3' c3') rfl
 obtain⟨b4,bz4⟩:=B2.at_ (k:=4) (v:=.slice A4' n4' c4') rfl
 obtain⟨b5,bz5⟩:=B2.at_ (k:=5) (v:=.int .i64 stop') rfl
 have B5:=put6_blk B2 rfl (.int .i64 now'') (.slice A1'' n1'' c1'') (.slice A2'' n2'' c2'') (.slice A3'' n3'' c3'') (.slice A4'' n4'' c4'') (.int .i64 stop'')
 have G5:=hid (put6_gr (x0:=.int .i64 now'') (x1:=.slice A1'' n1'' c1'') (x2:=.slice A2'' n2'' c2'') (x3:=.slice A3'' n3'' c3'') (x4:=.slice A4'' n4'' c4'') (x5:=.int .i64 stop'') (b:=K) G2 hK)
 have W5:=hid (hW.to (FromB.put6 (b:=K) lt3 (.int .i64 now'') (.slice A1'' n1'' c1'') (.slice A2'' n2'' c2'') (.slice A3'' n3'' c3'') (.slice A4'' n4'' c4'') (.int .i64 stop'')))
 have E5:=hid (hE.to (FromB.put6 (b:=K) lt3 (.int .i64 now'') (.slice A1'' n1'' c1'') (.slice A2'' n2'' c2'') (.slice A3'' n3'' c3'') (.slice A4'' n4'' c4'') (.int .i64 stop'')))
 have E6:=hid ((E3.out.gr g3).to (FromB.put6 (b:=K) lt1 (.int .i64 now'') (.slice A1'' n1'' c1'') (.slice A2'' n2'' c2'') (.slice A3'' n3'' c3'') (.slice A4'' n4'' c4'') (.int .i64 stop'')))
 clear hW hE g3 cS B3 B2 G2 hS hS' E3
 go_upto_region 4 with fail
 clear b0 bz0 b1 bz1 b2 bz2 b3 bz3 b4 bz4 b5 bz5
 generalize (((((w4.setCell ⟨K,0,none⟩ (.int .i64 now'')).setCell ⟨K,1,none⟩ (.slice A1'' n1'' c1'')).setCell ⟨K,2,none⟩ (.slice A2'' n2'' c2'')).setCell ⟨K,3,none⟩ (.slice A3'' n3'' c3'')).setCell ⟨K,4,none⟩ (.slice A4'' n4'' c4'')).setCell ⟨K,5,none⟩ (.int .i64 stop'')=V5 at B5 G5 W5 E5 E6 ⊢
 have lt5:=B5.lt
 clear lt2 lt3
 obtain⟨b0,bz0⟩:=B5.at_ (k:=0) (v:=.int .i64 now'') rfl
 obtain⟨b1,bz1⟩:=B5.at_ (k:=1) (v:=.slice A1'' n1'' c1'') rfl
 obtain⟨b2,bz2⟩:=B5.at_ (k:=2) (v:=.slice A2'' n2'' c2'') rfl
 obtain⟨b3,bz3⟩:=B5.at_ (k:=3) (v:=.slice A3'' n3'' c3'') rfl
 obtain⟨b4,bz4⟩:=B5.at_ (k:=4) (v:=.slice A4'' n4'' c4'') rfl
 obtain⟨b5,bz5⟩:=B5.at_ (k:=5) (v:=.int .i64 stop'') rfl
 obtain rfl:n=1:=(E6.out.is).len.symm
 obtain rfl:n'=1:=(E5.out.is).len.symm
 obtain⟨b,off,y,rfl,hb,hy,-,d0,d1,d2⟩:=T3Mem.cells (k:=0) E6.out.is (by decide)
 cases hy
 obtain⟨b',off',y,rfl,hb',hy,-,f0,f1,f2⟩:=T3Mem.cells (k:=0) E5.out.is (by decide)
 cases hy
 have WI:=W5.out.is
 have hl:=WI.c.len
 rw [hcl] at hl
 have hl:1=n2'':=hl
 subst hl
 have hc0:CMem V5 A2'' 1 _:=WI.c
 obtain⟨b2,off2,z,rfl,hb2,hz,-,h0,-⟩:=CMem.cells (k:=0) hc0 (by decide)
 rw [hcl] at hz
 cases hz
 rw [hgst] at h0
 simp only [Nat.zero_mul,Nat.add_zero] at d0 d1 d2 f0 f1 f2 h0
 clear WI hc0 hcl hgst
 go_wp2_with fail
 go_ret
 exact⟨rfl,G5.out⟩
end
end P16
end
section
open Go.ChangeShapes Go.WideShapes Go.ChangeAt Go.RowKit
namespace P16
def EvR (f f':Nat->Bool) (F:Bool) (e:Int) (n:Nat):Prop :=
 ((e=0\/e=1)/\f n=false/\f' n=true/\(∀ m,m≠n->f' m=f m)/\F=false) \/
 (e=2/\f'=f/\F=false) \/
 (e=3/\f n=true/\f' n=false/\(∀ m,m≠n->f' m=f m)/\F=false) \/
 (e=4/\f n=false/\f'=f/\F=true)
def Kind (ω ψ:Wv) (ev:List T3) (f f':Nat->Bool) (F:Bool):Prop :=
 (ω.stop≠0/\ψ=ω/\ev=[]/\f'=f/\F=false) \/
 (ω.stop=0/\ψ.stop=0/\ev=[]/\f'=f/\F=false) \/
 (ω.stop=0/\∃ (a:Int) (e:Int) (n:Nat),n<4/\ev=[(a,e,(n:Int))]/\EvR f f' F e n/\(ψ.stop≠0↔F=true))
def LK (ω:Wv) (m:Nat):Bool:=if m<4 then Lk (mw ω) m else false
theorem LK_at {ω:Wv} {m:Nat} (h:m<4):LK ω m=Lk (mw ω) m:=by unfold LK;rw [if_pos h]
section
variable {ω ψ:Wv} {v who:Int} {ev:List T3} {b:Bool}
theorem LK_same (h:∀ m,m<4->Lk (mw ψ) m=Lk (mw ω) m):LK ψ=LK ω:=by
 funext m
 unfold LK
 split
 . exact h m (by assumption)
 . rfl
theorem NextM.rnd (h:Fine ω) (hn:NextM ω v ψ ev who b) (hv:B64 v) (hb:ω.now<=4611686018422387904) :
 Fine ψ/\b=true/\ψ.progs=ω.progs/\ψ.now<=ω.now+5000000/\(ψ.stop=0\/ψ.stop=11)/\∃ F,Kind ω ψ ev (LK ω) (LK ψ) F:=by
 unfold B64 at hv
 rcases hn with ⟨h0,x,ht,rfl,rfl,rfl⟩ | ⟨h0,x,hs,rfl,rfl⟩
 . obtain⟨f,rfl,q⟩:=TickM.fine h (by unfold Tim;omega) (by omega) ht
   rcases q with ⟨q,rfl⟩ | ⟨q,rfl⟩
   . exact⟨f,rfl,rfl,by omega,f.inv.st,false,.inl ⟨q,rfl,rfl,rfl,rfl⟩⟩
   . exact⟨f,rfl,rfl,by show ω.now+_<=_;omega,f.inv.st,false,.inr (.inl ⟨q,q,rfl,rfl,rfl⟩)⟩
 . obtain⟨f,rfl,hp,q⟩:=StepM.fine h hs
   refine⟨f,rfl,hp,?_⟩
   rcases q with ⟨q,rfl,rfl⟩ | ⟨q,hr,hst,e1,rfl⟩
   . omega
   . have hnow:ψ.now=ω.now:=hr.nw
     refine⟨by omega,f.inv.st,?_⟩
     by_cases hs0:ω.stop=0
     . rcases hr.kind with ⟨k1,k2,k3⟩ | ⟨n,k1,k2,k3,k4,k5⟩ | ⟨n,e,k1,k2,k3,k4,k5,k6⟩
       . rw [k1]
         have k2:ψ.stop=ω.stop:=k2
         exact⟨false,.inr (.inl ⟨hs0,by omega,rfl,LK_same k3,rfl⟩)⟩
       . rw [k2]
         have k6:ψ.stop=11:=congrArg Mw.stop k4
         refine⟨true,.inr (.inr ⟨hs0,_,4,n,k1,rfl,.inr (.inr (.inr ⟨rfl,by rw [LK_at k1];exact k5,?_,rfl⟩)),by rw [k6];simp⟩)⟩
         refine LK_same λ m _=>?_
         have:(mw ψ).cm=(mw ω).cm:=by rw [k4]
         unfold Lk
         rw [this]
       . rw [k2]
         have k4:ψ.stop=0:=k4
         have far:∀ m,m≠n->LK ψ m=LK ω m:=λ m hm=>by
          unfold LK
          split
          . unfold Lk;rw [k6 m hm]
          . rfl
         refine⟨false,.inr (.inr ⟨hs0,_,e,n,k1,rfl,?_,by rw [k4];simp⟩)⟩
         rcases k5 with ⟨q,_⟩ | ⟨q,l1,l2⟩ | ⟨q,l1,l2⟩ | ⟨q,l1⟩ | ⟨q,l1,l2⟩
         . cases q
         . cases q;exact .inl ⟨.inl rfl,by rw [LK_at k1];exact l1,by rw [LK_at k1];exact l2,far,rfl⟩
         . cases q;exact .inl ⟨.inr rfl,by rw [LK_at k1];exact l1,by rw [LK_at k1];exact l2,far,rfl⟩
         . cases q
           refine .inr (.inl ⟨rfl,?_,rfl⟩)
           funext m
           by_cases e:m=n
           . subst e;rw [LK_at k1,LK_at k1];exact l1
           . exact far m e
         . cases q;exact .inr (.inr (.inl ⟨rfl,by rw [LK_at k1];exact l1,by rw [LK_at k1];exact l2,far,rfl⟩))
     . have e2:=hst hs0
       subst e2
       have e3:=(hr.still hs0).2
       rw [e3]
       exact⟨false,.inl ⟨hs0,rfl,rfl,rfl,rfl⟩⟩
end
end P16
end
section
open Go.ChangeShapes Go.WideShapes Go.ChangeAt Go.RowKit
namespace P16
open P12 (PV PMem POwn pl fewP)
def WAt (S:Nat->Prop) (W:World) (r:WR) (ω:Wv):Prop:=∃ W0 B,WNew B W0 r ω/\FromB B W0 W/\∀ k,S k->k<B\/W0.heap.size<=k
section
variable {S:Nat->Prop} {W W':World} {r:WR} {ω:Wv} {B:Nat}
theorem WAt.is (h:WAt S W r ω):WIs W r ω:=by
 obtain⟨W0,B,h1,h2,_⟩:=h
 exact (h1.to h2).is
theorem WAt.gr (h:WAt S W r ω) (g:Gr W W'):WAt S W' r ω:=by
 obtain⟨W0,B,h1,h2,h3⟩:=h
 exact⟨W0,B,h1,h2.trans (FromB.gr g),h3⟩
theorem WAt.new (h:WNew B W r ω) (hs:∀ k,S k->k<B):WAt S W r ω:=⟨W,B,h,FromB.refl,λ k hk=>.inl (hs k hk)⟩
theorem WAt.late (h:WNew B W r ω) (g:Gr W W') (hs:∀ k,S k->W.heap.size<=k):WAt S W' r ω:=⟨W,B,h,FromB.gr g,λ k hk=>.inr (hs k hk)⟩
end
end P16
end
section
open Go.ChangeShapes Go.WideShapes Go.ChangeAt Go.RowKit
namespace P16
def HandK (ω ψ:Wv) (ev:List T3) (who:Int):Prop :=
 ((∀ m,m<4->(mxAt ψ.mx m).1=(mxAt ω.mx m).1)/\(ev=[]\/∃ a e n,ev=[(a,e,n)]/\e≠0/\e≠1)) \/
 (0<=who/\(ev=[]\/∃ a e n,ev=[(a,e,n)])/\∃ c,ω.cl[who.toNat]?=some c/\∀ m:Nat,m<4 ->
   (Sv (mw ω) m=false->Sv (mw ψ) m=true->c.pc=2/\c.st=true)/\(Sv (mw ω) m=true->Sv (mw ψ) m=false->c.pc=8) /\
   (∀ a e,ev=[(a,e,(m:Int))]->Sv (mw ω) m=true->e≠1/\(e=0->c.pc=8)))
section
variable {ω ψ:Wv} {v who:Int} {ev:List T3} {b:Bool}
theorem NextM.hands (h:Fine ω) (hn:NextM ω v ψ ev who b) (hv:B64 v) (hb:ω.now<=4611686018422387904):HandK ω ψ ev who:=by
 unfold B64 at hv
 rcases hn with ⟨h0,x,ht,rfl,rfl,rfl⟩ | ⟨h0,x,hs,rfl,rfl⟩
 . obtain⟨f,rfl,q⟩:=TickM.fine h (by unfold Tim;omega) (by omega) ht
   rcases q with ⟨q,rfl⟩ | ⟨q,rfl⟩
   . exact .inl ⟨λ _ _=>rfl,.inl rfl⟩
   . exact .inl ⟨λ _ _=>rfl,.inl rfl⟩
 . obtain⟨f,rfl,hp,q⟩:=StepM.fine h hs
   rcases q with ⟨q,rfl,rfl⟩ | ⟨q,hr,hst,e1,rfl⟩
   . exact .inl ⟨λ _ _=>rfl,.inl rfl⟩
   . have hev:((stp (mw ω) (v % 9).toNat).2=none\/∃ e n,n<4/\(stp (mw ω) (v % 9).toNat).2=some (((v % 9).toNat:Int),e,((n:Nat):Int))/\(e=4\/HeldR (some e) (Lk (mw ω) n) (Lk (mw ψ) n))):=by
      rcases hr.kind with ⟨k1,_⟩ | ⟨n,k1,k2,_⟩ | ⟨n,e,k1,k2,_,_,k5,_⟩
      . exact .inl k1
      . exact .inr ⟨4,n,k1,k2,.inl rfl⟩
      . exact .inr ⟨e,n,k1,k2,.inr k5⟩
     rcases hr.hands with q1 | ⟨c,hc,q2⟩
     . left
       refine⟨λ m hm=>congrArg Cm.word (q1 m hm),?_⟩
       rcases hev with k | ⟨e,n,hn4,k,kk⟩
       . rw [k];exact .inl rfl
       . rw [k]
         refine .inr ⟨_,e,_,rfl,?_⟩
         have hL:Lk (mw ψ) n=Lk (mw ω) n:=by unfold Lk;rw [q1 n hn4]
         rcases kk with rfl | kk
         . exact⟨by decide,by decide⟩
         . rw [hL] at kk
           rcases kk with ⟨z,_⟩ | ⟨z,l1,l2⟩ | ⟨z,l1,l2⟩ | ⟨z,_⟩ | ⟨z,l1,l2⟩
           . cases z
           . rw [l1] at l2;cases l2
           . rw [l1] at l2;cases l2
           . cases z;exact⟨by decide,by decide⟩
           . rw [l1] at l2;cases l2
     . right
       refine⟨q,?_,c,hc,λ m hm=>?_⟩
       . rcases hev with k | ⟨e,n,_,k,_⟩
         . rw [k];exact .inl rfl
         . rw [k];exact .inr ⟨_,_,_,rfl⟩
       . obtain⟨z1,z2,z3⟩:=q2 m hm
         refine⟨z1,z2,λ a e he hS=>?_⟩
         rcases hev with k | ⟨e',n,_,k,_⟩
         . rw [k] at he;cases he
         . rw [k] at he
           have he:[(((v % 9).toNat:Int),e',(n:Int))]=[(a,e,(m:Int))]:=he
           injection he with he _
           injection he with ha he
           injection he with he hnm
           subst he
           have:n=m:=by omega
           subst this
           exact z3 e' k hS
end
theorem flags_at {ψ:Wv} (h:Fine ψ) {j:Nat} (hj:j<4) {x:T3} (hx:ψ.mx[j]?=some x):∃ a b c q,x.1=P3.pw a b c q/\(0<=q/\q<268435456)/\Sv (mw ψ) j=c:=by
 have h1:=h.inv.ow j hj
 have e:(mw ψ).cm j=⟨(mxAt ψ.mx j).1,(mxAt ψ.mx j).2.1,(mxAt ψ.mx j).2.2,(gtA ψ.tb j).1,(gtA ψ.tb j).2⟩:=rfl
 rw [mxAt_get hx] at e
 rw [e] at h1
 obtain⟨a,b,c,q,e1,e2⟩:=P3.pw_of h1
 have e1:x.1=P3.pw a b c q:=e1
 refine⟨a,b,c,q,e1,e2,?_⟩
 unfold Sv
 rw [e]
 show (wd x.1).S=c
 rw [e1]
 unfold wd P3.pw P3.b1
 dsimp only
 cases a<;>cases b<;>cases c<;>simp<;>omega
theorem run_flags_neq (a b c:Bool) (n:Int) (a' b' c':Bool) (n':Int) {d:Bool} (hd:d=true↔(a=a'/\b=b'/\c=c'/\n=n')) (w:World) :
 (binOp .neq 42 (.agg #[.bool a,.bool b,.bool c,.int .i64 n]) (.agg #[.bool a',.bool b',.bool c',.int .i64 n'])).run Tryz.prog w=.ok (.bool (!d)) w:=by
 have no:¬ (a=a'/\b=b'/\c=c'/\n=n')->Result.ok (Value.bool true) w=Result.ok (Value.bool (!d)) w:=λ h=>by
  have e:d=false:=by
   cases d with
   | false=>rfl
   | true=>exact absurd (hd.1 rfl) h
  rw [e];rfl
 have yes:(a=a'/\b=b'/\c=c'/\n=n')->Result.ok (Value.bool false) w=Result.ok (Value.bool (!d)) w:=λ h=>by rw [hd.2 h];rfl
 clear hd
 go_simp
 by_cases h0:a=a'
 rotate_left
 . rw [if_neg h0];exact no (λ e=>h0 e.1)
 rw [if_pos h0]
 by_cases h1:b=b'
 rotate_left
 . rw [if_neg h1];exact no (λ e=>h1 e.2.1)
 rw [if_pos h1]
 by_cases h2:c=c'
 rotate_left
 . rw [if_neg h2];exact no (λ e=>h2 e.2.2.1)
 rw [if_pos h2]
 by_cases h3:n=n'
 rotate_left
 . rw [if_neg h3];exact no (λ e=>h3 e.2.2.2)
 rw [if_pos h3]
 exact yes ⟨h0,h1,h2,h3⟩
end P16
end
end Go.Proofs.YtainfijdhcehlaaGreatDoor
