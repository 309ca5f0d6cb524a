/-
  A part of the proof.
-/
import Derived.Test.YtainfijdhcehlaaGreatDoorQH9
import Derived.Laws.StructEq
import Derived.Lib.AtoiAll
import Derived.Lib.CutLaws
import Derived.Deep.RegionHeld3
import Derived.RegionTactic
import Derived.BigQuiet
import Derived.Deep.QuietTactic
import Derived.Laws.BytesArg
set_option linter.all false
set_option maxRecDepth 100000
set_option maxHeartbeats 8000000
namespace Go.Proofs.YtainfijdhcehlaaGreatDoor
open Lib (hid)
section
open Go.ChangeShapes Go.WideShapes Go.ChangeAt Go.RowKit
namespace P16
open P12 (PV PMem)
def FromB (B:Nat) (W W':World):Prop:=W.heap.size<=W'.heap.size/\∀ k,B<=k->k<W.heap.size->W'.heap[k]?=W.heap[k]?
section
variable {B B':Nat} {W W' W'':World}
theorem FromB.refl:FromB B W W:=⟨Nat.le_refl _,λ _ _ _=>rfl⟩
theorem FromB.trans (h:FromB B W W') (k:FromB B W' W''):FromB B W W'' :=
 ⟨Nat.le_trans h.1 k.1,λ j h1 h2=>(k.2 j h1 (Nat.lt_of_lt_of_le h2 h.1)).trans (h.2 j h1 h2)⟩
theorem FromB.up (h:FromB B W W') (hb:B<=B'):FromB B' W W':=⟨h.1,λ k h1 h2=>h.2 k (Nat.le_trans hb h1) h2⟩
theorem FromB.gr (g:Gr W W'):FromB B W W':=⟨g.size,λ k _ h=>g.block k h⟩
theorem FromB.st {p:Addr} (hp:p.block<B) (u:Value):FromB B W (W.setCell p u) :=
 ⟨by simp [World.setCell],λ k h1 _=>Below.heap_setCell W p u k (by omega)⟩
def WNew (B:Nat) (W:World) (r:WR) (ω:Wv):Prop:=∀ W',FromB B W W'->WIs W' r ω
variable {r:WR} {ω:Wv}
theorem WNew.is (h:WNew B W r ω):WIs W r ω:=h W FromB.refl
theorem WNew.to (h:WNew B W r ω) (g:FromB B W W'):WNew B W' r ω:=λ _ k=>h _ (g.trans k)
theorem WNew.gr (h:WNew B W r ω) (g:Gr W W'):WNew B W' r ω:=h.to (FromB.gr g)
theorem WNew.low (h:WNew B W r ω) (hb:B'<=B):WNew B' W r ω:=λ _ k=>h _ (k.up hb)
def ENew (B:Nat) (W:World) (A:Option Addr) (n:Nat) (l:List T3):Prop:=∀ W',FromB B W W'->T3Mem W' A n l
variable {A:Option Addr} {n:Nat} {l:List T3}
theorem ENew.is (h:ENew B W A n l):T3Mem W A n l:=h W FromB.refl
theorem ENew.to (h:ENew B W A n l) (g:FromB B W W'):ENew B W' A n l:=λ _ k=>h _ (g.trans k)
theorem ENew.gr (h:ENew B W A n l) (g:Gr W W'):ENew B W' A n l:=h.to (FromB.gr g)
theorem ENew.low (h:ENew B W A n l) (hb:B'<=B):ENew B' W A n l:=λ _ k=>h _ (k.up hb)
theorem ENew.nil:ENew B W none 0 []:=λ _ _=>RMem.nil_
theorem FromB.put6 {b:Nat} (hb:b<B) (x0 x1 x2 x3 x4 x5:Value):FromB B W ((((((W.setCell ⟨b,0,none⟩ x0).setCell ⟨b,1,none⟩ x1).setCell ⟨b,2,none⟩ x2).setCell ⟨b,3,none⟩ x3).setCell ⟨b,4,none⟩ x4).setCell ⟨b,5,none⟩ x5) :=
 ((((((FromB.st (p:=⟨b,0,none⟩) hb x0).trans (FromB.st (p:=⟨b,1,none⟩) hb x1)).trans (FromB.st (p:=⟨b,2,none⟩) hb x2)).trans (FromB.st (p:=⟨b,3,none⟩) hb x3)).trans (FromB.st (p:=⟨b,4,none⟩) hb x4)).trans (FromB.st (p:=⟨b,5,none⟩) hb x5))
end
def svs (tb:List Sp):List SV:=tb.map λ s=>⟨s.1,s.2.1,none,0,0,s.2.2⟩
theorem svs_pl (tb:List Sp):(svs tb).map SV.pl=tb:=by
 unfold svs
 rw [List.map_map]
 exact (List.map_congr_left λ x _=>rfl).trans (List.map_id _)
def TabA (tb:List Sp):Prop:=Tab (svs tb)/\∀ s∈tb,∃ m:Nat,m<4/\s.1=8*(m:Int)
def gtA (tb:List Sp) (m:Nat):Int×List Int:=gt (svs tb) (8*(m:Int))
def mxAt (l:List T3) (m:Nat):T3:=(l[m]?).getD (0,0,0)
def mw (ω:Wv):Mw:=⟨ω.now,ω.progs,ω.cl,λ m=>⟨(mxAt ω.mx m).1,(mxAt ω.mx m).2.1,(mxAt ω.mx m).2.2,(gtA ω.tb m).1,(gtA ω.tb m).2⟩,ω.stop⟩
def zeroW:Wv:=⟨0,[],[],[],[],0⟩
def newW (l:List (List Ac)):Wv:=⟨0,l,l.map λ p=>first 0 false 0 p.length,[(0,0,0),(0,0,0),(0,0,0),(0,0,0)],[],0⟩
theorem mxAt_zero (m:Nat):mxAt [(0,0,0),(0,0,0),(0,0,0),(0,0,0)] m=(0,0,0):=by
 unfold mxAt
 match m with
 | 0=>rfl
 | 1=>rfl
 | 2=>rfl
 | 3=>rfl
 | n+4=>rfl
theorem mw_new (l:List (List Ac)):mw (newW l)=P16.new l:=by
 unfold mw newW P16.new
 congr 1
 funext m
 dsimp only
 rw [mxAt_zero]
 rfl
structure CRight (p:List Ac) (c:Cl):Prop where
 a0:0<=c.act
 a1:c.act<=p.length
 dn:c.act=p.length↔c.gst=2
 tk:0<=c.ticket/\c.ticket<4294967296
 sc:c.since=-1\/(0<=c.since/\c.since<=4611686018427387904)
 rd:0<=c.rounds/\c.rounds<=4
 ol:OkW c.old
 fin:c.act=p.length->c.pc=0/\c.worked=0
 at_:∀ k n,p[c.act.toNat]?=some (k,n)->OkPc k c.pc/\(c.worked=0\/(k=3/\0<c.worked/\c.worked<n))
structure RightW (ω:Wv):Prop where
 now:0<=ω.now/\ω.now<=4611686018427387904
 progs:P12.rightB ω.progs=true
 len:ω.cl.length=ω.progs.length
 m4:ω.mx.length=4
 tab:TabA ω.tb
 ids:∀ s∈ω.tb,∀ x∈s.2.2,x<(ω.cl.length:Int)
 gors:∀ c∈ω.cl,(c.gst=0\/c.gst=1\/c.gst=2)/\(c.permit=true->c.gst=0)
 cls:∀ (i:Nat) c p,ω.cl[i]?=some c->ω.progs[i]?=some p->CRight p c
 mxs:∀ x∈ω.mx,OkW x.1/\(0<=x.2.1/\x.2.1<4294967296)/\(0<=x.2.2/\x.2.2<4294967296)
 stop:ω.stop=0\/ω.stop=11\/ω.stop=12
def Still (ω:Wv) (who:Int):Prop:=ω.stop≠0\/who<0\/(ω.cl.length:Int)<=who\/∃ c,ω.cl[who.toNat]?=some c/\c.gst≠0
def NewM (l:List (List Ac)) (ψ:Wv) (x:Int):Prop:=(P12.rightB l=true/\ψ=newW l/\x=0)\/(P12.rightB l=false/\ψ=zeroW/\x=1)
def StepM (ω:Wv) (who:Int) (ψ:Wv) (ev:List T3) (x:Int):Prop :=
 (¬ RightW ω/\ψ=zeroW/\ev=[]/\x=1) \/
 (RightW ω/\Still ω who/\ψ=ω/\ev=[]/\x=0) \/
 (RightW ω/\¬ Still ω who/\ψ.mx.length=4/\TabA ψ.tb/\mw ψ=(stp (mw ω) who.toNat).1/\ev=(stp (mw ω) who.toNat).2.toList/\x=0)
def Tim (d:Int):Prop:=0<=d/\d<=4611686018427387904
def TickM (ω:Wv) (d:Int) (ψ:Wv) (x:Int):Prop :=
 (¬ (RightW ω/\Tim d)/\ψ=zeroW/\x=1) \/
 (RightW ω/\Tim d/\ω.stop≠0/\ψ=ω/\x=0) \/
 (RightW ω/\Tim d/\ω.stop=0/\ω.now+d<=4611686018427387904/\ψ={ ω with now:=ω.now+d }/\x=0) \/
 (RightW ω/\Tim d/\ω.stop=0/\4611686018427387904<ω.now+d/\ψ=zeroW/\x=10)
structure Mach:Prop where
 new:∀ (W:World) (A:Option Addr) (n c:Nat) (R:List PV),P15.Glob W->PMem W A n R->n<=9223372036854775807 ->
  Calls Tryz.prog 12 #[.slice A n c] W λ e W'=>(∃ (s:WR) (ψ:Wv) (x:Int),e=.returned (.tuple #[s.v,.int .i64 x])/\NewM (P12.pl R) ψ x/\WNew W.heap.size W' s ψ)/\Gr W W'
 step:∀ (W:World) (r:WR) (ω:Wv) (who:Int),P15.Glob W->WIs W r ω->B64 who ->
  Calls Tryz.prog 20 #[r.v,.int .i64 who] W λ e W'=>(∃ (s:WR) (ψ:Wv) (A:Option Addr) (n c:Nat) (ev:List T3) (x:Int),e=.returned (.tuple #[s.v,.slice A n c,.int .i64 x])/\StepM ω who ψ ev x/\WNew W.heap.size W' s ψ/\ENew W.heap.size W' A n ev/\n<=c/\c<=9223372036854775807)/\Gr W W'
 tick:∀ (W:World) (r:WR) (ω:Wv) (d:Int),P15.Glob W->WIs W r ω->B64 d ->
  Calls Tryz.prog 21 #[r.v,.int .i64 d] W λ e W'=>(∃ (s:WR) (ψ:Wv) (x:Int),e=.returned (.tuple #[s.v,.int .i64 x])/\TickM ω d ψ x/\WNew W.heap.size W' s ψ)/\Gr W W'
structure Fine (ω:Wv):Prop where
 inv:WInv (mw ω)
 progs:P12.rightB ω.progs=true
 m4:ω.mx.length=4
 tab:TabA ω.tb
theorem right_facts {l:List (List Ac)} (h:P12.rightB l=true):l.length<=8/\∀ p∈l,p.length<=64/\∀ a∈p,P12.okA a=true:=by
 unfold P12.rightB at h
 simp only [Bool.and_eq_true,decide_eq_true_eq,List.all_eq_true] at h
 exact⟨h.1,λ p hp=>h.2 p hp⟩
theorem okA_OkA {a:Ac} (h:P12.okA a=true):OkA a:=by
 rcases P12.okA_iff.1 h with h | h<;>unfold OkA<;>omega
theorem Fine.new {l:List (List Ac)} (h:P12.rightB l=true):Fine (newW l):=by
 refine⟨?_,h,rfl,Tab.nil,λ s hs=>by cases hs⟩
 rw [mw_new]
 obtain⟨h1,h2⟩:=right_facts h
 exact WInv.new h1 λ p hp a ha=>okA_OkA ((h2 p hp).2 a ha)
theorem mxAt_get {l:List T3} {m:Nat} {x:T3} (h:l[m]?=some x):mxAt l m=x:=by unfold mxAt;rw [h];rfl
section
variable {ω ψ:Wv} {who d:Int} {ev:List T3} {x:Int}
theorem Fine.right (h:Fine ω):RightW ω:=by
 have hi:=h.inv
 refine⟨hi.tm,h.progs,hi.len,h.m4,h.tab,λ s hs y hy=>?_,λ c hc=>?_,λ i c p hc hp=>?_,λ y hy=>?_,?_⟩
 . obtain⟨m,hm,e⟩:=h.tab.2 s hs
   have hmem:(⟨s.1,s.2.1,none,0,0,s.2.2⟩:SV)∈svs ω.tb:=List.mem_map.2 ⟨s,hs,rfl⟩
   have hg:=gt_mem h.tab.1.2 hmem
   have hL:=(hi.iv m hm).L.lm y
   have e2:(mw ω).cm m=⟨(mxAt ω.mx m).1,(mxAt ω.mx m).2.1,(mxAt ω.mx m).2.2,s.2.1,s.2.2⟩:=by
    show (⟨_,_,_,(gtA ω.tb m).1,(gtA ω.tb m).2⟩:Cm)=_
    unfold gtA
    rw [<- e]
    rw [hg]
   rw [e2] at hL
   obtain⟨i,hi1,rfl,_⟩:=hL.1 hy
   have:ω.cl.length=ω.progs.length:=hi.len
   have hi1:i<ω.progs.length:=hi1
   omega
 . obtain⟨i,hc⟩:=List.getElem?_of_mem hc
   have hlt:=(List.getElem?_eq_some_iff.1 hc).1
   have hl:ω.cl.length=ω.progs.length:=hi.len
   have hci:=hi.ci i c (ω.progs[i]'(by omega)) hc (List.getElem?_eq_getElem _)
   exact⟨hci.g,λ q=>by rw [hci.pm] at q;cases q⟩
 . have hci:=hi.ci i c p hc hp
   refine⟨hci.a0,hci.a1,hci.dn.symm,hci.tb,hci.sc,hci.rd,hci.ol,λ e=>⟨hci.fin e,?_⟩,λ k n ha=>⟨hci.pcs k n ha,?_⟩⟩
   . rcases hci.wk with q | ⟨_,n,q,_⟩
     . exact q
     . have:=(List.getElem?_eq_some_iff.1 q).1
       omega
   . rcases hci.wk with q | ⟨q0,n',q,q2⟩
     . exact .inl q
     . rw [ha] at q
       cases q
       exact .inr ⟨rfl,q0,q2⟩
 . obtain⟨m,hy⟩:=List.getElem?_of_mem hy
   have hlt:=(List.getElem?_eq_some_iff.1 hy).1
   have hm:m<4:=by rw [<- h.m4];exact hlt
   have e:mxAt ω.mx m=y:=mxAt_get hy
   have h1:=hi.ow m hm
   have h2:=(hi.iv m hm).T.nb
   have h3:=(hi.iv m hm).T.sb
   have h1:OkW (mxAt ω.mx m).1:=h1
   have h2:0<=(mxAt ω.mx m).2.1/\(mxAt ω.mx m).2.1<4294967296:=h2
   have h3:0<=(mxAt ω.mx m).2.2/\(mxAt ω.mx m).2.2<4294967296:=h3
   rw [e] at h1 h2 h3
   exact⟨h1,h2,h3⟩
 . rcases hi.st with q | q
   . exact .inl q
   . exact .inr (.inl q)
theorem still_stp (h:RightW ω) (hs:Still ω who) (h0:0<=who):stp (mw ω) who.toNat=(mw ω,none):=by
 unfold stp
 cases hc:(mw ω).cl[who.toNat]? with
 | none=>rfl
 | some c =>
  cases hp:(mw ω).progs[who.toNat]? with
  | none=>rfl
  | some p =>
   have hc:ω.cl[who.toNat]?=some c:=hc
   have hlt:=(List.getElem?_eq_some_iff.1 hc).1
   dsimp only
   rw [if_pos]
   rcases hs with q | q | q | ⟨c',q1,q2⟩
   . exact .inl q
   . omega
   . omega
   . rw [hc] at q1;cases q1;exact .inr q2
theorem StepM.fine (h:Fine ω) (hs:StepM ω who ψ ev x):Fine ψ/\x=0/\ψ.progs=ω.progs/\((who<0/\ψ=ω/\ev=[])\/(0<=who/\StpR (mw ω) who.toNat (mw ψ) ((stp (mw ω) who.toNat).2)/\(ω.stop≠0->ψ=ω)/\mw ψ=(stp (mw ω) who.toNat).1/\ev=(stp (mw ω) who.toNat).2.toList)):=by
 have hr:=h.right
 rcases hs with ⟨q,_⟩ | ⟨_,q,rfl,rfl,rfl⟩ | ⟨_,q,m4,tab,e1,rfl,rfl⟩
 . exact absurd hr q
 . refine⟨h,rfl,rfl,?_⟩
   by_cases h0:who<0
   . exact .inl ⟨h0,rfl,rfl⟩
   . have e:=still_stp hr q (by omega)
     have hi:=stp_inv h.inv who.toNat
     rw [e] at hi ⊢
     exact .inr ⟨by omega,hi,λ _=>rfl,rfl,rfl⟩
 . have hi:=stp_inv h.inv who.toNat
   rw [<- e1] at hi
   have hp:ψ.progs=ω.progs:=hi.pr
   have h0:0<=who:=by
    by_cases h0:0<=who
    . exact h0
    . exact absurd (.inr (.inl (by omega))) q
   exact⟨⟨hi.inv,by rw [hp];exact h.progs,m4,tab⟩,rfl,hp,.inr ⟨h0,hi,λ hn=>absurd (.inl hn) q,e1,rfl⟩⟩
theorem TickM.fine (h:Fine ω) (hd:Tim d) (hn:ω.now+d<=4611686018427387904) (hs:TickM ω d ψ x):Fine ψ/\x=0/\((ω.stop≠0/\ψ=ω)\/(ω.stop=0/\ψ={ ω with now:=ω.now+d })):=by
 have hr:=h.right
 rcases hs with ⟨q,_⟩ | ⟨_,_,q,rfl,rfl⟩ | ⟨_,_,q,_,rfl,rfl⟩ | ⟨_,_,_,q,_⟩
 . exact absurd ⟨hr,hd⟩ q
 . exact⟨h,rfl,.inl ⟨q,rfl⟩⟩
 . have e:mw { ω with now:=ω.now+d }=tick (mw ω) d:=by
    unfold tick
    rw [if_neg (by show ¬ ω.stop≠0;omega)]
    rfl
   exact⟨⟨by rw [e];exact h.inv.tick hd.1 hn,h.progs,h.m4,h.tab⟩,rfl,.inr ⟨q,rfl⟩⟩
 . omega
end
end P16
end
section
open Go.ChangeShapes Go.WideShapes Go.ChangeAt Go.RowKit
namespace P12
def cutV (x:PV):PV:=⟨x.A,if 70<x.n then 70 else x.n,x.c,x.l.take 70⟩
theorem cutV_ok {w:World} {x:PV} (h:x.ok w):(cutV x).ok w:=by
 obtain⟨h1,h2,h3⟩:=h
 refine⟨?_,?_,h3⟩
 . show Mem w x.A (if 70<x.n then 70 else x.n) (x.l.take 70)
   split
   . exact h1.take_ 70 (by omega)
   . rw [List.take_of_length_le (by have:=h1.1;omega)]
     exact h1
 . show (if 70<x.n then 70 else x.n)<=x.c
   split<;>omega
def fewP (l:List (List Ac)):List (List Ac):=(l.take 10).map λ p=>p.take 70
end P12
end
section
open Go.ChangeShapes Go.WideShapes Go.ChangeAt Go.RowKit
namespace P16
open P12 (PV PMem POwn pl fewP cutV cutV_ok pmem_one wpList_append_progs Ac)
theorem few_is {w:World} {A:Option Addr} {n c:Nat} {L:List PV} (hm:PMem w A n L) (hc:n<=c) (hn:n<=9223372036854775807) :
 Calls Tryz.prog 13 #[.slice A n c] w λ e w'=>(∃ B m d R,e=.returned (.slice B m d)/\R=(L.take 10).map cutV/\pl R=fewP (pl L)/\m<=10/\POwn w' w.heap.size 0 B m d R)/\Gr w w':=by
 have hlen:=hm.len
 obtain⟨N,hN⟩:∃ N:Nat,(if (10:Int)<(n:Int) then (10:Int) else (n:Int))=(N:Int)/\N<=n/\N<=10/\L.take 10=L.take N:=by
  by_cases h:10<n
  . exact⟨10,by rw [if_pos (by omega)];rfl,by omega,by omega,rfl⟩
  . exact⟨n,by rw [if_neg (by omega)],by omega,by omega,by rw [List.take_of_length_le (by omega),List.take_of_length_le (by omega)]⟩
 obtain⟨hN,hNn,hN10,htk⟩:=hN
 have hNm:min (n:Int) 10=(N:Int):=by rw [<- hN];split<;>omega
 have HM:=hid hm
 have HTK:=hid htk
 have h0:(0:Int)<=(N:Int):=by omega
 have h1:(N:Int)<=(c:Int):=by omega
 clear hm htk
 go_enter Tryz.func13,Tryz.ntmps13
 go_wp2_with fail
 go_loopw [3,12] (λ O i wr=>∃ (k:Nat) (B:Option Addr) (d:Nat),k<=N/\i=.int .i64 (k:Int)/\O=.slice B k d/\Hid (POwn wr w.heap.size 0 B k d ((L.take k).map cutV))/\Hid (Gr w wr)) (λ _ i _=>N-(intOf i).toNat)
 case atStart=>exact⟨0,none,0,Nat.zero_le _,rfl,rfl,hid POwn.nil,hid (Gr.refl _)⟩
 case round =>
  obtain⟨k,B,d,hk,rfl,rfl,HR,HG⟩:=hrel
  by_cases hlt:k<N
  . obtain⟨b,off,x,rfl,hbl,hx,hok,d0⟩:=(HM.out.gr HG.out).at_ (show k<n by omega)
    have hxold:x.ok w:=HM.out.2 x (List.mem_of_getElem? hx)
    have HX:=hid (show (L.take (k+1)).map cutV=(L.take k).map cutV++[cutV x] from by rw [take_snoc hx,List.map_append];rfl)
    have k0:(0:Int)<=(k:Int):=by omega
    have k1:(k:Int)<(N:Int):=by omega
    obtain⟨q,hq⟩:∃ q,(if 70<x.n then 70 else x.n)=q:=⟨_,rfl⟩
    have hqi:(if (70:Int)<(x.n:Int) then (70:Int) else (x.n:Int))=(q:Int):=by rw [<- hq];split<;>split<;>omega
    have hqm:min (x.n:Int) 70=(q:Int):=by rw [<- hqi];split<;>omega
    have q0:(0:Int)<=(q:Int):=by omega
    have q1:(q:Int)<=(x.c:Int):=by have:=hok.2.1;rw [<- hq];split<;>omega
    have hcv:cutV x=⟨x.A,q,x.c,x.l.take 70⟩:=by unfold cutV;rw [hq]
    have g1:=(Gr.refl wr).al (.cells #[.slice x.A q x.c] 64)
    have hcok:(cutV x).ok (wr.alloc (.cells #[.slice x.A q x.c] 64)):=(cutV_ok hok).gr g1
    have HPM:=hid (pmem_one (x:=cutV x) (by rw [hcv];exact Blk.new wr #[.slice x.A q x.c] 64) hcok)
    have HOW:=hid (HR.out.gr g1)
    have hlate:=HR.out.late
    have hws:=HG.out.size
    have HOFF:Hid (∀ z∈[cutV x],0<z.n->∀ j,z.A.map (·.block)=some j->0<=j/\j<(wr.alloc (.cells #[.slice x.A q x.c] 64)).heap.size/\B.map (·.block)≠some j):=hid λ z hz hz0 j hj=>by
     rw [List.mem_singleton] at hz
     subst hz
     obtain⟨b',off',e,hb',_⟩:=(cutV_ok hxold).1.2.2 hz0
     rw [e] at hj
     simp at hj
     refine⟨Nat.zero_le _,by rw [World.size_alloc];omega,λ e2=>?_⟩
     have:=hlate _ e2
     omega
    have HG2:=hid (HG.out.trans g1)
    have hbase:w.heap.size<=(wr.alloc (.cells #[.slice x.A q x.c] 64)).heap.size:=HG2.out.size
    have HLT:=hid hlate
    clear hx hok g1 hcok hcv hq hxold hlate
    go_wp2_with (at_builtin;refine Mark.stop ?_)
    refine Mark.go ?_
    refine wpList_append_progs (news:=[cutV x]) rfl (.tmp 16) (.tmp 22) rfl rfl rfl HOW.out HPM.out HOFF.out (by omega) hbase ?_
    intro A' c' w3 hG
    have HP3:=hG.1
    rw [<- HX.out] at HP3
    have HP3:=hid HP3
    have HG3:=hid (HG2.out.gb hG.2 (λ j e=>HLT.out j e))
    clear hG
    go_wp2_with fail
    go_roundw
    case rel=>exact⟨k+1,A',c',by omega,by go_num,rfl,HP3,HG3⟩
    case measure=>simp [intOf];omega
  . obtain rfl:k=N:=by omega
    have HF:=hid (show pl ((L.take k).map cutV)=fewP (pl L) from by
     unfold pl fewP
     rw [<- List.map_take,HTK.out,List.map_map,List.map_map]
     rfl)
    go_wp2_with fail
    go_ret
    exact⟨⟨B,k,d,_,rfl,by rw [HTK.out],HF.out,hN10,HR.out⟩,HG.out⟩
end P16
end
section
open Go.ChangeShapes Go.WideShapes Go.ChangeAt Go.RowKit Go.Joins
namespace P16
theorem run_mutex_neq (x y:T3) {b:Bool} (hb:b=true↔x=y) (w:World) :
 (binOp .neq 48 (.agg #[.int .i64 x.1,.int .i64 x.2.1,.int .i64 x.2.2]) (.agg #[.int .i64 y.1,.int .i64 y.2.1,.int .i64 y.2.2])).run Tryz.prog w=.ok (.bool (!b)) w:=by
 obtain⟨x1,x2,x3⟩:=x
 obtain⟨y1,y2,y3⟩:=y
 have hb:=hid hb
 go_simp
 have hb:=hb.out
 simp only [Prod.mk.injEq] at hb
 repeat' split
 all_goals (congr 2;cases b<;>simp_all)
theorem client_ext {x y:Cl} (h:x.gst=y.gst/\x.permit=y.permit/\x.act=y.act/\x.pc=y.pc/\x.worked=y.worked/\x.ticket=y.ticket/\x.first=y.first/\x.told=y.told/\x.since=y.since/\x.st=y.st/\x.aw=y.aw/\x.rounds=y.rounds/\x.old=y.old):x=y:=by
 cases x;cases y;simp_all
theorem run_client_neq (x y:Cl) {b:Bool} (hb:b=true↔x=y) (w:World) :
 (binOp .neq 55 (.agg #[.int .i64 x.gst,.bool x.permit,.int .i64 x.act,.int .i64 x.pc,.int .i64 x.worked,.int .i64 x.ticket,.bool x.first,.bool x.told,.int .i64 x.since,.bool x.st,.bool x.aw,.int .i64 x.rounds,.int .i64 x.old]) (.agg #[.int .i64 y.gst,.bool y.permit,.int .i64 y.act,.int .i64 y.pc,.int .i64 y.worked,.int .i64 y.ticket,.bool y.first,.bool y.told,.int .i64 y.since,.bool y.st,.bool y.aw,.int .i64 y.rounds,.int .i64 y.old])).run Tryz.prog w=.ok (.bool (!b)) w:=by
 have no:x≠y->Result.ok (Value.bool true) w=Result.ok (Value.bool (!b)) w:=λ h=>by
  have e:b=false:=by
   cases b with
   | false=>rfl
   | true=>exact absurd (hb.1 rfl) h
  rw [e];rfl
 have yes:x=y->Result.ok (Value.bool false) w=Result.ok (Value.bool (!b)) w:=λ h=>by rw [hb.2 h];rfl
 clear hb
 go_simp
 by_cases h0:x.gst=y.gst
 rotate_left
 . rw [if_neg h0];exact no (λ e=>h0 (by rw [e]))
 rw [if_pos h0]
 by_cases h1:x.permit=y.permit
 rotate_left
 . rw [if_neg h1];exact no (λ e=>h1 (by rw [e]))
 rw [if_pos h1]
 by_cases h2:x.act=y.act
 rotate_left
 . rw [if_neg h2];exact no (λ e=>h2 (by rw [e]))
 rw [if_pos h2]
 by_cases h3:x.pc=y.pc
 rotate_left
 . rw [if_neg h3];exact no (λ e=>h3 (by rw [e]))
 rw [if_pos h3]
 by_cases h4:x.worked=y.worked
 rotate_left
 . rw [if_neg h4];exact no (λ e=>h4 (by rw [e]))
 rw [if_pos h4]
 by_cases h5:x.ticket=y.ticket
 rotate_left
 . rw [if_neg h5];exact no (λ e=>h5 (by rw [e]))
 rw [if_pos h5]
 by_cases h6:x.first=y.first
 rotate_left
 . rw [if_neg h6];exact no (λ e=>h6 (by rw [e]))
 rw [if_pos h6]
 by_cases h7:x.told=y.told
 rotate_left
 . rw [if_neg h7];exact no (λ e=>h7 (by rw [e]))
 rw [if_pos h7]
 by_cases h8:x.since=y.since
 rotate_left
 . rw [if_neg h8];exact no (λ e=>h8 (by rw [e]))
 rw [if_pos h8]
 by_cases h9:x.st=y.st
 rotate_left
 . rw [if_neg h9];exact no (λ e=>h9 (by rw [e]))
 rw [if_pos h9]
 by_cases h10:x.aw=y.aw
 rotate_left
 . rw [if_neg h10];exact no (λ e=>h10 (by rw [e]))
 rw [if_pos h10]
 by_cases h11:x.rounds=y.rounds
 rotate_left
 . rw [if_neg h11];exact no (λ e=>h11 (by rw [e]))
 rw [if_pos h11]
 by_cases h12:x.old=y.old
 rotate_left
 . rw [if_neg h12];exact no (λ e=>h12 (by rw [e]))
 rw [if_pos h12]
 exact yes (client_ext ⟨h0,h1,h2,h3,h4,h5,h6,h7,h8,h9,h10,h11,h12⟩)
end P16
end
section
namespace P12
def ho (b:Bool) (m:Int):Option Int:=if b then some m else none
theorem held_try {b:Bool} {m:Int} {a:Ac} {r:List Ac} (h:a.1=1):held (ho b m) (a::r)=none:=by rw [held,if_pos h]
theorem held_lock_no {m:Int} {a:Ac} {r:List Ac} (h:a.1=0):held (ho true m) (a::r)=none:=by rw [held,if_neg (by omega),if_pos h];rfl
theorem held_lock {m:Int} {a:Ac} {r:List Ac} (h:a.1=0):held (ho false m) (a::r)=held (ho true a.2) r:=by rw [held,if_neg (by omega),if_pos h];rfl
theorem held_unlock_no {b:Bool} {m:Int} {a:Ac} {r:List Ac} (h:a.1=2) (hb:b=false\/a.2≠m):held (ho b m) (a::r)=none:=by
 rw [held,if_neg (by omega),if_neg (by omega),if_pos h,if_neg]
 intro e
 cases b
 . cases e
 . rcases hb with hb | hb
   . cases hb
   . exact hb (Option.some.inj e).symm
theorem held_unlock {m:Int} {a:Ac} {r:List Ac} (h:a.1=2) (hm:a.2=m):held (ho true m) (a::r)=held (ho false m) r:=by
 rw [held,if_neg (by omega),if_neg (by omega),if_pos h,if_pos (by rw [hm];rfl)];rfl
theorem held_other {b:Bool} {m:Int} {a:Ac} {r:List Ac} (h0:a.1≠0) (h1:a.1≠1) (h2:a.1≠2):held (ho b m) (a::r)=held (ho b m) r:=by
 rw [held,if_neg h1,if_neg h0,if_neg h2]
theorem tidy_end (b:Bool) (m:Int):(held (ho b m) []==some none)=!b:=by cases b<;>rfl
end P12
end
section
open Go.ChangeShapes Go.WideShapes Go.ChangeAt Go.RowKit
namespace P12
theorem ret_bool {a b:Bool} (h:a=b):Ending.returned (.bool a)=.returned (.bool b):=by rw [h]
theorem unfit_is {a:Ac} {B:Bool} (hB:okA a=B) (w:World):Calls Tryz.prog 83 #[.agg #[.int .i64 a.1,.int .i64 a.2]] w λ e w'=>e=.returned (.bool (!B))/\Gr w w':=by
 obtain⟨k,n⟩:=a
 have key:∀ B',okA (k,n)=B'->Hid (B'=B):=λ B' h=>hid (by rw [<- h,hB])
 clear hB
 by_cases h4:0<=k/\k<=2
 . have e:k=0\/k=1\/k=2:=by omega
   clear h4
   by_cases h0:n<0
   . have HB:=key false (by unfold okA;rcases e with rfl | rfl | rfl<;>simp<;>omega)
     clear key
     rcases e with rfl | rfl | rfl<;>(
      go_enter Tryz.func83,Tryz.ntmps83
      go_wp2_with fail
      go_ret
      rw [<- HB.out]
      exact⟨rfl,(Gr.refl w).al _⟩)
   . by_cases h3:n<4
     . have HB:=key true (by unfold okA;rcases e with rfl | rfl | rfl<;>simp<;>omega)
       have h3':¬ (4:Int)<=n:=by omega
       clear key
       rcases e with rfl | rfl | rfl<;>(
        go_enter Tryz.func83,Tryz.ntmps83
        go_wp2_with fail
        go_ret
        rw [<- HB.out]
        exact⟨rfl,(Gr.refl w).al _⟩)
     . have HB:=key false (by unfold okA;rcases e with rfl | rfl | rfl<;>simp<;>omega)
       have h3':(4:Int)<=n:=by omega
       clear key
       rcases e with rfl | rfl | rfl<;>(
        go_enter Tryz.func83,Tryz.ntmps83
        go_wp2_with fail
        go_ret
        rw [<- HB.out]
        exact⟨rfl,(Gr.refl w).al _⟩)
 . by_cases h5:k=3
   . subst h5
     by_cases h0:n<0
     . have HB:=key false (by unfold okA;simp;omega)
       clear key
       go_enter Tryz.func83,Tryz.ntmps83
       go_wp2_with fail
       go_ret
       rw [<- HB.out]
       exact⟨rfl,(Gr.refl w).al _⟩
     . by_cases h3:1000<n
       . have HB:=key false (by unfold okA;simp;omega)
         clear key
         go_enter Tryz.func83,Tryz.ntmps83
         go_wp2_with fail
         go_ret
         rw [<- HB.out]
         exact⟨rfl,(Gr.refl w).al _⟩
       . have HB:=key true (by unfold okA;simp;omega)
         clear key
         go_enter Tryz.func83,Tryz.ntmps83
         go_wp2_with fail
         go_ret
         rw [<- HB.out]
         exact⟨rfl,(Gr.refl w).al _⟩
   . have HB:=key false (by unfold okA;rw [if_neg h5];simp;omega)
     have e0:(k==0)=false:=by simp;omega
     have e1:(k==1)=false:=by simp;omega
     have e2:(k==2)=false:=by simp;omega
     have e3:(k==3)=false:=by simp;omega
     clear key h4 h5
     go_enter Tryz.func83,Tryz.ntmps83
     go_wp2_with fail
     go_ret
     rw [<- HB.out]
     exact⟨rfl,(Gr.refl w).al _⟩
def badAt {α:Type} (p:α->Bool):List α->Nat->Int
 | [],_=>-1
 | x::r,k=>if p x then badAt p r (k+1) else k
theorem badAt_is {α:Type} (p:α->Bool) (l:List α):∀ k:Nat,decide (0<=badAt p l k)=!l.all p:=by
 induction l with
 | nil=>intro k;rfl
 | cons x r ih =>
  intro k
  unfold badAt
  cases hx:p x
  . simp [hx]
  . simp [hx,ih]
theorem IndexFunc_ok (A:Option Addr) (n c:Nat) (l:List Ac) (w:World) (hm:Mem w A n l) (hn:n<=9223372036854775807) :
 Calls Tryz.prog 120 #[.slice A n c,.func (.func 83) #[] #[]] w λ e w'=>e=.returned (.int .i64 (badAt okA l 0))/\Gr w w':=by
 go_enter Tryz.func120,Tryz.ntmps120
 go_wp2_with fail
 go_loopw [8] (λ i wr=>∃ k:Nat,k<=n/\i=.int .i64 k/\Hid (badAt okA (l.drop k) k=badAt okA l 0)/\Gr w wr) (λ i _=>n-(intOf i).toNat)
 case atStart=>exact⟨0,Nat.zero_le _,rfl,hid rfl,Gr.refl _⟩
 case round =>
  obtain⟨k,hk,rfl,HB,hg⟩:=hrel
  by_cases hlt:k<n
  . obtain⟨b,off,x,rfl,hbl,hx,h1,h2,c0,c1⟩:=(hm.gr hg).at_ hlt
    have hd:l.drop k=x::l.drop (k+1):=by
     obtain⟨hl,rfl⟩:=List.getElem?_eq_some_iff.1 hx
     exact List.drop_eq_getElem_cons hl
    cases hf:okA x
    . have hr:badAt okA l 0=(k:Int):=by rw [<- HB.out,hd];simp [badAt,hf]
      have cc:=λ w=>hid (unfit_is hf w)
      have HR:=hid hr
      clear hr hd hf hx HB hm
      go_wp2_with fail
      with_reducible refine (cc _).out.mono ?_
      rintro e w1 ⟨rfl,hb1⟩
      go_wp2_with fail
      go_ret
      rw [HR.out]
      exact⟨rfl,hg.trans hb1⟩
    . have hr:Hid (badAt okA (l.drop (k+1)) (k+1)=badAt okA l 0):=hid (by rw [<- HB.out,hd];simp [badAt,hf])
      have cc:=λ w=>hid (unfit_is hf w)
      clear hd hf hx HB hm
      go_wp2_with fail
      with_reducible refine (cc _).out.mono ?_
      rintro e w1 ⟨rfl,hb1⟩
      go_wp2_with fail
      go_roundw
      case rel=>exact⟨k+1,by omega,by go_num,hr,hg.trans hb1⟩
      case measure=>simp [intOf];omega
  . obtain rfl:k=n:=by omega
    have hr:badAt okA l 0=-1:=by rw [<- HB.out,List.drop_of_length_le (by have:=hm.1;omega)];rfl
    have HR:=hid hr
    clear hr HB hm
    go_wp2_with fail
    go_ret
    rw [HR.out]
    exact⟨rfl,hg⟩
theorem ContainsFunc_ok (A:Option Addr) (n c:Nat) (l:List Ac) (w:World) (hm:Mem w A n l) (hn:n<=9223372036854775807) :
 Calls Tryz.prog 82 #[.slice A n c,.func (.func 83) #[] #[]] w λ e w'=>e=.returned (.bool (!l.all okA))/\Gr w w':=by
 have cc:=λ w hm=>hid (IndexFunc_ok A n c l w hm hn)
 have HB:=hid (badAt_is okA l 0)
 generalize badAt okA l 0=r at *
 go_enter Tryz.func82,Tryz.ntmps82
 go_wp2_with fail
 with_reducible refine (cc _ hm).out.mono ?_
 rintro e w1 ⟨rfl,hb1⟩
 go_wp2_with fail
 go_ret
 exact⟨ret_bool HB.out,hb1⟩
def okP (p:List Ac):Bool:=decide (p.length<=64)&&p.all okA
theorem rightB_okP (l:List (List Ac)):rightB l=(decide (l.length<=8)&&l.all okP):=rfl
theorem unfitProgram_is (x:PV) {B:Bool} (hB:okP x.l=B) (w:World) (hm:x.ok w) :
 Calls Tryz.prog 56 #[.slice x.A x.n x.c] w λ e w'=>e=.returned (.bool (!B))/\Gr w w':=by
 have hn:=hm.lt
 obtain⟨A,n,c,l⟩:=x
 have hm:=hm.1
 dsimp only at hm hn hB ⊢
 by_cases h64:n<=64
 . have hr:l.all okA=B:=by rw [<- hB];simp [okP,hm.1,h64]
   have cc:=λ w hm=>hid (ContainsFunc_ok A n c l w hm hn)
   have HR:=hid hr
   clear hr hB
   generalize l.all okA=B' at *
   have h65:¬ 64<n:=by omega
   go_enter Tryz.func56,Tryz.ntmps56
   go_wp2_with fail
   with_reducible refine (cc _ hm).out.mono ?_
   rintro e w1 ⟨rfl,hb1⟩
   go_wp2_with fail
   go_ret
   rw [HR.out]
   exact⟨ret_bool (by simp;intro h;omega),hb1⟩
 . have hr:false=B:=by rw [<- hB];simp [okP,hm.1,h64]
   have HR:=hid hr
   have h65:64<n:=by omega
   clear hr hB
   go_enter Tryz.func56,Tryz.ntmps56
   go_wp2_with fail
   go_ret
   rw [<- HR.out]
   exact⟨rfl,Gr.refl _⟩
def okV (x:PV):Bool:=okP x.l
theorem IndexFuncP_ok (A:Option Addr) (n c:Nat) (R:List PV) (w:World) (hm:PMem w A n R) (hn:n<=9223372036854775807) :
 Calls Tryz.prog 81 #[.slice A n c,.func (.func 56) #[] #[]] w λ e w'=>e=.returned (.int .i64 (badAt okV R 0))/\Gr w w':=by
 go_enter Tryz.func81,Tryz.ntmps81
 go_wp2_with fail
 go_loopw [8] (λ i wr=>∃ k:Nat,k<=n/\i=.int .i64 k/\Hid (badAt okV (R.drop k) k=badAt okV R 0)/\Gr w wr) (λ i _=>n-(intOf i).toNat)
 case atStart=>exact⟨0,Nat.zero_le _,rfl,hid rfl,Gr.refl _⟩
 case round =>
  obtain⟨k,hk,rfl,HB,hg⟩:=hrel
  by_cases hlt:k<n
  . obtain⟨b,off,x,rfl,hbl,hx,ho,c0⟩:=(hm.gr hg).at_ hlt
    have hd:R.drop k=x::R.drop (k+1):=by
     obtain⟨hl,rfl⟩:=List.getElem?_eq_some_iff.1 hx
     exact List.drop_eq_getElem_cons hl
    have cc:=λ w hm B hf=>hid (unfitProgram_is x (B:=B) hf w hm)
    cases hf:okP x.l
    . have hr:badAt okV R 0=(k:Int):=by rw [<- HB.out,hd];simp [badAt,okV,hf]
      have HR:=hid hr
      have cc:=λ w hm=>cc w hm _ hf
      clear hr hd hf hx HB hm
      go_wp2_with fail
      with_reducible refine (cc _ ho).out.mono ?_
      rintro e w1 ⟨rfl,hb1⟩
      go_wp2_with fail
      go_ret
      rw [HR.out]
      exact⟨rfl,hg.trans hb1⟩
    . have hr:Hid (badAt okV (R.drop (k+1)) (k+1)=badAt okV R 0):=hid (by rw [<- HB.out,hd];simp [badAt,okV,hf])
      have cc:=λ w hm=>cc w hm _ hf
      clear hd hf hx HB hm
      go_wp2_with fail
      with_reducible refine (cc _ ho).out.mono ?_
      rintro e w1 ⟨rfl,hb1⟩
      go_wp2_with fail
      go_roundw
      case rel=>exact⟨k+1,by omega,by go_num,hr,hg.trans hb1⟩
      case measure=>simp [intOf];omega
  . obtain rfl:k=n:=by omega
    have hr:badAt okV R 0=-1:=by rw [<- HB.out,List.drop_of_length_le (by have:=hm.len;omega)];rfl
    have HR:=hid hr
    clear hr HB hm
    go_wp2_with fail
    go_ret
    rw [HR.out]
    exact⟨rfl,hg⟩
theorem ContainsFuncP_ok (A:Option Addr) (n c:Nat) (R:List PV) (w:World) (hm:PMem w A n R) (hn:n<=9223372036854775807) :
 Calls Tryz.prog 55 #[.slice A n c,.func (.func 56) #[] #[]] w λ e w'=>e=.returned (.bool (!R.all okV))/\Gr w w':=by
 have cc:=λ w hm=>hid (IndexFuncP_ok A n c R w hm hn)
 have HB:=hid (badAt_is okV R 0)
 generalize badAt okV R 0=r at *
 go_enter Tryz.func55,Tryz.ntmps55
 go_wp2_with fail
 with_reducible refine (cc _ hm).out.mono ?_
 rintro e w1 ⟨rfl,hb1⟩
 go_wp2_with fail
 go_ret
 exact⟨ret_bool HB.out,hb1⟩
theorem Right_is {A:Option Addr} {n c:Nat} {R:List PV} {B:Bool} (hB:rightB (pl R)=B) (hn:n<=9223372036854775807) (w:World) (hm:PMem w A n R) :
 Calls Tryz.prog 34 #[.slice A n c] w λ e w'=>e=.returned (.bool B)/\Gr w w':=by
 have hall:(pl R).all okP=R.all okV:=by unfold pl;rw [List.all_map];rfl
 have hlen:(pl R).length=n:=by unfold pl;rw [List.length_map,hm.len]
 rw [rightB_okP,hall,hlen] at hB
 by_cases h64:n<=8
 . have hr:R.all okV=B:=by rw [<- hB];simp [h64]
   have cc:=λ w hm=>hid (ContainsFuncP_ok A n c R w hm hn)
   have HR:=hid hr
   clear hr hB hall
   generalize R.all okV=B' at *
   go_enter Tryz.func34,Tryz.ntmps34
   go_wp2_with fail
   with_reducible refine (cc _ hm).out.mono ?_
   rintro e w1 ⟨rfl,hb1⟩
   go_wp2_with fail
   go_ret
   rw [<- HR.out]
   exact⟨ret_bool (by simp),hb1⟩
 . have hr:false=B:=by rw [<- hB];simp [h64]
   have HR:=hid hr
   have h65:decide (n<=8)=false:=by simpa using h64
   clear hr hB hall
   go_enter Tryz.func34,Tryz.ntmps34
   go_wp2_with fail
   go_ret
   rw [<- HR.out]
   exact⟨rfl,Gr.refl _⟩
end P12
end
section
open Go.ChangeShapes Go.WideShapes Go.ChangeAt Go.RowKit
namespace P12
theorem take_more {α:Type} {l:List α} {k:Nat} {x:α} (h:l[k]?=some x):l.take (k+1)=l.take k++[x]:=by
 rw [List.take_add_one,h];rfl
theorem rAct_is {a:Ac} {B:Bool} (hB:okA a=B) (w:World):Calls Tryz.prog 50 #[.agg #[.int .i64 a.1,.int .i64 a.2]] w λ e w'=>e=.returned (.bool B)/\Gr w w':=by
 obtain⟨k,n⟩:=a
 have key:∀ B',okA (k,n)=B'->Hid (B'=B):=λ B' h=>hid (by rw [<- h,hB])
 clear hB
 by_cases h3:k=3
 . subst h3
   by_cases h0:0<=n
   . by_cases h1:n<=1000
     . have HB:=key true (by unfold okA;simp;omega)
       clear key
       go_enter Tryz.func50,Tryz.ntmps50
       go_wp2_with fail
       go_ret
       rw [<- HB.out]
       exact⟨rfl,(Gr.refl w).al _⟩
     . have HB:=key false (by unfold okA;simp;omega)
       clear key
       go_enter Tryz.func50,Tryz.ntmps50
       go_wp2_with fail
       go_ret
       rw [<- HB.out]
       exact⟨rfl,(Gr.refl w).al _⟩
   . have HB:=key false (by unfold okA;simp;omega)
     clear key
     go_enter Tryz.func50,Tryz.ntmps50
     go_wp2_with fail
     go_ret
     rw [<- HB.out]
     exact⟨rfl,(Gr.refl w).al _⟩
 . have n3:(k==3)=false:=by simpa using h3
   by_cases h0:0<=k
   . by_cases h1:k<=2
     . by_cases h4:0<=n
       . by_cases h5:n<=3
         . have HB:=key true (by unfold okA;rw [if_neg (by simpa using h3)];simp;omega)
           clear key
           go_enter Tryz.func50,Tryz.ntmps50
           go_wp2_with fail
           go_ret
           rw [<- HB.out]
           exact⟨rfl,(Gr.refl w).al _⟩
         . have HB:=key false (by unfold okA;rw [if_neg (by simpa using h3)];simp;omega)
           clear key
           go_enter Tryz.func50,Tryz.ntmps50
           go_wp2_with fail
           go_ret
           rw [<- HB.out]
           exact⟨rfl,(Gr.refl w).al _⟩
       . have HB:=key false (by unfold okA;rw [if_neg (by simpa using h3)];simp;omega)
         clear key
         go_enter Tryz.func50,Tryz.ntmps50
         go_wp2_with fail
         go_ret
         rw [<- HB.out]
         exact⟨rfl,(Gr.refl w).al _⟩
     . have HB:=key false (by unfold okA;rw [if_neg (by simpa using h3)];simp;omega)
       clear key
       go_enter Tryz.func50,Tryz.ntmps50
       go_wp2_with fail
       go_ret
       rw [<- HB.out]
       exact⟨rfl,(Gr.refl w).al _⟩
   . have HB:=key false (by unfold okA;rw [if_neg (by simpa using h3)];simp;omega)
     clear key
     go_enter Tryz.func50,Tryz.ntmps50
     go_wp2_with fail
     go_ret
     rw [<- HB.out]
     exact⟨rfl,(Gr.refl w).al _⟩
theorem rTidy_is {A:Option Addr} {n c:Nat} {l:List Ac} {B:Bool} (hB:tidyB l=B) (hn:n<=9223372036854775807) (w:World) (hm:Mem w A n l) :
 Calls Tryz.prog 23 #[.slice A n c] w λ e w'=>e=.returned (.bool B)/\Gr w w':=by
 have HB0:=hid (show (held (ho false (-1)) l==some none)=B from hB)
 clear hB
 go_enter Tryz.func23,Tryz.ntmps23
 go_wp2_with fail
 go_loopw [3,4,9] (λ m b i wr=>∃ (k:Nat) (v:Bool) (u:Int),k<=n/\b=.bool v/\m=.int .i64 u/\i=.int .i64 k/\Hid ((held (ho v u) (l.drop k)==some none)=B)/\Gr w wr) (λ _ _ i _=>n-(intOf i).toNat)
 case atStart=>exact⟨0,false,-1,Nat.zero_le _,rfl,rfl,rfl,HB0,Gr.refl _⟩
 case round =>
  obtain⟨k,v,u,hk,rfl,rfl,rfl,HB,hg⟩:=hrel
  by_cases hlt:k<n
  . obtain⟨b,off,x,rfl,hbl,hx,h1,h2,c0,c1⟩:=(hm.gr hg).at_ hlt
    have hd:l.drop k=x::l.drop (k+1):=by
     obtain⟨hl,rfl⟩:=List.getElem?_eq_some_iff.1 hx
     exact List.drop_eq_getElem_cons hl
    have HK:=HB.out
    rw [hd] at HK
    obtain⟨x0,x1⟩:=x
    clear hd hx HB hm HB0
    dsimp only at c0 c1 h1 h2
    by_cases e1:x0=1
    . rw [held_try e1] at HK
      have HK:=hid HK
      subst e1
      go_wp2_with fail
      go_ret
      exact⟨ret_bool HK.out,hg.al _⟩
    . have n1:(x0==1)=false:=by simpa using e1
      by_cases e0:x0=0
      . cases v
        . rw [held_lock e0] at HK
          have HK:=hid HK
          subst e0
          clear e1
          go_wp2_with fail
          go_roundw
          case rel=>exact⟨k+1,true,_,by omega,rfl,rfl,by go_num,HK,hg.al _⟩
          case measure=>simp [intOf];omega
        . rw [held_lock_no e0] at HK
          have HK:=hid HK
          subst e0
          clear e1
          go_wp2_with fail
          go_ret
          exact⟨ret_bool HK.out,hg.al _⟩
      . have n0:(x0==0)=false:=by simpa using e0
        by_cases e2:x0=2
        . by_cases hv:v=true/\x1=u
          . obtain⟨rfl,rfl⟩:=hv
            rw [held_unlock (a:=(x0,x1)) e2 rfl] at HK
            have HK:=hid HK
            subst e2
            clear e0 e1
            have nb:(x1 != x1)=false:=by simp
            go_wp2_with fail
            go_roundw
            case rel=>exact⟨k+1,false,_,by omega,rfl,rfl,by go_num,HK,hg.al _⟩
            case measure=>simp [intOf];omega
          . rw [held_unlock_no e2 (by cases v;exact .inl rfl;exact .inr λ e=>hv ⟨rfl,e⟩)] at HK
            have HK:=hid HK
            subst e2
            clear e0 e1
            cases v
            . go_wp2_with fail
              go_ret
              exact⟨ret_bool HK.out,hg.al _⟩
            . have hu:(x1==u)=false:=by simpa using λ e=>hv ⟨rfl,e⟩
              have hu':(x1 != u)=true:=by simp [bne,hu]
              go_wp2_with fail
              go_ret
              exact⟨ret_bool HK.out,hg.al _⟩
        . have n2:(x0==2)=false:=by simpa using e2
          rw [held_other e0 e1 e2] at HK
          have HK:=hid HK
          clear e0 e1 e2
          go_wp2_with fail
          go_roundw
          case rel=>exact⟨k+1,v,u,by omega,rfl,rfl,by go_num,HK,hg.al _⟩
          case measure=>simp [intOf];omega
  . obtain rfl:k=n:=by omega
    have HK:=HB.out
    rw [List.drop_of_length_le (by have:=hm.1;omega),tidy_end] at HK
    have HK:=hid HK
    clear HB hm HB0
    go_wp2_with fail
    go_ret
    exact⟨rfl,hg⟩
theorem plainInt:Tryz.prog.plainKey 3=true:=by kernel_rfl
theorem act_neq (a b:Ac) (W:World):(binOp .neq 67 (.agg #[.int .i64 a.1,.int .i64 a.2]) (.agg #[.int .i64 b.1,.int .i64 b.2])).run Tryz.prog W=.ok (.bool (!(a==b))) W:=by
 have h1:(Op.equalIn 9999 3 (.int .i64 a.1) (.int .i64 b.1)).run Tryz.prog W=.ok (a.1==b.1) W:=run_equalIn_int W 9998 3 .i64 .i64 a.1 b.1 Tryz.underlying3
 have h2:(Op.equalIn 9999 3 (.int .i64 a.2) (.int .i64 b.2)).run Tryz.prog W=.ok (a.2==b.2) W:=run_equalIn_int W 9998 3 .i64 .i64 a.2 b.2 Tryz.underlying3
 have p1:∀ x y:Int,(part 3 #[.int .i64 x,.int .i64 y] 0).run Tryz.prog W=.ok (.int .i64 x) W:=λ x y=>run_part_plain W plainInt rfl
 have p2:∀ x y:Int,(part 3 #[.int .i64 x,.int .i64 y] 1).run Tryz.prog W=.ok (.int .i64 y) W:=λ x y=>run_part_plain W plainInt rfl
 have hk : (Tryz.prog.fieldsOf 67).toList.map (fun f => (f.name == "_", f.type, f.offset)) = [(false, 3, 0), (false, 3, 1)] := by kernel_rfl
 rw [run_neq_struct,run_equalIn_struct W 9999 67 _ _ (by kernel_rfl) (by kernel_rfl)]
 generalize (Tryz.prog.fieldsOf 67).toList=F at hk ⊢
 rcases F with _ | ⟨f0,_ | ⟨f1,_ | ⟨f2,F⟩⟩⟩
 . simp at hk
 . simp at hk
 rotate_left
 . simp at hk
 simp only [List.map_cons,List.map_nil,List.cons.injEq,Prod.mk.injEq,and_true,beq_eq_false_iff_ne] at hk
 obtain⟨⟨n0,t0,o0⟩,n1,t1,o1⟩:=hk
 rw [Op.eqFields,if_pos n0,t0,o0,Sem.run_bind,p1,Result.andThen_ok,Sem.run_bind,p1,Result.andThen_ok,Sem.run_bind,h1,Result.andThen_ok,Op.eqFields,if_pos n1,t1,o1]
 obtain⟨a0,a1⟩:=a
 obtain⟨b0,b1⟩:=b
 dsimp only at h1 h2 ⊢
 by_cases h:a0=b0
 . subst h
   rw [show (a0==a0)=true from by simp,if_neg (by simp),Sem.run_bind,p2,Result.andThen_ok,Sem.run_bind,p2,Result.andThen_ok,Sem.run_bind,h2,Result.andThen_ok]
   by_cases g:a1=b1
   . subst g
     simp [Op.eqFields]
   . have g':(a1==b1)=false:=by simpa using g
     rw [g']
     simp [g]
 . have h':(a0==b0)=false:=by simpa using h
   rw [h']
   simp [h]
theorem rActs_is {A B:Option Addr} {n c m d:Nat} {a b:List Ac} {v:Bool} (hv:(a==b)=v) (hn:n<=9223372036854775807) (hmm:m<=9223372036854775807) (w:World) (ha:Mem w A n a) (hb:Mem w B m b) :
 Calls Tryz.prog 46 #[.slice A n c,.slice B m d] w λ e w'=>e=.returned (.bool v)/\∃ k,w'=w.drewN k:=by
 have la:=ha.1
 have lb:=hb.1
 by_cases hnm:n=m
 . subst hnm
   have t1:((n:Int) != (n:Int))=false:=by simp
   have HV:=hid hv
   have HLA:=hid la
   have HLB:=hid lb
   have H0:=hid (show a.take 0=b.take 0 from rfl)
   clear hv la lb
   go_enter Tryz.func46,Tryz.ntmps46
   go_wp2_with fail
   go_loopw [13] (λ i wr=>∃ k:Nat,k<=n/\i=.int .i64 k/\Hid (a.take k=b.take k)/\Hid (∃ q,wr=w.drewN q)) (λ i _=>n-(intOf i).toNat)
   case atStart=>exact⟨0,Nat.zero_le _,rfl,H0,hid ⟨0,rfl⟩⟩
   case round =>
    obtain⟨k,hk,rfl,HK,HQ⟩:=hrel
    have hG:Gr w wr:=by obtain⟨q,rfl⟩:=HQ.out;exact (Gr.refl w).drN q
    by_cases hlt:k<n
    . obtain⟨b1,o1,x,rfl,hb1,hx,-,-,c0,c1⟩:=(ha.gr hG).at_ hlt
      obtain⟨b2,o2,y,rfl,hb2,hy,-,-,d0,d1⟩:=(hb.gr hG).at_ hlt
      obtain⟨E,hE⟩:∃ E,(x==y)=E:=⟨_,rfl⟩
      have hne:=λ W=>act_neq x y W
      rw [hE] at hne
      have k0:(0:Int)<=(k:Int):=by omega
      have k1:(k:Int)<(n:Int):=by omega
      have HX:=hid hx
      have HY:=hid hy
      have HE:=hid hE
      clear hx hy hE ha hb
      cases E
      . go_wp2_with fail
        go_quiet (fail)
        go_wp2_with fail
        go_ret
        refine⟨ret_bool ?_,by obtain⟨q,rfl⟩:=HQ.out;exact⟨_,World.drewN_drewN _ _ _⟩⟩
        rw [<- HV.out]
        refine (beq_eq_false_iff_ne.2 λ e=>?_).symm
        subst e
        have h1:=HX.out
        rw [HY.out] at h1
        cases h1
        have h2:=HE.out
        simp at h2
      . go_wp2_with fail
        go_quiet (fail)
        go_wp2_with fail
        go_roundw
        case rel=>exact⟨k+1,by omega,by go_num,hid (by rw [take_more HX.out,take_more HY.out,HK.out,eq_of_beq HE.out]),hid (by obtain⟨q,rfl⟩:=HQ.out;exact⟨_,World.drewN_drewN _ _ _⟩)⟩
        case measure=>simp [intOf];omega
    . obtain rfl:k=n:=by omega
      clear ha hb
      go_wp2_with fail
      go_ret
      refine⟨ret_bool ?_,HQ.out⟩
      rw [<- HV.out]
      have h:=HK.out
      rw [List.take_of_length_le (by rw [HLA.out];exact Nat.le_refl _),List.take_of_length_le (by rw [HLB.out];exact Nat.le_refl _)] at h
      rw [h]
      simp
 . have t1:((n:Int) != (m:Int))=true:=by simp;omega
   have HV:=hid (show v=false from by
    rw [<- hv]
    refine beq_eq_false_iff_ne.2 λ e=>hnm ?_
    rw [<- la,<- lb,e])
   clear hv la lb ha hb
   go_enter Tryz.func46,Tryz.ntmps46
   go_wp2_with fail
   go_ret
   exact⟨ret_bool HV.out.symm,0,rfl⟩
end P12
end
section
open Go.ChangeShapes Go.WideShapes Go.ChangeAt Go.RowKit
namespace P12
theorem all_no {α:Type} {p:α->Bool} {l:List α} {k:Nat} {x:α} (hx:l[k]?=some x) (h:p x=false):l.all p=false:=by
 rw [List.all_eq_false]
 exact⟨x,List.mem_of_getElem? hx,by rw [h];simp⟩
theorem all_more {α:Type} {p:α->Bool} {l:List α} {k:Nat} {x:α} (hx:l[k]?=some x) (h:p x=true) (g:(l.take k).all p=true):(l.take (k+1)).all p=true:=by
 rw [take_more hx,List.all_append,g];simp [h]
theorem rRight_is {A:Option Addr} {n c:Nat} {R:List PV} {B:Bool} (hB:rightB (pl R)=B) (hn:n<=9223372036854775807) (w:World) (hm:PMem w A n R) :
 Calls Tryz.prog 30 #[.slice A n c] w λ e w'=>e=.returned (.bool B)/\Gr w w':=by
 have hall:(pl R).all okP=R.all okV:=by unfold pl;rw [List.all_map];rfl
 have hlen:(pl R).length=n:=by unfold pl;rw [List.length_map,hm.len]
 rw [rightB_okP,hall,hlen] at hB
 have HB:=hid hB
 have HL:=hid hm.len
 have H0:=hid (show (R.take 0).all okV=true from rfl)
 clear hB hall hlen
 go_enter Tryz.func30,Tryz.ntmps30
 go_wp2_with fail
 go_loopw [9] (λ i wr=>∃ k:Nat,k<=n/\i=.int .i64 k/\Hid ((R.take k).all okV=true)/\Gr w wr) (λ i _=>n-(intOf i).toNat)
 case atStart=>exact⟨0,Nat.zero_le _,rfl,H0,Gr.refl _⟩
 case round =>
  obtain⟨k,hk,rfl,HK,hg⟩:=hrel
  by_cases hlt:k<n
  . obtain⟨b,off,x,rfl,hbl,hx,hok,c0⟩:=(hm.gr hg).at_ hlt
    have HX:=hid hx
    have hxn:=hok.lt
    have hmx:=hok.1
    have H1:=hid (show (x.l.take 0).all okA=true from rfl)
    have k0:(0:Int)<=(k:Int):=by omega
    have k1:(k:Int)<(n:Int):=by omega
    have hokp:∀ v,okP x.l=v->Hid (okV x=v):=λ v h=>hid h
    obtain⟨xA,xn,xc,xl⟩:=x
    dsimp only at hxn hmx c0 H1 hokp
    have hxl:=hmx.1
    clear hx hok
    go_wp2_with fail
    rename World=>wo
    go_loopw [15] (λ j wr=>∃ i:Nat,i<=xn/\j=.int .i64 i/\Hid ((xl.take i).all okA=true)/\Gr wo wr) (λ j _=>xn-(intOf j).toNat)
    case atStart=>exact⟨0,Nat.zero_le _,rfl,H1,Gr.refl _⟩
    case round =>
     obtain⟨i,hi,rfl,HI,hgi⟩:=hrel
     by_cases hit:i<xn
     . obtain⟨b2,off2,y,rfl,hbl2,hy,hy1,hy2,d0,d1⟩:=(hmx.gr hgi).at_ hit
       have HY:=hid hy
       obtain⟨E,hE⟩:∃ E,okA y=E:=⟨_,rfl⟩
       have ca:=λ W=>hid (rAct_is hE W)
       have HE:=hid hE
       have i0:(0:Int)<=(i:Int):=by omega
       have i1:(i:Int)<(xn:Int):=by omega
       clear hy hE hmx hm
       cases E
       . have HF:=hokp false (by
          unfold okP
          rw [all_no HY.out HE.out]
          simp)
         have HR:=hid (show false=B from by
          rw [<- HB.out,all_no HX.out HF.out]
          simp)
         clear hokp
         go_wp2_with fail
         with_reducible refine (ca _).out.mono ?_
         rintro e w2 ⟨rfl,hb2⟩
         go_wp2_with fail
         go_ret
         exact⟨ret_bool HR.out,(hg.trans (hgi.al _)).trans hb2⟩
       . clear hokp
         go_wp2_with fail
         with_reducible refine (ca _).out.mono ?_
         rintro e w2 ⟨rfl,hb2⟩
         go_wp2_with fail
         go_roundw
         case rel=>exact⟨i+1,by omega,by go_num,hid (all_more HY.out HE.out HI.out),(hgi.al _).trans hb2⟩
         case measure=>simp [intOf];omega
     . obtain rfl:i=xn:=by omega
       have hal:=HI.out
       rw [List.take_of_length_le (by omega)] at hal
       by_cases h64:i<=64
       . have HF:=hokp true (by unfold okP;rw [hal,hxl];simpa using h64)
         have h65:¬ (64:Int)<(i:Int):=by omega
         clear hokp hmx hm
         go_wp2_with fail
         go_roundw
         case rel=>exact⟨k+1,by omega,by go_num,hid (all_more HX.out HF.out HK.out),hg.trans hgi⟩
         case measure=>simp [intOf];omega
       . have HF:=hokp false (by unfold okP;rw [hxl];simp;omega)
         have HR:=hid (show false=B from by
          rw [<- HB.out,all_no HX.out HF.out]
          simp)
         have h65:(64:Int)<(i:Int):=by omega
         clear hokp hmx hm
         go_wp2_with fail
         go_ret
         exact⟨ret_bool HR.out,hg.trans hgi⟩
  . obtain rfl:k=n:=by omega
    have hal:=HK.out
    rw [List.take_of_length_le (by rw [HL.out];exact Nat.le_refl _)] at hal
    have HR:=hid (show decide (k<=8)=B from by rw [<- HB.out,hal];simp)
    clear hm hal
    by_cases h8:k<=8
    . have h9:(k:Int)<=8:=by omega
      rw [decide_eq_true h8] at HR
      go_wp2_with fail
      go_ret
      exact⟨ret_bool HR.out,hg⟩
    . have h9:¬ (k:Int)<=8:=by omega
      rw [decide_eq_false h8] at HR
      go_wp2_with fail
      go_ret
      exact⟨ret_bool HR.out,hg⟩
theorem rSame_is {A B:Option Addr} {n c m d:Nat} {R T:List PV} {v:Bool} (hv:(pl R==pl T)=v) (hn:n<=9223372036854775807) (hmm:m<=9223372036854775807) (w:World) (ha:PMem w A n R) (hb:PMem w B m T) :
 Calls Tryz.prog 22 #[.slice A n c,.slice B m d] w λ e w'=>e=.returned (.bool v)/\∃ k,w'=w.drewN k:=by
 have la:(pl R).length=n:=by unfold pl;rw [List.length_map,ha.len]
 have lb:(pl T).length=m:=by unfold pl;rw [List.length_map,hb.len]
 by_cases hnm:n=m
 . subst hnm
   have t1:((n:Int) != (n:Int))=false:=by simp
   have HV:=hid hv
   have HLA:=hid la
   have HLB:=hid lb
   have H0:=hid (show (pl R).take 0=(pl T).take 0 from rfl)
   clear hv la lb
   go_enter Tryz.func22,Tryz.ntmps22
   go_wp2_with fail
   go_loopw [13] (λ i wr=>∃ k:Nat,k<=n/\i=.int .i64 k/\Hid ((pl R).take k=(pl T).take k)/\Hid (∃ q,wr=w.drewN q)) (λ i _=>n-(intOf i).toNat)
   case atStart=>exact⟨0,Nat.zero_le _,rfl,H0,hid ⟨0,rfl⟩⟩
   case round =>
    obtain⟨k,hk,rfl,HK,HQ⟩:=hrel
    have hG:Gr w wr:=by obtain⟨q,rfl⟩:=HQ.out;exact (Gr.refl w).drN q
    by_cases hlt:k<n
    . obtain⟨b1,o1,x,rfl,hb1,hx,okx,c0⟩:=(ha.gr hG).at_ hlt
      obtain⟨b2,o2,y,rfl,hb2,hy,oky,d0⟩:=(hb.gr hG).at_ hlt
      obtain⟨E,hE⟩:∃ E,(x.l==y.l)=E:=⟨_,rfl⟩
      have hro:=λ (n:Nat)=>hid (Calls.quiet_of (rActs_is (c:=x.c) (d:=y.c) hE okx.lt oky.lt (wr.drewN n) (okx.1.gr ((Gr.refl wr).drN n)) (oky.1.gr ((Gr.refl wr).drN n))))
      have k0:(0:Int)<=(k:Int):=by omega
      have k1:(k:Int)<(n:Int):=by omega
      have HX:=hid (show (pl R)[k]?=some x.l from by unfold pl;rw [List.getElem?_map,hx];rfl)
      have HY:=hid (show (pl T)[k]?=some y.l from by unfold pl;rw [List.getElem?_map,hy];rfl)
      have HE:=hid hE
      clear hx hy hE ha hb okx oky
      cases E
      . go_wp2_with fail
        go_quiet ((go_at_call 46;with_reducible exact (hro _).out))
        go_wp2_with fail
        go_ret
        refine⟨ret_bool ?_,by obtain⟨q,rfl⟩:=HQ.out;exact⟨_,World.drewN_drewN _ _ _⟩⟩
        rw [<- HV.out]
        refine (beq_eq_false_iff_ne.2 λ e=>?_).symm
        have h1:=HX.out
        rw [e,HY.out] at h1
        have h2:=HE.out
        rw [Option.some.inj h1] at h2
        simp at h2
      . go_wp2_with fail
        go_quiet ((go_at_call 46;with_reducible exact (hro _).out))
        go_wp2_with fail
        go_roundw
        case rel=>exact⟨k+1,by omega,by go_num,hid (by rw [take_more HX.out,take_more HY.out,HK.out,eq_of_beq HE.out]),hid (by obtain⟨q,rfl⟩:=HQ.out;exact⟨_,World.drewN_drewN _ _ _⟩)⟩
        case measure=>simp [intOf];omega
    . obtain rfl:k=n:=by omega
      clear ha hb
      go_wp2_with fail
      go_ret
      refine⟨ret_bool ?_,HQ.out⟩
      rw [<- HV.out]
      have h:=HK.out
      rw [List.take_of_length_le (by rw [HLA.out];exact Nat.le_refl _),List.take_of_length_le (by rw [HLB.out];exact Nat.le_refl _)] at h
      rw [h]
      simp
 . have t1:((n:Int) != (m:Int))=true:=by simp;omega
   have HV:=hid (show v=false from by
    rw [<- hv]
    refine beq_eq_false_iff_ne.2 λ e=>hnm ?_
    rw [<- la,<- lb,e])
   clear hv la lb ha hb
   go_enter Tryz.func22,Tryz.ntmps22
   go_wp2_with fail
   go_ret
   exact⟨ret_bool HV.out.symm,0,rfl⟩
end P12
end
section
open Go.ChangeShapes Go.WideShapes Go.ChangeAt Go.RowKit
theorem pl_iff {x y:SV}:x.pl=y.pl↔x.addr=y.addr/\x.cnt=y.cnt/\x.line=y.line:=by simp [SV.pl]
section
variable {w:World}
theorem rSpots_is {x y:SV} (hx:x.ok w) (hy:y.ok w) {v:Bool} (hv:v=true↔x.pl=y.pl) :
 Calls Tryz.prog 66 #[.agg #[.int .i64 x.addr,.int .i64 x.cnt,.slice x.A x.n x.c],.agg #[.int .i64 y.addr,.int .i64 y.cnt,.slice y.A y.n y.c]] w λ e w'=>e=.returned (.bool v)/\Gr w w':=by
 have g0:=((Gr.refl w).al (.cells #[.int .i64 x.addr,.int .i64 x.cnt,.slice x.A x.n x.c] 91)).al (.cells #[.int .i64 y.addr,.int .i64 y.cnt,.slice y.A y.n y.c] 91)
 obtain⟨b,hb⟩:=yes_no (x.line=y.line)
 have CS:=hid (L7.rSame_is (c:=x.c) (d:=y.c) (hx.gr g0).2.2.1 (hy.gr g0).2.2.1 hx.lt hy.lt hb)
 rw [pl_iff] at hv
 clear hx hy
 generalize x.addr=xa at *
 generalize y.addr=ya at *
 generalize x.cnt=xc at *
 generalize y.cnt=yc at *
 by_cases h1:xa=ya
 . by_cases h2:xc=yc
   . subst h1 h2
     have hvb:v=b:=by rw [Bool.eq_iff_iff,hv,hb];simp
     subst hvb
     clear hv hb
     go_enter Tryz.func66,Tryz.ntmps66
     go_wp2_with fail
     with_reducible refine CS.out.mono ?_
     rintro e w1 ⟨rfl,h1⟩
     have G:=hid (g0.trans h1)
     clear h1 g0
     go_wp2_with fail
     go_ret
     exact⟨rfl,G.out⟩
   . have h2':(xc==yc)=false:=beq_eq_false_iff_ne.2 h2
     obtain rfl:v=false:=by
      cases v
      . rfl
      . exact absurd (hv.1 rfl).2.1 h2
     subst h1
     clear hv hb h2 CS
     go_enter Tryz.func66,Tryz.ntmps66
     go_wp2_with fail
     go_ret
     exact⟨rfl,g0⟩
 . have h1':(xa==ya)=false:=beq_eq_false_iff_ne.2 h1
   obtain rfl:v=false:=by
    cases v
    . rfl
    . exact absurd (hv.1 rfl).1 h1
   clear hv hb h1 CS
   go_enter Tryz.func66,Tryz.ntmps66
   go_wp2_with fail
   go_ret
   exact⟨rfl,g0⟩
variable {A B:Option Addr} {n m c d:Nat} {l r:List SV}
theorem rSame_is (hA:SMem w A n l) (hB:SMem w B m r) (hn:n<=9223372036854775807) {v:Bool} (hv:v=true↔l.map SV.pl=r.map SV.pl) :
 Calls Tryz.prog 37 #[.slice A n c,.slice B m d] w λ e w'=>e=.returned (.bool v)/\Gr w w':=by
 have hla:=hA.1
 have hlb:=hB.1
 have HV:=hid hv
 have HA:=hid hA
 have HB:=hid hB
 clear hA hB hv
 by_cases hnm:n=m
 . subst hnm
   go_enter Tryz.func37,Tryz.ntmps37
   go_wp2_with fail
   go_loopw [13] (λ i wr=>∃ k:Nat,k<=n/\i=.int .i64 k/\Hid (∀ j,j<k->(l.map SV.pl)[j]?=(r.map SV.pl)[j]?)/\Hid (Gr w wr)) (λ i _=>n-(intOf i).toNat)
   case atStart=>exact⟨0,Nat.zero_le _,rfl,hid (λ j hj=>absurd hj (by omega)),hid (Gr.refl _)⟩
   case round =>
    obtain⟨k,hkn,rfl,HJ,HG⟩:=hrel
    by_cases hlt:k<n
    . obtain⟨b,off,x,rfl,hbl,hx,hokx,d0,d1,d2⟩:=(HA.out.gr HG.out).at_ hlt
      obtain⟨b',off',y,rfl,hbl',hy,hoky,f0,f1,f2⟩:=(HB.out.gr HG.out).at_ hlt
      have k0:(0:Int)<=(k:Int):=by omega
      have k1:(k:Int)<(n:Int):=by omega
      obtain⟨b1,hb1⟩:=yes_no (x.pl=y.pl)
      have CS:Hid (∀ W,Gr wr W->Calls Tryz.prog 66 #[.agg #[.int .i64 x.addr,.int .i64 x.cnt,.slice x.A x.n x.c],.agg #[.int .i64 y.addr,.int .i64 y.cnt,.slice y.A y.n y.c]] W λ e w'=>e=.returned (.bool b1)/\Gr W w'):=hid λ W g=>rSpots_is (hokx.gr g) (hoky.gr g) hb1
      have HX:=hid hx
      have HY:=hid hy
      have HB1:=hid hb1
      clear hx hy hokx hoky hb1
      cases b1 with
      | true =>
       have HJ':Hid (∀ j,j<k+1->(l.map SV.pl)[j]?=(r.map SV.pl)[j]?):=hid λ j hj=>by
        by_cases h:j<k
        . exact HJ.out j h
        . obtain rfl:j=k:=by omega
          rw [List.getElem?_map,List.getElem?_map,HX.out,HY.out]
          exact congrArg some (HB1.out.1 rfl)
       go_wp2_with fail
       go_region_held3 (λ W=>W.cell? ⟨b,off+k*3,none⟩=some (.int .i64 x.addr)/\W.cell? ⟨b,off+k*3+1,none⟩=some (.int .i64 x.cnt)/\W.cell? ⟨b,off+k*3+2,none⟩=some (.slice x.A x.n x.c)/\W.cell? ⟨b',off'+k*3,none⟩=some (.int .i64 y.addr)/\W.cell? ⟨b',off'+k*3+1,none⟩=some (.int .i64 y.cnt)/\W.cell? ⟨b',off'+k*3+2,none⟩=some (.slice y.A y.n y.c)/\Gr wr W)
        (first | exact⟨d0,d1,d2,f0,f1,f2,(Gr.refl wr).dr⟩ | assumption | (go_split_ands;exact⟨(hb.cell (p:=⟨b,off+k*3,none⟩) (Nat.lt_of_lt_of_le hbl (Below.size (by assumption)))).trans (by assumption),(hb.cell (p:=⟨b,off+k*3+1,none⟩) (Nat.lt_of_lt_of_le hbl (Below.size (by assumption)))).trans (by assumption),(hb.cell (p:=⟨b,off+k*3+2,none⟩) (Nat.lt_of_lt_of_le hbl (Below.size (by assumption)))).trans (by assumption),(hb.cell (p:=⟨b',off'+k*3,none⟩) (Nat.lt_of_lt_of_le hbl' (Below.size (by assumption)))).trans (by assumption),(hb.cell (p:=⟨b',off'+k*3+1,none⟩) (Nat.lt_of_lt_of_le hbl' (Below.size (by assumption)))).trans (by assumption),(hb.cell (p:=⟨b',off'+k*3+2,none⟩) (Nat.lt_of_lt_of_le hbl' (Below.size (by assumption)))).trans (by assumption),Gr.trans (by assumption) hb⟩))
        (first | (go_at_call 66;(with_reducible refine (CS.out _ (by go_split_ands;assumption)).mono ?_);rintro ee w9 ⟨rfl,hb⟩))
       rename_i hH
       have G9:=hid (HG.out.trans hH.2.2.2.2.2.2)
       clear hH
       go_wp2_with fail
       go_roundw
       case rel=>exact⟨k+1,by omega,by go_num,HJ',G9⟩
       case measure=>simp [intOf];omega
      | false =>
       obtain rfl:v=false:=by
        cases v
        . rfl
        . have h1:=HV.out.1 rfl
          have h2:(l.map SV.pl)[k]?=(r.map SV.pl)[k]?:=by rw [h1]
          rw [List.getElem?_map,List.getElem?_map,HX.out,HY.out] at h2
          exact absurd (HB1.out.2 (Option.some.inj h2)) (by simp)
       go_wp2_with fail
       go_region_held3 (λ W=>W.cell? ⟨b,off+k*3,none⟩=some (.int .i64 x.addr)/\W.cell? ⟨b,off+k*3+1,none⟩=some (.int .i64 x.cnt)/\W.cell? ⟨b,off+k*3+2,none⟩=some (.slice x.A x.n x.c)/\W.cell? ⟨b',off'+k*3,none⟩=some (.int .i64 y.addr)/\W.cell? ⟨b',off'+k*3+1,none⟩=some (.int .i64 y.cnt)/\W.cell? ⟨b',off'+k*3+2,none⟩=some (.slice y.A y.n y.c)/\Gr wr W)
        (first | exact⟨d0,d1,d2,f0,f1,f2,(Gr.refl wr).dr⟩ | assumption | (go_split_ands;exact⟨(hb.cell (p:=⟨b,off+k*3,none⟩) (Nat.lt_of_lt_of_le hbl (Below.size (by assumption)))).trans (by assumption),(hb.cell (p:=⟨b,off+k*3+1,none⟩) (Nat.lt_of_lt_of_le hbl (Below.size (by assumption)))).trans (by assumption),(hb.cell (p:=⟨b,off+k*3+2,none⟩) (Nat.lt_of_lt_of_le hbl (Below.size (by assumption)))).trans (by assumption),(hb.cell (p:=⟨b',off'+k*3,none⟩) (Nat.lt_of_lt_of_le hbl' (Below.size (by assumption)))).trans (by assumption),(hb.cell (p:=⟨b',off'+k*3+1,none⟩) (Nat.lt_of_lt_of_le hbl' (Below.size (by assumption)))).trans (by assumption),(hb.cell (p:=⟨b',off'+k*3+2,none⟩) (Nat.lt_of_lt_of_le hbl' (Below.size (by assumption)))).trans (by assumption),Gr.trans (by assumption) hb⟩))
        (first | (go_at_call 66;(with_reducible refine (CS.out _ (by go_split_ands;assumption)).mono ?_);rintro ee w9 ⟨rfl,hb⟩))
       rename_i hH
       have G9:=hid (HG.out.trans hH.2.2.2.2.2.2)
       clear hH
       go_wp2_with fail
       go_ret
       exact⟨rfl,G9.out⟩
    . obtain rfl:k=n:=by omega
      obtain rfl:v=true:=HV.out.2 (List.ext_getElem? λ j=>by
       by_cases h:j<k
       . exact HJ.out j h
       . rw [List.getElem?_eq_none (by rw [List.length_map];omega),List.getElem?_eq_none (by rw [List.length_map];omega)])
      clear HV
      go_wp2_with fail
      go_ret
      exact⟨rfl,HG.out⟩
 . obtain rfl:v=false:=by
    cases v
    . rfl
    . have:=congrArg List.length (HV.out.1 rfl)
      simp [hla,hlb] at this
      exact absurd this hnm
   have hne:((n:Int)==(m:Int))=false:=beq_eq_false_iff_ne.2 (by omega)
   have hne':((n:Int) != (m:Int))=true:=by simp [bne,hne]
   clear HV
   go_enter Tryz.func37,Tryz.ntmps37
   go_wp2_with fail
   go_ret
   exact⟨rfl,Gr.refl _⟩
end
end
end Go.Proofs.YtainfijdhcehlaaGreatDoor
