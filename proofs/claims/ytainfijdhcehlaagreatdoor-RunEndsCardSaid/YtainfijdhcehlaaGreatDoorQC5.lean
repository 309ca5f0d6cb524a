/-
  A part of the proof.
-/
import Derived.Test.YtainfijdhcehlaaGreatDoorQC4
import Derived.FnLit
import Derived.WalkLawsBesides
import Derived.Defers
import Derived.Recover
import Derived.Laws.Pointers
import Derived.Deep.RegionHeld2
import Derived.Deep.RegionWith
import Derived.BigRegion
import Derived.ChangeKeysEq
set_option linter.unusedVariables false
set_option linter.unusedSimpArgs false
set_option maxRecDepth 100000
set_option maxHeartbeats 8000000
namespace Go.Proofs.YtainfijdhcehlaaGreatDoor
open Lib (hid)
open Go.Proofs.Tryz
open Go.ChangeAt Go.ChangeShapes Go.Deep Go.RowKit Go.Shelf Go.WideShapes
section
namespace P16
open P12 (PV PMem)
def ORow {α:Type} (en:α->List Value) (q:Nat) (W:World) (b o:Nat) (l:List α):Prop :=
 ∃ vs t,Blk W b vs t/\∀ i x,l[i]?=some x->∀ j v,(en x)[j]?=some v->vs[o+i*q+j]?=some v
section
variable {α:Type} {en:α->List Value} {q:Nat} {W W':World} {b o i j:Nat} {l:List α} {x y:α} {v:Value}
theorem ORow.lt (h:ORow en q W b o l):b<W.heap.size:=by obtain⟨_,_,h,_⟩:=h;exact h.lt
theorem ORow.kept (h:ORow en q W b o l) (e:W'.heap[b]?=W.heap[b]?):ORow en q W' b o l:=by
 obtain⟨vs,t,h,k⟩:=h;exact⟨vs,t,by unfold Blk at *;rw [e];exact h,k⟩
theorem ORow.gr (h:ORow en q W b o l) (g:Gr W W'):ORow en q W' b o l:=h.kept (g.block b h.lt)
theorem ORow.st (h:ORow en q W b o l) {p:Addr} (hp:p.block≠b) (v:Value):ORow en q (W.setCell p v) b o l :=
 h.kept (Below.heap_setCell W p v b (λ e=>hp e.symm))
theorem ORow.at_ (h:ORow en q W b o l) (hi:l[i]?=some x) (hj:(en x)[j]?=some v):W.cell? ⟨b,o+i*q+j,none⟩=some v/\W.frozen? ⟨b,o+i*q+j,none⟩=false:=by
 obtain⟨vs,t,h,k⟩:=h;exact h.at_ (k i x hi j v hj)
theorem ORow.put (h:ORow en q W b o l) (hq:∀ x,(en x).length=q) (hi:l[i]?=some x) (hj:j<q) (hy:en y=(en x).set j v):ORow en q (W.setCell ⟨b,o+i*q+j,none⟩ v) b o (l.set i y):=by
 obtain⟨vs,t,h,k⟩:=h;have hlt:=(zgl hi);have hsz:o+i*q+j<vs.size:=by
  have hjx:j<(en x).length:=by rw [hq];exact hj
  have:=k i x hi j _ (zge hjx);exact (zal this)
 refine⟨_,t,h.set _ v,λ i' x' hi' j' v' hj'=>?_⟩;have hjl':j'<q:=by rw [<- hq x'];exact (zgl hj')
 rw [Array.getElem?_setIfInBounds];by_cases hii:i'=i
 . subst hii
   rw [zss hlt] at hi';cases hi';rw [hy,List.getElem?_set] at hj';by_cases hjj:j'=j
   . subst hjj
     rw [if_pos rfl,if_pos (by rw [hq];exact hj)] at hj';rw [if_pos rfl,if_pos hsz];exact hj'
   . rw [if_neg (Ne.symm hjj)] at hj'
     rw [if_neg (by omega)];exact k _ x hi _ _ hj'
 . rw [zsn (Ne.symm hii)] at hi'
   have hne:o+i*q+j≠o+i'*q+j':=by
    intro e;have e2:i*q+j=i'*q+j':=by omega
    have a1:(i*q+j) / q=i:=by rw [Nat.mul_comm,Nat.mul_add_div (by omega),Nat.div_eq_of_lt hj];omega
    have a2:(i'*q+j') / q=i':=by rw [Nat.mul_comm,Nat.mul_add_div (by omega),Nat.div_eq_of_lt hjl'];omega
    rw [e2,a2] at a1;exact hii a1
   rw [if_neg hne];exact k _ x' hi' _ _ hj'
end
theorem clV_len (c:Cl):(clV c).length=13:=rfl
theorem t3V_len (x:T3):(t3V x).length=3:=rfl
structure Cx where
 B:Nat
 b:Nat
 bc:Nat
 oc:Nat
 bm:Nat
 om:Nat
 now:Int
 who:Int
 k:Int
 n:Int
 p:Sl
 nc:Nat
 cc:Nat
 cm:Nat
 progs:List (List Ac)
 st:Int
def Cx.i (x:Cx):Nat:=x.who.toNat
def Cx.m (x:Cx):Nat:=x.n.toNat
structure Kx (x:Cx) (W W':World):Prop where
 os:W'.os=W.os
 tape:W'.tape=W.tape
 output:W'.output=W.output
 size:W.heap.size<=W'.heap.size
 block:∀ k,k<W.heap.size->k≠x.b->k≠x.bc->k≠x.bm->W'.heap[k]?=W.heap[k]?
def Kb (x:Cx) (W W':World):Prop:=W.heap.size<=W'.heap.size/\∀ k,x.B<=k->k<W.heap.size->k≠x.b->k≠x.bc->k≠x.bm->W'.heap[k]?=W.heap[k]?
section
variable {x:Cx} {W W' W'':World}
theorem Kx.trans (h:Kx x W W') (g:Kx x W' W''):Kx x W W'' :=
 ⟨g.os.trans h.os,g.tape.trans h.tape,g.output.trans h.output,Nat.le_trans h.size g.size,λ k hk h1 h2 h3=>(g.block k (zlt hk h.size) h1 h2 h3).trans (h.block k hk h1 h2 h3)⟩
theorem Kx.gr (g:Gr W W'):Kx x W W':=⟨g.os,g.tape,g.output,g.size,λ k hk _ _ _=>g.block k hk⟩
theorem Kx.st {p:Addr} (hp:p.block=x.b\/p.block=x.bc\/p.block=x.bm) (v:Value):Kx x W (W.setCell p v) :=
 ⟨rfl,rfl,rfl,by simp [World.setCell],λ k hk h1 h2 h3=>Below.heap_setCell W p v k (by rcases hp with e | e | e<;>rw [e]<;>assumption)⟩
theorem Kx.kb (h:Kx x W W'):Kb x W W':=⟨h.size,λ k _=>h.block k⟩
theorem Kb.trans (h:Kb x W W') (g:Kb x W' W''):Kb x W W'' :=
 ⟨Nat.le_trans h.1 g.1,λ k hb hk h1 h2 h3=>(g.2 k hb (zlt hk h.1) h1 h2 h3).trans (h.2 k hb hk h1 h2 h3)⟩
theorem FromB.kb (h:FromB x.B W W'):Kb x W W':=⟨h.1,λ k hb hk _ _ _=>h.2 k hb hk⟩
theorem Kx.old {V:World} (g:Gr V W) (h:Kx x W W') (h1:V.heap.size<=x.b) (h2:V.heap.size<=x.bc) (h3:V.heap.size<=x.bm):Gr V W' :=
 ⟨h.os.trans g.os,h.tape.trans g.tape,h.output.trans g.output,Nat.le_trans g.size h.size,λ k hk=>(h.block k (zlt hk g.size) (by omega) (by omega) (by omega)).trans (g.block k hk)⟩
end
abbrev Cx.cells (x:Cx) (T E:Sl):Array Value :=
 #[.int .i64 x.now,.slice x.p.A x.p.n x.p.c,.slice (some ⟨x.bc,x.oc,none⟩) x.nc x.cc,.slice (some ⟨x.bm,x.om,none⟩) 4 x.cm,.slice T.A T.n T.c,.int .i64 x.st,.int .i64 x.who,.pointer (some ⟨x.bc,x.oc+x.who.toNat*13,none⟩),.int .i64 x.k,.int .i64 x.n,.slice E.A E.n E.c]
structure TS (x:Cx) (W:World) (T E:Sl) (cl:List Cl) (mx:List T3) (tb:List Sp) (ev:List T3):Prop where
 lb:x.B<=x.b
 lc:x.B<=x.bc
 lm:x.B<=x.bm
 n1:x.b≠x.bc
 n2:x.b≠x.bm
 n3:x.bc≠x.bm
 t:Blk W x.b (x.cells T E) 99
 c:ORow clV 13 W x.bc x.oc cl
 m:ORow t3V 3 W x.bm x.om mx
 cb:∀ c∈cl,CB c
 mb:∀ c∈mx,TB3 c
 lenc:cl.length=x.nc
 lenm:mx.length=4
 pr:∀ W',Kb x W W'->∃ R,PMem W' x.p.A x.p.n R/\P12.pl R=x.progs
 tb:∀ W',Kb x W W'->∃ S,SMem W' T.A T.n S/\S.map SV.pl=tb
 ev:∀ W',Kb x W W'->T3Mem W' E.A E.n ev
 op:x.p.ok
 ot:T.ok
 oe:E.ok
 oc:x.nc<=x.cc/\x.cc<=9223372036854775807
 om:4<=x.cm/\x.cm<=9223372036854775807
 w0:0<=x.who
 w1:x.who<x.nc
 wi:B64 x.who
 ni:B64 x.n
 kt:B64 x.now
section
variable {x:Cx} {W W':World} {T E:Sl} {cl:List Cl} {mx:List T3} {tb:List Sp} {ev:List T3} {c d:Cl} {a:T3} {j:Nat} {v:Value}
theorem TS.gr (h:TS x W T E cl mx tb ev) (g:Gr W W'):TS x W' T E cl mx tb ev :=
 { h with t:=h.t.gr g,c:=h.c.gr g,m:=h.m.gr g,pr:=λ _ k=>h.pr _ ((Kx.gr g).kb.trans k),tb:=λ _ k=>h.tb _ ((Kx.gr g).kb.trans k),ev:=λ _ k=>h.ev _ ((Kx.gr g).kb.trans k) }
theorem TS.putC (h:TS x W T E cl mx tb ev) {i:Nat} (hc:cl[i]?=some c) (j:Nat) (v:Value) (d:Cl) (hd:clV d=(clV c).set j v) (hj:j<13) (hb:CB d):TS x (W.setCell ⟨x.bc,x.oc+i*13+j,none⟩ v) T E (cl.set i d) mx tb ev :=
 have k:Kx x W (W.setCell ⟨x.bc,x.oc+i*13+j,none⟩ v):=Kx.st (.inr (.inl rfl)) v
 { h with t:=h.t.st (p:=⟨x.bc,x.oc+i*13+j,none⟩) h.n1.symm v,c:=h.c.put clV_len hc hj hd,m:=h.m.st (p:=⟨x.bc,x.oc+i*13+j,none⟩) h.n3 v,cb:=(λ c hc=>(List.mem_or_eq_of_mem_set hc).elim (h.cb _) (λ e=>e▸hb)),lenc:=(List.length_set ..).trans h.lenc,pr:=λ _ q=>h.pr _ (k.kb.trans q),tb:=λ _ q=>h.tb _ (k.kb.trans q),ev:=λ _ q=>h.ev _ (k.kb.trans q) }
theorem TS.putC2 {i:Nat} {c0:Cl} (hc:cl[i]?=some c0) (h:TS x W T E (cl.set i c) mx tb ev) (j:Nat) (v:Value) (d:Cl) (hd:clV d=(clV c).set j v) (hj:j<13) (hb:CB d):TS x (W.setCell ⟨x.bc,x.oc+i*13+j,none⟩ v) T E (cl.set i d) mx tb ev:=by
 have q:=h.putC (c:=c) (by rw [zss (zgl hc)]) j v d hd hj hb;rwa [List.set_set] at q
theorem TS.putM (h:TS x W T E cl mx tb ev) {i:Nat} {a:T3} (ha:mx[i]?=some a) (j:Nat) (v:Value) (d:T3) (hd:t3V d=(t3V a).set j v) (hj:j<3) (hb:TB3 d):TS x (W.setCell ⟨x.bm,x.om+i*3+j,none⟩ v) T E cl (mx.set i d) tb ev :=
 have k:Kx x W (W.setCell ⟨x.bm,x.om+i*3+j,none⟩ v):=Kx.st (.inr (.inr rfl)) v
 { h with t:=h.t.st (p:=⟨x.bm,x.om+i*3+j,none⟩) h.n2.symm v,m:=h.m.put t3V_len ha hj hd,c:=h.c.st (p:=⟨x.bm,x.om+i*3+j,none⟩) h.n3.symm v,mb:=(λ c hc=>(List.mem_or_eq_of_mem_set hc).elim (h.mb _) (λ e=>e▸hb)),lenm:=(List.length_set ..).trans h.lenm,pr:=λ _ q=>h.pr _ (k.kb.trans q),tb:=λ _ q=>h.tb _ (k.kb.trans q),ev:=λ _ q=>h.ev _ (k.kb.trans q) }
theorem TS.putT (h:TS x W T E cl mx tb ev) {U:Sl} {ub:List Sp} (hu:∀ W',Kb x W W'->∃ S,SMem W' U.A U.n S/\S.map SV.pl=ub) (ok:U.ok):TS x (W.setCell ⟨x.b,4,none⟩ (.slice U.A U.n U.c)) U E cl mx ub ev :=
 have k:Kx x W (W.setCell ⟨x.b,4,none⟩ (.slice U.A U.n U.c)):=Kx.st (.inl rfl) _
 { h with t:=h.t.set 4 _,c:=h.c.st (p:=⟨x.b,4,none⟩) h.n1 _,m:=h.m.st (p:=⟨x.b,4,none⟩) h.n2 _,pr:=λ _ q=>h.pr _ (k.kb.trans q),tb:=λ _ q=>hu _ (k.kb.trans q),ev:=λ _ q=>h.ev _ (k.kb.trans q),ot:=ok }
theorem TS.putE (h:TS x W T E cl mx tb ev) {U:Sl} {l:List T3} (hu:∀ W',Kb x W W'->T3Mem W' U.A U.n l) (ok:U.ok):TS x (W.setCell ⟨x.b,10,none⟩ (.slice U.A U.n U.c)) T U cl mx tb l :=
 have k:Kx x W (W.setCell ⟨x.b,10,none⟩ (.slice U.A U.n U.c)):=Kx.st (.inl rfl) _
 { h with t:=h.t.set 10 _,c:=h.c.st (p:=⟨x.b,10,none⟩) h.n1 _,m:=h.m.st (p:=⟨x.b,10,none⟩) h.n2 _,pr:=λ _ q=>h.pr _ (k.kb.trans q),tb:=λ _ q=>h.tb _ (k.kb.trans q),ev:=λ _ q=>hu _ (k.kb.trans q),oe:=ok }
theorem TS.cells (h:TS x W T E cl mx tb ev) :
 (W.cell? ⟨x.b,0,none⟩=some (.int .i64 x.now))/\(W.cell? ⟨x.b,1,none⟩=some (.slice x.p.A x.p.n x.p.c))/\(W.cell? ⟨x.b,2,none⟩=some (.slice (some ⟨x.bc,x.oc,none⟩) x.nc x.cc)) /\
 (W.cell? ⟨x.b,3,none⟩=some (.slice (some ⟨x.bm,x.om,none⟩) 4 x.cm))/\(W.cell? ⟨x.b,4,none⟩=some (.slice T.A T.n T.c))/\(W.cell? ⟨x.b,5,none⟩=some (.int .i64 x.st)) /\
 (W.cell? ⟨x.b,6,none⟩=some (.int .i64 x.who))/\(W.cell? ⟨x.b,7,none⟩=some (.pointer (some ⟨x.bc,x.oc+x.who.toNat*13,none⟩)))/\(W.cell? ⟨x.b,8,none⟩=some (.int .i64 x.k)) /\
 (W.cell? ⟨x.b,9,none⟩=some (.int .i64 x.n))/\(W.cell? ⟨x.b,10,none⟩=some (.slice E.A E.n E.c))/\(∀ j,j<=10->W.frozen? ⟨x.b,j,none⟩=false):=by
 refine⟨(h.t.at_ rfl).1,(h.t.at_ rfl).1,(h.t.at_ rfl).1,(h.t.at_ rfl).1,(h.t.at_ rfl).1,(h.t.at_ rfl).1,(h.t.at_ rfl).1,(h.t.at_ rfl).1,(h.t.at_ rfl).1,(h.t.at_ rfl).1,(h.t.at_ rfl).1,λ j hj=>?_⟩;have:j<(x.cells T E).size:=by show j<11;omega
 exact (h.t.at_ (Array.getElem?_eq_getElem this)).2
theorem TS.cl_ (h:TS x W T E cl mx tb ev) {i:Nat} (hc:cl[i]?=some c) :
 (W.cell? ⟨x.bc,x.oc+i*13,none⟩=some (.int .i64 c.gst))/\(W.cell? ⟨x.bc,x.oc+i*13+1,none⟩=some (.bool c.permit))/\(W.cell? ⟨x.bc,x.oc+i*13+2,none⟩=some (.int .i64 c.act)) /\
 (W.cell? ⟨x.bc,x.oc+i*13+3,none⟩=some (.int .i64 c.pc))/\(W.cell? ⟨x.bc,x.oc+i*13+4,none⟩=some (.int .i64 c.worked))/\(W.cell? ⟨x.bc,x.oc+i*13+5,none⟩=some (.int .i64 c.ticket)) /\
 (W.cell? ⟨x.bc,x.oc+i*13+6,none⟩=some (.bool c.first))/\(W.cell? ⟨x.bc,x.oc+i*13+7,none⟩=some (.bool c.told))/\(W.cell? ⟨x.bc,x.oc+i*13+8,none⟩=some (.int .i64 c.since)) /\
 (W.cell? ⟨x.bc,x.oc+i*13+9,none⟩=some (.bool c.st))/\(W.cell? ⟨x.bc,x.oc+i*13+10,none⟩=some (.bool c.aw))/\(W.cell? ⟨x.bc,x.oc+i*13+11,none⟩=some (.int .i64 c.rounds)) /\
 (W.cell? ⟨x.bc,x.oc+i*13+12,none⟩=some (.int .i64 c.old))/\(∀ j,j<13->W.frozen? ⟨x.bc,x.oc+i*13+j,none⟩=false):=by
 refine⟨(h.c.at_ (j:=0) hc rfl).1,(h.c.at_ (j:=1) hc rfl).1,(h.c.at_ (j:=2) hc rfl).1,(h.c.at_ (j:=3) hc rfl).1,(h.c.at_ (j:=4) hc rfl).1,(h.c.at_ (j:=5) hc rfl).1,(h.c.at_ (j:=6) hc rfl).1,(h.c.at_ (j:=7) hc rfl).1,(h.c.at_ (j:=8) hc rfl).1,(h.c.at_ (j:=9) hc rfl).1,(h.c.at_ (j:=10) hc rfl).1,(h.c.at_ (j:=11) hc rfl).1,(h.c.at_ (j:=12) hc rfl).1,λ j hj=>?_⟩;have:j<(clV c).length:=by rw [clV_len];exact hj
 exact (h.c.at_ hc (zge this)).2
theorem TS.mx_ (h:TS x W T E cl mx tb ev) {i:Nat} (ha:mx[i]?=some a) :
 (W.cell? ⟨x.bm,x.om+i*3,none⟩=some (.int .i64 a.1))/\(W.cell? ⟨x.bm,x.om+i*3+1,none⟩=some (.int .i64 a.2.1))/\(W.cell? ⟨x.bm,x.om+i*3+2,none⟩=some (.int .i64 a.2.2)) /\
 (∀ j,j<3->W.frozen? ⟨x.bm,x.om+i*3+j,none⟩=false):=by
 refine⟨(h.m.at_ (j:=0) ha rfl).1,(h.m.at_ (j:=1) ha rfl).1,(h.m.at_ (j:=2) ha rfl).1,λ j hj=>?_⟩;have:j<(t3V a).length:=by rw [t3V_len];exact hj
 exact (h.m.at_ ha (zge this)).2
end
end P16
end
section
namespace P11
abbrev G:=Int×Bool
def flat:List G->List Value
 | []=>[]
 | x::r=>.int .i64 x.1::.bool x.2::flat r
theorem flat_len (l:List G):(flat l).length=l.length*2:=by
 induction l with
 | nil=>rfl
 | cons x r ih=>simp [flat,ih];omega
theorem flat_get0:∀ (l:List G) (i:Nat) (x:G),l[i]?=some x->(flat l)[i*2]?=some (.int .i64 x.1)
 | [],i,x,h=>by simp at h
 | y::r,0,x,h=>by simp at h;subst h;rfl
 | y::r,i+1,x,h=>by
  rw [show (i+1)*2=i*2+1+1 from by omega];simpa [flat] using flat_get0 r i x (by simpa using h)
theorem flat_get1:∀ (l:List G) (i:Nat) (x:G),l[i]?=some x->(flat l)[i*2+1]?=some (.bool x.2)
 | [],i,x,h=>by simp at h
 | y::r,0,x,h=>by simp at h;subst h;rfl
 | y::r,i+1,x,h=>by
  rw [show (i+1)*2+1=i*2+1+1+1 from by omega];simpa [flat] using flat_get1 r i x (by simpa using h)
theorem flat_one (l:List G):∀ u∈flat l,u.oneCell'=true:=by
 induction l with
 | nil=>simp [flat]
 | cons x r ih =>
  intro u hu;simp only [flat,List.mem_cons] at hu;rcases hu with rfl | rfl | hu
  . rfl
  . rfl
  . exact ih u hu
theorem flat_set1:∀ (l:List G) (i:Nat) (x:G) (v:Int),l[i]?=some x->flat (l.set i (v,x.2))=(flat l).set (i*2) (.int .i64 v)
 | [],i,x,v,h=>by simp at h
 | y::r,0,x,v,h=>by simp at h;subst h;rfl
 | y::r,i+1,x,v,h=>by
  rw [show (i+1)*2=i*2+1+1 from by omega];simpa [flat] using flat_set1 r i x v (by simpa using h)
theorem flat_set2:∀ (l:List G) (i:Nat) (x:G) (v:Bool),l[i]?=some x->flat (l.set i (x.1,v))=(flat l).set (i*2+1) (.bool v)
 | [],i,x,v,h=>by simp at h
 | y::r,0,x,v,h=>by simp at h;subst h;rfl
 | y::r,i+1,x,v,h=>by
  rw [show (i+1)*2+1=i*2+1+1+1 from by omega];simpa [flat] using flat_set2 r i x v (by simpa using h)
theorem flat_inv:∀ (l:List G) (j:Nat) (u:Value),(flat l)[j]?=some u->∃ i x,l[i]?=some x/\((j=i*2/\u=.int .i64 x.1)\/(j=i*2+1/\u=.bool x.2))
 | [],j,u,h=>by simp [flat] at h
 | x::r,0,u,h=>by simp [flat] at h;exact⟨0,x,rfl,.inl ⟨rfl,h.symm⟩⟩
 | x::r,1,u,h=>by simp [flat] at h;exact⟨0,x,rfl,.inr ⟨rfl,h.symm⟩⟩
 | x::r,j+2,u,h=>by
  obtain⟨i,y,hy,h⟩:=flat_inv r j u (by simpa [flat] using h);refine⟨i+1,y,by simpa using hy,?_⟩;rcases h with ⟨rfl,rfl⟩ | ⟨rfl,rfl⟩
  . exact .inl ⟨by omega,rfl⟩
  . exact .inr ⟨by omega,rfl⟩
def GMem (w:World) (A:Option Addr) (n:Nat) (l:List G):Prop :=
 l.length=n/\(∀ x∈l,B64 x.1)/\(0<n->∃ b off,A=some ⟨b,off,none⟩/\b<w.heap.size/\∀ j u,(flat l)[j]?=some u->w.cell? ⟨b,off+j,none⟩=some u)
def Late (B:Nat) (A:Option Addr):Prop:=∀ k,A.map (·.block)=some k->B<=k
section
variable {w w':World} {A:Option Addr} {n:Nat} {l:List G}
theorem GMem.nil_:GMem w A 0 []:=⟨rfl,by simp,λ h=>absurd h (by omega)⟩
theorem GMem.gr (h:GMem w A n l) (g:Gr w w'):GMem w' A n l :=
 ⟨h.1,h.2.1,λ hn=>by
   obtain⟨b,off,e,hb,hc⟩:=h.2.2 hn;exact⟨b,off,e,zlt hb g.size,λ j u hu=>(g.cell (p:=⟨b,off+j,none⟩) hb).trans (hc j u hu)⟩⟩
theorem GMem.at_ {k:Nat} (h:GMem w A n l) (hk:k<n) :
 ∃ b off x,A=some ⟨b,off,none⟩/\b<w.heap.size/\l[k]?=some x/\B64 x.1/\w.cell? ⟨b,off+k*2,none⟩=some (.int .i64 x.1)/\w.cell? ⟨b,off+k*2+1,none⟩=some (.bool x.2):=by
 obtain⟨b,off,e,hb,hc⟩:=h.2.2 (by omega);have hl:k<l.length:=by have:=h.1;omega
 have hx:l[k]?=some l[k]:=zge hl;exact⟨b,off,l[k],e,hb,hx,h.2.1 l[k] (List.getElem_mem hl),hc _ _ (flat_get0 l k _ hx),hc _ _ (flat_get1 l k _ hx)⟩
theorem GMem.of_blk {g:Nat} {vs:Array Value} {t:TypeId} (h:Blk w g vs t) (hv:vs.toList=flat l) (hb:∀ x∈l,B64 x.1):GMem w (some ⟨g,0,none⟩) l.length l :=
 ⟨rfl,hb,λ _=>⟨g,0,rfl,h.lt,λ j u hu=>by
   rw [Nat.zero_add];refine (h.at_ ?_).1;rw [<- hv] at hu;simpa using hu⟩⟩
end
theorem infoGor:(prog.info? 51).map (λ i=>(i.zero,i.size,i.bytes))=some (some (.agg #[.int .i64 0,.bool false]),2,16):=by kernel_rfl
def okG (x:G):Bool:=decide (0<=x.1)&&decide (x.1<=2)&&(!x.2||x.1==0)
def rightB (l:List G):Bool:=decide (l.length<=8)&&l.all okG
def pkG (x:G):Int×G:=if x.1=0 then (0,(if x.2 then 0 else 1,false)) else (6,x)
def rdG (x:G):Int×G:=if x.1=2 then (6,x) else if x.2 then (7,x) else (0,(0,x.1==0))
def enG (x:G):Int×G:=if x.1=0 then (0,(2,false)) else (6,x)
def outc (p:G->Int×G) (l:List G) (who:Int):Int×List G :=
 if rightB l=false then (1,[]) else if who<0 then (3,[]) else
 match l[who.toNat]? with
 | none=>(3,[])
 | some x=>if (p x).1=0 then (0,l.set who.toNat (p x).2) else ((p x).1,[])
theorem outc_arg {p:G->Int×G} {l:List G} {who:Int} (h:rightB l=false):outc p l who=(1,[]):=by simp [outc,h]
theorem outc_range {p:G->Int×G} {l:List G} {who:Int} (h:rightB l=true) (hw:who<0\/(l.length:Int)<=who):outc p l who=(3,[]):=by
 unfold outc;rw [if_neg (by simp [h])]
 split
 . rfl
 . rw [List.getElem?_eq_none (by omega)]
theorem outc_at {p:G->Int×G} {l:List G} {k:Nat} {x:G} (h:rightB l=true) (hx:l[k]?=some x) :
 outc p l (k:Int)=if (p x).1=0 then (0,l.set k (p x).2) else ((p x).1,[]):=by
 unfold outc;rw [if_neg (by simp [h]),if_neg (by omega),Int.toNat_natCast,hx]
end P11
end
section
namespace P11
theorem unfit_ok (x:G) (w:World):Calls prog 77 #[.agg #[.int .i64 x.1,.bool x.2]] w λ e w'=>e=.returned (.bool (!okG x))/\Gr w w':=by
 obtain⟨s,p⟩:=x;by_cases h0:s<0
 . have HO:=hid (show okG (s,p)=false by simp [okG];omega)
   go_enter func77,ntmps77;go_wp2_with fail;go_ret;rw [HO.out];exact⟨rfl,(zr w).al _⟩
 . by_cases h2:2<s
   . have HO:=hid (show okG (s,p)=false by simp [okG];omega)
     go_enter func77,ntmps77;go_wp2_with fail;go_ret;rw [HO.out];exact⟨rfl,(zr w).al _⟩
   . cases p
     . have HO:=hid (show okG (s,false)=true by simp [okG];omega)
       go_enter func77,ntmps77;go_wp2_with fail;go_ret;rw [HO.out];exact⟨rfl,(zr w).al _⟩
     . have hz:(s==0)=okG (s,true):=by simp only [okG];rw [decide_eq_true (by omega),decide_eq_true (by omega)];simp
       have HZ:=hid hz;obtain⟨B,hB⟩:∃ B,(s==0)=B:=⟨_,rfl⟩;have hB':(s != 0)=!B:=by simp [bne,hB]
       rw [hB] at HZ;clear hz;go_enter func77,ntmps77;go_wp2_with fail;go_ret;rw [<- HZ.out];exact⟨rfl,(zr w).al _⟩
def badAt:List G->Nat->Int
 | [],_=>-1
 | x::r,k=>if okG x then badAt r (k+1) else k
theorem unfit_is {x:G} {B:Bool} (h:okG x=B) (w:World):Calls prog 77 #[.agg #[.int .i64 x.1,.bool x.2]] w λ e w'=>e=.returned (.bool (!B))/\Gr w w':=h▸unfit_ok x w
theorem IndexFunc_ok (A:Option Addr) (n c:Nat) (l:List G) (w:World) (hm:GMem w A n l) (hn:n<=9223372036854775807) :
 Calls prog 115 #[.slice A n c,.func (.func 77) #[] #[]] w λ e w'=>e=.returned (.int .i64 (badAt l 0))/\Gr w w':=by
 go_enter func115,ntmps115;go_wp2_with fail
 go_loopw [8] (λ i wr=>∃ k:Nat,k<=n/\i=.int .i64 k/\Hid (badAt (l.drop k) k=badAt l 0)/\Gr w wr) (λ i _=>n-(intOf i).toNat)
 case atStart=>exact⟨0,Nat.zero_le _,rfl,hid rfl,zr _⟩
 case round =>
  obtain⟨k,hk,rfl,HB,hg⟩:=hrel;by_cases hlt:k<n
  . obtain⟨b,off,x,rfl,hbl,hx,h1,c0,c1⟩:=(hm.gr hg).at_ hlt
    have hd:l.drop k=x::l.drop (k+1):=by
     obtain⟨hl,rfl⟩:=List.getElem?_eq_some_iff.1 hx;exact List.drop_eq_getElem_cons hl
    cases hf:okG x
    . have hr:badAt l 0=(k:Int):=by rw [<- HB.out,hd];simp [badAt,hf]
      have cc:=λ w=>hid (unfit_is hf w)
      have HR:=hid hr;clear hr hd hf hx HB hm;go_wp2_with fail;refine (cc _).out.mono ?_;rintro e w1 ⟨rfl,hb1⟩;go_wp2_with fail;go_ret;rw [HR.out];exact⟨rfl,hg.trans hb1⟩
    . have hr:Hid (badAt (l.drop (k+1)) (k+1)=badAt l 0):=hid (by rw [<- HB.out,hd];simp [badAt,hf])
      have cc:=λ w=>hid (unfit_is hf w)
      clear hd hf hx HB hm;go_wp2_with fail;refine (cc _).out.mono ?_;rintro e w1 ⟨rfl,hb1⟩;go_wp2_with fail;go_roundw
      case rel=>exact⟨k+1,by omega,by go_num,hr,hg.trans hb1⟩
      case measure=>simp [intOf];omega
  . obtain rfl:k=n:=by omega
    have hr:badAt l 0=-1:=by rw [<- HB.out,List.drop_of_length_le (by have:=hm.1;omega)];rfl
    have HR:=hid hr;clear hr HB hm;go_wp2_with fail;go_ret;rw [HR.out];exact⟨rfl,hg⟩
theorem badAt_is (l:List G):∀ k:Nat,decide (0<=badAt l k)=!l.all okG:=by
 induction l with
 | nil=>intro k;rfl
 | cons x r ih =>
  intro k;unfold badAt;cases hx:okG x
  . simp [hx]
  . simp [hx,ih]
theorem ret_bool {a b:Bool} (h:a=b):Ending.returned (.bool a)=.returned (.bool b):=by rw [h]
theorem ContainsFunc_ok (A:Option Addr) (n c:Nat) (l:List G) (w:World) (hm:GMem w A n l) (hn:n<=9223372036854775807) :
 Calls prog 76 #[.slice A n c,.func (.func 77) #[] #[]] w λ e w'=>e=.returned (.bool (!l.all okG))/\Gr w w':=by
 have cc:=λ w hm=>hid (IndexFunc_ok A n c l w hm hn)
 have HB:=hid (badAt_is l 0);generalize badAt l 0=r at *;go_enter func76,ntmps76;go_wp2_with fail;refine (cc _ hm).out.mono ?_;rintro e w1 ⟨rfl,hb1⟩;go_wp2_with fail;go_ret;exact⟨ret_bool HB.out,hb1⟩
theorem Right_ok (A:Option Addr) (n c:Nat) (l:List G) (w:World) (hm:GMem w A n l) (hn:n<=9223372036854775807) :
 Calls prog 47 #[.slice A n c] w λ e w'=>e=.returned (.bool (rightB l))/\Gr w w':=by
 by_cases h64:n<=8
 . have hr:rightB l=l.all okG:=by simp [rightB,hm.1,h64]
   have cc:=λ w hm=>hid (ContainsFunc_ok A n c l w hm hn)
   have HR:=hid hr;clear hr;generalize l.all okG=B at *;go_enter func47,ntmps47;go_wp2_with fail;refine (cc _ hm).out.mono ?_;rintro e w1 ⟨rfl,hb1⟩;go_wp2_with fail;go_ret;rw [HR.out];exact⟨ret_bool (by simp),hb1⟩
 . have hr:rightB l=false:=by simp [rightB,hm.1,h64]
   have HR:=hid hr;have h65:decide (n<=8)=false:=by simpa using h64
   clear hr;go_enter func47,ntmps47;go_wp2_with fail;go_ret;rw [HR.out];exact⟨rfl,zr _⟩
theorem Right_is {A:Option Addr} {n c:Nat} {l:List G} {r:Bool} (hr:rightB l=r) (hn:n<=9223372036854775807) (w:World) (hm:GMem w A n l) :
 Calls prog 47 #[.slice A n c] w λ e w'=>e=.returned (.bool r)/\Gr w w':=hr▸Right_ok A n c l w hm hn
def Chosen (w:World) (cp g k:Nat) (l:List G):Prop :=
 cp≠g/\Blk w cp #[.slice (some ⟨g,0,none⟩) l.length l.length,.pointer (some ⟨g,k*2,none⟩),.int .i64 0] 178/\∃ vs,Blk w g vs 51/\vs.toList=flat l
def chg (p:G->Int×G) (l:List G) (k:Nat) (x:G):List G:=if (p x).1=0 then l.set k (p x).2 else l
theorem chg_no {p:G->Int×G} {l:List G} {k:Nat} {x:G} {e:Int} {y:G} (h:p x=(e,y)) (he:e≠0):chg p l k x=l:=by simp [chg,h,he]
theorem chg_yes {p:G->Int×G} {l:List G} {k:Nat} {x y:G} (h:p x=(0,y)):chg p l k x=l.set k y:=by simp [chg,h]
def ChgIs (F:Nat) (p:G->Int×G):Prop :=
 ∀ (w:World) (base cp g k:Nat) (l:List G) (x:G),Chosen w cp g k l->l[k]?=some x->base<=g->Calls prog F #[.pointer (some ⟨cp,0,none⟩)] w λ e w' =>
  e=.returned (.int .i64 (p x).1)/\Below base w w'/\Chosen w' cp g k (chg p l k x)
section
variable {w:World} {cp g k:Nat} {l:List G} {x:G}
theorem Chosen.facts (h:Chosen w cp g k l) (hx:l[k]?=some x) :
 w.cell? ⟨cp,1,none⟩=some (.pointer (some ⟨g,k*2,none⟩))/\w.cell? ⟨g,k*2,none⟩=some (.int .i64 x.1)/\w.cell? ⟨g,k*2+1,none⟩=some (.bool x.2) /\
 w.frozen? ⟨g,k*2,none⟩=false/\w.frozen? ⟨g,k*2+1,none⟩=false/\cp<w.heap.size/\g<w.heap.size:=by
 obtain⟨hne,hc,vs,hg,hv⟩:=h;have h0:vs[k*2]?=some (.int .i64 x.1):=by have:=flat_get0 l k x hx;rw [<- hv] at this;simpa using this
 have h1:vs[k*2+1]?=some (.bool x.2):=by have:=flat_get1 l k x hx;rw [<- hv] at this;simpa using this
 exact⟨(hc.at_ rfl).1,(hg.at_ h0).1,(hg.at_ h1).1,(hg.at_ h0).2,(hg.at_ h1).2,hc.lt,hg.lt⟩
theorem Chosen.set1 (h:Chosen w cp g k l) (hx:l[k]?=some x) (v:Int):Chosen (w.setCell ⟨g,k*2,none⟩ (.int .i64 v)) cp g k (l.set k (v,x.2)):=by
 obtain⟨hne,hc,vs,hg,hv⟩:=h;rw [Chosen,List.length_set];exact⟨hne,hc.st (p:=⟨g,k*2,none⟩) (Ne.symm hne) _,_,hg.set (k*2) _,by rw [Array.toList_setIfInBounds,hv,flat_set1 l k x v hx]⟩
theorem Chosen.set2 (h:Chosen w cp g k l) (hx:l[k]?=some x) (v:Bool):Chosen (w.setCell ⟨g,k*2+1,none⟩ (.bool v)) cp g k (l.set k (x.1,v)):=by
 obtain⟨hne,hc,vs,hg,hv⟩:=h;rw [Chosen,List.length_set];exact⟨hne,hc.st (p:=⟨g,k*2+1,none⟩) (Ne.symm hne) _,_,hg.set (k*2+1) _,by rw [Array.toList_setIfInBounds,hv,flat_set2 l k x v hx]⟩
theorem Chosen.drew (h:Chosen w cp g k l):Chosen w.drew cp g k l:=h
end
end P11
end
section
namespace P11
theorem get_set {l:List G} {k:Nat} {x y:G} (h:l[k]?=some x):(l.set k y)[k]?=some y:=by
 obtain⟨hk,_⟩:=List.getElem?_eq_some_iff.1 h;rw [zss hk]
theorem park_is:ChgIs 194 pkG:=by
 intro w base cp g k l x hC hx hb;obtain⟨c1,q0,q1,f0,f1,hlc,hlg⟩:=hC.facts hx;obtain⟨s,p⟩:=x;have HC:=hid hC;have HX:=hid hx;clear hC hx;by_cases hs:s=0
 . subst hs
   cases p
   . have S1:=HC.out.set1 HX.out 1
     have S2:=S1.set2 (get_set HX.out) false;rw [List.set_set] at S2;have H2:=hid S2;clear S1 S2;go_enter func194,ntmps194;go_wp2_with fail;go_ret;exact⟨rfl,Below.setCell (Below.setCell (Below.refl _ _) hb _) hb _,H2.out⟩
   . have S2:=hid (HC.out.set2 HX.out false)
     go_enter func194,ntmps194;go_wp2_with fail;go_ret;exact⟨rfl,Below.setCell (Below.refl _ _) hb _,S2.out⟩
 . have ne:(s==0)=false:=beq_eq_false_iff_ne.2 hs
   have HP:=hid (show pkG (s,p)=(6,(s,p)) by simp [pkG,hs]);have HL:=hid (chg_no (l:=l) (k:=k) HP.out (by omega));go_enter func194,ntmps194;go_wp2_with fail;go_ret;rw [HL.out,HP.out];exact⟨rfl,Below.refl _ _,HC.out⟩
theorem end_is:ChgIs 87 enG:=by
 intro w base cp g k l x hC hx hb;obtain⟨c1,q0,q1,f0,f1,hlc,hlg⟩:=hC.facts hx;obtain⟨s,p⟩:=x;have HC:=hid hC;have HX:=hid hx;clear hC hx;by_cases hs:s=0
 . subst hs
   have S1:=HC.out.set1 HX.out 2;have S2:=S1.set2 (get_set HX.out) false;rw [List.set_set] at S2;have H2:=hid S2;clear S1 S2;go_enter func87,ntmps87;go_wp2_with fail;go_ret;exact⟨rfl,Below.setCell (Below.setCell (Below.refl _ _) hb _) hb _,H2.out⟩
 . have ne:(s==0)=false:=beq_eq_false_iff_ne.2 hs
   have HP:=hid (show enG (s,p)=(6,(s,p)) by simp [enG,hs]);have HL:=hid (chg_no (l:=l) (k:=k) HP.out (by omega));go_enter func87,ntmps87;go_wp2_with fail;go_ret;rw [HL.out,HP.out];exact⟨rfl,Below.refl _ _,HC.out⟩
theorem ready_is:ChgIs 202 rdG:=by
 intro w base cp g k l x hC hx hb;obtain⟨c1,q0,q1,f0,f1,hlc,hlg⟩:=hC.facts hx;obtain⟨s,p⟩:=x;have HC:=hid hC;have HX:=hid hx;clear hC hx;by_cases hs:s=2
 . subst hs
   have HP:=hid (show rdG (2,p)=(6,(2,p)) by simp [rdG]);have HL:=hid (chg_no (l:=l) (k:=k) HP.out (by omega));go_enter func202,ntmps202;go_wp2_with fail;go_ret;rw [HL.out,HP.out];exact⟨rfl,Below.refl _ _,HC.out⟩
 . have ne:(s==2)=false:=beq_eq_false_iff_ne.2 hs
   cases p
   . obtain⟨B,hB⟩:∃ B,(s==0)=B:=⟨_,rfl⟩
     have S1:=(HC.out.set2 HX.out B).drew;have S2:=S1.set1 (get_set HX.out) 0;rw [List.set_set] at S2;have H2:=hid S2;have HP:=hid (show rdG (s,false)=(0,(0,B)) by simp [rdG,hs,hB]);have HL:=hid (chg_yes (l:=l) (k:=k) HP.out);obtain⟨d1,r0,r1,z0,z1,hld,hle⟩:=S1.facts (get_set HX.out);clear S1 S2;go_enter func202,ntmps202;go_wp2_with fail
     go_region
     have G1:=Below.drew (Below.setCell (Below.refl base w) (p:=⟨g,k*2+1,none⟩) hb (.bool B));generalize (w.setCell ⟨g,k*2+1,none⟩ (.bool B)).drew=W at *;go_wp2_with fail;go_ret;rw [HL.out,HP.out];exact⟨rfl,Below.setCell G1 hb _,H2.out⟩
   . have HP:=hid (show rdG (s,true)=(7,(s,true)) by simp [rdG,hs])
     have HL:=hid (chg_no (l:=l) (k:=k) HP.out (by omega));go_enter func202,ntmps202;go_wp2_with fail;go_ret;rw [HL.out,HP.out];exact⟨rfl,Below.refl _ _,HC.out⟩
def Got (w:World) (r:Int×List G) (e:Ending) (w':World):Prop :=
 ∃ B m,e=.returned (.tuple #[.slice B r.2.length m,.int .i64 r.1])/\GMem w' B r.2.length r.2/\Late w.heap.size B/\r.2.length<=m/\Gr w w'
section
variable {A:Option Addr} {n c:Nat} {l:List G} {w:World}
theorem choose_arg {who:Int} (hn:n<=9223372036854775807) (hr:rightB l=false) (hm:GMem w A n l) :
 Calls prog 85 #[.slice A n c,.int .i64 who] w λ e w'=>∃ cp,e=.returned (.pointer (some ⟨cp,0,none⟩))/\w.heap.size<=cp/\Blk w' cp #[.slice none 0 0,.pointer none,.int .i64 1] 178/\Gr w w':=by
 have cc:=hid (Right_is (c:=c) hr hn w hm);clear hr hm;go_enter func85,ntmps85;go_wp2_with fail;refine cc.out.mono ?_;rintro e w1 ⟨rfl,b1⟩;go_wp2_with fail;go_ret;exact⟨_,rfl,b1.size,Blk.new _ _ _,b1.al _⟩
theorem choose_range {who:Int} (hn:n<=9223372036854775807) (hr:rightB l=true) (hw:who<0\/n<=who) (hm:GMem w A n l) :
 Calls prog 85 #[.slice A n c,.int .i64 who] w λ e w'=>∃ cp,e=.returned (.pointer (some ⟨cp,0,none⟩))/\w.heap.size<=cp/\Blk w' cp #[.slice none 0 0,.pointer none,.int .i64 3] 178/\Gr w w':=by
 have cc:=hid (Right_is (c:=c) hr hn w hm);clear hr hm;rcases hw with hw | hw
 . go_enter func85,ntmps85
   go_wp2_with fail;refine cc.out.mono ?_;rintro e w1 ⟨rfl,b1⟩;go_wp2_with fail;go_ret;exact⟨_,rfl,b1.size,Blk.new _ _ _,b1.al _⟩
 . have h0:decide (who<0)=false:=by simp;omega
   go_enter func85,ntmps85;go_wp2_with fail;refine cc.out.mono ?_;rintro e w1 ⟨rfl,b1⟩;go_wp2_with fail;go_ret;exact⟨_,rfl,b1.size,Blk.new _ _ _,b1.al _⟩
theorem choose_ok {k:Nat} (hn:n<=9223372036854775807) (hr:rightB l=true) (hk:k<n) (hm:GMem w A n l) :
 Calls prog 85 #[.slice A n c,.int .i64 (k:Int)] w λ e w'=>∃ cp g,e=.returned (.pointer (some ⟨cp,0,none⟩))/\w.heap.size<=cp/\w.heap.size<=g/\Chosen w' cp g k l/\Gr w w':=by
 have h8:n<=8:=by have:=hm.1;simp [rightB] at hr;omega
 have cc:=hid (Right_is (c:=c) hr hn w hm);obtain⟨i0,hi0,hz0,hz1,hz2⟩:=info_parts infoGor;have hmk:=λ w=>run_makeN (P:=prog) 70 51 i0 _ underlying70 hi0 hz0 n (by rw [hz2];omega) (by omega) w
 rw [hz1] at hmk;obtain⟨M,hM⟩:∃ M,madeCells (Value.agg #[.int .i64 0,.bool false]).cells (n*2)=M:=⟨_,rfl⟩;have hMs:M.size=n*2:=by rw [<- hM,size_madeCells]
 rw [hM] at hmk;have k0:(0:Int)<=(k:Int):=by omega
 have k1:(k:Int)<(n:Int):=by omega
 have k2:decide ((k:Int)<0)=false:=by simp
 have k3:decide (n<=k)=false:=by simp;omega
 have HMs:=hid hMs;have hsz:=hid (show (prog.info? 51).map (·.size)=some 2 by rw [hi0];simp [hz1]);obtain⟨b,off,rfl,hbl,hcells⟩:=hm.2.2 (by omega);have HC:=hid hcells;have HL:=hid hm.1;have hfl:=hid (flat_len l);clear hr hm hi0 hz0 hz1 hz2 hcells hM hMs;go_enter func85,ntmps85;go_wp2_with fail;refine cc.out.mono ?_;rintro e w1 ⟨rfl,b1⟩;have hz:b<w1.heap.size:=zlt hbl b1.size;go_wp2_with (with_reducible refine wpList_copyN rfl (.tmp 26) (.tmp 27) 70 70 rfl 51 2 underlying70 hsz.out w1.heap.size n n b off c rfl rfl M 51 ?hg (flat l) ?hn ?hs ?hf (flat_one l) ?_)
 case hg=>exact heap_alloc_new w1 _
 case hn=>rw [hfl.out,HL.out]
 case hf=>rw [hfl.out,HL.out,HMs.out]
 case hs =>
  intro j v hv;exact (((zr w1).al _).cell (p:=⟨b,off+j,none⟩) hz).trans ((b1.cell (p:=⟨b,off+j,none⟩) hbl).trans (HC.out j v hv))
 intro w2 HG hB2 hS2;have HS2:=hid (show w2.heap.size=w1.heap.size+1 by simpa using hS2);have hG2:Gr w w2:=(b1.al _).trans' (hB2.mono b1.size);clear hS2 hB2;have X:Blk w2 w1.heap.size (flat l).toArray 51:=HG.out;go_wp2_with fail;go_ret;refine⟨_,_,rfl,hG2.size,b1.size,⟨by rw [HS2.out];omega,?_,_,X.al _,by simp⟩,hG2.al _⟩;rw [HL.out];exact Blk.new _ _ _
end
theorem got_err {w w':World} (q:Int) (h:Gr w w'):Got w (q,[]) (.returned (.tuple #[.slice none 0 0,.int .i64 q])) w' :=
 ⟨none,0,rfl,GMem.nil_,(λ k hk=>by cases hk),Nat.le_refl _,h⟩
theorem after_no {w:World} {cp:Nat} {f:Value} {q:Int} (hq:q=1\/q=3) (hc:Blk w cp #[.slice none 0 0,.pointer none,.int .i64 q] 178) :
 Calls prog 86 #[.pointer (some ⟨cp,0,none⟩),f] w λ e w'=>e=.returned (.tuple #[.slice none 0 0,.int .i64 q])/\Gr w w':=by
 obtain⟨c2,_⟩:=hc.at_ (k:=2) rfl;have hl:=hc.lt;clear hc;rcases hq with rfl | rfl
 all_goals (
  go_enter func86,ntmps86;go_wp2_with fail
  go_quiet (fail)
  go_wp2_with fail;go_ret2;exact⟨rfl,(zr w).drN _⟩)
theorem after_err {w:World} {F cp g k base:Nat} {p:G->Int×G} {l:List G} {x:G} {q:Int} (eg:∀ args w,(callFunc F args).run prog w=.ok (.enter F args) w) (hF:ChgIs F p) (hC:Chosen w cp g k l) (hx:l[k]?=some x) (hb:base<=g)
 (hr:(p x).1=q) (hq:q=6\/q=7) :
 Calls prog 86 #[.pointer (some ⟨cp,0,none⟩),.func (.func F) #[.pointer (some ⟨cp,0,none⟩)] #[]] w λ e w' =>
  e=.returned (.tuple #[.slice none 0 0,.int .i64 q])/\Below base w w':=by
 have H1:=hid (hF w base cp g k l x hC hx hb);rw [hr] at H1;have c2:=(hC.2.1.at_ (k:=2) rfl).1;have hl:=hC.2.1.lt;clear hF hC hx hr;rcases hq with rfl | rfl
 all_goals (
  go_enter func86,ntmps86;go_wp2_with fail;refine H1.out.mono ?_;rintro ee w1 ⟨rfl,b1,_⟩;go_wp2_with fail;go_ret2;exact⟨rfl,b1⟩)
theorem after_yes {w:World} {F cp g k base:Nat} {p:G->Int×G} {l:List G} {x y:G} (eg:∀ args w,(callFunc F args).run prog w=.ok (.enter F args) w) (hF:ChgIs F p) (hC:Chosen w cp g k l) (hx:l[k]?=some x) (hb:base<=g)
 (hr:p x=(0,y)) :
 Calls prog 86 #[.pointer (some ⟨cp,0,none⟩),.func (.func F) #[.pointer (some ⟨cp,0,none⟩)] #[]] w λ e w' =>
  e=.returned (.tuple #[.slice (some ⟨g,0,none⟩) l.length l.length,.int .i64 0])/\Below base w w'/\∃ vs,Blk w' g vs 51/\vs.toList=flat (l.set k y):=by
 have H1:=hid (hF w base cp g k l x hC hx hb);rw [chg_yes hr,hr] at H1;have c2:=(hC.2.1.at_ (k:=2) rfl).1;have hl:=hC.2.1.lt;clear hF hC hx hr;go_enter func86,ntmps86;go_wp2_with fail;refine H1.out.mono ?_;rintro ee w1 ⟨rfl,b1,hne,h1,h2⟩;rw [List.length_set] at h1;have d0:=(h1.at_ (k:=0) rfl).1;have hl1:=h1.lt;have H2:=hid h2;clear h1 h2;go_wp2_with fail;go_ret2;exact⟨rfl,b1,H2.out⟩
end P11
end
section
namespace P11
theorem b64_pk {x:G} (h:B64 x.1):B64 (pkG x).2.1:=by
 unfold pkG
 split
 . simp only;split<;>exact⟨by decide,by decide⟩
 . exact h
theorem b64_rd {x:G} (h:B64 x.1):B64 (rdG x).2.1:=by
 unfold rdG
 split
 . exact h
 . split
   . exact h
   . exact (show B64 0 from ⟨by decide,by decide⟩)
theorem b64_en {x:G} (h:B64 x.1):B64 (enG x).2.1:=by
 unfold enG
 split
 . exact⟨by decide,by decide⟩
 . exact h
theorem err_pk (x:G):(pkG x).1=0\/(pkG x).1=6\/(pkG x).1=7:=by
 unfold pkG;split<;>simp
theorem err_rd (x:G):(rdG x).1=0\/(rdG x).1=6\/(rdG x).1=7:=by
 unfold rdG;split
 . simp
 . split<;>simp
theorem err_en (x:G):(enG x).1=0\/(enG x).1=6\/(enG x).1=7:=by
 unfold enG;split<;>simp
theorem b64_set {l:List G} {k:Nat} {y:G} (h:∀ x∈l,B64 x.1) (hy:B64 y.1):∀ x∈l.set k y,B64 x.1:=by
 intro x hx;rcases List.mem_or_eq_of_mem_set hx with h1 | rfl
 . exact h x h1
 . exact hy
theorem got_yes {w w':World} {g k n:Nat} {l:List G} {y:G} (hn:l.length=n) (hl:w.heap.size<=g) (hb:∀ x∈l.set k y,B64 x.1) (h:∃ vs,Blk w' g vs 51/\vs.toList=flat (l.set k y)) (G1:Gr w w') :
 Got w (0,l.set k y) (.returned (.tuple #[.slice (some ⟨g,0,none⟩) n n,.int .i64 0])) w':=by
 subst hn;obtain⟨vs,h1,h2⟩:=h;have e:(l.set k y).length=l.length:=List.length_set;refine⟨_,l.length,?_,GMem.of_blk h1 h2 hb,(λ k hk=>by cases hk;exact hl),Nat.le_of_eq e,G1⟩;rw [e]
section
variable {A:Option Addr} {n c:Nat} {l:List G} {who:Int}
theorem Park_is (hn:n<=9223372036854775807) (w:World) (hm:GMem w A n l) :
 Calls prog 153 #[.slice A n c,.int .i64 who] w (Got w (outc pkG l who)):=by
 have hmf:=mkF;have hl:=hm.1;by_cases hr:rightB l=true
 . by_cases hw:who<0\/n<=who
   . rw [outc_range hr (by rw [hl];exact hw)]
     have c1:=hid (choose_range (c:=c) hn hr hw hm);clear hm hr hw;go_enter func153,ntmps153;go_wp2_with fail;refine c1.out.mono ?_;rintro e w1 ⟨cp,rfl,hcp,hB,g1⟩;have c2:=λ f=>hid (after_no (f:=f) (.inr rfl) hB)
     go_wp2_with fail;refine (c2 _).out.mono ?_;rintro e w2 ⟨rfl,g2⟩;go_wp2_with fail;go_ret2;exact got_err 3 (g1.trans g2)
   . obtain⟨k,rfl⟩:∃ k:Nat,who=(k:Int):=⟨who.toNat,by omega⟩
     have hk:k<n:=by omega
     obtain⟨x,hx⟩:∃ x,l[k]?=some x:=⟨_,zge (by omega)⟩;rw [outc_at hr hx];have hbx:=hm.2.1 x (zmo hx);have HB:=hid hm.2.1;have HX:=hid hx;have c1:=hid (choose_ok (c:=c) hn hr hk hm);obtain⟨⟨q,y⟩,hp⟩:∃ r,pkG x=r:=⟨_,rfl⟩;have hy:=b64_pk hbx;have hq:=err_pk x;rw [hp] at hy hq ⊢;have HP:=hid hp;clear hm hr hw hx hp;rcases hq with hq | hq
     . obtain rfl:q=0:=hq
       rw [if_pos rfl];go_enter func153,ntmps153;go_wp2_with fail;refine c1.out.mono ?_;rintro e w1 ⟨cp,g,rfl,hcp,hg,hC,g1⟩;have c2:=hid (after_yes (enters_of func194 (by kernel_rfl) rfl) park_is hC HX.out hg HP.out);rw [hl] at c2;clear hC;go_wp2_with fail;refine c2.out.mono ?_;rintro e w2 ⟨rfl,g2,hv⟩;have HV:=hid hv;clear hv;go_wp2_with fail;go_ret2;exact got_yes hl hg (b64_set HB.out hy) HV.out (g1.trans' g2)
     . rw [if_neg (by show q≠0;omega)]
       go_enter func153,ntmps153;go_wp2_with fail;refine c1.out.mono ?_;rintro e w1 ⟨cp,g,rfl,hcp,hg,hC,g1⟩;have c2:=hid (after_err (enters_of func194 (by kernel_rfl) rfl) park_is hC HX.out hg (by rw [HP.out]) hq);clear hC;go_wp2_with fail;refine c2.out.mono ?_;rintro e w2 ⟨rfl,g2⟩;go_wp2_with fail;go_ret2;exact got_err q (g1.trans' g2)
 . have hr0:rightB l=false:=by simpa using hr
   rw [outc_arg hr0];have c1:=hid (choose_arg (c:=c) (who:=who) hn hr0 hm);clear hm hr hr0;go_enter func153,ntmps153;go_wp2_with fail;refine c1.out.mono ?_;rintro e w1 ⟨cp,rfl,hcp,hB,g1⟩;have c2:=λ f=>hid (after_no (f:=f) (.inl rfl) hB)
   go_wp2_with fail;refine (c2 _).out.mono ?_;rintro e w2 ⟨rfl,g2⟩;go_wp2_with fail;go_ret2;exact got_err 1 (g1.trans g2)
end
section
variable {A:Option Addr} {n c:Nat} {l:List G} {who:Int}
theorem Ready_is (hn:n<=9223372036854775807) (w:World) (hm:GMem w A n l) :
 Calls prog 162 #[.slice A n c,.int .i64 who] w (Got w (outc rdG l who)):=by
 have hmf:=mkF;have hl:=hm.1;by_cases hr:rightB l=true
 . by_cases hw:who<0\/n<=who
   . rw [outc_range hr (by rw [hl];exact hw)]
     have c1:=hid (choose_range (c:=c) hn hr hw hm);clear hm hr hw;go_enter func162,ntmps162;go_wp2_with fail;refine c1.out.mono ?_;rintro e w1 ⟨cp,rfl,hcp,hB,g1⟩;have c2:=λ f=>hid (after_no (f:=f) (.inr rfl) hB)
     go_wp2_with fail;refine (c2 _).out.mono ?_;rintro e w2 ⟨rfl,g2⟩;go_wp2_with fail;go_ret2;exact got_err 3 (g1.trans g2)
   . obtain⟨k,rfl⟩:∃ k:Nat,who=(k:Int):=⟨who.toNat,by omega⟩
     have hk:k<n:=by omega
     obtain⟨x,hx⟩:∃ x,l[k]?=some x:=⟨_,zge (by omega)⟩;rw [outc_at hr hx];have hbx:=hm.2.1 x (zmo hx);have HB:=hid hm.2.1;have HX:=hid hx;have c1:=hid (choose_ok (c:=c) hn hr hk hm);obtain⟨⟨q,y⟩,hp⟩:∃ r,rdG x=r:=⟨_,rfl⟩;have hy:=b64_rd hbx;have hq:=err_rd x;rw [hp] at hy hq ⊢;have HP:=hid hp;clear hm hr hw hx hp;rcases hq with hq | hq
     . obtain rfl:q=0:=hq
       rw [if_pos rfl];go_enter func162,ntmps162;go_wp2_with fail;refine c1.out.mono ?_;rintro e w1 ⟨cp,g,rfl,hcp,hg,hC,g1⟩;have c2:=hid (after_yes (enters_of func202 (by kernel_rfl) rfl) ready_is hC HX.out hg HP.out);rw [hl] at c2;clear hC;go_wp2_with fail;refine c2.out.mono ?_;rintro e w2 ⟨rfl,g2,hv⟩;have HV:=hid hv;clear hv;go_wp2_with fail;go_ret2;exact got_yes hl hg (b64_set HB.out hy) HV.out (g1.trans' g2)
     . rw [if_neg (by show q≠0;omega)]
       go_enter func162,ntmps162;go_wp2_with fail;refine c1.out.mono ?_;rintro e w1 ⟨cp,g,rfl,hcp,hg,hC,g1⟩;have c2:=hid (after_err (enters_of func202 (by kernel_rfl) rfl) ready_is hC HX.out hg (by rw [HP.out]) hq);clear hC;go_wp2_with fail;refine c2.out.mono ?_;rintro e w2 ⟨rfl,g2⟩;go_wp2_with fail;go_ret2;exact got_err q (g1.trans' g2)
 . have hr0:rightB l=false:=by simpa using hr
   rw [outc_arg hr0];have c1:=hid (choose_arg (c:=c) (who:=who) hn hr0 hm);clear hm hr hr0;go_enter func162,ntmps162;go_wp2_with fail;refine c1.out.mono ?_;rintro e w1 ⟨cp,rfl,hcp,hB,g1⟩;have c2:=λ f=>hid (after_no (f:=f) (.inl rfl) hB)
   go_wp2_with fail;refine (c2 _).out.mono ?_;rintro e w2 ⟨rfl,g2⟩;go_wp2_with fail;go_ret2;exact got_err 1 (g1.trans g2)
end
section
variable {A:Option Addr} {n c:Nat} {l:List G} {who:Int}
theorem End_is (hn:n<=9223372036854775807) (w:World) (hm:GMem w A n l) :
 Calls prog 65 #[.slice A n c,.int .i64 who] w (Got w (outc enG l who)):=by
 have hmf:=mkF;have hl:=hm.1;by_cases hr:rightB l=true
 . by_cases hw:who<0\/n<=who
   . rw [outc_range hr (by rw [hl];exact hw)]
     have c1:=hid (choose_range (c:=c) hn hr hw hm);clear hm hr hw;go_enter func65,ntmps65;go_wp2_with fail;refine c1.out.mono ?_;rintro e w1 ⟨cp,rfl,hcp,hB,g1⟩;have c2:=λ f=>hid (after_no (f:=f) (.inr rfl) hB)
     go_wp2_with fail;refine (c2 _).out.mono ?_;rintro e w2 ⟨rfl,g2⟩;go_wp2_with fail;go_ret2;exact got_err 3 (g1.trans g2)
   . obtain⟨k,rfl⟩:∃ k:Nat,who=(k:Int):=⟨who.toNat,by omega⟩
     have hk:k<n:=by omega
     obtain⟨x,hx⟩:∃ x,l[k]?=some x:=⟨_,zge (by omega)⟩;rw [outc_at hr hx];have hbx:=hm.2.1 x (zmo hx);have HB:=hid hm.2.1;have HX:=hid hx;have c1:=hid (choose_ok (c:=c) hn hr hk hm);obtain⟨⟨q,y⟩,hp⟩:∃ r,enG x=r:=⟨_,rfl⟩;have hy:=b64_en hbx;have hq:=err_en x;rw [hp] at hy hq ⊢;have HP:=hid hp;clear hm hr hw hx hp;rcases hq with hq | hq
     . obtain rfl:q=0:=hq
       rw [if_pos rfl];go_enter func65,ntmps65;go_wp2_with fail;refine c1.out.mono ?_;rintro e w1 ⟨cp,g,rfl,hcp,hg,hC,g1⟩;have c2:=hid (after_yes (enters_of func87 (by kernel_rfl) rfl) end_is hC HX.out hg HP.out);rw [hl] at c2;clear hC;go_wp2_with fail;refine c2.out.mono ?_;rintro e w2 ⟨rfl,g2,hv⟩;have HV:=hid hv;clear hv;go_wp2_with fail;go_ret2;exact got_yes hl hg (b64_set HB.out hy) HV.out (g1.trans' g2)
     . rw [if_neg (by show q≠0;omega)]
       go_enter func65,ntmps65;go_wp2_with fail;refine c1.out.mono ?_;rintro e w1 ⟨cp,g,rfl,hcp,hg,hC,g1⟩;have c2:=hid (after_err (enters_of func87 (by kernel_rfl) rfl) end_is hC HX.out hg (by rw [HP.out]) hq);clear hC;go_wp2_with fail;refine c2.out.mono ?_;rintro e w2 ⟨rfl,g2⟩;go_wp2_with fail;go_ret2;exact got_err q (g1.trans' g2)
 . have hr0:rightB l=false:=by simpa using hr
   rw [outc_arg hr0];have c1:=hid (choose_arg (c:=c) (who:=who) hn hr0 hm);clear hm hr hr0;go_enter func65,ntmps65;go_wp2_with fail;refine c1.out.mono ?_;rintro e w1 ⟨cp,rfl,hcp,hB,g1⟩;have c2:=λ f=>hid (after_no (f:=f) (.inl rfl) hB)
   go_wp2_with fail;refine (c2 _).out.mono ?_;rintro e w2 ⟨rfl,g2⟩;go_wp2_with fail;go_ret2;exact got_err 1 (g1.trans g2)
end
def rnK (l:List G) (k:Nat):List Int:=((List.range k).filter λ (i:Nat)=>(l[i]?.map (λ x:G=>x.1))==some 0).map λ (i:Nat)=>(i:Int)
def rn (l:List G):List Int:=rnK l l.length
theorem rnK_yes {l:List G} {k:Nat} {x:G} (h:l[k]?=some x) (hx:x.1=0):rnK l (k+1)=rnK l k++[(k:Int)]:=by
 simp [rnK,List.range_succ,h,hx]
theorem rnK_no {l:List G} {k:Nat} {x:G} (h:l[k]?=some x) (hx:x.1≠0):rnK l (k+1)=rnK l k:=by
 simp [rnK,List.range_succ,h,hx]
theorem rnK_cnt (l:List G) (k:Nat) (hk:k<=l.length):(rnK l k).length=(l.take k).countP (λ x=>x.1==0):=by
 induction k with
 | zero=>simp [rnK]
 | succ k ih =>
  have hx:l[k]?=some l[k]:=zge (by omega);rw [List.take_succ_eq_append_getElem (by omega),List.countP_append,<- ih (by omega)];by_cases h0:l[k].1=0
  . rw [rnK_yes hx h0];simp [h0]
  . rw [rnK_no hx h0];simp [h0]
theorem rn_cnt (l:List G):(rn l).length=l.countP (λ x=>x.1==0):=by
 rw [rn,rnK_cnt l _ (Nat.le_refl _),List.take_length]
section
variable {A:Option Addr} {n c:Nat} {l:List G}
theorem Runnable_yes (hn:n<=9223372036854775807) (hr:rightB l=true) (w:World) (hm:GMem w A n l) :
 Calls prog 24 #[.slice A n c] w λ e w'=>∃ C d,e=.returned (.tuple #[.slice C (rn l).length d,.int .i64 0])/\IOwn w.heap.size w' C (rn l).length d (rn l)/\Gr w w':=by
 have h8:n<=8:=by have:=hm.1;simp [rightB] at hr;omega
 have c1:=hid (Right_is (c:=c) hr hn w hm);obtain⟨i0,hi0,hz0,hz1,hz2⟩:=info_parts infoInt;have HZ:=hid hz0;have HZ1:=hid hz1;have HZ2:=hid hz2;have HI0:=hid hi0;have HM:=hid hm;clear hz0 hz1 hz2 hi0 hm hr;go_enter func24,ntmps24;go_wp2_with fail;refine c1.out.mono ?_;rintro e w1 ⟨rfl,g1⟩;go_wp2_with fail
 go_loopw [4,12] (λ L i wr=>∃ (k q:Nat) (C:Option Addr) (d:Nat),k<=n/\q<=k/\i=.int .i64 (k:Int)/\L=.slice C q d/\Hid (IOwn w.heap.size wr C q d (rnK l k))/\Hid (Gr w wr)) (λ _ i _=>n-(intOf i).toNat)
 case atStart=>exact⟨0,0,_,0,Nat.zero_le _,Nat.zero_le _,rfl,rfl,hid OMem.nil_,hid g1⟩
 case round =>
  obtain⟨k,q,C,d,hk,hq,rfl,rfl,HO,HG⟩:=hrel;by_cases hlt:k<n
  . obtain⟨b,off,x,rfl,hbl,hx,hix,cx,cy⟩:=(HM.out.gr HG.out).at_ hlt
    have HX:=hid hx;clear hx;obtain⟨s,p⟩:=x;by_cases he:s=0
    . subst he
      have H1:=hid (rnK_yes HX.out rfl);go_wp2_with (at_builtin;refine Mark.stop ?_);refine Mark.go ?_;refine wpList_append_omem _ (Value.int .i64) B64 rfl (.tmp 20) (.tmp 22) 23 rfl (λ _=>rfl) w.heap.size 3 i0 (.int .i64 0) 8 underlying23 HI0.out HZ.out HZ1.out HZ2.out rfl C q d _ rfl (HO.out.gr (((zr _).al _).al _)) _ 1 1 [(k:Int)] rfl (emem_one' _ (k:Int) ⟨by omega,by omega⟩ _ (by simp)) (by unfold maxLen;omega) (by omega) ((HG.out.al _).al _).size ?_;intro C3 k3 w3 own3 gb3;rw [<- H1.out] at own3;have O3:=hid own3;have G3:=hid (((HG.out.al (.cells #[.int .i64 0,.bool p] 51)).al (.cells #[.int .i64 (k:Int)] 3)).gb gb3 (λ k hk=>(HO.out.lt k hk).1));clear gb3 own3;go_wp2_with fail;go_roundw
      case rel=>exact⟨k+1,q+1,C3,k3,by omega,by omega,by go_num,rfl,O3,G3⟩
      case measure=>simp [intOf];omega
    . have ne:(s==0)=false:=beq_eq_false_iff_ne.2 he
      have H1:=hid (rnK_no HX.out he);go_wp2_with fail;go_roundw
      case rel=>exact⟨k+1,q,C,d,by omega,by omega,by go_num,rfl,hid (by rw [H1.out];exact HO.out.gr ((zr _).al _)),hid (HG.out.al _)⟩
      case measure=>simp [intOf];omega
  . obtain rfl:k=n:=by omega
    have own:=HO.out;rw [<- HM.out.1] at own;have hq:q=(rn l).length:=own.mem.1.symm;subst hq;go_wp2_with fail;go_ret2;exact⟨C,d,rfl,own,HG.out⟩
end
end P11
end
section
namespace P11
def GotN (w:World) (N:Nat) (q:Int) (R:List G) (e:Ending) (w':World):Prop :=
 ∃ B m,e=.returned (.tuple #[.slice B N m,.int .i64 q])/\GMem w' B N R/\N<=m/\Late w.heap.size B/\Gr w w'
theorem got_n {w w':World} {N:Nat} {q:Int} {R:List G} {e:Ending} (h:Got w (q,R) e w') (hl:R.length=N):GotN w N q R e w':=by
 obtain⟨B,m,h1,h2,h3,h4,h5⟩:=h;simp only [hl] at h1 h2 h4;exact⟨B,m,h1,h2,h4,h3,h5⟩
section
variable {A:Option Addr} {n c N:Nat} {l R:List G} {who q:Int} {w:World}
theorem Park_at (hn:n<=9223372036854775807) (hr:outc pkG l who=(q,R)) (hl:R.length=N) (w:World) (hm:GMem w A n l) :
 Calls prog 153 #[.slice A n c,.int .i64 who] w (GotN w N q R) :=
 (Park_is hn w hm).mono λ _ _ h=>got_n (hr▸h) hl
theorem Ready_at (hn:n<=9223372036854775807) (hr:outc rdG l who=(q,R)) (hl:R.length=N) (w:World) (hm:GMem w A n l) :
 Calls prog 162 #[.slice A n c,.int .i64 who] w (GotN w N q R) :=
 (Ready_is hn w hm).mono λ _ _ h=>got_n (hr▸h) hl
theorem End_at (hn:n<=9223372036854775807) (hr:outc enG l who=(q,R)) (hl:R.length=N) (w:World) (hm:GMem w A n l) :
 Calls prog 65 #[.slice A n c,.int .i64 who] w (GotN w N q R) :=
 (End_is hn w hm).mono λ _ _ h=>got_n (hr▸h) hl
end
theorem Runnable_at {A:Option Addr} {n c v:Nat} {l:List G} (hn:n<=9223372036854775807) (hr:rightB l=true) (hv:(rn l).length=v) (w:World) (hm:GMem w A n l) :
 Calls prog 24 #[.slice A n c] w λ e w'=>∃ C d,e=.returned (.tuple #[.slice C v d,.int .i64 0])/\IMem w' C v (rn l)/\v<=d/\Gr w w' :=
 (Runnable_yes hn hr w hm).mono λ _ _ h=>by
   obtain⟨C,d,h1,h2,h3⟩:=h;rw [hv] at h1 h2;exact⟨C,d,h1,h2.mem,h2.le,h3⟩
end P11
end
section
namespace P16
def gor (c:Cl):P11.G:=(c.gst,c.permit)
abbrev gV (x:P11.G):List Value:=[.int .i64 x.1,.bool x.2]
theorem gV_len (x:P11.G):(gV x).length=2:=rfl
theorem ORow.gmem {W:World} {b n:Nat} {l:List P11.G} (h:ORow gV 2 W b 0 l) (hl:l.length=n) (hb:∀ x∈l,B64 x.1):P11.GMem W (some ⟨b,0,none⟩) n l :=
 ⟨hl,hb,λ _=>⟨b,0,rfl,h.lt,λ j u hu=>by
   obtain⟨i,x,hx,q⟩:=P11.flat_inv l j u hu;rcases q with ⟨rfl,rfl⟩ | ⟨rfl,rfl⟩
   . exact (h.at_ (j:=0) hx rfl).1
   . have:=(h.at_ (j:=1) hx rfl).1
     rwa [Nat.add_assoc] at this⟩⟩
theorem gors_zero (w:World) (n:Nat):ORow gV 2 (w.alloc (.cells (madeCells #[.int .i64 0,.bool false] (n*2)) 51)) w.heap.size 0 (List.replicate n (0,false)):=by
 refine⟨_,_,Blk.new w _ _,λ i x hx j v hv=>?_⟩;have hi:i<n:=by have:=(zgl hx);rwa [List.length_replicate] at this
 rw [List.getElem?_replicate,if_pos hi] at hx;cases hx;have hj:j<2:=(zgl hv);unfold madeCells;rw [Array.getElem?_map,Array.getElem?_range,if_pos (by omega),<- hv];rcases j with _ | _ | j
 . simp
 . simp [Nat.add_mod]
 . omega
theorem fill_set {α β:Type} {f:α->β} {l:List α} {k n:Nat} {y:α} {z:β} (hy:l[k]?=some y) (hl:l.length=n) (v:β) (hv:v=f y) :
 ((l.take k).map f++List.replicate (n-k) z).set k v=(l.take (k+1)).map f++List.replicate (n-(k+1)) z:=by
 have hk:=(zgl hy);have e:n-k=n-(k+1)+1:=by omega
 rw [List.set_append_right _ _ (by rw [List.length_map,List.length_take];omega),List.length_map,List.length_take,Nat.min_eq_left (by omega),Nat.sub_self,e,List.replicate_succ,List.set_cons_zero,List.take_add_one,hy];simp [hv]
section
variable {w:World} {A:Option Addr} {n c:Nat} {l:List Cl}
theorem gors_is (hm:CMem w A n l) (hn:n<=1000) :
 Calls prog 70 #[.slice A n c] w λ e w'=>e=.returned (.slice (some ⟨w.heap.size,0,none⟩) n n)/\P11.GMem w' (some ⟨w.heap.size,0,none⟩) n (l.map gor)/\Gr w w':=by
 obtain⟨i0,hi0,hz0,hz1,hz2⟩:=P12.info_parts P11.infoGor;dsimp only at hz0 hz1 hz2;have hmk:=λ w=>run_makeN (P:=prog) 70 51 i0 _ underlying70 hi0 hz0 n (by rw [hz2];omega) (by omega) w
 rw [hz1] at hmk;have Z:=gors_zero w n;obtain⟨V,hV⟩:∃ V,madeCells #[.int .i64 0,.bool false] (n*2)=V:=⟨_,rfl⟩;have hmk':∀ w,(Instr.makeSlice 70 (.int .i64 (n:Int)) (.int .i64 (n:Int))).run prog w=.ok (.slice (some ⟨w.heap.size,0,none⟩) n n) (w.alloc (.cells V 51)):=λ w=>by rw [<- hV];exact hmk w
 rw [hV] at Z;have HV:=hid hV;have HM:=hid hm;have H0:=hid (show ORow gV 2 (w.alloc (.cells V 51)) w.heap.size 0 ((l.take 0).map gor++List.replicate (n-0) (0,false)) from by simpa using Z);clear hV hmk hi0 hz0 hz1 hz2 Z hm;go_enter func70,ntmps70;go_wp2_with fail
 go_loopw [11] (λ i wr=>∃ k:Nat,k<=n/\i=.int .i64 k/\Hid (ORow gV 2 wr w.heap.size 0 ((l.take k).map gor++List.replicate (n-k) (0,false)))/\Hid (Gr w wr)) (λ i _=>n-(intOf i).toNat)
 case atStart=>exact⟨0,Nat.zero_le _,rfl,H0,hid ((zr w).al _)⟩
 case round =>
  obtain⟨k,hk,rfl,HO,HG⟩:=hrel;by_cases hlt:k<n
  . have hlb:=HO.out.lt
    obtain⟨b,off,y,rfl,hb,hy,okx,c0,c1,c2,c3,c4,c5,c6,c7,c8,c9,c10,c11,c12⟩:=CMem.cells (RMem.gr HM.out HG.out) hlt;have k0:(0:Int)<=(k:Int):=by omega
    have k1:(k:Int)<(n:Int):=by omega
    have hne:w.heap.size≠wr.heap.size:=by omega
    have hz:((l.take k).map gor++List.replicate (n-k) (0,false))[k]?=some (0,false):=by
     have hl:=HM.out.len;rw [List.getElem?_append_right (by rw [List.length_map,List.length_take];omega),List.length_map,List.length_take,List.getElem?_replicate,if_pos (by omega)]
    obtain⟨g0,f0⟩:=HO.out.at_ (j:=0) hz rfl;obtain⟨g1,f1⟩:=HO.out.at_ (j:=1) hz rfl;rw [Nat.zero_add,Nat.add_zero] at g0 f0;rw [Nat.zero_add] at g1 f1;have HY:=hid hy;have HZ:=hid hz;clear hy hz okx;go_wp2_with fail;go_roundw
    case rel =>
     have h1:=HO.out.put gV_len HZ.out (j:=0) (v:=.int .i64 y.gst) (y:=(y.gst,false)) (by decide) rfl;have h2:=h1.put gV_len (i:=k) (x:=(y.gst,false)) (by rw [zss (List.getElem?_eq_some_iff.1 HZ.out).1]) (j:=1) (v:=.bool y.permit) (y:=gor y) (by decide) rfl;rw [List.set_set,fill_set HY.out HM.out.len _ rfl] at h2;simp only [Nat.zero_add,Nat.add_zero] at h2;exact⟨k+1,by omega,by go_num,hid (h2.gr ((zr _).al _)),hid (((HG.out.st (p:=⟨w.heap.size,k*2,none⟩) (Nat.le_refl _) _).st (p:=⟨w.heap.size,k*2+1,none⟩) (Nat.le_refl _) _).al _)⟩
    case measure=>simp [intOf];omega
  . obtain rfl:k=n:=by omega
    have h1:=HO.out;have hl:=HM.out.len;rw [Nat.sub_self,List.replicate_zero,List.append_nil,List.take_of_length_le (by omega)] at h1;have hb:=HM.out.all;clear HO HM;go_wp2_with fail;go_ret;exact⟨rfl,h1.gmem (by rw [List.length_map];exact hl) (λ z hz=>by obtain⟨y,hy,rfl⟩:=List.mem_map.1 hz;exact (hb y hy).gst),HG.out⟩
end
end P16
end
section
namespace P14
abbrev pan (y:Int):List PanicEntry:=[{ v:=.iface 27 (.int .i64 y),recovered:=false }]
theorem need_yes (y:Int) (w:World):Calls prog 171 #[.bool true,.int .i64 y] w λ e w'=>e=.returned (.tuple #[])/\w'=w:=by
 go_enter func171,ntmps171;go_wp2
 go_end0
 exact⟨rfl,rfl⟩
theorem need_no (y:Int) (w:World):Calls prog 171 #[.bool false,.int .i64 y] w λ e w'=>e=.panicked (pan y)/\w'=w:=by
 go_enter func171,ntmps171;go_wp2;exact⟨rfl,rfl,rfl⟩
theorem sureB_yes (v:Bool) (w:World):Calls prog 175 #[.bool v,.int .i64 0] w λ e w'=>e=.returned (.bool v)/\w'=w:=by
 go_enter func175,ntmps175;go_wp2_with fail;refine (need_yes _ _).mono ?_;rintro e w1 ⟨rfl,rfl⟩;go_wp2_with fail;go_ret;exact⟨rfl,rfl⟩
theorem sureI_yes (v:Int) (w:World):Calls prog 207 #[.int .i64 v,.int .i64 0] w λ e w'=>e=.returned (.int .i64 v)/\w'=w:=by
 go_enter func207,ntmps207;go_wp2_with fail;refine (need_yes _ _).mono ?_;rintro e w1 ⟨rfl,rfl⟩;go_wp2_with fail;go_ret;exact⟨rfl,rfl⟩
theorem sureI_no (v:Int) {y:Int} (hy:(y==0)=false) (w:World):Calls prog 207 #[.int .i64 v,.int .i64 y] w λ e w'=>e=.panicked (pan y)/\w'=w:=by
 go_enter func207,ntmps207;go_wp2_with fail;refine (need_no _ _).mono ?_;rintro e w1 ⟨rfl,rfl⟩;go_wp2_with fail;exact⟨rfl,rfl,rfl⟩
theorem sureF_yes (a b c:Bool) (n:Int) (w:World):Calls prog 172 #[.agg #[.bool a,.bool b,.bool c,.int .i64 n],.int .i64 0] w λ e w'=>e=.returned (.agg #[.bool a,.bool b,.bool c,.int .i64 n])/\Gr w w':=by
 go_enter func172,ntmps172;go_wp2_with fail;refine (need_yes _ _).mono ?_;rintro e w1 ⟨rfl,rfl⟩;go_wp2_with fail;exact bodyPost_ret (v:=.agg #[.bool a,.bool b,.bool c,.int .i64 n]) (by simp [results,results172,go_sem]) rfl ⟨rfl,by first | exact ((zr w).al _).al _ | skip⟩
theorem sureF_no (a b c:Bool) (n:Int) {y:Int} (hy:(y==0)=false) (w:World):Calls prog 172 #[.agg #[.bool a,.bool b,.bool c,.int .i64 n],.int .i64 y] w λ e w'=>e=.panicked (pan y)/\Gr w w':=by
 go_enter func172,ntmps172;go_wp2_with fail;refine (need_no _ _).mono ?_;rintro e w1 ⟨rfl,rfl⟩;go_wp2_with fail;exact⟨rfl,rfl,((zr w).al _).al _⟩
theorem as_errno (v:Value) (w:World):(Instr.typeAssert (.iface 27 v) 20 27 false).run prog w=.ok v w:=by kernel_rfl
theorem catchB_idle (p:Addr) (w:World) :
 CallsD prog 204 #[.pointer (some p)] .returning w λ e u' w'=>e=.returned (.tuple #[])/\u'=.returning/\w'=w:=by
 refine callsD_of_wpS func204 rfl λ c₀ cs hu=>?_
 apply wpS_seq;apply wpS_region;simp [wpOpsS,go_sem,recoverD,hu,ntmps204,Exit.thenS];apply wpS_seq;apply wpS_region;simp [wpOpsS,go_sem,recoverD,hu,Exit.thenS];refine wpS_cond (t:=false) (by simp [Act.eval,Array.replicate]) ?_;simp only [Bool.false_eq_true,if_false];refine wpS_of_wp (wp_skip ?_);cases c₀
 simp_all [bodyPostS,results,results204]
theorem catchI_up (p:Addr) (y x:Int) (w:World) (hc:w.cell? p=some (.int .i64 x)) (hz:w.frozen? p=false) :
 CallsD prog 206 #[.pointer (some p)] (.panicking (pan y)) w λ e u' w' =>
  e=.returned (.tuple #[])/\u'=.panicking [{ v:=.iface 27 (.int .i64 y),recovered:=true }]/\w'=w.setCell p (.int .i64 y):=by
 refine callsD_of_wpS func206 rfl λ c₀ cs hu=>?_
 apply wpS_seq;apply wpS_region;simp [wpOpsS,go_sem,recoverD,hu,ntmps206,Exit.thenS];apply wpS_seq;apply wpS_region;simp [wpOpsS,go_sem,recoverD,hu,Exit.thenS];refine wpS_cond (t:=true) (by simp [Act.eval,Array.replicate]) ?_;simp only [if_true];apply wpS_region;simp [wpOpsS,go_sem,as_errno,hc,hz,bodyPostS,results,results206]
theorem catchI_idle (p:Addr) (w:World) :
 CallsD prog 206 #[.pointer (some p)] .returning w λ e u' w'=>e=.returned (.tuple #[])/\u'=.returning/\w'=w:=by
 refine callsD_of_wpS func206 rfl λ c₀ cs hu=>?_
 apply wpS_seq;apply wpS_region;simp [wpOpsS,go_sem,recoverD,hu,ntmps206,Exit.thenS];apply wpS_seq;apply wpS_region;simp [wpOpsS,go_sem,recoverD,hu,Exit.thenS];refine wpS_cond (t:=false) (by simp [Act.eval,Array.replicate]) ?_;simp only [Bool.false_eq_true,if_false];refine wpS_of_wp (wp_skip ?_);cases c₀
 simp_all [bodyPostS,results,results206]
theorem catchF_up (p:Addr) (y x:Int) (w:World) (hc:w.cell? p=some (.int .i64 x)) (hz:w.frozen? p=false) :
 CallsD prog 170 #[.pointer (some p)] (.panicking (pan y)) w λ e u' w' =>
  e=.returned (.tuple #[])/\u'=.panicking [{ v:=.iface 27 (.int .i64 y),recovered:=true }]/\w'=w.setCell p (.int .i64 y):=by
 refine callsD_of_wpS func170 rfl λ c₀ cs hu=>?_
 apply wpS_seq;apply wpS_region;simp [wpOpsS,go_sem,recoverD,hu,ntmps170,Exit.thenS];apply wpS_seq;apply wpS_region;simp [wpOpsS,go_sem,recoverD,hu,Exit.thenS];refine wpS_cond (t:=true) (by simp [Act.eval,Array.replicate]) ?_;simp only [if_true];apply wpS_region;simp [wpOpsS,go_sem,as_errno,hc,hz,bodyPostS,results,results170]
theorem catchF_idle (p:Addr) (w:World) :
 CallsD prog 170 #[.pointer (some p)] .returning w λ e u' w'=>e=.returned (.tuple #[])/\u'=.returning/\w'=w:=by
 refine callsD_of_wpS func170 rfl λ c₀ cs hu=>?_
 apply wpS_seq;apply wpS_region;simp [wpOpsS,go_sem,recoverD,hu,ntmps170,Exit.thenS];apply wpS_seq;apply wpS_region;simp [wpOpsS,go_sem,recoverD,hu,Exit.thenS];refine wpS_cond (t:=false) (by simp [Act.eval,Array.replicate]) ?_;simp only [Bool.false_eq_true,if_false];refine wpS_of_wp (wp_skip ?_);cases c₀
 simp_all [bodyPostS,results,results170]
theorem catchO_idle (p:Addr) (w:World) :
 CallsD prog 208 #[.pointer (some p)] .returning w λ e u' w'=>e=.returned (.tuple #[])/\u'=.returning/\w'=w:=by
 refine callsD_of_wpS func208 rfl λ c₀ cs hu=>?_
 apply wpS_seq;apply wpS_region;simp [wpOpsS,go_sem,recoverD,hu,ntmps208,Exit.thenS];apply wpS_seq;apply wpS_region;simp [wpOpsS,go_sem,recoverD,hu,Exit.thenS];refine wpS_cond (t:=false) (by simp [Act.eval,Array.replicate]) ?_;simp only [Bool.false_eq_true,if_false];refine wpS_of_wp (wp_skip ?_);cases c₀
 simp_all [bodyPostS,results,results208]
section
variable {F:Nat} {caps:Array Value} {w:World}
theorem toldB_ok (eg:∀ args w,(callFunc F args).run prog w=.ok (.enter F args) w) (v:Bool) (hq:∀ W,Gr w W->Calls prog F caps W λ e w'=>e=.returned (.bool v)/\Gr W w') :
 Calls prog 173 #[.func (.func F) #[] caps] w λ e w'=>e=.returned (.tuple #[.bool v,.int .i64 0])/\Gr w w':=by
 have hmf:=mkF;have HQ:=hid hq;clear hq
 go_enter_defers func173,ntmps173
 go_wp2_with fail;refine (HQ.out _ ((zr w).al _)).mono ?_;rintro e w1 ⟨rfl,g1⟩;have B0:=(Blk.new w #[.int .i64 0] 27).gr g1;obtain⟨q0,z0⟩:=B0.at_ (k:=0) rfl;obtain⟨q1,z1⟩:=(B0.set 0 (.int .i64 0)).at_ (k:=0) (v:=.int .i64 0) rfl;have G:=hid ((((zr w).al (.cells #[.int .i64 0] 27)).trans g1).st (p:=⟨w.heap.size,0,none⟩) (Nat.le_refl _) (.int .i64 0));clear B0 g1;go_wp2_with fail;refine leaves_cons (f:=204) (args:=#[.pointer (some ⟨w.heap.size,0,none⟩)]) (by simp) (by simp [go_sem]) ?_;refine (catchB_idle ⟨w.heap.size,0,none⟩ _).mono ?_;rintro e u' w'' ⟨rfl,rfl,rfl⟩;simp [Leaves,settle,results,results173,go_sem,q1];exact G.out
theorem toldI_ok (eg:∀ args w,(callFunc F args).run prog w=.ok (.enter F args) w) (v:Int) (hq:∀ W,Gr w W->Calls prog F caps W λ e w'=>e=.returned (.int .i64 v)/\Gr W w') :
 Calls prog 179 #[.func (.func F) #[] caps] w λ e w'=>e=.returned (.tuple #[.int .i64 v,.int .i64 0])/\Gr w w':=by
 have hmf:=mkF;have HQ:=hid hq;clear hq
 go_enter_defers func179,ntmps179
 go_wp2_with fail;refine (HQ.out _ ((zr w).al _)).mono ?_;rintro e w1 ⟨rfl,g1⟩;have B0:=(Blk.new w #[.int .i64 0] 27).gr g1;obtain⟨q0,z0⟩:=B0.at_ (k:=0) rfl;obtain⟨q1,z1⟩:=(B0.set 0 (.int .i64 0)).at_ (k:=0) (v:=.int .i64 0) rfl;have G:=hid ((((zr w).al (.cells #[.int .i64 0] 27)).trans g1).st (p:=⟨w.heap.size,0,none⟩) (Nat.le_refl _) (.int .i64 0));clear B0 g1;go_wp2_with fail;refine leaves_cons (f:=206) (args:=#[.pointer (some ⟨w.heap.size,0,none⟩)]) (by simp) (by simp [go_sem]) ?_;refine (catchI_idle ⟨w.heap.size,0,none⟩ _).mono ?_;rintro e u' w'' ⟨rfl,rfl,rfl⟩;simp [Leaves,settle,results,results179,go_sem,q1];exact G.out
theorem toldI_no (eg:∀ args w,(callFunc F args).run prog w=.ok (.enter F args) w) (y:Int) (hq:∀ W,Gr w W->Calls prog F caps W λ e w'=>e=.panicked (pan y)/\Gr W w') :
 Calls prog 179 #[.func (.func F) #[] caps] w λ e w'=>e=.returned (.tuple #[.int .i64 0,.int .i64 y])/\Gr w w':=by
 have hmf:=mkF;have HQ:=hid hq;clear hq
 go_enter_defers func179,ntmps179
 go_wp2_with fail;refine (HQ.out _ ((zr w).al _)).mono ?_;rintro e w1 ⟨rfl,g1⟩;have B0:=(Blk.new w #[.int .i64 0] 27).gr g1;obtain⟨q0,z0⟩:=B0.at_ (k:=0) rfl;obtain⟨q1,z1⟩:=(B0.set 0 (.int .i64 y)).at_ (k:=0) (v:=.int .i64 y) rfl;have G:=hid ((((zr w).al (.cells #[.int .i64 0] 27)).trans g1).st (p:=⟨w.heap.size,0,none⟩) (Nat.le_refl _) (.int .i64 y));clear B0 g1;go_wp2_with fail;refine leaves_cons (f:=206) (args:=#[.pointer (some ⟨w.heap.size,0,none⟩)]) (by simp) (by simp [go_sem]) ?_;refine (catchI_up ⟨w.heap.size,0,none⟩ y 0 _ q0 z0).mono ?_;rintro e u' w'' ⟨rfl,rfl,rfl⟩;simp [Leaves,settle,results,results179,go_sem,q1];exact G.out
theorem toldF_ok (eg:∀ args w,(callFunc F args).run prog w=.ok (.enter F args) w) (a b c:Bool) (n:Int) (hq:∀ W,Gr w W->Calls prog F caps W λ e w'=>e=.returned (.agg #[.bool a,.bool b,.bool c,.int .i64 n])/\Gr W w') :
 Calls prog 128 #[.func (.func F) #[] caps] w λ e w'=>e=.returned (.tuple #[.agg #[.bool a,.bool b,.bool c,.int .i64 n],.int .i64 0])/\Gr w w':=by
 have hmf:=mkF;have HQ:=hid hq;clear hq
 go_enter_defers func128,ntmps128
 go_wp2_with fail;refine (HQ.out _ (((zr w).al _).al _)).mono ?_;rintro e w1 ⟨rfl,g1⟩;have B0:=((Blk.new w #[.bool false,.bool false,.bool false,.int .i64 0] 42).al (.cells #[.int .i64 0] 27)).gr g1;have B1:=(Blk.new (w.alloc (.cells #[.bool false,.bool false,.bool false,.int .i64 0] 42)) #[.int .i64 0] 27).gr g1;rw [zsA] at B1;have G0:=(((zr w).al (.cells #[.bool false,.bool false,.bool false,.int .i64 0] 42)).al (.cells #[.int .i64 0] 27)).trans g1;have hne:w.heap.size+1≠w.heap.size:=by omega
 obtain⟨a0,y0⟩:=B0.at_ (k:=0) rfl;obtain⟨a1,y1⟩:=B0.at_ (k:=1) rfl;obtain⟨a2,y2⟩:=B0.at_ (k:=2) rfl;obtain⟨a3,y3⟩:=B0.at_ (k:=3) rfl;obtain⟨q0,z0⟩:=B1.at_ (k:=0) rfl;have BF:=((((B0.set 0 (.bool a)).set 1 (.bool b)).set 2 (.bool c)).set 3 (.int .i64 n)).st (p:=⟨w.heap.size+1,0,none⟩) hne (.int .i64 0);have BG:=((((B1.st (p:=⟨w.heap.size,0,none⟩) hne.symm (.bool a)).st (p:=⟨w.heap.size,1,none⟩) hne.symm (.bool b)).st (p:=⟨w.heap.size,2,none⟩) hne.symm (.bool c)).st (p:=⟨w.heap.size,3,none⟩) hne.symm (.int .i64 n)).set 0 (.int .i64 0);obtain⟨c0,x0⟩:=BF.at_ (k:=0) (v:=.bool a) rfl;obtain⟨c1,x1⟩:=BF.at_ (k:=1) (v:=.bool b) rfl;obtain⟨c2,x2⟩:=BF.at_ (k:=2) (v:=.bool c) rfl;obtain⟨c3,x3⟩:=BF.at_ (k:=3) (v:=.int .i64 n) rfl;obtain⟨q1,z1⟩:=BG.at_ (k:=0) (v:=.int .i64 0) rfl;have G:=hid (((((G0.st (p:=⟨w.heap.size,0,none⟩) (Nat.le_refl _) (.bool a)).st (p:=⟨w.heap.size,1,none⟩) (Nat.le_refl _) (.bool b)).st (p:=⟨w.heap.size,2,none⟩) (Nat.le_refl _) (.bool c)).st (p:=⟨w.heap.size,3,none⟩) (Nat.le_refl _) (.int .i64 n)).st (p:=⟨w.heap.size+1,0,none⟩) (Nat.le_succ _) (.int .i64 0));clear B0 B1 BF BG g1 G0;go_wp2_with fail;refine leaves_cons (f:=170) (args:=#[.pointer (some ⟨w.heap.size+1,0,none⟩)]) (by simp) (by simp [go_sem]) ?_;refine (catchF_idle ⟨w.heap.size+1,0,none⟩ _).mono ?_;rintro e u' w'' ⟨rfl,rfl,rfl⟩;simp [Leaves,settle,results,results128,go_sem,q1,c0,c1,c2,c3];exact G.out
theorem toldF_no (eg:∀ args w,(callFunc F args).run prog w=.ok (.enter F args) w) (y:Int) (hq:∀ W,Gr w W->Calls prog F caps W λ e w'=>e=.panicked (pan y)/\Gr W w') :
 Calls prog 128 #[.func (.func F) #[] caps] w λ e w'=>e=.returned (.tuple #[.agg #[.bool false,.bool false,.bool false,.int .i64 0],.int .i64 y])/\Gr w w':=by
 have hmf:=mkF;have HQ:=hid hq;clear hq
 go_enter_defers func128,ntmps128
 go_wp2_with fail;refine (HQ.out _ (((zr w).al _).al _)).mono ?_;rintro e w1 ⟨rfl,g1⟩;have B0:=((Blk.new w #[.bool false,.bool false,.bool false,.int .i64 0] 42).al (.cells #[.int .i64 0] 27)).gr g1;have B1:=(Blk.new (w.alloc (.cells #[.bool false,.bool false,.bool false,.int .i64 0] 42)) #[.int .i64 0] 27).gr g1;rw [zsA] at B1;have G0:=(((zr w).al (.cells #[.bool false,.bool false,.bool false,.int .i64 0] 42)).al (.cells #[.int .i64 0] 27)).trans g1;have hne:w.heap.size+1≠w.heap.size:=by omega
 obtain⟨q0,z0⟩:=B1.at_ (k:=0) rfl;have BF:=B0.st (p:=⟨w.heap.size+1,0,none⟩) hne (.int .i64 y);obtain⟨c0,x0⟩:=BF.at_ (k:=0) (v:=.bool false) rfl;obtain⟨c1,x1⟩:=BF.at_ (k:=1) (v:=.bool false) rfl;obtain⟨c2,x2⟩:=BF.at_ (k:=2) (v:=.bool false) rfl;obtain⟨c3,x3⟩:=BF.at_ (k:=3) (v:=.int .i64 0) rfl;obtain⟨q1,z1⟩:=(B1.set 0 (.int .i64 y)).at_ (k:=0) (v:=.int .i64 y) rfl;have G:=hid (G0.st (p:=⟨w.heap.size+1,0,none⟩) (Nat.le_succ _) (.int .i64 y));clear B0 B1 BF g1 G0;go_wp2_with fail;refine leaves_cons (f:=170) (args:=#[.pointer (some ⟨w.heap.size+1,0,none⟩)]) (by simp) (by simp [go_sem]) ?_;refine (catchF_up ⟨w.heap.size+1,0,none⟩ y 0 _ q0 z0).mono ?_;rintro e u' w'' ⟨rfl,rfl,rfl⟩;simp [Leaves,settle,results,results128,go_sem,q1,c0,c1,c2,c3];exact G.out
theorem toldO_ok (eg:∀ args w,(callFunc F args).run prog w=.ok (.enter F args) w) (s:Int) (t k:Bool) (r o:Int) (hq:∀ W,Gr w W->Calls prog F caps W λ e w'=>e=.returned (.agg #[.int .i64 s,.bool t,.bool k,.int .i64 r,.int .i64 o])/\Gr W w') :
 Calls prog 183 #[.func (.func F) #[] caps] w λ e w'=>e=.returned (.tuple #[.agg #[.int .i64 s,.bool t,.bool k,.int .i64 r,.int .i64 o],.int .i64 0])/\Gr w w':=by
 have hmf:=mkF;have HQ:=hid hq;clear hq
 go_enter_defers func183,ntmps183
 go_wp2_with fail;refine (HQ.out _ (((zr w).al _).al _)).mono ?_;rintro e w1 ⟨rfl,g1⟩;have B0:=((Blk.new w #[.int .i64 0,.bool false,.bool false,.int .i64 0,.int .i64 0] 53).al (.cells #[.int .i64 0] 27)).gr g1;have B1:=(Blk.new (w.alloc (.cells #[.int .i64 0,.bool false,.bool false,.int .i64 0,.int .i64 0] 53)) #[.int .i64 0] 27).gr g1;rw [zsA] at B1;have G0:=(((zr w).al (.cells #[.int .i64 0,.bool false,.bool false,.int .i64 0,.int .i64 0] 53)).al (.cells #[.int .i64 0] 27)).trans g1;have hne:w.heap.size+1≠w.heap.size:=by omega
 obtain⟨a0,y0⟩:=B0.at_ (k:=0) rfl;obtain⟨a1,y1⟩:=B0.at_ (k:=1) rfl;obtain⟨a2,y2⟩:=B0.at_ (k:=2) rfl;obtain⟨a3,y3⟩:=B0.at_ (k:=3) rfl;obtain⟨a4,y4⟩:=B0.at_ (k:=4) rfl;obtain⟨q0,z0⟩:=B1.at_ (k:=0) rfl;have BF:=(((((B0.set 0 (.int .i64 s)).set 1 (.bool t)).set 2 (.bool k)).set 3 (.int .i64 r)).set 4 (.int .i64 o)).st (p:=⟨w.heap.size+1,0,none⟩) hne (.int .i64 0);have BG:=(((((B1.st (p:=⟨w.heap.size,0,none⟩) hne.symm (.int .i64 s)).st (p:=⟨w.heap.size,1,none⟩) hne.symm (.bool t)).st (p:=⟨w.heap.size,2,none⟩) hne.symm (.bool k)).st (p:=⟨w.heap.size,3,none⟩) hne.symm (.int .i64 r)).st (p:=⟨w.heap.size,4,none⟩) hne.symm (.int .i64 o)).set 0 (.int .i64 0);obtain⟨c0,x0⟩:=BF.at_ (k:=0) (v:=.int .i64 s) rfl;obtain⟨c1,x1⟩:=BF.at_ (k:=1) (v:=.bool t) rfl;obtain⟨c2,x2⟩:=BF.at_ (k:=2) (v:=.bool k) rfl;obtain⟨c3,x3⟩:=BF.at_ (k:=3) (v:=.int .i64 r) rfl;obtain⟨c4,x4⟩:=BF.at_ (k:=4) (v:=.int .i64 o) rfl;obtain⟨q1,z1⟩:=BG.at_ (k:=0) (v:=.int .i64 0) rfl;have G:=hid ((((((G0.st (p:=⟨w.heap.size,0,none⟩) (Nat.le_refl _) (.int .i64 s)).st (p:=⟨w.heap.size,1,none⟩) (Nat.le_refl _) (.bool t)).st (p:=⟨w.heap.size,2,none⟩) (Nat.le_refl _) (.bool k)).st (p:=⟨w.heap.size,3,none⟩) (Nat.le_refl _) (.int .i64 r)).st (p:=⟨w.heap.size,4,none⟩) (Nat.le_refl _) (.int .i64 o)).st (p:=⟨w.heap.size+1,0,none⟩) (Nat.le_succ _) (.int .i64 0));clear B0 B1 BF BG g1 G0;go_wp2_with fail;refine leaves_cons (f:=208) (args:=#[.pointer (some ⟨w.heap.size+1,0,none⟩)]) (by simp) (by simp [go_sem]) ?_;refine (catchO_idle ⟨w.heap.size+1,0,none⟩ _).mono ?_;rintro e u' w'' ⟨rfl,rfl,rfl⟩;simp [Leaves,settle,results,results183,go_sem,q1,c0,c1,c2,c3,c4];exact G.out
end
end P14
end
section
theorem bodyPost_pan {P:Program} {fn:Func} {R:Ending->World->Prop} {a:Act} {w:World} {c:List PanicEntry} (hd:a.defers=[]) (hR:R (.panicked c) w):bodyPost P fn R (.panic c) a w:=⟨hd,hR⟩
namespace P16
open P14 (pan)
theorem need_yes (y:Int) (w:World):Calls prog 121 #[.bool true,.int .i64 y] w λ e w'=>e=.returned (.tuple #[])/\w'=w:=by
 go_enter func121,ntmps121;go_wp2
 go_end0
 exact⟨rfl,rfl⟩
theorem need_no (y:Int) (w:World):Calls prog 121 #[.bool false,.int .i64 y] w λ e w'=>e=.panicked (pan y)/\w'=w:=by
 go_enter func121,ntmps121;go_wp2;exact⟨rfl,rfl,rfl⟩
theorem sureB_yes (v:Bool) (w:World):Calls prog 137 #[.bool v,.int .i64 0] w λ e w'=>e=.returned (.bool v)/\w'=w:=by
 go_enter func137,ntmps137;go_wp2_with fail;refine (need_yes _ _).mono ?_;rintro e w1 ⟨rfl,rfl⟩;go_wp2_with fail;go_ret;exact⟨rfl,rfl⟩
theorem sureB_no (v:Bool) {y:Int} (hy:(y==0)=false) (w:World):Calls prog 137 #[.bool v,.int .i64 y] w λ e w'=>e=.panicked (pan 12)/\w'=w:=by
 go_enter func137,ntmps137;go_wp2_with fail;refine (need_no _ _).mono ?_;rintro e w1 ⟨rfl,rfl⟩;go_wp2_with fail;exact⟨rfl,rfl,rfl⟩
theorem sureI_yes (v:Int) (w:World):Calls prog 141 #[.int .i64 v,.int .i64 0] w λ e w'=>e=.returned (.int .i64 v)/\w'=w:=by
 go_enter func141,ntmps141;go_wp2_with fail;refine (need_yes _ _).mono ?_;rintro e w1 ⟨rfl,rfl⟩;go_wp2_with fail;go_ret;exact⟨rfl,rfl⟩
theorem sureI_no (v:Int) {y:Int} (hy:(y==0)=false) (w:World):Calls prog 141 #[.int .i64 v,.int .i64 y] w λ e w'=>e=.panicked (pan 12)/\w'=w:=by
 go_enter func141,ntmps141;go_wp2_with fail;refine (need_no _ _).mono ?_;rintro e w1 ⟨rfl,rfl⟩;go_wp2_with fail;exact⟨rfl,rfl,rfl⟩
theorem sureG_yes (A:Option Addr) (n c:Nat) (w:World):Calls prog 84 #[.slice A n c,.int .i64 0] w λ e w'=>e=.returned (.slice A n c)/\w'=w:=by
 go_enter func84,ntmps84;go_wp2_with fail;refine (need_yes _ _).mono ?_;rintro e w1 ⟨rfl,rfl⟩;go_wp2_with fail;go_ret;exact⟨rfl,rfl⟩
theorem sureG_no (A:Option Addr) (n c:Nat) {y:Int} (hy:(y==0)=false) (w:World):Calls prog 84 #[.slice A n c,.int .i64 y] w λ e w'=>e=.panicked (pan 12)/\w'=w:=by
 go_enter func84,ntmps84;go_wp2_with fail;refine (need_no _ _).mono ?_;rintro e w1 ⟨rfl,rfl⟩;go_wp2_with fail;exact⟨rfl,rfl,rfl⟩
theorem sureN_yes (A:Option Addr) (n c:Nat) (w:World):Calls prog 136 #[.slice A n c,.int .i64 0] w λ e w'=>e=.returned (.slice A n c)/\w'=w:=by
 go_enter func136,ntmps136;go_wp2_with fail;refine (need_yes _ _).mono ?_;rintro e w1 ⟨rfl,rfl⟩;go_wp2_with fail;go_ret;exact⟨rfl,rfl⟩
theorem sureF_yes (a b c:Bool) (n:Int) (w:World):Calls prog 156 #[.agg #[.bool a,.bool b,.bool c,.int .i64 n],.int .i64 0] w λ e w'=>e=.returned (.agg #[.bool a,.bool b,.bool c,.int .i64 n])/\Gr w w':=by
 go_enter func156,ntmps156;go_wp2_with fail;refine (need_yes _ _).mono ?_;rintro e w1 ⟨rfl,rfl⟩;go_wp2_with fail;exact bodyPost_ret (v:=.agg #[.bool a,.bool b,.bool c,.int .i64 n]) (by simp [results,results156,go_sem]) rfl ⟨rfl,((zr w).al _).al _⟩
theorem sureT_yes (a b:Int) (w:World):Calls prog 192 #[.agg #[.int .i64 a,.int .i64 b],.int .i64 0] w λ e w'=>e=.returned (.agg #[.int .i64 a,.int .i64 b])/\Gr w w':=by
 go_enter func192,ntmps192;go_wp2_with fail;refine (need_yes _ _).mono ?_;rintro e w1 ⟨rfl,rfl⟩;go_wp2_with fail;exact bodyPost_ret (v:=.agg #[.int .i64 a,.int .i64 b]) (by simp [results,results192,go_sem]) rfl ⟨rfl,((zr w).al _).al _⟩
theorem sureT_no (a b:Int) {y:Int} (hy:(y==0)=false) (w:World):Calls prog 192 #[.agg #[.int .i64 a,.int .i64 b],.int .i64 y] w λ e w'=>e=.panicked (pan 12)/\Gr w w':=by
 go_enter func192,ntmps192;go_wp2_with fail;refine (need_no _ _).mono ?_;rintro e w1 ⟨rfl,rfl⟩;go_wp2_with fail;exact⟨rfl,rfl,((zr w).al _).al _⟩
theorem bothSB_yes (A:Option Addr) (n c:Nat) (v:Bool) (w:World):Calls prog 149 #[.slice A n c,.bool v,.int .i64 0] w λ e w'=>e=.returned (.tuple #[.slice A n c,.bool v])/\w'=w:=by
 go_enter func149,ntmps149;go_wp2_with fail;refine (sureB_yes _ _).mono ?_;rintro e w1 ⟨rfl,rfl⟩;go_wp2_with fail;go_ret2;exact⟨rfl,rfl⟩
theorem bothSB_no (A:Option Addr) (n c:Nat) (v:Bool) {y:Int} (hy:(y==0)=false) (w:World):Calls prog 149 #[.slice A n c,.bool v,.int .i64 y] w λ e w'=>e=.panicked (pan 12)/\w'=w:=by
 go_enter func149,ntmps149;go_wp2_with fail;refine (sureB_no _ hy _).mono ?_;rintro e w1 ⟨rfl,rfl⟩;go_wp2_with fail;exact⟨rfl,rfl,rfl⟩
theorem bothBI_yes (u:Bool) (v:Int) (w:World):Calls prog 158 #[.bool u,.int .i64 v,.int .i64 0] w λ e w'=>e=.returned (.tuple #[.bool u,.int .i64 v])/\w'=w:=by
 go_enter func158,ntmps158;go_wp2_with fail;refine (sureI_yes _ _).mono ?_;rintro e w1 ⟨rfl,rfl⟩;go_wp2_with fail;go_ret2;exact⟨rfl,rfl⟩
theorem bothSI_yes (A:Option Addr) (n c:Nat) (v:Int) (w:World):Calls prog 160 #[.slice A n c,.int .i64 v,.int .i64 0] w λ e w'=>e=.returned (.tuple #[.slice A n c,.int .i64 v])/\w'=w:=by
 go_enter func160,ntmps160;go_wp2_with fail;refine (sureI_yes _ _).mono ?_;rintro e w1 ⟨rfl,rfl⟩;go_wp2_with fail;go_ret2;exact⟨rfl,rfl⟩
theorem bothSI_no (A:Option Addr) (n c:Nat) (v:Int) {y:Int} (hy:(y==0)=false) (w:World):Calls prog 160 #[.slice A n c,.int .i64 v,.int .i64 y] w λ e w'=>e=.panicked (pan 12)/\w'=w:=by
 go_enter func160,ntmps160;go_wp2_with fail;refine (sureI_no _ hy _).mono ?_;rintro e w1 ⟨rfl,rfl⟩;go_wp2_with fail;exact⟨rfl,rfl,rfl⟩
theorem bothOB_yes (s:Int) (t k:Bool) (r o:Int) (v:Bool) (w:World):Calls prog 144 #[.agg #[.int .i64 s,.bool t,.bool k,.int .i64 r,.int .i64 o],.bool v,.int .i64 0] w λ e w'=>e=.returned (.tuple #[.agg #[.int .i64 s,.bool t,.bool k,.int .i64 r,.int .i64 o],.bool v])/\Gr w w':=by
 have cs:=λ W=>hid (sureB_yes v W)
 have B0:=((Blk.new w #[.int .i64 s,.bool t,.bool k,.int .i64 r,.int .i64 o] 53).al (.cells #[.int .i64 0,.bool false,.bool false,.int .i64 0,.int .i64 0] 53)).gr ((zr _).dr);obtain⟨a0,y0⟩:=B0.at_ (k:=0) (v:=.int .i64 s) rfl;obtain⟨a1,y1⟩:=B0.at_ (k:=1) (v:=.bool t) rfl;obtain⟨a2,y2⟩:=B0.at_ (k:=2) (v:=.bool k) rfl;obtain⟨a3,y3⟩:=B0.at_ (k:=3) (v:=.int .i64 r) rfl;obtain⟨a4,y4⟩:=B0.at_ (k:=4) (v:=.int .i64 o) rfl;have B1:=((Blk.new w #[.int .i64 s,.bool t,.bool k,.int .i64 r,.int .i64 o] 53).al (.cells #[.int .i64 s,.bool t,.bool k,.int .i64 r,.int .i64 o] 53)).gr ((zr _).dr);obtain⟨c0,z0⟩:=B1.at_ (k:=0) (v:=.int .i64 s) rfl;obtain⟨c1,z1⟩:=B1.at_ (k:=1) (v:=.bool t) rfl;obtain⟨c2,z2⟩:=B1.at_ (k:=2) (v:=.bool k) rfl;obtain⟨c3,z3⟩:=B1.at_ (k:=3) (v:=.int .i64 r) rfl;obtain⟨c4,z4⟩:=B1.at_ (k:=4) (v:=.int .i64 o) rfl;go_enter func144,ntmps144;go_wp2_with fail
 go_region_held2 (λ w'=>w'.cell? ⟨w.heap.size,0,none⟩=some (.int .i64 s)/\w'.cell? ⟨w.heap.size,1,none⟩=some (.bool t)/\w'.cell? ⟨w.heap.size,2,none⟩=some (.bool k)/\w'.cell? ⟨w.heap.size,3,none⟩=some (.int .i64 r)/\w'.cell? ⟨w.heap.size,4,none⟩=some (.int .i64 o)) (first | exact⟨a0,a1,a2,a3,a4⟩ | exact⟨c0,c1,c2,c3,c4⟩) (first | (go_at_call 137;(refine (cs _).out.mono ?_);rintro ee w2 ⟨rfl,rfl⟩))
 all_goals go_wp2_with fail
 all_goals exact bodyPost_ret (v:=.tuple #[.agg #[.int .i64 s,.bool t,.bool k,.int .i64 r,.int .i64 o],.bool v]) (by simp [results,results144,go_sem]) rfl ⟨rfl,(((zr w).al _).al _).dr⟩
theorem bothTI_yes (a b:Int) (v:Int) (w:World):Calls prog 146 #[.agg #[.int .i64 a,.int .i64 b],.int .i64 v,.int .i64 0] w λ e w'=>e=.returned (.tuple #[.agg #[.int .i64 a,.int .i64 b],.int .i64 v])/\Gr w w':=by
 have cs:=λ W=>hid (sureI_yes v W)
 have B0:=((Blk.new w #[.int .i64 a,.int .i64 b] 46).al (.cells #[.int .i64 0,.int .i64 0] 46)).gr ((zr _).dr);obtain⟨a0,y0⟩:=B0.at_ (k:=0) (v:=.int .i64 a) rfl;obtain⟨a1,y1⟩:=B0.at_ (k:=1) (v:=.int .i64 b) rfl;have B1:=((Blk.new w #[.int .i64 a,.int .i64 b] 46).al (.cells #[.int .i64 a,.int .i64 b] 46)).gr ((zr _).dr);obtain⟨c0,z0⟩:=B1.at_ (k:=0) (v:=.int .i64 a) rfl;obtain⟨c1,z1⟩:=B1.at_ (k:=1) (v:=.int .i64 b) rfl;go_enter func146,ntmps146;go_wp2_with fail
 go_region_held2 (λ w'=>w'.cell? ⟨w.heap.size,0,none⟩=some (.int .i64 a)/\w'.cell? ⟨w.heap.size,1,none⟩=some (.int .i64 b)) (first | exact⟨a0,a1⟩ | exact⟨c0,c1⟩) (first | (go_at_call 141;(refine (cs _).out.mono ?_);rintro ee w2 ⟨rfl,rfl⟩))
 all_goals go_wp2_with fail
 all_goals exact bodyPost_ret (v:=.tuple #[.agg #[.int .i64 a,.int .i64 b],.int .i64 v]) (by simp [results,results146,go_sem]) rfl ⟨rfl,(((zr w).al _).al _).dr⟩
theorem bothTI_no (a b:Int) (v:Int) {y:Int} (hy:(y==0)=false) (w:World):Calls prog 146 #[.agg #[.int .i64 a,.int .i64 b],.int .i64 v,.int .i64 y] w λ e w'=>e=.panicked (pan 12)/\Gr w w':=by
 have cs:=λ W=>hid (sureI_no v hy W)
 have B0:=((Blk.new w #[.int .i64 a,.int .i64 b] 46).al (.cells #[.int .i64 0,.int .i64 0] 46)).gr ((zr _).dr);obtain⟨a0,y0⟩:=B0.at_ (k:=0) (v:=.int .i64 a) rfl;obtain⟨a1,y1⟩:=B0.at_ (k:=1) (v:=.int .i64 b) rfl;have B1:=((Blk.new w #[.int .i64 a,.int .i64 b] 46).al (.cells #[.int .i64 a,.int .i64 b] 46)).gr ((zr _).dr);obtain⟨c0,z0⟩:=B1.at_ (k:=0) (v:=.int .i64 a) rfl;obtain⟨c1,z1⟩:=B1.at_ (k:=1) (v:=.int .i64 b) rfl;go_enter func146,ntmps146;go_wp2_with fail;refine wp_region_held_drew (S:=(λ w'=>(w'.cell? ⟨w.heap.size,0,none⟩=some (.int .i64 a)/\w'.cell? ⟨w.heap.size,1,none⟩=some (.int .i64 b))/\Gr w w')) (by kernel_rfl) ⟨⟨a0,a1⟩,(((zr w).al _).al _).dr⟩ (λ hS=>?_);refine wG 0 hS ?_;refine wG 1 hS ?_;refine wG 2 hS ?_;refine wR1 3 (λ K hK=>?_);go_simp;go_at_call 141;refine (cs _).out.mono ?_;rintro ee w2 ⟨rfl,rfl⟩;exact bodyPost_pan rfl ⟨rfl,hS.2⟩
end P16
end
section
namespace P16
open P14 (pan)
structure Ko (b:Nat) (W W':World):Prop where
 os:W'.os=W.os
 tape:W'.tape=W.tape
 output:W'.output=W.output
 size:W.heap.size<=W'.heap.size
 block:∀ k,k<W.heap.size->k≠b->W'.heap[k]?=W.heap[k]?
section
variable {b:Nat} {W W' W'':World}
theorem Ko.refl:Ko b W W:=⟨rfl,rfl,rfl,Nat.le_refl _,λ _ _ _=>rfl⟩
theorem Ko.trans (h:Ko b W W') (g:Ko b W' W''):Ko b W W'' :=
 ⟨g.os.trans h.os,g.tape.trans h.tape,g.output.trans h.output,Nat.le_trans h.size g.size,λ k hk h1=>(g.block k (zlt hk h.size) h1).trans (h.block k hk h1)⟩
theorem Ko.gr (g:Gr W W'):Ko b W W':=⟨g.os,g.tape,g.output,g.size,λ k hk _=>g.block k hk⟩
theorem Ko.st {p:Addr} (hp:p.block=b) (v:Value):Ko b W (W.setCell p v) :=
 ⟨rfl,rfl,rfl,by simp [World.setCell],λ k hk h1=>Below.heap_setCell W p v k (by rw [hp];exact h1)⟩
theorem Ko.cell (h:Ko b W W') {p:Addr} (hp:p.block<W.heap.size) (hn:p.block≠b):W'.cell? p=W.cell? p:=World.cell?_of_block (h.block _ hp hn)
theorem Ko.gmem {A:Option Addr} {n:Nat} {l:List P11.G} (h:Ko b W W') (hm:P11.GMem W A n l) (hA:∀ k,A.map (·.block)=some k->k≠b):P11.GMem W' A n l :=
 ⟨hm.1,hm.2.1,λ hn=>by
   obtain⟨g,off,rfl,hg,hc⟩:=hm.2.2 hn;exact⟨g,off,rfl,zlt hg h.size,λ j u hu=>(h.cell (p:=⟨g,off+j,none⟩) hg (hA g rfl)).trans (hc j u hu)⟩⟩
end
theorem set_same {α:Type} {l:List α} {k:Nat} {y:α} (h:l[k]?=some y):l.set k y=l:=by
 apply List.ext_getElem?;intro i;rw [List.getElem?_set];by_cases e:k=i
 . subst e
   rw [if_pos rfl,if_pos (zgl h),h]
 . rw [if_neg e]
def withG (c:Cl) (g:P11.G):Cl:={ c with gst:=g.1,permit:=g.2 }
theorem withG_self (c:Cl):withG c (gor c)=c:=rfl
section
variable {W:World} {b bc oc n cc F:Nat} {cl:List Cl} {who q:Int} {R:List P11.G} {j:Nat} {c:Cl} {g:P11.G}
def ChgG (F:Nat) (cl:List Cl) (who q:Int) (N:Nat) (R:List P11.G):Prop :=
 ∀ (W:World) (A:Option Addr) (m d:Nat),P11.GMem W A m (cl.map gor)->m=cl.length->Calls prog F #[.slice A m d,.int .i64 who] W (P11.GotN W N q R)
theorem changeGor_no (eg:∀ args w,(callFunc F args).run prog w=.ok (.enter F args) w) {p:Nat} (c2:W.cell? ⟨b,p+2,none⟩=some (.slice (some ⟨bc,oc,none⟩) n cc)) (hO:ORow clV 13 W bc oc cl) (hl:cl.length=n) (hn:n<=1000) (hcb:∀ c∈cl,CB c)
 {N:Nat} (hF:ChgG F cl who q N R) (hq:(q==0)=false) :
 Calls prog 64 #[.pointer (some ⟨b,p,none⟩),.int .i64 who,.func (.func F) #[] #[]] W λ e W'=>e=.panicked (pan 12)/\Gr W W':=by
 have hm:CMem W (some ⟨bc,oc,none⟩) n cl:=⟨hl,hcb,λ _=>⟨bc,oc,rfl,hO.lt,λ i y hy j v hv=>(hO.at_ hy hv).1⟩⟩;have cg:=hid (gors_is (c:=cc) hm hn);have HF:=hid hF;have HL:=hid hl;clear hF hO hl hcb hm;go_enter func64,ntmps64;go_wp2_with fail;refine cg.out.mono ?_;rintro e w1 ⟨rfl,m1,g1⟩;have HG1:=hid g1;have H2:=hid (HF.out w1 _ n n m1 HL.out.symm);clear m1 g1;go_wp2_with fail;refine H2.out.mono ?_;rintro e w2 ⟨B,m,rfl,m2,_,_,g2⟩;have HG2:=hid g2;clear m2 g2;go_wp2_with fail;refine (sureG_no _ _ _ hq _).mono ?_;rintro e w3 ⟨rfl,rfl⟩;go_wp2_with fail;exact bodyPost_pan rfl ⟨rfl,HG1.out.trans HG2.out⟩
def redone (cl:List Cl) (j k:Nat) (c:Cl) (g:P11.G):List Cl:=if k<=j then cl else cl.set j (withG c g)
theorem redone_at {k:Nat} {y:Cl} (hy:cl[k]?=some y):(redone cl j k c g)[k]?=some y:=by
 unfold redone;by_cases h:k<=j
 . rw [if_pos h];exact hy
 . rw [if_neg h,zsn (by omega)];exact hy
theorem redone_next {k:Nat} {y:Cl} {z:P11.G} (hc:cl[j]?=some c) (hy:cl[k]?=some y) (hz:((cl.map gor).set j g)[k]?=some z):(redone cl j k c g).set k (withG y z)=redone cl j (k+1) c g:=by
 have hk:=(zgl hy);unfold redone;by_cases h:k=j
 . subst h
   rw [hc] at hy;cases hy;rw [zss (by simpa using hk)] at hz;cases hz;rw [if_pos (Nat.le_refl _),if_neg (by omega)]
 . rw [zsn (by omega),List.getElem?_map,hy] at hz
   cases hz;rw [withG_self];by_cases h2:k<=j
   . rw [if_pos h2,if_pos (by omega)]
     exact set_same hy
   . rw [if_neg h2,if_neg (by omega)]
     exact set_same (by rw [zsn (by omega)];exact hy)
theorem changeGor_yes (eg:∀ args w,(callFunc F args).run prog w=.ok (.enter F args) w) {p:Nat} (c2:W.cell? ⟨b,p+2,none⟩=some (.slice (some ⟨bc,oc,none⟩) n cc)) (hb:b≠bc) (hO:ORow clV 13 W bc oc cl) (hl:cl.length=n) (hn:n<=1000) (hcb:∀ c∈cl,CB c)
 (hc:cl[j]?=some c) (hF:ChgG F cl who 0 n ((cl.map gor).set j g)) :
 Calls prog 64 #[.pointer (some ⟨b,p,none⟩),.int .i64 who,.func (.func F) #[] #[]] W λ e W'=>e=.returned (.tuple #[])/\ORow clV 13 W' bc oc (cl.set j (withG c g))/\Ko bc W W':=by
 have hm:CMem W (some ⟨bc,oc,none⟩) n cl:=⟨hl,hcb,λ _=>⟨bc,oc,rfl,hO.lt,λ i y hy j v hv=>(hO.at_ hy hv).1⟩⟩;have hbl:=World.block_lt_of_cell? W _ c2;have hbc:=hO.lt;have cg:=hid (gors_is (c:=cc) hm hn);have HF:=hid hF;have HL:=hid hl;have HC:=hid hc;have HO:=hid hO;clear hF hO hl hcb hm hc;dsimp only at hbl;go_enter func64,ntmps64;go_wp2_with fail;refine cg.out.mono ?_;rintro e w1 ⟨rfl,m1,g1⟩;have HG1:=hid g1;have H2:=hid (HF.out w1 _ n n m1 HL.out.symm);clear m1 g1;go_wp2_with fail;refine H2.out.mono ?_;rintro e w2 ⟨B,m,rfl,m2,_,l2,g2⟩;have hs1:=HG1.out.size;have HG2:=hid (HG1.out.trans g2);have HM:=hid m2;have HLT:=hid (show ∀ k,B.map (·.block)=some k->k≠bc from λ k hk=>by have:=l2 k hk;omega);clear m2 g2 l2;go_wp2_with fail;refine (sureG_yes _ _ _ _).mono ?_;rintro e w3 ⟨rfl,rfl⟩;have H0:=hid (show ORow clV 13 w3 bc oc (redone cl j 0 c g) from by unfold redone;rw [if_pos (Nat.zero_le _)];exact HO.out.gr HG2.out);go_wp2_with fail
 go_loopw [20] (λ i wr=>∃ k:Nat,k<=n/\i=.int .i64 k/\Hid (ORow clV 13 wr bc oc (redone cl j k c g))/\Hid (Ko bc w3 wr)) (λ i _=>n-(intOf i).toNat)
 case atStart=>exact⟨0,Nat.zero_le _,rfl,H0,hid Ko.refl⟩
 case round =>
  obtain⟨k,hk,rfl,HR,HK⟩:=hrel;by_cases hlt:k<n
  . have hlb:=HR.out.lt
    have hb3:b<w3.heap.size:=zlt hbl HG2.out.size;have hbr:b<wr.heap.size:=zlt hb3 HK.out.size;have d2:wr.cell? ⟨b,p+2,none⟩=some (.slice (some ⟨bc,oc,none⟩) n cc):=((HK.out.cell (p:=⟨b,p+2,none⟩) hb3 hb).trans (HG2.out.cell (p:=⟨b,p+2,none⟩) hbl)).trans c2;have hkl:k<cl.length:=by rw [HL.out];exact hlt
    obtain⟨y,hy⟩:∃ y,cl[k]?=some y:=⟨_,zge hkl⟩;have hy':=redone_at (j:=j) (c:=c) (g:=g) hy;obtain⟨e0,f0⟩:=HR.out.at_ (j:=0) hy' rfl;obtain⟨e1,f1⟩:=HR.out.at_ (j:=1) hy' rfl;rw [Nat.add_zero] at e0 f0;obtain⟨bg,og,z,rfl,hg,hz,_,g0,g1⟩:=(HK.out.gmem HM.out HLT.out).at_ hlt;have k0:(0:Int)<=(k:Int):=by omega
    have k1:(k:Int)<(n:Int):=by omega
    have HY:=hid hy;have HY':=hid hy';have HZ:=hid hz;clear hy hy' hz;have ne1:bc≠wr.heap.size:=by omega
    go_wp2_with fail
    go_region
    all_goals go_wp2_with fail
    all_goals
     have h1:=HR.out.put clV_len HY'.out (j:=0) (v:=.int .i64 z.1) (y:={ y with gst:=z.1 }) (by decide) rfl;have h2:=h1.put clV_len (i:=k) (x:={ y with gst:=z.1 }) (by rw [zss (List.getElem?_eq_some_iff.1 HY'.out).1]) (j:=1) (v:=.bool z.2) (y:=withG y z) (by decide) rfl;rw [List.set_set,redone_next HC.out HY.out HZ.out,Nat.add_zero] at h2;exact⟨⟨k+1,by omega,by go_num,hid (h2.gr ((zr _).al _).dr),hid (((HK.out.trans (Ko.st (p:=⟨bc,oc+k*13,none⟩) rfl _)).trans (Ko.st (p:=⟨bc,oc+k*13+1,none⟩) rfl _)).trans (Ko.gr ((zr _).al _).dr))⟩,by simp [intOf];omega⟩
  . obtain rfl:k=n:=by omega
    have h1:=HR.out;have hj:j<k:=by rw [<- HL.out];exact (List.getElem?_eq_some_iff.1 HC.out).1
    unfold redone at h1;rw [if_neg (by omega)] at h1;clear HR;go_wp2_with fail
    go_end0
    exact⟨rfl,h1,(Ko.gr HG2.out).trans HK.out⟩
end
end P16
end
section
namespace P16
open P14 (pan)
theorem okw_pw {v:Int} (h:OkW v):∃ a b c n,v=P3.pw a b c n/\(0<=n/\n<268435456):=by
 obtain⟨a,b,c,n,h1,h2⟩:=P3.pw_of (v:=v) h;exact⟨a,b,c,n,h1,h2⟩
section
variable {x:Cx} {W:World} {T E:Sl} {cl:List Cl} {mx:List T3} {tb:List Sp} {ev:List T3} {c:Cl} {a:T3}
theorem mutex_is (h:TS x W T E cl mx tb ev) (h0:0<=x.n) (h4:x.n<4) :
 Calls prog 132 #[.pointer (some ⟨x.b,0,none⟩)] W λ e W'=>e=.returned (.pointer (some ⟨x.bm,x.om+x.n.toNat*3,none⟩))/\∃ q,W'=W.drewN q:=by
 obtain⟨-,-,-,c3,-,-,-,-,-,c9,-,-⟩:=h.cells;clear h;go_enter func132,ntmps132;go_wp2_with fail
 go_quiet (fail)
 go_wp2_with fail;go_ret;exact⟨rfl,_,rfl⟩
theorem address_is (h:TS x W T E cl mx tb ev) (h0:0<=x.n) (h4:x.n<4) :
 Calls prog 151 #[.pointer (some ⟨x.b,0,none⟩)] W λ e W'=>e=.returned (.int .i64 (8*x.n))/\W'=W:=by
 obtain⟨-,-,-,-,-,-,-,-,-,c9,-,-⟩:=h.cells;have e8:wrap64 (8*x.n)=8*x.n:=by unfold wrap64;omega
 clear h;go_enter func151,ntmps151;go_wp2_with fail;go_ret;exact⟨rfl,rfl⟩
theorem TS.putW (h:TS x W T E cl mx tb ev) {i:Nat} (ha:mx[i]?=some a) {v:Int} (hv:B64 v):TS x (W.setCell ⟨x.bm,x.om+i*3,none⟩ (.int .i64 v)) T E cl (mx.set i (v,a.2)) tb ev :=
 h.putM (a:=a) ha 0 _ (v,a.2) rfl (by decide) ⟨hv,(h.mb a (zmo ha)).2⟩
theorem OkW.b {v:Int} (h:OkW v):B64 v:=by unfold OkW at h;unfold B64;omega
theorem put_yes (h:TS x W T E cl mx tb ev) (h0:0<=x.n) (h4:x.n<4) (ha:mx[x.n.toNat]?=some a) {v:Int} (hv:OkW v) :
 Calls prog 133 #[.pointer (some ⟨x.b,0,none⟩),.int .i64 v] W λ e W'=>e=.returned (.tuple #[])/\TS x W' T E cl (mx.set x.n.toNat (v,a.2)) tb ev/\Kx x W W':=by
 have hb:=hv.b;obtain⟨p,q,r,n,rfl,hn⟩:=okw_pw hv;have cu:=λ W=>hid (P3.Unpack_ok p q r n hn W)
 generalize P3.pw p q r n=v at *;go_enter func133,ntmps133;go_wp2_with fail;refine (cu _).out.mono ?_;rintro e w1 ⟨rfl,g1⟩;go_wp2_with fail;refine (need_yes _ _).mono ?_;rintro e w2 ⟨rfl,rfl⟩;have h2:=h.gr (g1.al (.cells #[.bool p,.bool q,.bool r,.int .i64 n] 42));have k2:Kx x W _:=Kx.gr (g1.al (.cells #[.bool p,.bool q,.bool r,.int .i64 n] 42));go_wp2_with fail;refine (mutex_is h2 h0 h4).mono ?_;rintro e w3 ⟨rfl,d,rfl⟩;have h3:=h2.gr ((zr _).drN d);have k3:=k2.trans (Kx.gr ((zr _).drN d));obtain⟨m0,-,-,mz⟩:=h3.mx_ ha;have mz0:=mz 0 (by decide);rw [Nat.add_zero] at mz0;go_wp2_with fail
 go_end0
 exact⟨rfl,h3.putW ha hb,k3.trans (Kx.st (.inr (.inr rfl)) _)⟩
theorem put_no {v:Int} (hv:¬ OkW v) (p:Value) (W:World) :
 Calls prog 133 #[p,.int .i64 v] W λ e W'=>e=.panicked (pan 12)/\Gr W W':=by
 have cu:=λ W=>hid (P3.Unpack_no v hv W)
 go_enter func133,ntmps133;go_wp2_with fail;refine (cu _).out.mono ?_;rintro e w1 ⟨rfl,g1⟩;go_wp2_with fail;refine (need_no _ _).mono ?_;rintro e w2 ⟨rfl,rfl⟩;go_wp2_with fail;exact bodyPost_pan rfl ⟨rfl,g1.al _⟩
theorem swaps_no (h:TS x W T E cl mx tb ev) (h0:0<=x.n) (h4:x.n<4) (ha:mx[x.n.toNat]?=some a) (hc:cl[x.who.toNat]?=some c) (hne:(a.1==c.old)=false) (v:Int) :
 Calls prog 140 #[.pointer (some ⟨x.b,0,none⟩),.int .i64 v] W λ e W'=>e=.returned (.bool false)/\∃ q,W'=W.drewN q:=by
 have cm:=λ (n:Nat)=>hid (Calls.quiet_of (mutex_is (h.gr ((zr W).drN n)) h0 h4))
 obtain⟨-,-,-,-,-,-,-,c7,-,-,-,-⟩:=h.cells;obtain⟨-,-,-,-,-,-,-,-,-,-,-,-,s12,-⟩:=h.cl_ hc;obtain⟨m0,-,-,-⟩:=h.mx_ ha;clear h;go_enter func140,ntmps140;go_wp2_with fail
 go_quiet ((go_at_call 132;with_reducible exact (cm _).out))
 go_wp2_with fail;go_ret;exact⟨rfl,_,rfl⟩
theorem swaps_yes (h:TS x W T E cl mx tb ev) (h0:0<=x.n) (h4:x.n<4) (ha:mx[x.n.toNat]?=some a) (hc:cl[x.who.toNat]?=some c) (hne:(a.1==c.old)=true) {v:Int} (hv:OkW v) :
 Calls prog 140 #[.pointer (some ⟨x.b,0,none⟩),.int .i64 v] W λ e W'=>e=.returned (.bool true)/\TS x W' T E cl (mx.set x.n.toNat (v,a.2)) tb ev/\Kx x W W':=by
 have cm:=λ (n:Nat)=>hid (Calls.quiet_of (mutex_is (h.gr ((zr W).drN n)) h0 h4))
 have cp:=λ (n:Nat)=>hid (put_yes (h.gr ((zr W).drN n)) h0 h4 ha hv)
 obtain⟨-,-,-,-,-,-,-,c7,-,-,-,-⟩:=h.cells;obtain⟨-,-,-,-,-,-,-,-,-,-,-,-,s12,-⟩:=h.cl_ hc;obtain⟨m0,-,-,-⟩:=h.mx_ ha;clear h;go_enter func140,ntmps140;go_wp2_with fail
 go_quiet ((go_at_call 132;with_reducible exact (cm _).out))
 go_wp2_with fail;refine (cp _).out.mono ?_;rintro e w1 ⟨rfl,h1,k1⟩;go_wp2_with fail;go_ret;exact⟨rfl,h1,(Kx.gr ((zr W).drN _)).trans k1⟩
theorem remember_is (h:TS x W T E cl mx tb ev) (h0:0<=x.n) (h4:x.n<4) (ha:mx[x.n.toNat]?=some a) (hc:cl[x.who.toNat]?=some c) {v:Int} (hv:B64 v) :
 Calls prog 135 #[.pointer (some ⟨x.b,0,none⟩),.int .i64 v] W λ e W'=>e=.returned (.tuple #[])/\TS x W' T E (cl.set x.who.toNat { c with old:=a.1,pc:=v }) mx tb ev/\Kx x W W':=by
 have cm:=λ W' (g:Gr W W')=>hid (mutex_is (h.gr g) h0 h4)
 have K0:=hid h;obtain⟨-,-,-,-,-,-,-,c7,-,-,-,-⟩:=h.cells;obtain⟨-,-,-,s3,-,-,-,-,-,-,-,-,s12,sz⟩:=h.cl_ hc;obtain⟨m0,-,-,-⟩:=h.mx_ ha;have z12:=sz 12 (by decide);have z3:=sz 3 (by decide);have n1:=h.n1.symm;have n3:=h.n3;clear h sz;go_enter func135,ntmps135;go_wp2_with fail
 go_region_held2 (λ w'=>w'.cell? ⟨x.b,7,none⟩=some (.pointer (some ⟨x.bc,x.oc+x.who.toNat*13,none⟩))/\w'.cell? ⟨x.bm,x.om+x.n.toNat*3,none⟩=some (.int .i64 a.1)) (first | exact⟨c7,m0⟩ | go_keep) (first | (go_at_call 132;(refine (cm _ ((zr W).dr)).out.mono ?_);rintro ee w2 ⟨rfl,d,rfl⟩))
 go_wp2_with fail
 go_end0
 have B:=K0.out.cb c (zmo hc);have A:=K0.out.mb a (zmo ha);have h1:=(K0.out.gr ((zr W).drN (1+d))).putC hc 12 (.int .i64 a.1) { c with old:=a.1 } rfl (by decide) { B with old:=A.1 };have h2:=h1.putC2 hc 3 (.int .i64 v) { c with old:=a.1,pc:=v } rfl (by decide) { B with old:=A.1,pc:=hv };exact⟨rfl,h2,((Kx.gr ((zr W).drN (1+d))).trans (Kx.st (.inr (.inl rfl)) _)).trans (Kx.st (.inr (.inl rfl)) _)⟩
end
end P16
end
section
namespace P16
open P14 (pan)
theorem infoEvent:(prog.info? 40).map (λ i=>(i.zero,i.size,i.bytes))=some (some (.agg #[.int .i64 0,.int .i64 0,.int .i64 0]),3,24):=by kernel_rfl
theorem ev_of {x:Cx} {w1:World} {g cap:Nat} {y:T3} {base:Nat} (h:w1.ownsRow base 40 3 (.slice (some ⟨g,0,none⟩) (0+1) cap) (0+1) ([]++t3V y)) (hy:TB3 y) (hb:x.B<=base) (h1:x.b<base) (h2:x.bc<base) (h3:x.bm<base) :
 (∀ W',Kb x w1 W'->T3Mem W' (some ⟨g,0,none⟩) 1 [y])/\(Sl.mk (some ⟨g,0,none⟩) 1 cap).ok:=by
 rcases h.2 with ⟨e,_⟩ | ⟨g',cap',cur,e,hbg,hg,hnc,hcm,hs,ht⟩
 . cases e
 . injection e with e1 e2 e3
   injection e1 with e1
   injection e1 with e1
   subst e1 e3;refine⟨λ W' k=>⟨rfl,λ z hz=>?_,λ _=>?_⟩,hnc,by unfold maxLen at hcm;omega⟩
   . rw [List.mem_singleton.1 hz];exact hy
   . have hgl:=(zal hg)
     have hg':=(k.2 g (by omega) hgl (by omega) (by omega) (by omega)).trans hg;refine⟨g,0,rfl,(zal hg'),λ i z hz j v hv=>?_⟩;have hi:i=0:=by
      have:=(zgl hz);simpa using this
     subst hi;have hzy:z=y:=by simpa using hz.symm
     subst hzy;rw [cell_of_row W' g _ cur _ (0,0) hg'];have h0:(cur.toList.take ((0+1)*3))[j]?=some v:=by rw [ht];exact hv
     rw [List.getElem?_take] at h0
     split at h0
     . simpa using h0
     . cases h0
section
variable {x:Cx} {W:World} {T E:Sl} {cl:List Cl} {mx:List T3} {tb:List Sp} {ev:List T3} {c:Cl} {a:T3}
theorem tell_is (h:TS x W T ⟨none,0,0⟩ cl mx tb []) (v:Int) (hv:B64 v) :
 Calls prog 43 #[.pointer (some ⟨x.b,0,none⟩),.int .i64 v] W λ e W'=>e=.returned (.tuple #[])/\(∃ E,TS x W' T E cl mx tb [(x.who,v,x.n)])/\Kx x W W':=by
 obtain⟨i,hi,hz,hs,hb⟩:=P12.info_parts infoEvent;have K0:=hid h;obtain⟨-,-,-,-,-,-,c6,-,-,c9,c10,cz⟩:=h.cells;have z10:=cz 10 (by decide);have hlt:=h.t.lt;dsimp only at c10;obtain⟨-,-,-,-,-,-,a6,-,-,a9,a10,-⟩:=(h.gr ((zr W).dr.al (.cells #[.int .i64 x.who,.int .i64 v,.int .i64 x.n] 40))).cells;clear h cz;go_enter func43,ntmps43;go_wp2_with fail;refine wp_region_held_drew (S:=(λ w'=>w'.cell? ⟨x.b,6,none⟩=some (.int .i64 x.who)/\w'.cell? ⟨x.b,9,none⟩=some (.int .i64 x.n))) (by kernel_rfl) ⟨c6,c9⟩ (λ hS=>?_);refine wG 0 hS ?_;refine wG 1 hS ?_;refine wG 2 hS ?_;refine wG 3 hS ?_;refine wG 5 hS ?_;refine wG 6 hS ?_;refine wG 7 hS ?_;refine wG 8 hS ?_;refine wG 9 hS ?_;refine wG 10 hS ?_;refine wG 11 hS ?_;refine wG 12 hS ?_;refine wG 13 hS ?_;refine wG 14 hS ?_;refine wG 15 hS ?_;refine wR2 4 16 (λ K hK=>?_) (λ K hK=>?_)
 . skip
   go_simp;refine hK.out _ _ ⟨c6,c9⟩ (λ hS=>?_);clear hK K
   try simp only [pL]
   refine wR1 16 (λ K hK=>?_);go_simp;refine hK.out _ _ ⟨a6,a9⟩ (λ hS=>?_);clear hK K
   try simp only [pL]
   refine wR1 17 (λ K hK=>?_);refine step_append_lies _ rfl (.tmp 8) (.tmp 20) 35 rfl W.heap.size 40 i _ 3 24 underlying35 hi hz hs hb rfl (by decide) (.slice none 0 0) 0 [] rfl (World.ownsRow_nil _ _ _ _) ⟨W.heap.size,0,none⟩ 1 1 [.int .i64 x.who,.int .i64 v,.int .i64 x.n] rfl rfl (World.news_of_block (heap_alloc_new W.drew _)) (λ u hu=>by simp at hu;rcases hu with rfl | rfl | rfl<;>rfl) (by decide) (by decide) (by decide) (Gr.al (zr W).dr _).size _ rfl ?_;intro g cap w1 hown hgrow hat hlt1;have h1:=((K0.out.gr ((zr W).dr.al (.cells #[.int .i64 x.who,.int .i64 v,.int .i64 x.n] 40))).gr (Gr.gb (zr _) hgrow (λ k hk=>by cases hk)));have G1:=hid (Gr.gb ((zr W).dr.al (.cells #[.int .i64 x.who,.int .i64 v,.int .i64 x.n] 40)) hgrow (λ k hk=>by cases hk));obtain⟨-,-,-,-,-,-,e6,-,-,e9,e10,ez⟩:=h1.cells;have y10:=ez 10 (by decide);have H1:=hid h1;have HO:=hid hown;clear h1 hgrow hat hown ez;refine hK.out _ _ ⟨e6,e9⟩ (λ hS=>?_);clear hK K
   try simp only [pL]
   refine wG 18 hS ?_;refine wG 19 hS ?_;refine wR1 20 (λ K hK=>?_);go_simp;refine hK.out _ _ ⟨(World.cell?_setCell_other _ _ _ _ (by simp)).trans e6,(World.cell?_setCell_other _ _ _ _ (by simp)).trans e9⟩ (λ hS=>?_);clear hK K;refine wpAnyH_done (by kernel_rfl) ?_ _;go_wp2_with fail
   go_end0
   obtain⟨q1,q2⟩:=ev_of (x:=x) (y:=(x.who,v,x.n)) HO.out ⟨K0.out.wi,hv,K0.out.ni⟩ (Nat.le_trans K0.out.lb (Nat.le_of_lt hlt)) hlt K0.out.c.lt K0.out.m.lt;exact⟨rfl,⟨_,H1.out.putE q1 q2⟩,(Kx.gr G1.out).trans (Kx.st (.inl rfl) _)⟩
 . skip
   go_simp;refine hK.out _ _ ⟨a6,a9⟩ (λ hS=>?_);clear hK K
   try simp only [pL]
   refine wR1 4 (λ K hK=>?_);go_simp;refine hK.out _ _ ⟨a6,a9⟩ (λ hS=>?_);clear hK K
   try simp only [pL]
   refine wR1 17 (λ K hK=>?_);refine step_append_lies _ rfl (.tmp 8) (.tmp 20) 35 rfl W.heap.size 40 i _ 3 24 underlying35 hi hz hs hb rfl (by decide) (.slice none 0 0) 0 [] rfl (World.ownsRow_nil _ _ _ _) ⟨W.heap.size,0,none⟩ 1 1 [.int .i64 x.who,.int .i64 v,.int .i64 x.n] rfl rfl (World.news_of_block (heap_alloc_new W.drew _)) (λ u hu=>by simp at hu;rcases hu with rfl | rfl | rfl<;>rfl) (by decide) (by decide) (by decide) (Gr.al (zr W).dr _).size _ rfl ?_;intro g cap w1 hown hgrow hat hlt1;have h1:=((K0.out.gr ((zr W).dr.al (.cells #[.int .i64 x.who,.int .i64 v,.int .i64 x.n] 40))).gr (Gr.gb (zr _) hgrow (λ k hk=>by cases hk)));have G1:=hid (Gr.gb ((zr W).dr.al (.cells #[.int .i64 x.who,.int .i64 v,.int .i64 x.n] 40)) hgrow (λ k hk=>by cases hk));obtain⟨-,-,-,-,-,-,e6,-,-,e9,e10,ez⟩:=h1.cells;have y10:=ez 10 (by decide);have H1:=hid h1;have HO:=hid hown;clear h1 hgrow hat hown ez;refine hK.out _ _ ⟨e6,e9⟩ (λ hS=>?_);clear hK K
   try simp only [pL]
   refine wG 18 hS ?_;refine wG 19 hS ?_;refine wR1 20 (λ K hK=>?_);go_simp;refine hK.out _ _ ⟨(World.cell?_setCell_other _ _ _ _ (by simp)).trans e6,(World.cell?_setCell_other _ _ _ _ (by simp)).trans e9⟩ (λ hS=>?_);clear hK K;refine wpAnyH_done (by kernel_rfl) ?_ _;go_wp2_with fail
   go_end0
   obtain⟨q1,q2⟩:=ev_of (x:=x) (y:=(x.who,v,x.n)) HO.out ⟨K0.out.wi,hv,K0.out.ni⟩ (Nat.le_trans K0.out.lb (Nat.le_of_lt hlt)) hlt K0.out.c.lt K0.out.m.lt;exact⟨rfl,⟨_,H1.out.putE q1 q2⟩,(Kx.gr G1.out).trans (Kx.st (.inl rfl) _)⟩
end
end P16
end
namespace P4
abbrev pr (a b:Int):Value:=.agg #[.int .i64 a,.int .i64 b]
def near (t:Int):Int:=max 0 (min t 4611686018427387904)
def Tm (t:Int):Prop:=0<=t/\t<=4611686018427387904
theorem near_eq {t:Int} (h:Tm t):near t=t:=by unfold Tm at h;unfold near;omega
theorem near_ne {t:Int} (h:¬ Tm t):(t==near t)=false:=by unfold Tm at h;rw [beq_eq_false_iff_ne];unfold near;omega
theorem nearest_ok (t:Int) (w:World):Calls prog 74 #[.int .i64 t] w λ e w'=>e=.returned (.int .i64 (near t))/\w'=w:=by
 obtain⟨x,hx⟩:∃ x,near t=x:=⟨_,rfl⟩;have HX:=hid hx;rw [hx];clear hx;go_enter func74,ntmps74;go_wp2_with fail
 all_goals (
  go_ret;refine⟨?_,rfl⟩;show Ending.returned (Value.int .i64 _)=Ending.returned (Value.int .i64 x);refine congrArg _ (congrArg _ ?_);have hx:=HX.out;unfold near at hx;omega)
def prEq (a b a' b':Int):Bool:=decide (a=a'/\b=b')
theorem cellsOfInt:prog.cellsOf 3=1:=by kernel_rfl
theorem plainInt:prog.plainKey 3=true:=by kernel_rfl
theorem infoInt:∃ i,prog.info? 3=some i:=Option.isSome_iff_exists.1 (by kernel_rfl)
theorem run_pair_eql (a b a' b':Int) (w:World) :
 (binOp .eql 138 (.agg #[.int .i64 a,.int .i64 b]) (.agg #[.int .i64 a',.int .i64 b'])).run prog w=.ok (.bool (prEq a b a' b')) w:=by
 obtain⟨i,hi⟩:=infoInt;have e1:(part 3 #[.int .i64 a,.int .i64 b] (0*1)).run prog w=.ok (.int .i64 a) w:=run_part_plain w plainInt rfl;have e2:(part 3 #[.int .i64 a,.int .i64 b] (1*1)).run prog w=.ok (.int .i64 b) w:=run_part_plain w plainInt rfl;have e3:(part 3 #[.int .i64 a',.int .i64 b'] (0*1)).run prog w=.ok (.int .i64 a') w:=run_part_plain w plainInt rfl;have e4:(part 3 #[.int .i64 a',.int .i64 b'] (1*1)).run prog w=.ok (.int .i64 b') w:=run_part_plain w plainInt rfl;have e5:(Op.equalIn 9999 3 (.int .i64 a) (.int .i64 a')).run prog w=.ok (a==a') w:=run_equalIn_int w 9998 3 .i64 .i64 a a' underlying3;have e6:(Op.equalIn 9999 3 (.int .i64 b) (.int .i64 b')).run prog w=.ok (b==b') w:=run_equalIn_int w 9998 3 .i64 .i64 b b' underlying3;rw [run_eql_struct,run_equalIn_array w 9999 _ _ underlying138 hi,cellsOfInt];show ((Op.eqItems 9999 3 1 _ _ [0,1]).run prog w).andThen _=_;rw [Op.eqItems,Sem.run_bind,e1,Result.andThen_ok,Sem.run_bind,e3,Result.andThen_ok,Sem.run_bind,e5,Result.andThen_ok];by_cases h1:a=a'
 . rw [if_neg (by simp [h1]),Op.eqItems,Sem.run_bind,e2,Result.andThen_ok,Sem.run_bind,e4,Result.andThen_ok,Sem.run_bind,e6,Result.andThen_ok]
   by_cases h2:b=b'
   . rw [if_neg (by simp [h2])]
     simp [prEq,h1,h2,Op.eqItems]
   . rw [if_pos (by simp [h2])]
     simp [prEq,h2]
 . rw [if_pos (by simp [h1])]
   simp [prEq,h1]
def both (a b:Int):Bool:=prEq a b (near a) (near b)
theorem both_yes {a b:Int} (ha:Tm a) (hb:Tm b):both a b=true:=by unfold both;rw [near_eq ha,near_eq hb];simp [prEq]
theorem both_no {a b:Int} (h:¬ (Tm a/\Tm b)):both a b=false:=by
 unfold both prEq Tm at *;rw [decide_eq_false_iff_not];unfold near;omega
theorem right_ok (a b:Int) (w:World):Calls prog 75 #[pr a b] w λ e w'=>e=.returned (.bool (both a b))/\Gr w w':=by
 have he:=λ w=>run_pair_eql a b (near a) (near b) w
 go_enter func75,ntmps75;go_wp2_with fail
 go_quiet ((go_at_call 74;exact Calls.quiet_of_same (nearest_ok _ _)))
 go_wp2_with fail;go_ret;exact⟨rfl,((zr _).al _).drN _⟩
theorem Right_ok (t:Int) (B:Bool) (hB:(t==near t)=B) (w:World):Calls prog 44 #[.int .i64 t] w λ e w'=>e=.returned (.bool B)/\Gr w w':=by
 go_enter func44,ntmps44;go_wp2_with fail;refine (nearest_ok _ _).mono ?_;rintro e w1 ⟨rfl,rfl⟩;go_wp2_with fail;go_ret;exact⟨rfl,zr _⟩
end P4
end Go.Proofs.YtainfijdhcehlaaGreatDoor
