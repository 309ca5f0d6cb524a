/-
  A part of the proof.
-/
import Derived.Test.YtainfijdhcehlaaGreatDoorQB1
import Derived.Test.YtainfijdhcehlaaGreatDoorQB3
import Derived.Test.YtainfijdhcehlaaGreatDoorQB6
import Derived.Test.YtainfijdhcehlaaGreatDoorQB8
import Derived.Test.YtainfijdhcehlaaGreatDoorQB9
import Derived.Test.YtainfijdhcehlaaGreatDoorQB10
import Derived.Test.YtainfijdhcehlaaGreatDoorQB17
import Derived.Test.YtainfijdhcehlaaGreatDoorQB24
import Derived.Laws.StructEq
import Derived.Laws.BytesArg
import Derived.Lib.AtoiAll
import Derived.Lib.CutLaws
import Derived.Deep.RegionHeld3
import Derived.RegionTactic
import Derived.BigQuiet
import Derived.Deep.QuietTactic
set_option linter.unusedVariables false
set_option linter.unusedSimpArgs false
set_option maxRecDepth 100000
set_option maxHeartbeats 8000000
namespace Go.Proofs.YtainfijdhcehlaaGreatDoor
open Lib (hid)
section
open Go.ChangeShapes Go.WideShapes Go.ChangeAt Go.RowKit Go.Shelf
namespace P16
open P12 (PV PMem Late)
def PRow (base lo g:Nat) (wr:World) (R:List PV) (k:Nat):Prop :=
 ∃ R':List PV,R'.length=R.length/\(∀ (i:Nat) y,R[i]?=some y->∃ x,R'[i]?=some x/\x.l=y.l/\(k<=i->x=y)/\(i<k->x.ok wr/\Late lo x.A)) /\
  (0<R.length->base<=g/\g<lo/\∃ cur,Blk wr g cur 64/\∀ (i:Nat) x,R'[i]?=some x->cur[i]?=some x.enc)
theorem late_keep {w w':World} {x:PV} {lo:Nat} (hx:x.ok w) (hl:Late lo x.A) (hs:w.heap.size<=w'.heap.size) (hb:∀ k,lo<=k->k<w.heap.size->w'.heap[k]?=w.heap[k]?):x.ok w' :=
 ⟨mem_keep hx.1 hs λ hn k hk=>hb k (hl k hk) (by
   obtain⟨b,off,e,hlt,_⟩:=hx.1.2.2 hn
   rw [e] at hk
   cases hk
   exact hlt),hx.2⟩
section
variable {base lo g k:Nat} {wr wr':World} {R:List PV} {y:PV}
theorem PRow.keep (h:PRow base lo g wr R k) (hbl:base<=lo) (hs:wr.heap.size<=wr'.heap.size) (hb:∀ j,base<=j->j<wr.heap.size->wr'.heap[j]?=wr.heap[j]?):PRow base lo g wr' R k:=by
 obtain⟨R',h1,h2,h3⟩:=h
 refine⟨R',h1,λ i y hy=>?_,λ hn=>?_⟩
 . obtain⟨x,e1,e2,e3,e4⟩:=h2 i y hy
   exact⟨x,e1,e2,e3,λ hi=>⟨late_keep (e4 hi).1 (e4 hi).2 hs λ j q1 q2=>hb j (by omega) q2,(e4 hi).2⟩⟩
 . obtain⟨b1,b2,cur,hB,hc⟩:=h3 hn
   refine⟨b1,b2,cur,?_,hc⟩
   unfold Blk
   rw [hb g b1 hB.lt]
   exact hB
theorem PRow.gr (h:PRow base lo g wr R k) (hbl:base<=lo) (q:Gr wr wr'):PRow base lo g wr' R k:=h.keep hbl q.size λ j _ hj=>q.block j hj
theorem PRow.st (h:PRow base lo g wr R k) (hbl:base<=lo) {p:Addr} (hp:p.block<base) (v:Value):PRow base lo g (wr.setCell p v) R k :=
 h.keep hbl (by simp [World.setCell]) λ j q1 _=>Below.heap_setCell wr p v j (by omega)
theorem PRow.at_ (h:PRow base lo g wr R k) (hy:R[k]?=some y):base<=g/\g<wr.heap.size/\wr.cell? ⟨g,k,none⟩=some y.enc/\wr.frozen? ⟨g,k,none⟩=false:=by
 obtain⟨R',h1,h2,h3⟩:=h
 have hk:=(List.getElem?_eq_some_iff.1 hy).1
 obtain⟨x,e1,e2,e3,_⟩:=h2 k y hy
 obtain⟨b1,b2,cur,hB,hc⟩:=h3 (by omega)
 obtain rfl:=e3 (Nat.le_refl _)
 exact⟨b1,hB.lt,hB.at_ (hc k _ e1)⟩
theorem PRow.start {A:Option Addr} {n c:Nat} (h:wr.ownsRow base 64 1 (.slice A n c) n (R.map PV.enc)) (hl:R.length=n) (hA:0<n->A=some ⟨g,0,none⟩) (hlo:wr.heap.size<=lo):PRow base lo g wr R 0:=by
 refine⟨R,rfl,λ i y hy=>⟨y,hy,rfl,λ _=>rfl,λ hi=>by omega⟩,λ hn=>?_⟩
 obtain⟨_,_,_,k⟩:=own_parts h
 obtain⟨g',cur,e1,e2,e3,e4⟩:=k (by omega)
 rw [hA (by omega)] at e1
 cases e1
 have:=e3.lt
 exact⟨e2,by omega,cur,e3,λ i x hx=>own_blk e3 e4 (by rw [List.getElem?_map,hx];rfl)⟩
theorem PRow.put (h:PRow base lo g wr R k) (hbl:base<=lo) (hy:R[k]?=some y) {w2:World} {A2:Option Addr} {b2 c2:Nat} (g2:Gr wr w2) (hyb:∀ x∈y.l,Inb x.1/\Inb x.2) (hyl:y.l.length=y.n)
 (o2:w2.ownsRow b2 67 2 (.slice A2 y.n c2) y.n (flat y.l)) (hb2:lo<=b2):PRow base lo g (w2.setCell ⟨g,k,none⟩ (.slice A2 y.n c2)) R (k+1):=by
 have hk:=(List.getElem?_eq_some_iff.1 hy).1
 rw [<- hyl] at o2
 obtain⟨A3,c3,e3,m3,n3,x3,l3⟩:=P12.own_mem o2 hyb
 injection e3 with e3 _ e4
 subst e3 e4
 obtain⟨R',h1,h2,h3⟩:=h.gr hbl g2
 obtain⟨q1,q2,cur,hB,hc⟩:=h3 (by omega)
 have okn:PV.ok (w2.setCell ⟨g,k,none⟩ (.slice A2 y.n c2)) ⟨A2,y.n,c2,y.l⟩:=by
  rw [hyl] at m3 n3
  have m0:PV.ok w2 ⟨A2,y.n,c2,y.l⟩:=⟨m3,n3,x3⟩
  exact late_keep m0 l3 (by simp [World.setCell]) λ j j1 _=>Below.heap_setCell w2 _ _ j (by show j≠g;omega)
 refine⟨R'.set k ⟨A2,y.n,c2,y.l⟩,by rw [List.length_set];exact h1,λ i z hz=>?_,λ _=>⟨q1,q2,cur.setIfInBounds k (.slice A2 y.n c2),hB.set k _,λ i x hx=>?_⟩⟩
 . by_cases e:i=k
   . subst e
     rw [hy] at hz
     cases hz
     exact⟨_,List.getElem?_set_self (by omega),rfl,λ q=>by omega,λ _=>⟨okn,l3.low hb2⟩⟩
   . obtain⟨x,e1,e2,e5,e6⟩:=h2 i z hz
     refine⟨x,by rw [List.getElem?_set_ne (Ne.symm e)];exact e1,e2,λ q=>e5 (by omega),λ q=>?_⟩
     obtain⟨f1,f2⟩:=e6 (by omega)
     exact⟨late_keep f1 f2 (by simp [World.setCell]) λ j j1 _=>Below.heap_setCell w2 _ _ j (by show j≠g;omega),f2⟩
 . rw [Array.getElem?_setIfInBounds]
   by_cases e:k=i
   . subst e
     rw [List.getElem?_set_self (by omega)] at hx
     cases hx
     rw [if_pos rfl]
     have hlt:k<cur.size:=by
      have:=hc k _ (List.getElem?_eq_getElem (by omega))
      exact (Array.getElem?_eq_some_iff.1 this).1
     rw [if_pos hlt]
     rfl
   . rw [List.getElem?_set_ne e] at hx
     rw [if_neg e]
     exact hc i x hx
theorem PRow.done (h:PRow base lo g wr R k) (hbl:base<=lo) (hk:k=R.length) {A:Option Addr} (hA:0<k->A=some ⟨g,0,none⟩):∀ hi W',wr.heap.size<=hi->FT base hi wr W'->∃ R',PMem W' A k R'/\P12.pl R'=P12.pl R:=by
 intro hi W' hhi f
 obtain⟨R',h1,h2,h3⟩:=h.keep (wr':=W') hbl f.1 λ j q1 q2=>f.2 j q1 (by omega) q2
 refine⟨R',⟨⟨by omega,λ _ _=>trivial,λ hn=>?_⟩,λ x hx=>?_⟩,?_⟩
 . obtain⟨_,_,cur,hB,hc⟩:=h3 (by omega)
   refine⟨g,0,hA hn,hB.lt,λ i x hx=>?_⟩
   rw [Nat.zero_add]
   exact (hB.at_ (hc i x hx)).1
 . obtain⟨i,hi⟩:=List.getElem?_of_mem hx
   have hlt:=(List.getElem?_eq_some_iff.1 hi).1
   obtain⟨x',e1,_,_,e4⟩:=h2 i _ (List.getElem?_eq_getElem (by omega))
   rw [hi] at e1
   cases e1
   exact (e4 (by omega)).1
 . unfold P12.pl
   apply List.ext_getElem?
   intro i
   rw [List.getElem?_map,List.getElem?_map]
   cases hy:R[i]? with
   | none=>rw [List.getElem?_eq_none (by have:=List.getElem?_eq_none_iff.1 hy;omega)]
   | some y =>
    obtain⟨x,e1,e2,_⟩:=h2 i y hy
    rw [e1]
    simp [e2]
end
def TRow (base lo g:Nat) (wr:World) (T:List SV) (k:Nat):Prop :=
 ∃ T':List SV,T'.length=T.length/\(∀ (i:Nat) y,T[i]?=some y->∃ x,T'[i]?=some x/\x.pl=y.pl/\(k<=i->x=y)/\(i<k->x.ok wr/\Late lo x.A)) /\
  (0<T.length->base<=g/\g<lo/\∃ cur,Blk wr g cur 91/\∀ (i:Nat) x,T'[i]?=some x->∀ j v,(spV x)[j]?=some v->cur[i*3+j]?=some v)
theorem late_keepS {w w':World} {x:SV} {lo:Nat} (hx:x.ok w) (hl:Late lo x.A) (hs:w.heap.size<=w'.heap.size) (hb:∀ k,lo<=k->k<w.heap.size->w'.heap[k]?=w.heap[k]?):x.ok w' :=
 ⟨hx.1,hx.2.1,emem_keep hx.2.2.1 hs λ hn k hk=>hb k (hl k hk) (by
   obtain⟨b,off,e,hlt,_⟩:=hx.2.2.1.2.2 hn
   rw [e] at hk
   cases hk
   exact hlt),hx.2.2.2⟩
section
variable {base lo g k:Nat} {wr wr':World} {T:List SV} {y:SV}
theorem TRow.keep (h:TRow base lo g wr T k) (hbl:base<=lo) (hs:wr.heap.size<=wr'.heap.size) (hb:∀ j,base<=j->j<wr.heap.size->wr'.heap[j]?=wr.heap[j]?):TRow base lo g wr' T k:=by
 obtain⟨T',h1,h2,h3⟩:=h
 refine⟨T',h1,λ i y hy=>?_,λ hn=>?_⟩
 . obtain⟨x,e1,e2,e3,e4⟩:=h2 i y hy
   exact⟨x,e1,e2,e3,λ hi=>⟨late_keepS (e4 hi).1 (e4 hi).2 hs λ j q1 q2=>hb j (by omega) q2,(e4 hi).2⟩⟩
 . obtain⟨b1,b2,cur,hB,hc⟩:=h3 hn
   refine⟨b1,b2,cur,?_,hc⟩
   unfold Blk
   rw [hb g b1 hB.lt]
   exact hB
theorem TRow.gr (h:TRow base lo g wr T k) (hbl:base<=lo) (q:Gr wr wr'):TRow base lo g wr' T k:=h.keep hbl q.size λ j _ hj=>q.block j hj
theorem TRow.st (h:TRow base lo g wr T k) (hbl:base<=lo) {p:Addr} (hp:p.block<base) (v:Value):TRow base lo g (wr.setCell p v) T k :=
 h.keep hbl (by simp [World.setCell]) λ j q1 _=>Below.heap_setCell wr p v j (by omega)
theorem TRow.at_ (h:TRow base lo g wr T k) (hy:T[k]?=some y):base<=g/\g<wr.heap.size/\wr.cell? ⟨g,k*3,none⟩=some (.int .i64 y.addr)/\wr.cell? ⟨g,k*3+1,none⟩=some (.int .i64 y.cnt)/\wr.cell? ⟨g,k*3+2,none⟩=some (.slice y.A y.n y.c)/\wr.frozen? ⟨g,k*3+2,none⟩=false:=by
 obtain⟨T',h1,h2,h3⟩:=h
 have hk:=(List.getElem?_eq_some_iff.1 hy).1
 obtain⟨x,e1,e2,e3,_⟩:=h2 k y hy
 obtain⟨b1,b2,cur,hB,hc⟩:=h3 (by omega)
 obtain rfl:=e3 (Nat.le_refl _)
 have c2:=hB.at_ (hc k _ e1 2 _ rfl)
 exact⟨b1,hB.lt,(hB.at_ (hc k _ e1 0 _ rfl)).1,(hB.at_ (hc k _ e1 1 _ rfl)).1,c2.1,c2.2⟩
theorem TRow.start {A:Option Addr} {n c:Nat} (h:wr.ownsRow base 91 3 (.slice A n c) n (T.flatMap spV)) (hl:T.length=n) (hA:0<n->A=some ⟨g,0,none⟩) (hlo:wr.heap.size<=lo):TRow base lo g wr T 0:=by
 refine⟨T,rfl,λ i y hy=>⟨y,hy,rfl,λ _=>rfl,λ hi=>by omega⟩,λ hn=>?_⟩
 obtain⟨_,_,_,k⟩:=own_parts h
 obtain⟨g',cur,e1,e2,e3,e4⟩:=k (by omega)
 rw [hA (by omega)] at e1
 cases e1
 have:=e3.lt
 exact⟨e2,by omega,cur,e3,λ i x hx j v hv=>own_blk e3 e4 (flat_at spV_len T i j x v hx hv)⟩
theorem TRow.put (h:TRow base lo g wr T k) (hbl:base<=lo) (hy:T[k]?=some y) {w2:World} {A2:Option Addr} {b2 c2:Nat} (g2:Gr wr w2) {V:World} (hyk:y.ok V)
 (o2:w2.ownsRow b2 3 1 (.slice A2 y.n c2) y.n (y.line.map (Value.int .i64))) (hb2:lo<=b2):TRow base lo g (w2.setCell ⟨g,k*3+2,none⟩ (.slice A2 y.n c2)) T (k+1):=by
 have hk:=(List.getElem?_eq_some_iff.1 hy).1
 obtain⟨n3,x3,l3,k3⟩:=own_parts o2
 have m3:IMem w2 A2 y.n y.line:=⟨hyk.len,hyk.2.2.1.2.1,λ hn=>by
  obtain⟨g',cur,e1,e2,e3,e4⟩:=k3 hn
  refine⟨g',0,e1,e3.lt,λ j x hx=>?_⟩
  rw [Nat.zero_add]
  exact (e3.at_ (own_blk e3 e4 (by rw [List.getElem?_map,hx];rfl))).1⟩
 obtain⟨T',h1,h2,h3⟩:=h.gr hbl g2
 obtain⟨q1,q2,cur,hB,hc⟩:=h3 (by omega)
 have okn:SV.ok (w2.setCell ⟨g,k*3+2,none⟩ (.slice A2 y.n c2)) ⟨y.addr,y.cnt,A2,y.n,c2,y.line⟩:=by
  have m0:SV.ok w2 ⟨y.addr,y.cnt,A2,y.n,c2,y.line⟩:=⟨hyk.1,hyk.2.1,m3,n3,x3⟩
  exact late_keepS m0 l3 (by simp [World.setCell]) λ j j1 _=>Below.heap_setCell w2 _ _ j (by show j≠g;omega)
 refine⟨T'.set k ⟨y.addr,y.cnt,A2,y.n,c2,y.line⟩,by rw [List.length_set];exact h1,λ i z hz=>?_,λ _=>⟨q1,q2,cur.setIfInBounds (k*3+2) (.slice A2 y.n c2),hB.set _ _,λ i x hx j v hv=>?_⟩⟩
 . by_cases e:i=k
   . subst e
     rw [hy] at hz
     cases hz
     exact⟨_,List.getElem?_set_self (by omega),rfl,λ q=>by omega,λ _=>⟨okn,l3.low hb2⟩⟩
   . obtain⟨x,e1,e2,e5,e6⟩:=h2 i z hz
     refine⟨x,by rw [List.getElem?_set_ne (Ne.symm e)];exact e1,e2,λ q=>e5 (by omega),λ q=>?_⟩
     obtain⟨f1,f2⟩:=e6 (by omega)
     exact⟨late_keepS f1 f2 (by simp [World.setCell]) λ j j1 _=>Below.heap_setCell w2 _ _ j (by show j≠g;omega),f2⟩
 . have hj:j<3:=(List.getElem?_eq_some_iff.1 hv).1
   rw [Array.getElem?_setIfInBounds]
   by_cases e:k=i
   . subst e
     rw [List.getElem?_set_self (by omega)] at hx
     cases hx
     obtain⟨x,e1,e2,e5,e6⟩:=h2 k y hy
     obtain rfl:=e5 (Nat.le_refl _)
     have hc1:=λ j v=>hc k _ e1 j v
     match j,hv,hj with
     | 0,hv,_=>rw [if_neg (by omega)];exact hc1 0 v hv
     | 1,hv,_=>rw [if_neg (by omega)];exact hc1 1 v hv
     | 2,hv,_ =>
      cases hv
      have:=(Array.getElem?_eq_some_iff.1 (hc1 2 _ rfl)).1
      rw [if_pos rfl,if_pos this]
   . rw [List.getElem?_set_ne e] at hx
     rw [if_neg (by omega)]
     exact hc i x hx j v hv
theorem TRow.done (h:TRow base lo g wr T k) (hbl:base<=lo) (hk:k=T.length) {A:Option Addr} (hA:0<k->A=some ⟨g,0,none⟩):∀ hi W',wr.heap.size<=hi->FT base hi wr W'->∃ T',SMem W' A k T'/\T'.map SV.pl=T.map SV.pl:=by
 intro hi W' hhi f
 obtain⟨T',h1,h2,h3⟩:=h.keep (wr':=W') hbl f.1 λ j q1 q2=>f.2 j q1 (by omega) q2
 refine⟨T',⟨by omega,λ x hx=>?_,λ hn=>?_⟩,?_⟩
 . obtain⟨i,hi⟩:=List.getElem?_of_mem hx
   have hlt:=(List.getElem?_eq_some_iff.1 hi).1
   obtain⟨x',e1,_,_,e4⟩:=h2 i _ (List.getElem?_eq_getElem (by omega))
   rw [hi] at e1
   cases e1
   exact (e4 (by omega)).1
 . obtain⟨_,_,cur,hB,hc⟩:=h3 (by omega)
   refine⟨g,0,hA hn,hB.lt,λ i x hx=>?_⟩
   rw [Nat.zero_add]
   exact⟨(hB.at_ (hc i x hx 0 _ rfl)).1,(hB.at_ (hc i x hx 1 _ rfl)).1,(hB.at_ (hc i x hx 2 _ rfl)).1⟩
 . apply List.ext_getElem?
   intro i
   rw [List.getElem?_map,List.getElem?_map]
   cases hy:T[i]? with
   | none=>rw [List.getElem?_eq_none (by have:=List.getElem?_eq_none_iff.1 hy;omega)]
   | some y =>
    obtain⟨x,e1,e2,_⟩:=h2 i y hy
    rw [e1]
    simp [e2]
end
theorem orow_ft {α:Type} {en:α->List Value} {q n lo hi:Nat} {w w':World} {A:Option Addr} {l:List α} (h:0<n->∃ g,A=some ⟨g,0,none⟩/\lo<=g/\g<hi/\ORow en q w g 0 l) (f:FT lo hi w w'):0<n->∃ g,A=some ⟨g,0,none⟩/\lo<=g/\g<hi/\ORow en q w' g 0 l:=λ hn=>by
 obtain⟨g,e,h1,h2,o⟩:=h hn
 exact⟨g,e,h1,h2,o.kept (f.2 g h1 h2 o.lt)⟩
theorem orow_own {α:Type} {en:α->List Value} {q n base c:Nat} {w:World} {e:TypeId} {A:Option Addr} {l:List α} (hq:∀ x,(en x).length=q) (h:w.ownsRow base e q (.slice A n c) n (l.flatMap en)):0<n->∃ g,A=some ⟨g,0,none⟩/\base<=g/\g<w.heap.size/\ORow en q w g 0 l:=λ hn=>by
 obtain⟨g,e,h1,o⟩:=own_orow hq h hn
 exact⟨g,e,h1,o.lt,o⟩
theorem far_cell {w:World} {p q:Addr} {v u:Value} (h:w.cell? q=some u) (hne:q.block≠p.block):(w.setCell p v).cell? q=some u :=
 (World.cell?_of_block (Below.heap_setCell w p v q.block hne)).trans h
structure WRd (W:World) (r:WR) (ω:Wv):Prop where
 now:r.now=ω.now
 stop:r.stop=ω.stop
 bn:B64 ω.now
 bs:B64 ω.stop
 p:∃ R,PMem W r.p.A r.p.n R/\P12.pl R=ω.progs
 c:CMem W r.c.A r.c.n ω.cl
 m:T3Mem W r.m.A r.m.n ω.mx
 t:∃ T,SMem W r.t.A r.t.n T/\T.map SV.pl=ω.tb
theorem WIs.rd {W:World} {r:WR} {ω:Wv} (h:WIs W r ω):WRd W r ω:=⟨h.now,h.stop,h.bn,h.bs,h.p,h.c,h.m,h.t⟩
theorem WRd.lens {W:World} {r:WR} {ω:Wv} (h:WRd W r ω):ω.progs.length=r.p.n/\ω.cl.length=r.c.n/\ω.mx.length=r.m.n/\ω.tb.length=r.t.n:=by
 obtain⟨R,hR,e⟩:=h.p
 obtain⟨T,hT,e'⟩:=h.t
 refine⟨?_,h.c.len,h.m.len,?_⟩
 . rw [<- e];unfold P12.pl;rw [List.length_map];exact hR.len
 . rw [<- e',List.length_map];exact hT.1
structure Copied (B:Nat) (w:World) (s:WR) (ω:Wv) (b1 b2 b3:Nat):Prop where
 l1:B<=b1
 l2:b1<=b2
 l3:b2<=b3
 l4:b3<=w.heap.size
 now:s.now=ω.now
 stop:s.stop=ω.stop
 bn:B64 ω.now
 bs:B64 ω.stop
 nc:ω.cl.length=s.c.n
 nm:ω.mx.length=s.m.n
 p:∀ W',FT B b1 w W'->∃ R,PMem W' s.p.A s.p.n R/\P12.pl R=ω.progs
 c:0<s.c.n->∃ g,s.c.A=some ⟨g,0,none⟩/\b1<=g/\g<b2/\ORow clV 13 w g 0 ω.cl
 m:0<s.m.n->∃ g,s.m.A=some ⟨g,0,none⟩/\b2<=g/\g<b3/\ORow t3V 3 w g 0 ω.mx
 t:∀ W',FT b3 w.heap.size w W'->∃ T,SMem W' s.t.A s.t.n T/\T.map SV.pl=ω.tb
 cb:∀ x∈ω.cl,CB x
 mb:∀ x∈ω.mx,TB3 x
 op:s.p.ok
 oc:s.c.ok
 om:s.m.ok
 ot:s.t.ok
theorem rmem_of_orow {α:Type} {en:α->List Value} {q n:Nat} {ok:α->Prop} {w w':World} {A:Option Addr} {l:List α} {b1 b2:Nat} (hl:l.length=n) (hb:∀ x∈l,ok x)
 (h:0<n->∃ g,A=some ⟨g,0,none⟩/\b1<=g/\g<b2/\ORow en q w g 0 l) (f:FT b1 b2 w w'):RMem en q ok w' A n l:=by
 rcases Nat.eq_zero_or_pos n with h0 | h0
 . subst h0
   obtain rfl:=List.eq_nil_of_length_eq_zero hl
   exact⟨rfl,by simp,λ h=>by omega⟩
 . obtain⟨g,rfl,e1,e2,o⟩:=h h0
   exact orow_rmem (o.kept (f.2 g e1 e2 o.lt)) hl hb
theorem Copied.new {B b1 b2 b3:Nat} {w:World} {s:WR} {ω:Wv} (h:Copied B w s ω b1 b2 b3):WNew B w s ω:=by
 intro W' f
 have l1:=h.l1
 have l2:=h.l2
 have l3:=h.l3
 exact⟨h.now,h.stop,h.bn,h.bs,h.p W' (f.ft (Nat.le_refl _)),rmem_of_orow h.nc h.cb h.c (f.ft l1),rmem_of_orow h.nm h.mb h.m (f.ft (by omega)),h.t W' (f.ft (by omega)),h.op,h.oc,h.om,h.ot⟩
end P16
end
section
open Go.ChangeShapes Go.WideShapes Go.ChangeAt Go.RowKit
namespace P12
def cutV (x:PV):PV:=⟨x.A,if 70<x.n then 70 else x.n,x.c,x.l.take 70⟩
theorem cutV_ok {w:World} {x:PV} (h:x.ok w):(cutV x).ok w:=by
 obtain⟨h1,h2,h3⟩:=h
 refine⟨?_,?_,h3⟩
 . show Mem w x.A (if 70<x.n then 70 else x.n) (x.l.take 70)
   split
   . exact h1.take_ 70 (by omega)
   . rw [List.take_of_length_le (by have:=h1.1;omega)]
     exact h1
 . show (if 70<x.n then 70 else x.n)<=x.c
   split<;>omega
def fewP (l:List (List Ac)):List (List Ac):=(l.take 10).map λ p=>p.take 70
end P12
end
section
namespace P12
def ho (b:Bool) (m:Int):Option Int:=if b then some m else none
end P12
end
section
open Go.ChangeShapes Go.WideShapes Go.ChangeAt Go.RowKit
namespace P12
theorem ret_bool {a b:Bool} (h:a=b):Ending.returned (.bool a)=.returned (.bool b):=by rw [h]
theorem unfit_is {a:Ac} {B:Bool} (hB:okA a=B) (w:World):Calls Tryz.prog 83 #[.agg #[.int .i64 a.1,.int .i64 a.2]] w λ e w'=>e=.returned (.bool (!B))/\Gr w w':=by
 obtain⟨k,n⟩:=a
 have key:∀ B',okA (k,n)=B'->Hid (B'=B):=λ B' h=>hid (by rw [<- h,hB])
 clear hB
 by_cases h4:0<=k/\k<=2
 . have e:k=0\/k=1\/k=2:=by omega
   clear h4
   by_cases h0:n<0
   . have HB:=key false (by unfold okA;rcases e with rfl | rfl | rfl<;>simp<;>omega)
     clear key
     rcases e with rfl | rfl | rfl<;>(
      go_enter Tryz.func83,Tryz.ntmps83
      go_wp2_with fail
      go_ret
      rw [<- HB.out]
      exact⟨rfl,(Gr.refl w).al _⟩)
   . by_cases h3:n<4
     . have HB:=key true (by unfold okA;rcases e with rfl | rfl | rfl<;>simp<;>omega)
       have h3':¬ (4:Int)<=n:=by omega
       clear key
       rcases e with rfl | rfl | rfl<;>(
        go_enter Tryz.func83,Tryz.ntmps83
        go_wp2_with fail
        go_ret
        rw [<- HB.out]
        exact⟨rfl,(Gr.refl w).al _⟩)
     . have HB:=key false (by unfold okA;rcases e with rfl | rfl | rfl<;>simp<;>omega)
       have h3':(4:Int)<=n:=by omega
       clear key
       rcases e with rfl | rfl | rfl<;>(
        go_enter Tryz.func83,Tryz.ntmps83
        go_wp2_with fail
        go_ret
        rw [<- HB.out]
        exact⟨rfl,(Gr.refl w).al _⟩)
 . by_cases h5:k=3
   . subst h5
     by_cases h0:n<0
     . have HB:=key false (by unfold okA;simp;omega)
       clear key
       go_enter Tryz.func83,Tryz.ntmps83
       go_wp2_with fail
       go_ret
       rw [<- HB.out]
       exact⟨rfl,(Gr.refl w).al _⟩
     . by_cases h3:1000<n
       . have HB:=key false (by unfold okA;simp;omega)
         clear key
         go_enter Tryz.func83,Tryz.ntmps83
         go_wp2_with fail
         go_ret
         rw [<- HB.out]
         exact⟨rfl,(Gr.refl w).al _⟩
       . have HB:=key true (by unfold okA;simp;omega)
         clear key
         go_enter Tryz.func83,Tryz.ntmps83
         go_wp2_with fail
         go_ret
         rw [<- HB.out]
         exact⟨rfl,(Gr.refl w).al _⟩
   . have HB:=key false (by unfold okA;rw [if_neg h5];simp;omega)
     have e0:(k==0)=false:=by simp;omega
     have e1:(k==1)=false:=by simp;omega
     have e2:(k==2)=false:=by simp;omega
     have e3:(k==3)=false:=by simp;omega
     clear key h4 h5
     go_enter Tryz.func83,Tryz.ntmps83
     go_wp2_with fail
     go_ret
     rw [<- HB.out]
     exact⟨rfl,(Gr.refl w).al _⟩
def badAt {α:Type} (p:α->Bool):List α->Nat->Int
 | [],_=>-1
 | x::r,k=>if p x then badAt p r (k+1) else k
theorem badAt_is {α:Type} (p:α->Bool) (l:List α):∀ k:Nat,decide (0<=badAt p l k)=!l.all p:=by
 induction l with
 | nil=>intro k;rfl
 | cons x r ih =>
  intro k
  unfold badAt
  cases hx:p x
  . simp [hx]
  . simp [hx,ih]
theorem IndexFunc_ok (A:Option Addr) (n c:Nat) (l:List Ac) (w:World) (hm:Mem w A n l) (hn:n<=9223372036854775807) :
 Calls Tryz.prog 120 #[.slice A n c,.func (.func 83) #[] #[]] w λ e w'=>e=.returned (.int .i64 (badAt okA l 0))/\Gr w w':=by
 go_enter Tryz.func120,Tryz.ntmps120
 go_wp2_with fail
 go_loopw [8] (λ i wr=>∃ k:Nat,k<=n/\i=.int .i64 k/\Hid (badAt okA (l.drop k) k=badAt okA l 0)/\Gr w wr) (λ i _=>n-(intOf i).toNat)
 case atStart=>exact⟨0,Nat.zero_le _,rfl,hid rfl,Gr.refl _⟩
 case round =>
  obtain⟨k,hk,rfl,HB,hg⟩:=hrel
  by_cases hlt:k<n
  . obtain⟨b,off,x,rfl,hbl,hx,h1,h2,c0,c1⟩:=(hm.gr hg).at_ hlt
    have hd:l.drop k=x::l.drop (k+1):=by
     obtain⟨hl,rfl⟩:=List.getElem?_eq_some_iff.1 hx
     exact List.drop_eq_getElem_cons hl
    cases hf:okA x
    . have hr:badAt okA l 0=(k:Int):=by rw [<- HB.out,hd];simp [badAt,hf]
      have cc:=λ w=>hid (unfit_is hf w)
      have HR:=hid hr
      clear hr hd hf hx HB hm
      go_wp2_with fail
      with_reducible refine (cc _).out.mono ?_
      rintro e w1 ⟨rfl,hb1⟩
      go_wp2_with fail
      go_ret
      rw [HR.out]
      exact⟨rfl,hg.trans hb1⟩
    . have hr:Hid (badAt okA (l.drop (k+1)) (k+1)=badAt okA l 0):=hid (by rw [<- HB.out,hd];simp [badAt,hf])
      have cc:=λ w=>hid (unfit_is hf w)
      clear hd hf hx HB hm
      go_wp2_with fail
      with_reducible refine (cc _).out.mono ?_
      rintro e w1 ⟨rfl,hb1⟩
      go_wp2_with fail
      go_roundw
      case rel=>exact⟨k+1,by omega,by go_num,hr,hg.trans hb1⟩
      case measure=>simp [intOf];omega
  . obtain rfl:k=n:=by omega
    have hr:badAt okA l 0=-1:=by rw [<- HB.out,List.drop_of_length_le (by have:=hm.1;omega)];rfl
    have HR:=hid hr
    clear hr HB hm
    go_wp2_with fail
    go_ret
    rw [HR.out]
    exact⟨rfl,hg⟩
theorem ContainsFunc_ok (A:Option Addr) (n c:Nat) (l:List Ac) (w:World) (hm:Mem w A n l) (hn:n<=9223372036854775807) :
 Calls Tryz.prog 82 #[.slice A n c,.func (.func 83) #[] #[]] w λ e w'=>e=.returned (.bool (!l.all okA))/\Gr w w':=by
 have cc:=λ w hm=>hid (IndexFunc_ok A n c l w hm hn)
 have HB:=hid (badAt_is okA l 0)
 generalize badAt okA l 0=r at *
 go_enter Tryz.func82,Tryz.ntmps82
 go_wp2_with fail
 with_reducible refine (cc _ hm).out.mono ?_
 rintro e w1 ⟨rfl,hb1⟩
 go_wp2_with fail
 go_ret
 exact⟨ret_bool HB.out,hb1⟩
def okP (p:List Ac):Bool:=decide (p.length<=64)&&p.all okA
theorem rightB_okP (l:List (List Ac)):rightB l=(decide (l.length<=8)&&l.all okP):=rfl
theorem unfitProgram_is (x:PV) {B:Bool} (hB:okP x.l=B) (w:World) (hm:x.ok w) :
 Calls Tryz.prog 56 #[.slice x.A x.n x.c] w λ e w'=>e=.returned (.bool (!B))/\Gr w w':=by
 have hn:=hm.lt
 obtain⟨A,n,c,l⟩:=x
 have hm:=hm.1
 dsimp only at hm hn hB ⊢
 by_cases h64:n<=64
 . have hr:l.all okA=B:=by rw [<- hB];simp [okP,hm.1,h64]
   have cc:=λ w hm=>hid (ContainsFunc_ok A n c l w hm hn)
   have HR:=hid hr
   clear hr hB
   generalize l.all okA=B' at *
   have h65:¬ 64<n:=by omega
   go_enter Tryz.func56,Tryz.ntmps56
   go_wp2_with fail
   with_reducible refine (cc _ hm).out.mono ?_
   rintro e w1 ⟨rfl,hb1⟩
   go_wp2_with fail
   go_ret
   rw [HR.out]
   exact⟨ret_bool (by simp;intro h;omega),hb1⟩
 . have hr:false=B:=by rw [<- hB];simp [okP,hm.1,h64]
   have HR:=hid hr
   have h65:64<n:=by omega
   clear hr hB
   go_enter Tryz.func56,Tryz.ntmps56
   go_wp2_with fail
   go_ret
   rw [<- HR.out]
   exact⟨rfl,Gr.refl _⟩
def okV (x:PV):Bool:=okP x.l
theorem IndexFuncP_ok (A:Option Addr) (n c:Nat) (R:List PV) (w:World) (hm:PMem w A n R) (hn:n<=9223372036854775807) :
 Calls Tryz.prog 81 #[.slice A n c,.func (.func 56) #[] #[]] w λ e w'=>e=.returned (.int .i64 (badAt okV R 0))/\Gr w w':=by
 go_enter Tryz.func81,Tryz.ntmps81
 go_wp2_with fail
 go_loopw [8] (λ i wr=>∃ k:Nat,k<=n/\i=.int .i64 k/\Hid (badAt okV (R.drop k) k=badAt okV R 0)/\Gr w wr) (λ i _=>n-(intOf i).toNat)
 case atStart=>exact⟨0,Nat.zero_le _,rfl,hid rfl,Gr.refl _⟩
 case round =>
  obtain⟨k,hk,rfl,HB,hg⟩:=hrel
  by_cases hlt:k<n
  . obtain⟨b,off,x,rfl,hbl,hx,ho,c0⟩:=(hm.gr hg).at_ hlt
    have hd:R.drop k=x::R.drop (k+1):=by
     obtain⟨hl,rfl⟩:=List.getElem?_eq_some_iff.1 hx
     exact List.drop_eq_getElem_cons hl
    have cc:=λ w hm B hf=>hid (unfitProgram_is x (B:=B) hf w hm)
    cases hf:okP x.l
    . have hr:badAt okV R 0=(k:Int):=by rw [<- HB.out,hd];simp [badAt,okV,hf]
      have HR:=hid hr
      have cc:=λ w hm=>cc w hm _ hf
      clear hr hd hf hx HB hm
      go_wp2_with fail
      with_reducible refine (cc _ ho).out.mono ?_
      rintro e w1 ⟨rfl,hb1⟩
      go_wp2_with fail
      go_ret
      rw [HR.out]
      exact⟨rfl,hg.trans hb1⟩
    . have hr:Hid (badAt okV (R.drop (k+1)) (k+1)=badAt okV R 0):=hid (by rw [<- HB.out,hd];simp [badAt,okV,hf])
      have cc:=λ w hm=>cc w hm _ hf
      clear hd hf hx HB hm
      go_wp2_with fail
      with_reducible refine (cc _ ho).out.mono ?_
      rintro e w1 ⟨rfl,hb1⟩
      go_wp2_with fail
      go_roundw
      case rel=>exact⟨k+1,by omega,by go_num,hr,hg.trans hb1⟩
      case measure=>simp [intOf];omega
  . obtain rfl:k=n:=by omega
    have hr:badAt okV R 0=-1:=by rw [<- HB.out,List.drop_of_length_le (by have:=hm.len;omega)];rfl
    have HR:=hid hr
    clear hr HB hm
    go_wp2_with fail
    go_ret
    rw [HR.out]
    exact⟨rfl,hg⟩
theorem ContainsFuncP_ok (A:Option Addr) (n c:Nat) (R:List PV) (w:World) (hm:PMem w A n R) (hn:n<=9223372036854775807) :
 Calls Tryz.prog 55 #[.slice A n c,.func (.func 56) #[] #[]] w λ e w'=>e=.returned (.bool (!R.all okV))/\Gr w w':=by
 have cc:=λ w hm=>hid (IndexFuncP_ok A n c R w hm hn)
 have HB:=hid (badAt_is okV R 0)
 generalize badAt okV R 0=r at *
 go_enter Tryz.func55,Tryz.ntmps55
 go_wp2_with fail
 with_reducible refine (cc _ hm).out.mono ?_
 rintro e w1 ⟨rfl,hb1⟩
 go_wp2_with fail
 go_ret
 exact⟨ret_bool HB.out,hb1⟩
theorem Right_is {A:Option Addr} {n c:Nat} {R:List PV} {B:Bool} (hB:rightB (pl R)=B) (hn:n<=9223372036854775807) (w:World) (hm:PMem w A n R) :
 Calls Tryz.prog 34 #[.slice A n c] w λ e w'=>e=.returned (.bool B)/\Gr w w':=by
 have hall:(pl R).all okP=R.all okV:=by unfold pl;rw [List.all_map];rfl
 have hlen:(pl R).length=n:=by unfold pl;rw [List.length_map,hm.len]
 rw [rightB_okP,hall,hlen] at hB
 by_cases h64:n<=8
 . have hr:R.all okV=B:=by rw [<- hB];simp [h64]
   have cc:=λ w hm=>hid (ContainsFuncP_ok A n c R w hm hn)
   have HR:=hid hr
   clear hr hB hall
   generalize R.all okV=B' at *
   go_enter Tryz.func34,Tryz.ntmps34
   go_wp2_with fail
   with_reducible refine (cc _ hm).out.mono ?_
   rintro e w1 ⟨rfl,hb1⟩
   go_wp2_with fail
   go_ret
   rw [<- HR.out]
   exact⟨ret_bool (by simp),hb1⟩
 . have hr:false=B:=by rw [<- hB];simp [h64]
   have HR:=hid hr
   have h65:decide (n<=8)=false:=by simpa using h64
   clear hr hB hall
   go_enter Tryz.func34,Tryz.ntmps34
   go_wp2_with fail
   go_ret
   rw [<- HR.out]
   exact⟨rfl,Gr.refl _⟩
end P12
end
section
open Go.ChangeShapes Go.WideShapes Go.ChangeAt Go.RowKit
namespace P16
open P12 (PV PMem POwn fewP)
section
variable {W:World} {b:Nat} {x0 x1 x2 x3 x4 x5:Value}
theorem put6_blk {vs:Array Value} {t:TypeId} (h:Blk W b vs t) (h6:vs.size=6) (x0 x1 x2 x3 x4 x5:Value):Blk ((((((W.setCell ⟨b,0,none⟩ x0).setCell ⟨b,1,none⟩ x1).setCell ⟨b,2,none⟩ x2).setCell ⟨b,3,none⟩ x3).setCell ⟨b,4,none⟩ x4).setCell ⟨b,5,none⟩ x5) b #[x0,x1,x2,x3,x4,x5] t:=by
 have h2:=(((((h.set 0 x0).set 1 x1).set 2 x2).set 3 x3).set 4 x4).set 5 x5
 have e:((((((vs.setIfInBounds 0 x0).setIfInBounds 1 x1).setIfInBounds 2 x2).setIfInBounds 3 x3).setIfInBounds 4 x4).setIfInBounds 5 x5)=#[x0,x1,x2,x3,x4,x5]:=by
  obtain⟨c0,c1,c2,c3,c4,c5,rfl⟩:=array6 h6
  simp
 rw [e] at h2
 exact h2
theorem put6_gr {w:World} (g:Gr w W) (hb:w.heap.size<=b):Gr w ((((((W.setCell ⟨b,0,none⟩ x0).setCell ⟨b,1,none⟩ x1).setCell ⟨b,2,none⟩ x2).setCell ⟨b,3,none⟩ x3).setCell ⟨b,4,none⟩ x4).setCell ⟨b,5,none⟩ x5) :=
 (((((g.st (p:=⟨b,0,none⟩) hb x0).st (p:=⟨b,1,none⟩) hb x1).st (p:=⟨b,2,none⟩) hb x2).st (p:=⟨b,3,none⟩) hb x3).st (p:=⟨b,4,none⟩) hb x4).st (p:=⟨b,5,none⟩) hb x5
end
end P16
end
end Go.Proofs.YtainfijdhcehlaaGreatDoor
