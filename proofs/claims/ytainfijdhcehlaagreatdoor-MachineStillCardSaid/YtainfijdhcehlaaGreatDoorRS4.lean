/-
  A part of the proof.
-/
import Derived.Test.YtainfijdhcehlaaGreatDoorRS3
import Derived.Carry
import Derived.Stop.LaidErr
import Derived.LaidLaws
import Derived.SizedLaws
import Derived.ChangeMaps5
import Derived.Lay
import Derived.LaidMore
import Derived.Shelf.Vars
import Derived.SevenTiedAt
import Derived.LaidByTextLater
import Derived.Lib.SmallJoins
import Derived.Laws.StructEq
import Derived.Lib.AtoiAll
import Derived.Lib.CutLaws
import Derived.Laws.BytesArg
set_option linter.unusedVariables false
set_option linter.unusedSimpArgs false
set_option maxRecDepth 100000
set_option maxHeartbeats 8000000
namespace Go.Proofs.YtainfijdhcehlaaGreatDoor
open Lib (hid)
section
namespace P16
def Lk (w:Mw) (m:Nat):Bool:=(wd (w.cm m).word).L
def Sv (w:Mw) (m:Nat):Bool:=(wd (w.cm m).word).S
structure StpR (w:Mw) (who:Nat) (w':Mw) (ev:Option (Int×Int×Int)):Prop where
 inv:WInv w'
 pr:w'.progs=w.progs
 nw:w'.now=w.now
 still:w.stop≠0->w'=w/\ev=none
 kind:(ev=none/\w'.stop=w.stop/\∀ m,m<4->Lk w' m=Lk w m) \/
  (∃ n:Nat,n<4/\ev=some ((who:Int),4,(n:Int))/\w.stop=0/\w'={ w with stop:=11 }/\Lk w n=false) \/
  (∃ (n:Nat) (e:Int),n<4/\ev=some ((who:Int),e,(n:Int))/\w.stop=0/\w'.stop=0/\HeldR (some e) (Lk w n) (Lk w' n)/\∀ m,m≠n->w'.cm m=w.cm m)
 hands:(∀ m,m<4->w'.cm m=w.cm m)\/∃ c,w.cl[who]?=some c/\∀ m,m<4 ->
  (Sv w m=false->Sv w' m=true->c.pc=2/\c.st=true)/\(Sv w m=true->Sv w' m=false->c.pc=8) /\
  (∀ e,ev=some ((who:Int),e,(m:Int))->Sv w m=true->e≠1/\(e=0->c.pc=8))
section
variable {w:Mw} {who i m:Nat} {c:Cl} {p:List Ac}
theorem view_at (hc:w.cl[i]?=some c) (hp:w.progs[i]?=some p):view w m i=vwp p c m:=by unfold view;rw [hc,hp]
theorem StpR.same (h:WInv w) (he:w.stop≠0->True):StpR w who w none :=
 ⟨h,rfl,rfl,λ _=>⟨rfl,rfl⟩,.inl ⟨rfl,rfl,λ _ _=>rfl⟩,.inl λ _ _=>rfl⟩
theorem view_set (hi:who<w.cl.length) {c':Cl} {cm:Nat->Cm} (hp:w.progs[who]?=some p):view { w with cl:=w.cl.set who c',cm:=cm } m=upd (view w m) who (vwp p c' m):=by
 funext j;by_cases e:j=who
 . subst e
   rw [upd_at];unfold view;dsimp only;rw [List.getElem?_set_self hi,hp]
 . rw [upd_off e]
   unfold view;dsimp only;rw [List.getElem?_set_ne (λ q=>e q.symm)]
theorem stp_inv (h:WInv w) (who:Nat):StpR w who (stp w who).1 (stp w who).2:=by
 unfold stp
 cases hcw:w.cl[who]? with
 | none=>exact StpR.same h (λ _=>trivial)
 | some c =>
  have hlt:who<w.cl.length:=(List.getElem?_eq_some_iff.1 hcw).1;have hlt':who<w.progs.length:=by rw [<- h.len];exact hlt
  cases hpw:w.progs[who]? with
  | none=>exact absurd hpw (by rw [List.getElem?_eq_getElem hlt'];intro q;cases q)
  | some p =>
   dsimp only;have hc:=h.ci who c p hcw hpw;by_cases hst:w.stop≠0\/c.gst≠0
   . rw [if_pos hst];exact StpR.same h (λ _=>trivial)
   . rw [if_neg hst]
     have hs0:w.stop=0:=Classical.not_not.1 λ q=>hst (.inl q)
     have hg:c.gst=0:=Classical.not_not.1 λ q=>hst (.inr q)
     cases hact:p[c.act.toNat]? with
     | none=>exact StpR.same h (λ _=>trivial)
     | some a =>
      obtain⟨k,n⟩:=a;dsimp only;have hok:=h.pr p (List.mem_of_getElem? hpw) (k,n) (List.mem_of_getElem? hact);by_cases hk3:k=3
      . rw [if_pos hk3]
        subst hk3;have cw:CInv p (work n p.length c)/\(work n p.length c).pc=0:=by
         unfold work;have hpc:c.pc=0:=by
          rcases hc.pcs 3 n hact with e | ⟨e,_⟩ | ⟨e,_⟩ | ⟨e,_⟩
          . exact e
          . cases e
          . cases e
          . cases e
         split
         . exact⟨(show CInv p (over { c with worked:=c.worked+1 } p.length) from hc.over hg),rfl⟩
         . rename_i hn
           refine⟨⟨hc.a0,hc.a1,hc.pm,hc.g,hc.dn,hc.pk,hc.pcs,hc.fin,hc.tb,hc.sc,hc.rd,hc.ol,hc.fr,.inr ⟨?_,n,hact,?_⟩,hc.tr⟩,hpc⟩
           . show 0<c.worked+1
             rcases hc.wk with e | ⟨e,_⟩<;>omega
           . show c.worked+1<n
             have n0:0<=n:=hok.2.1;have h1:n≠0:=λ q=>hn (.inl q)
             have h2:c.worked+1≠n:=λ q=>hn (.inr q)
             rcases hc.wk with e | ⟨e,n',e',e''⟩
             . omega
             . rw [hact] at e';cases e';omega
        have hv:∀ m,view { w with cl:=w.cl.set who (work n p.length c) } m=view w m:=λ m=>by
         have e:=view_set (m:=m) (c':=work n p.length c) (cm:=w.cm) hlt hpw;have e2:vwp p (work n p.length c) m=view w m who:=by
          rw [vwp_start cw.2,view_at hcw hpw,vwp_at hact];unfold vw;split
          . rfl
          . rw [if_neg (by decide),if_neg (by decide),if_neg (by decide)]
         rw [e2,upd_self] at e;exact e
        refine⟨⟨by show (w.cl.set who _).length=_;rw [List.length_set];exact h.len,h.l8,h.pr,λ j c' p' hj hp'=>?_,h.ow,λ m hm=>?_,h.st,h.tm⟩,rfl,rfl,λ q=>absurd hs0 q,.inl ⟨rfl,rfl,λ _ _=>rfl⟩,.inl λ _ _=>rfl⟩
        . by_cases e:j=who
          . subst e
            rw [List.getElem?_set_self hlt] at hj;cases hj;rw [hpw] at hp';cases hp';exact cw.1
          . rw [List.getElem?_set_ne (λ q=>e q.symm)] at hj
            exact h.ci j c' p' hj hp'
        . rw [hv m];exact h.iv m hm
      . rw [if_neg hk3]
        have hn:0<=n/\n<4:=⟨hok.2.1,hok.2.2 hk3⟩;obtain⟨m,rfl⟩:∃ m:Nat,n=(m:Int):=⟨n.toNat,by omega⟩;have hm:m<4:=by omega
        rw [Int.toNat_natCast];have hiv:=h.iv m hm;have how:=h.ow m hm;have hvi:view w m who=vwp p c m:=view_at hcw hpw;have hres:(touch w.now (runs w.cl) p.length who k c (w.cm m)=.fault/\Lk w m=false)\/∃ o,touch w.now (runs w.cl) p.length who k c (w.cm m)=.ok o/\StepOk w.progs.length who m p k c (w.cm m) (view w m) o:=by
         unfold touch;rcases hok.1 with e | e | e | e
         . have e:k=0:=e
           subst e;rw [if_pos rfl];exact .inr (lock_any h.l8 hlt' hiv how hc hg hact hvi h.tm)
         . have e:k=1:=e
           subst e;rw [if_neg (by decide),if_pos rfl];exact .inr (try_any h.l8 hlt' hiv how hc hg hact hvi)
         . have e:k=2:=e
           subst e;rw [if_neg (by decide),if_neg (by decide)];rcases give_any h.l8 hlt' hiv how hc hg hact hvi with ⟨e1,e2,_⟩ | q
           . exact .inl ⟨e1,e2⟩
           . exact .inr q
         . exact absurd e hk3
        rcases hres with ⟨hf,hL⟩ | ⟨o,ho,hs⟩
        . rw [hf]
          refine⟨⟨h.len,h.l8,h.pr,h.ci,h.ow,h.iv,.inr rfl,h.tm⟩,rfl,rfl,λ q=>absurd hs0 q,.inr (.inl ⟨m,hm,rfl,hs0,rfl,hL⟩),.inl λ _ _=>rfl⟩
        . rw [ho]
          dsimp only;have hcm:∀ m',(if m'=m then o.m else w.cm m')=if m'=m then o.m else w.cm m':=λ _=>rfl
          have kindR:∀ w':Mw,w'.stop=w.stop->(∀ m',w'.cm m'=if m'=m then o.m else w.cm m') ->
           (o.ev.map (λ e=>((who:Int),e,(m:Int)))=none/\w'.stop=w.stop/\∀ m',m'<4->Lk w' m'=Lk w m') \/
           (∃ n:Nat,n<4/\o.ev.map (λ e=>((who:Int),e,(m:Int)))=some ((who:Int),4,(n:Int))/\w.stop=0/\w'={ w with stop:=11 }/\Lk w n=false) \/
           (∃ (n:Nat) (e:Int),n<4/\o.ev.map (λ e=>((who:Int),e,(m:Int)))=some ((who:Int),e,(n:Int))/\w.stop=0/\w'.stop=0/\HeldR (some e) (Lk w n) (Lk w' n)/\∀ m',m'≠n->w'.cm m'=w.cm m'):=λ w' hw1 hw2=>by
           have hL':Lk w' m=(wd o.m.word).L:=by unfold Lk;rw [hw2,if_pos rfl]
           cases hev:o.ev with
           | none =>
            refine .inl ⟨rfl,hw1,λ m' _=>?_⟩;by_cases e:m'=m
            . subst e
              rw [hL'];have q:=hs.he;rw [hev] at q;rcases q with ⟨_,q⟩ | ⟨q,_⟩ | ⟨q,_⟩ | ⟨q,_⟩ | ⟨q,_⟩
              . exact q
              all_goals cases q
            . unfold Lk;rw [hw2,if_neg e]
           | some e =>
            refine .inr (.inr ⟨m,e,hm,rfl,hs0,by rw [hw1,hs0],?_,λ m' hne=>by rw [hw2,if_neg hne]⟩);rw [hL',<- hev];exact hs.he
          have handsR:∀ w':Mw,(∀ m',w'.cm m'=if m'=m then o.m else w.cm m')->∃ c,w.cl[who]?=some c/\∀ m',m'<4 ->
           (Sv w m'=false->Sv w' m'=true->c.pc=2/\c.st=true)/\(Sv w m'=true->Sv w' m'=false->c.pc=8) /\
           (∀ e,o.ev.map (λ e=>((who:Int),e,(m:Int)))=some ((who:Int),e,(m':Int))->Sv w m'=true->e≠1/\(e=0->c.pc=8)):=λ w' hw2=>by
           refine⟨c,hcw,λ m' _=>?_⟩;by_cases e:m'=m
           . subst e
             have hS':Sv w' m'=(wd o.m.word).S:=by unfold Sv;rw [hw2,if_pos rfl]
             obtain⟨q1,q2,q3,q4⟩:=hs.ha;refine⟨λ a b=>(q1 a (hS'▸b)).2,λ a b=>(q2 a (hS'▸b)).2,λ e he hS=>?_⟩
             cases hev:o.ev with
             | none=>rw [hev] at he;cases he
             | some e' =>
              rw [hev] at he;cases he;exact⟨λ q=>q3 hS (by rw [hev,q]),λ q=>(q4 hS (by rw [hev,q])).2⟩
           . have hS':Sv w' m'=Sv w m':=by unfold Sv;rw [hw2,if_neg e]
             refine⟨(λ a b=>by rw [hS',a] at b;cases b),(λ a b=>by rw [hS',a] at b;cases b),λ e' he _=>?_⟩
             cases hev:o.ev with
             | none=>rw [hev] at he;cases he
             | some e'' =>
              rw [hev] at he;injection he with he
              injection he with _ he
              injection he with _ he
              exact absurd (by omega) e
          have ciW:∀ (j:Nat) c' p',(w.cl.set who o.c)[j]?=some c'->w.progs[j]?=some p'->CInv p' c':=λ j c' p' hj hp'=>by
           by_cases e:j=who
           . subst e
             rw [List.getElem?_set_self hlt] at hj;cases hj;rw [hpw] at hp';cases hp';exact hs.ci
           . rw [List.getElem?_set_ne (λ q=>e q.symm)] at hj
             exact h.ci j c' p' hj hp'
          have owW:∀ m',m'<4->OkW (if m'=m then o.m else w.cm m').word:=λ m' hm'=>by
           by_cases e:m'=m
           . rw [if_pos e];exact hs.ow
           . rw [if_neg e];exact h.ow m' hm'
          rcases hs.iv with ⟨hr,hinv⟩ | ⟨j,hj,hne,hr,hvj,hinv⟩
          . rw [hr]
            dsimp only;refine⟨⟨by show (w.cl.set who _).length=_;rw [List.length_set];exact h.len,h.l8,h.pr,ciW,owW,λ m' hm'=>?_,h.st,h.tm⟩,rfl,rfl,λ q=>absurd hs0 q,kindR _ rfl (λ _=>rfl),.inr (handsR _ (λ _=>rfl))⟩;rw [view_set hlt hpw];show Inv w.progs.length (mx (if m'=m then o.m else w.cm m')) _;by_cases e:m'=m
            . subst e;rw [if_pos rfl];exact hinv
            . rw [if_neg e,hs.far m' e]
              have e2:view w m' who=.out:=by rw [view_at hcw hpw,vwp_at hact];exact vw_far (by omega)
              rw [<- e2,upd_self];exact h.iv m' hm'
          . have hjl:j<w.cl.length:=by rw [h.len];exact hj
            obtain⟨cj,hcj⟩:∃ cj,w.cl[j]?=some cj:=⟨_,List.getElem?_eq_getElem hjl⟩;obtain⟨pj,hpj⟩:∃ pj,w.progs[j]?=some pj:=⟨_,List.getElem?_eq_getElem hj⟩;have hcij:=h.ci j cj pj hcj hpj;rw [view_at hcj hpj] at hvj;have hvj0:=hvj;obtain⟨kj,nj,haj,hkj⟩:∃ kj nj,pj[cj.act.toNat]?=some (kj,nj)/\vw kj nj cj m=.wok true:=by
             unfold vwp at hvj
             cases haj:pj[cj.act.toNat]? with
             | none=>rw [haj] at hvj;cases hvj
             | some a=>rw [haj] at hvj;exact⟨a.1,a.2,rfl,hvj⟩
            obtain⟨rfl,rfl,hpcj,hgj⟩:nj=(m:Int)/\kj=0/\cj.pc=7/\cj.gst=1:=by
             unfold vw at hkj;by_cases h1:nj≠m
             . rw [if_pos h1] at hkj;cases hkj
             . rw [if_neg h1] at hkj
               by_cases h2:kj=0
               . rw [if_pos h2] at hkj
                 refine⟨Classical.not_not.1 h1,h2,?_⟩;by_cases h7:cj.pc=7
                 . rw [h7] at hkj
                   refine⟨h7,?_⟩;have hkj:V.wok (decide (cj.gst=1))=.wok true:=hkj;injection hkj with hkj
                   exact of_decide_eq_true hkj
                 . exfalso
                   revert hkj
                   split
                   . intro q;cases q
                   . split
                     . intro q;cases q
                     . split
                       . intro q;cases q
                       . split
                         . intro q;cases q
                         . split
                           . intro q;cases q
                           . split
                             . intro q;cases q
                             . split<;>(intro q;cases q)
               . rw [if_neg h2] at hkj
                 by_cases h3:kj=1
                 . rw [if_pos h3] at hkj;split at hkj<;>cases hkj
                 . rw [if_neg h3] at hkj
                   by_cases h4:kj=2
                   . rw [if_pos h4] at hkj
                     revert hkj
                     split
                     . intro q;cases q
                     . split
                       . intro q;cases q
                       . split
                         . intro q;cases q
                         . split
                           . intro q;cases q
                           . split
                             . intro q;cases q
                             . split<;>(intro q;cases q)
                   . rw [if_neg h4] at hkj;cases hkj
            rw [hr];dsimp only;have hget:(w.cl.set who o.c)[((j:Int)).toNat]?=some cj:=by
             rw [Int.toNat_natCast,List.getElem?_set_ne (λ q=>hne q.symm)];exact hcj
            have htold:told cj=some { cj with gst:=0 }:=by
             unfold told;rw [if_neg (by rw [hgj];rintro (q | ⟨q,_⟩)<;>cases q),if_neg (by rw [hgj];decide)]
            rw [hget];simp only [Option.bind_some,htold,Int.toNat_natCast];have hlj:j<(w.cl.set who o.c).length:=by rw [List.length_set];exact hjl
            have vj:∀ m',vwp pj { cj with gst:=0 } m'=if m'=m then .wok false else .out:=λ m'=>by
             rw [vwp_same (c':={ cj with gst:=0 }) haj rfl];by_cases e:m'=m
             . subst e;rw [if_pos rfl];exact vl7 (c:={ cj with gst:=0 }) hpcj
             . rw [if_neg e];exact vw_far (by omega)
            refine⟨⟨by show ((w.cl.set who _).set j _).length=_;rw [List.length_set,List.length_set];exact h.len,h.l8,h.pr,λ i c' p' hi hp'=>?_,owW,λ m' hm'=>?_,h.st,h.tm⟩,rfl,rfl,λ q=>absurd hs0 q,kindR _ rfl (λ _=>rfl),.inr (handsR _ (λ _=>rfl))⟩
            . by_cases e:i=j
              . subst e
                rw [List.getElem?_set_self hlj] at hi;cases hi;rw [hpj] at hp';cases hp';have ne:cj.act≠pj.length:=λ q=>by
                 have:=hcij.dn.2 q;omega
                exact⟨hcij.a0,hcij.a1,hcij.pm,.inl rfl,⟨λ q=>(by cases q),λ q=>absurd q ne⟩,λ q=>(by cases q),hcij.pcs,hcij.fin,hcij.tb,hcij.sc,hcij.rd,hcij.ol,hcij.fr,hcij.wk,hcij.tr⟩
              . rw [List.getElem?_set_ne (λ q=>e q.symm)] at hi
                exact ciW i c' p' hi hp'
            . have hvw:view { w with cl:=(w.cl.set who o.c).set j { cj with gst:=0 },cm:=λ j=>if j=m then o.m else w.cm j } m'=upd (upd (view w m') j (vwp pj { cj with gst:=0 } m')) who (vwp p o.c m'):=by
               have e1:=view_set (w:={ w with cl:=w.cl.set who o.c }) (who:=j) (m:=m') (c':={ cj with gst:=0 }) (cm:=λ j=>if j=m then o.m else w.cm j) (p:=pj) hlj hpj;have e2:=view_set (m:=m') (c':=o.c) (cm:=w.cm) hlt hpw;refine e1.trans ?_;have e2:view { w with cl:=w.cl.set who o.c } m'=upd (view w m') who (vwp p o.c m'):=e2;rw [e2];funext x;by_cases x1:x=who
               . subst x1;rw [upd_off (λ q=>hne q.symm),upd_at,upd_at]
               . by_cases x2:x=j
                 . subst x2;rw [upd_at,upd_off x1,upd_at]
                 . rw [upd_off x2,upd_off x1,upd_off x1,upd_off x2]
              rw [hvw,vj m'];show Inv w.progs.length (mx (if m'=m then o.m else w.cm m')) _;by_cases e:m'=m
              . subst e;rw [if_pos rfl,if_pos rfl];exact hinv
              . rw [if_neg e,if_neg e,hs.far m' e]
                have e2:view w m' who=.out:=by rw [view_at hcw hpw,vwp_at hact];exact vw_far (by omega)
                have e3:view w m' j=.out:=by rw [view_at hcj hpj,vwp_at haj];exact vw_far (by omega)
                have e4:upd (view w m') j .out=view w m':=by rw [<- e3];exact upd_self
                rw [e4,<- e2,upd_self];exact h.iv m' hm'
end
end P16
end
section
namespace P16
section
variable {l:List (List Ac)} {p:List Ac} {w:Mw} {who:Nat}
theorem new_cl {i:Nat} {c:Cl} (h:(new l).cl[i]?=some c):∃ p,l[i]?=some p/\c=first 0 false 0 p.length:=by
 have h:(l.map λ p=>first 0 false 0 p.length)[i]?=some c:=h;rw [List.getElem?_map] at h
 cases hp:l[i]? with
 | none=>rw [hp] at h;cases h
 | some p=>rw [hp] at h;cases h;exact⟨p,rfl,rfl⟩
theorem first_inv (p:List Ac):CInv p (first 0 false 0 p.length):=by
 refine⟨Int.le_refl _,by show (0:Int)<=_;omega,?_,?_,?_,?_,λ k n _=>.inl rfl,λ _=>rfl,⟨Int.le_refl _,by show (0:Int)<4294967296;decide⟩,.inl rfl,⟨Int.le_refl _,by show (0:Int)<=4;decide⟩,⟨Int.le_refl _,by show (0:Int)<2147483648;decide⟩,λ _=>⟨rfl,rfl⟩,.inl rfl,λ q=>by cases q⟩
 . show (if (0:Int)=p.length then false else false)=false
   split<;>rfl
 . show (if (0:Int)=p.length then (2:Int) else 0)=0\/(if (0:Int)=p.length then (2:Int) else 0)=1\/(if (0:Int)=p.length then (2:Int) else 0)=2
   split
   . exact .inr (.inr rfl)
   . exact .inl rfl
 . show (if (0:Int)=p.length then (2:Int) else 0)=2↔(0:Int)=p.length
   split
   . rename_i e;exact⟨λ _=>e,λ _=>rfl⟩
   . rename_i e;exact⟨(λ q=>by cases q),λ q=>absurd q e⟩
 . show (if (0:Int)=p.length then (2:Int) else 0)=1->_
   split
   . intro q;cases q
   . intro q;cases q
theorem WInv.new (h8:l.length<=8) (hok:∀ p,p∈l->∀ a,a∈p->OkA a):WInv (new l):=by
 refine⟨by show (l.map _).length=l.length;rw [List.length_map],h8,hok,λ i c p hc hp=>?_,λ m _=>⟨Int.le_refl _,by show (0:Int)<2147483648;decide⟩,λ m _=>?_,.inl rfl,⟨Int.le_refl _,by show (0:Int)<=4611686018427387904;decide⟩⟩
 . obtain⟨p',hp',rfl⟩:=new_cl hc
   have hp:l[i]?=some p:=hp;rw [hp] at hp';cases hp';exact first_inv p
 . have e:mx ((P16.new l).cm m)={ w:={ L:=false,K:=false,S:=false,n:=0 },nx:=0,sv:=0,c:=0,l:=[] }:=by
    show (⟨wd 0,0,0,0,[]⟩:Mx)=_;rw [wd0]
   rw [e];refine Inv.first λ i _=>?_
   unfold view;split
   . rename_i c p hc hp
     obtain⟨p',_,rfl⟩:=new_cl hc;exact vwp_start rfl
   . rfl
end
end P16
end
section
namespace P16
section
variable {p:List Ac} {a k:Nat} {n now:Int} {hd:Option Nat}
theorem cAt_lt (h:a<p.length):cAt a k p.length={ gst:=0,permit:=false,act:=a,pc:=0,worked:=k,ticket:=0,first:=false,told:=false,since:=-1,st:=false,aw:=false,rounds:=0,old:=0 }:=by
 have:¬ (a:Int)=p.length:=by omega
 unfold cAt first;simp [this]
theorem over_cAt (h:a<p.length):over (cAt a k p.length) p.length=cAt (a+1) 0 p.length:=by
 rw [cAt_lt h];unfold over cAt;simp only [Int.natCast_add];unfold first;congr 1
theorem new_one:P16.new [p]=W1 p 0 0 none 0:=by
 unfold P16.new W1 cAt;congr 1
theorem cAt_facts (h:a<p.length):(cAt a k p.length).gst=0/\(cAt a k p.length).pc=0/\(cAt a k p.length).worked=k/\(cAt a k p.length).act.toNat=a:=by
 rw [cAt_lt h];exact⟨rfl,rfl,rfl,by simp⟩
theorem alone_touch {kk e:Int} {hd':Option Nat} (ha:p[a]?=some (kk,n)) (hk:kk≠3)
 (ht:∀ r:Nat,touch now r p.length ((0:Nat):Int) kk (cAt a 0 p.length) ⟨if hd=some n.toNat then 1 else 0,0,0,0,[]⟩=.ok ⟨cAt (a+1) 0 p.length,⟨if hd'=some n.toNat then 1 else 0,0,0,0,[]⟩,none,some e⟩)
 (hh:∀ m,m≠n.toNat->(hd=some m↔hd'=some m)):stp (W1 p a 0 hd now) 0=(W1 p (a+1) 0 hd' now,some (0,e,n)):=by
 have hlt:a<p.length:=(List.getElem?_eq_some_iff.1 ha).1;obtain⟨f1,f2,f3,f4⟩:=cAt_facts (p:=p) (k:=0) hlt;have hcm:(λ j=>if j=n.toNat then (⟨if hd'=some n.toNat then 1 else 0,0,0,0,[]⟩:Cm) else ⟨if hd=some j then 1 else 0,0,0,0,[]⟩)=λ m=>⟨if hd'=some m then 1 else 0,0,0,0,[]⟩:=by
  funext j;by_cases e:j=n.toNat
  . rw [if_pos e,e]
  . rw [if_neg e]
    have:=hh j e;by_cases q:hd=some j
    . rw [if_pos q,if_pos (this.1 q)]
    . rw [if_neg q,if_neg (λ q'=>q (this.2 q'))]
 unfold stp W1;simp only [List.getElem?_cons_zero,List.set_cons_zero,f1,f4,ha,ht,ne_eq,not_true_eq_false,or_self,if_false,if_neg hk,hcm,Option.map];rfl
theorem alone_lock (ha:p[a]?=some (0,n)):stp (W1 p a 0 none now) 0=(W1 p (a+1) 0 (some n.toNat) now,some (0,0,n)):=by
 have hlt:a<p.length:=(List.getElem?_eq_some_iff.1 ha).1;obtain⟨f1,f2,f3,f4⟩:=cAt_facts (p:=p) (k:=0) hlt;refine alone_touch ha (by decide) (λ r=>?_) (λ m hm=>⟨(λ q=>by cases q),(λ q=>by cases q;exact absurd rfl hm)⟩);unfold touch lock;rw [if_pos rfl,if_pos f2,over_cAt hlt];simp [go]
theorem alone_give (ha:p[a]?=some (2,n)):stp (W1 p a 0 (some n.toNat) now) 0=(W1 p (a+1) 0 none now,some (0,3,n)):=by
 have hlt:a<p.length:=(List.getElem?_eq_some_iff.1 ha).1;obtain⟨f1,f2,f3,f4⟩:=cAt_facts (p:=p) (k:=0) hlt;refine alone_touch ha (by decide) (λ r=>?_) (λ m hm=>⟨(λ q=>by cases q;exact absurd rfl hm),(λ q=>by cases q)⟩);unfold touch give unlock;rw [if_neg (by decide),if_neg (by decide),if_pos f2,over_cAt hlt];simp [go,wd]
end
end P16
end
section
open Go.ChangeShapes Go.WideShapes Go.ChangeAt Go.RowKit
theorem laidOut:laidOutB Tryz.prog=true:=by kernel_rfl
section
variable {H:Type} {enc:TypeId×Value->H} {P:Program} {W W':World}
theorem trodAll_stays (hl:laidOutB P=true) (hb:Below W.heap.size W W') (sp:Nat->Bool):∀ {ts:List TypeId} {vs:List Value} {ds:List (DataW H)} {ps:List MemPlace},
 (ts.all λ t=>P.readableRec t&&decide (t<P.types.size))=true->DataW.TrodAll enc P W 0 (λ _=>true) true ts vs ds ps->(∀ x∈ps,x.block<W.heap.size)->(∀ x∈ps,sp x.block=true) ->
 DataW.TrodAll enc P W' 0 sp true ts vs ds ps
 | [],[],[],_,_,h,_,_=>h
 | t::ts,v::vs,d::ds,_,hr,⟨p,q,h1,h2,e⟩,hlt,hs=>by
  simp only [List.all_cons,Bool.and_eq_true,decide_eq_true_eq] at hr;exact⟨p,q,WideElems.Trod_stays hl hr.1.1 hr.1.2 h1 (λ x hx=>hb.same (hlt x (by rw [e];exact List.mem_append_left _ hx))) (λ x hx=>hs x (by rw [e];exact List.mem_append_left _ hx)),
   trodAll_stays hl hb sp hr.2 h2 (λ x hx=>hlt x (by rw [e];exact List.mem_append_right _ hx)) (λ x hx=>hs x (by rw [e];exact List.mem_append_right _ hx)),e⟩
end
end
section
open Go.ChangeShapes Go.WideShapes Go.ChangeAt Go.RowKit Go.Joins
namespace LW
theorem returns_laid_shaped {H:Type} {enc:TypeId×Value->H} {a:Assume} {C:Checked} {os:Os} {f:FuncId} {fn:Func} {s:ChangeSpec} {conds:List PathCond} {apart fresh handsOn again:Bool} {X:World->Array Value->Prop}
 (hX:∀ (w w':World) (args:Array Value),w.heap=w'.heap->X w args->X w' args)
 (ow:ownKnob C.prog.godebug=none) (started:os.Started) (noInit:C.prog.inits.idxOf? f=none) (hfn:C.prog.funcs[f]?=some fn)
 (witness:∃ (w:World) (tape:Tape) (i:Input),w.os=os/\(w.forCall tape i).Shaped C.prog/\i.vars=[]/\Input.okWide C.prog (w.forCall tape i) .any w.heap.size f i /\
   ((s.pre enc C.prog fn conds apart (w.forCall tape i).memory i.args/\X (w.forCall tape i).memory i.args)/\sizedMet enc C.prog fn (OpenSpec.ofChange s) apart (w.forCall tape i).memory i.args)/\a.holds C.prog (lone (Frame.enter C.prog f i.args .normal) [] (w.forCall tape i)))
 (contract:∀ (W:World) (base:Nat) (args:Array Value) (ds gs:List (DataW H)) (before:List MemPlace),
   (∀ (j:Nat) t v,fn.params[j]?=some t->args[j]?=some v->Value.okWide C.prog W .any base t v) ->
   DataW.Whole enc C.prog fn.params.toList s.vars apart W args.toList ds gs before->X W args->W.ShapedOpen C.prog ->
   Calls C.prog f args W λ e W'=>∃ v,e=.returned v/\s.post enc C.prog fn apart fresh handsOn again W args v W') :
 ReturnsInHanded a C os f .any (λ w args=>(s.pre enc C.prog fn conds apart w args/\X w args)/\sizedMet enc C.prog fn (OpenSpec.ofChange s) apart w args) (s.post enc C.prog fn apart fresh handsOn again):=by
 refine returnsInHanded_of_calls ow started noInit witness ?_;intro w tape i _ hsh _ hok hpre _;obtain⟨_,_,_,fn',hfn',_,_,_,_,hval⟩:=hok;obtain rfl:fn'=fn:=Option.some.inj (hfn'.symm.trans hfn);obtain⟨⟨⟨ds,gs,before,hw,_⟩,hx⟩,_⟩:=hpre;refine (contract (w.forCall tape i) w.heap.size i.args ds gs before hval (DataW.Whole.of_heap (w':=w.forCall tape i) (by rfl) hw) (hX _ _ _ (by rfl) hx) hsh).mono λ e W' ⟨v,he,hp⟩=>?_
 subst he;exact ChangeSpec.post_blind hp
end LW
end
section
open Go.ChangeShapes Go.WideShapes Go.ChangeAt Go.RowKit
namespace P16
open P12 (PV PMem)
theorem mxAt_zero (m:Nat):mxAt [(0,0,0),(0,0,0),(0,0,0),(0,0,0)] m=(0,0,0):=by
 unfold mxAt
 match m with
 | 0=>rfl
 | 1=>rfl
 | 2=>rfl
 | 3=>rfl
 | n+4=>rfl
theorem mw_new (l:List (List Ac)):mw (newW l)=P16.new l:=by
 unfold mw newW P16.new;congr 1;funext m;dsimp only;rw [mxAt_zero];rfl
structure Fine (ω:Wv):Prop where
 inv:WInv (mw ω)
 progs:P12.rightB ω.progs=true
 m4:ω.mx.length=4
 tab:TabA ω.tb
theorem okA_OkA {a:Ac} (h:P12.okA a=true):OkA a:=by
 rcases P12.okA_iff.1 h with h | h<;>unfold OkA<;>omega
theorem Fine.new {l:List (List Ac)} (h:P12.rightB l=true):Fine (newW l):=by
 refine⟨?_,h,rfl,Tab.nil,λ s hs=>by cases hs⟩;rw [mw_new];obtain⟨h1,h2⟩:=right_facts h;exact WInv.new h1 λ p hp a ha=>okA_OkA ((h2 p hp).2 a ha)
section
variable {ω ψ:Wv} {who d:Int} {ev:List T3} {x:Int}
theorem Fine.right (h:Fine ω):RightW ω:=by
 have hi:=h.inv;refine⟨hi.tm,h.progs,hi.len,h.m4,h.tab,λ s hs y hy=>?_,λ c hc=>?_,λ i c p hc hp=>?_,λ y hy=>?_,?_⟩
 . obtain⟨m,hm,e⟩:=h.tab.2 s hs
   have hmem:(⟨s.1,s.2.1,none,0,0,s.2.2⟩:SV)∈svs ω.tb:=List.mem_map.2 ⟨s,hs,rfl⟩;have hg:=gt_mem h.tab.1.2 hmem;have hL:=(hi.iv m hm).L.lm y;have e2:(mw ω).cm m=⟨(mxAt ω.mx m).1,(mxAt ω.mx m).2.1,(mxAt ω.mx m).2.2,s.2.1,s.2.2⟩:=by
    show (⟨_,_,_,(gtA ω.tb m).1,(gtA ω.tb m).2⟩:Cm)=_;unfold gtA;rw [<- e];rw [hg]
   rw [e2] at hL;obtain⟨i,hi1,rfl,_⟩:=hL.1 hy;have:ω.cl.length=ω.progs.length:=hi.len;have hi1:i<ω.progs.length:=hi1;omega
 . obtain⟨i,hc⟩:=List.getElem?_of_mem hc
   have hlt:=(List.getElem?_eq_some_iff.1 hc).1;have hl:ω.cl.length=ω.progs.length:=hi.len;have hci:=hi.ci i c (ω.progs[i]'(by omega)) hc (List.getElem?_eq_getElem _);exact⟨hci.g,λ q=>by rw [hci.pm] at q;cases q⟩
 . have hci:=hi.ci i c p hc hp
   refine⟨hci.a0,hci.a1,hci.dn.symm,hci.tb,hci.sc,hci.rd,hci.ol,λ e=>⟨hci.fin e,?_⟩,λ k n ha=>⟨hci.pcs k n ha,?_⟩⟩
   . rcases hci.wk with q | ⟨_,n,q,_⟩
     . exact q
     . have:=(List.getElem?_eq_some_iff.1 q).1
       omega
   . rcases hci.wk with q | ⟨q0,n',q,q2⟩
     . exact .inl q
     . rw [ha] at q
       cases q;exact .inr ⟨rfl,q0,q2⟩
 . obtain⟨m,hy⟩:=List.getElem?_of_mem hy
   have hlt:=(List.getElem?_eq_some_iff.1 hy).1;have hm:m<4:=by rw [<- h.m4];exact hlt
   have e:mxAt ω.mx m=y:=mxAt_get hy;have h1:=hi.ow m hm;have h2:=(hi.iv m hm).T.nb;have h3:=(hi.iv m hm).T.sb;have h1:OkW (mxAt ω.mx m).1:=h1;have h2:0<=(mxAt ω.mx m).2.1/\(mxAt ω.mx m).2.1<4294967296:=h2;have h3:0<=(mxAt ω.mx m).2.2/\(mxAt ω.mx m).2.2<4294967296:=h3;rw [e] at h1 h2 h3;exact⟨h1,h2,h3⟩
 . rcases hi.st with q | q
   . exact .inl q
   . exact .inr (.inl q)
theorem still_stp (h:RightW ω) (hs:Still ω who) (h0:0<=who):stp (mw ω) who.toNat=(mw ω,none):=by
 unfold stp
 cases hc:(mw ω).cl[who.toNat]? with
 | none=>rfl
 | some c =>
  cases hp:(mw ω).progs[who.toNat]? with
  | none=>rfl
  | some p =>
   have hc:ω.cl[who.toNat]?=some c:=hc;have hlt:=(List.getElem?_eq_some_iff.1 hc).1;dsimp only;rw [if_pos];rcases hs with q | q | q | ⟨c',q1,q2⟩
   . exact .inl q
   . omega
   . omega
   . rw [hc] at q1;cases q1;exact .inr q2
theorem StepM.fine (h:Fine ω) (hs:StepM ω who ψ ev x):Fine ψ/\x=0/\ψ.progs=ω.progs/\((who<0/\ψ=ω/\ev=[])\/(0<=who/\StpR (mw ω) who.toNat (mw ψ) ((stp (mw ω) who.toNat).2)/\(ω.stop≠0->ψ=ω)/\mw ψ=(stp (mw ω) who.toNat).1/\ev=(stp (mw ω) who.toNat).2.toList)):=by
 have hr:=h.right;rcases hs with ⟨q,_⟩ | ⟨_,q,rfl,rfl,rfl⟩ | ⟨_,q,m4,tab,e1,rfl,rfl⟩
 . exact absurd hr q
 . refine⟨h,rfl,rfl,?_⟩
   by_cases h0:who<0
   . exact .inl ⟨h0,rfl,rfl⟩
   . have e:=still_stp hr q (by omega)
     have hi:=stp_inv h.inv who.toNat
     rw [e] at hi ⊢;exact .inr ⟨by omega,hi,λ _=>rfl,rfl,rfl⟩
 . have hi:=stp_inv h.inv who.toNat
   rw [<- e1] at hi;have hp:ψ.progs=ω.progs:=hi.pr;have h0:0<=who:=by
    by_cases h0:0<=who
    . exact h0
    . exact absurd (.inr (.inl (by omega))) q
   exact⟨⟨hi.inv,by rw [hp];exact h.progs,m4,tab⟩,rfl,hp,.inr ⟨h0,hi,λ hn=>absurd (.inl hn) q,e1,rfl⟩⟩
end
end P16
end
section
open Go.ChangeShapes Go.WideShapes Go.ChangeAt Go.RowKit
namespace P12
theorem take_snoc {α:Type} {l:List α} {k:Nat} {x:α} (h:l[k]?=some x):l.take (k+1)=l.take k++[x]:=by
 rw [List.take_add_one,h];rfl
end P12
end
section
open Go.ChangeShapes Go.WideShapes Go.ChangeAt Go.RowKit
namespace P16
open P12 (PV PMem POwn pl fewP cutV cutV_ok take_snoc pmem_one wpList_append_progs Ac)
theorem few_is {w:World} {A:Option Addr} {n c:Nat} {L:List PV} (hm:PMem w A n L) (hc:n<=c) (hn:n<=9223372036854775807) :
 Calls Tryz.prog 13 #[.slice A n c] w λ e w'=>(∃ B m d R,e=.returned (.slice B m d)/\R=(L.take 10).map cutV/\pl R=fewP (pl L)/\m<=10/\POwn w' w.heap.size 0 B m d R)/\Gr w w':=by
 have hlen:=hm.len;obtain⟨N,hN⟩:∃ N:Nat,(if (10:Int)<(n:Int) then (10:Int) else (n:Int))=(N:Int)/\N<=n/\N<=10/\L.take 10=L.take N:=by
  by_cases h:10<n
  . exact⟨10,by rw [if_pos (by omega)];rfl,by omega,by omega,rfl⟩
  . exact⟨n,by rw [if_neg (by omega)],by omega,by omega,by rw [List.take_of_length_le (by omega),List.take_of_length_le (by omega)]⟩
 obtain⟨hN,hNn,hN10,htk⟩:=hN;have hNm:min (n:Int) 10=(N:Int):=by rw [<- hN];split<;>omega
 have HM:=hid hm;have HTK:=hid htk;have h0:(0:Int)<=(N:Int):=by omega
 have h1:(N:Int)<=(c:Int):=by omega
 clear hm htk;go_enter Tryz.func13,Tryz.ntmps13;go_wp2_with fail
 go_loopw [3,12] (λ O i wr=>∃ (k:Nat) (B:Option Addr) (d:Nat),k<=N/\i=.int .i64 (k:Int)/\O=.slice B k d/\Hid (POwn wr w.heap.size 0 B k d ((L.take k).map cutV))/\Hid (Gr w wr)) (λ _ i _=>N-(intOf i).toNat)
 case atStart=>exact⟨0,none,0,Nat.zero_le _,rfl,rfl,hid POwn.nil,hid (Gr.refl _)⟩
 case round =>
  obtain⟨k,B,d,hk,rfl,rfl,HR,HG⟩:=hrel;by_cases hlt:k<N
  . obtain⟨b,off,x,rfl,hbl,hx,hok,d0⟩:=(HM.out.gr HG.out).at_ (show k<n by omega)
    have hxold:x.ok w:=HM.out.2 x (List.mem_of_getElem? hx);have HX:=hid (show (L.take (k+1)).map cutV=(L.take k).map cutV++[cutV x] from by rw [take_snoc hx,List.map_append];rfl);have k0:(0:Int)<=(k:Int):=by omega
    have k1:(k:Int)<(N:Int):=by omega
    obtain⟨q,hq⟩:∃ q,(if 70<x.n then 70 else x.n)=q:=⟨_,rfl⟩;have hqi:(if (70:Int)<(x.n:Int) then (70:Int) else (x.n:Int))=(q:Int):=by rw [<- hq];split<;>split<;>omega
    have hqm:min (x.n:Int) 70=(q:Int):=by rw [<- hqi];split<;>omega
    have q0:(0:Int)<=(q:Int):=by omega
    have q1:(q:Int)<=(x.c:Int):=by have:=hok.2.1;rw [<- hq];split<;>omega
    have hcv:cutV x=⟨x.A,q,x.c,x.l.take 70⟩:=by unfold cutV;rw [hq]
    have g1:=(Gr.refl wr).al (.cells #[.slice x.A q x.c] 64);have hcok:(cutV x).ok (wr.alloc (.cells #[.slice x.A q x.c] 64)):=(cutV_ok hok).gr g1;have HPM:=hid (pmem_one (x:=cutV x) (by rw [hcv];exact Blk.new wr #[.slice x.A q x.c] 64) hcok);have HOW:=hid (HR.out.gr g1);have hlate:=HR.out.late;have hws:=HG.out.size;have HOFF:Hid (∀ z∈[cutV x],0<z.n->∀ j,z.A.map (·.block)=some j->0<=j/\j<(wr.alloc (.cells #[.slice x.A q x.c] 64)).heap.size/\B.map (·.block)≠some j):=hid λ z hz hz0 j hj=>by
     rw [List.mem_singleton] at hz;subst hz;obtain⟨b',off',e,hb',_⟩:=(cutV_ok hxold).1.2.2 hz0;rw [e] at hj;simp at hj;refine⟨Nat.zero_le _,by rw [World.size_alloc];omega,λ e2=>?_⟩;have:=hlate _ e2;omega
    have HG2:=hid (HG.out.trans g1);have hbase:w.heap.size<=(wr.alloc (.cells #[.slice x.A q x.c] 64)).heap.size:=HG2.out.size;have HLT:=hid hlate;clear hx hok g1 hcok hcv hq hxold hlate;go_wp2_with (at_builtin;refine Mark.stop ?_);refine Mark.go ?_;refine wpList_append_progs (news:=[cutV x]) rfl (.tmp 16) (.tmp 22) rfl rfl rfl HOW.out HPM.out HOFF.out (by omega) hbase ?_;intro A' c' w3 hG;have HP3:=hG.1;rw [<- HX.out] at HP3;have HP3:=hid HP3;have HG3:=hid (HG2.out.gb hG.2 (λ j e=>HLT.out j e));clear hG;go_wp2_with fail;go_roundw
    case rel=>exact⟨k+1,A',c',by omega,by go_num,rfl,HP3,HG3⟩
    case measure=>simp [intOf];omega
  . obtain rfl:k=N:=by omega
    have HF:=hid (show pl ((L.take k).map cutV)=fewP (pl L) from by
     unfold pl fewP;rw [<- List.map_take,HTK.out,List.map_map,List.map_map];rfl)
    go_wp2_with fail;go_ret;exact⟨⟨B,k,d,_,rfl,by rw [HTK.out],HF.out,hN10,HR.out⟩,HG.out⟩
end P16
end
section
open Go.ChangeShapes Go.WideShapes Go.ChangeAt Go.RowKit Go.Joins
namespace P16
theorem run_mutex_neq (x y:T3) {b:Bool} (hb:b=true↔x=y) (w:World) :
 (binOp .neq 48 (.agg #[.int .i64 x.1,.int .i64 x.2.1,.int .i64 x.2.2]) (.agg #[.int .i64 y.1,.int .i64 y.2.1,.int .i64 y.2.2])).run Tryz.prog w=.ok (.bool (!b)) w:=by
 obtain⟨x1,x2,x3⟩:=x;obtain⟨y1,y2,y3⟩:=y;have hb:=hid hb;go_simp;have hb:=hb.out;simp only [Prod.mk.injEq] at hb
 repeat' split
 all_goals (congr 2;cases b<;>simp_all)
theorem client_ext {x y:Cl} (h:x.gst=y.gst/\x.permit=y.permit/\x.act=y.act/\x.pc=y.pc/\x.worked=y.worked/\x.ticket=y.ticket/\x.first=y.first/\x.told=y.told/\x.since=y.since/\x.st=y.st/\x.aw=y.aw/\x.rounds=y.rounds/\x.old=y.old):x=y:=by
 cases x;cases y;simp_all
theorem run_client_neq (x y:Cl) {b:Bool} (hb:b=true↔x=y) (w:World) :
 (binOp .neq 55 (.agg #[.int .i64 x.gst,.bool x.permit,.int .i64 x.act,.int .i64 x.pc,.int .i64 x.worked,.int .i64 x.ticket,.bool x.first,.bool x.told,.int .i64 x.since,.bool x.st,.bool x.aw,.int .i64 x.rounds,.int .i64 x.old]) (.agg #[.int .i64 y.gst,.bool y.permit,.int .i64 y.act,.int .i64 y.pc,.int .i64 y.worked,.int .i64 y.ticket,.bool y.first,.bool y.told,.int .i64 y.since,.bool y.st,.bool y.aw,.int .i64 y.rounds,.int .i64 y.old])).run Tryz.prog w=.ok (.bool (!b)) w:=by
 have no:x≠y->Result.ok (Value.bool true) w=Result.ok (Value.bool (!b)) w:=λ h=>by
  have e:b=false:=by
   cases b with
   | false=>rfl
   | true=>exact absurd (hb.1 rfl) h
  rw [e];rfl
 have yes:x=y->Result.ok (Value.bool false) w=Result.ok (Value.bool (!b)) w:=λ h=>by rw [hb.2 h];rfl
 clear hb;go_simp;by_cases h0:x.gst=y.gst;rotate_left
 . rw [if_neg h0];exact no (λ e=>h0 (by rw [e]))
 rw [if_pos h0];by_cases h1:x.permit=y.permit;rotate_left
 . rw [if_neg h1];exact no (λ e=>h1 (by rw [e]))
 rw [if_pos h1];by_cases h2:x.act=y.act;rotate_left
 . rw [if_neg h2];exact no (λ e=>h2 (by rw [e]))
 rw [if_pos h2];by_cases h3:x.pc=y.pc;rotate_left
 . rw [if_neg h3];exact no (λ e=>h3 (by rw [e]))
 rw [if_pos h3];by_cases h4:x.worked=y.worked;rotate_left
 . rw [if_neg h4];exact no (λ e=>h4 (by rw [e]))
 rw [if_pos h4];by_cases h5:x.ticket=y.ticket;rotate_left
 . rw [if_neg h5];exact no (λ e=>h5 (by rw [e]))
 rw [if_pos h5];by_cases h6:x.first=y.first;rotate_left
 . rw [if_neg h6];exact no (λ e=>h6 (by rw [e]))
 rw [if_pos h6];by_cases h7:x.told=y.told;rotate_left
 . rw [if_neg h7];exact no (λ e=>h7 (by rw [e]))
 rw [if_pos h7];by_cases h8:x.since=y.since;rotate_left
 . rw [if_neg h8];exact no (λ e=>h8 (by rw [e]))
 rw [if_pos h8];by_cases h9:x.st=y.st;rotate_left
 . rw [if_neg h9];exact no (λ e=>h9 (by rw [e]))
 rw [if_pos h9];by_cases h10:x.aw=y.aw;rotate_left
 . rw [if_neg h10];exact no (λ e=>h10 (by rw [e]))
 rw [if_pos h10];by_cases h11:x.rounds=y.rounds;rotate_left
 . rw [if_neg h11];exact no (λ e=>h11 (by rw [e]))
 rw [if_pos h11];by_cases h12:x.old=y.old;rotate_left
 . rw [if_neg h12];exact no (λ e=>h12 (by rw [e]))
 rw [if_pos h12];exact yes (client_ext ⟨h0,h1,h2,h3,h4,h5,h6,h7,h8,h9,h10,h11,h12⟩)
end P16
end
section
namespace P12
theorem held_try {b:Bool} {m:Int} {a:Ac} {r:List Ac} (h:a.1=1):held (ho b m) (a::r)=none:=by rw [held,if_pos h]
theorem held_lock_no {m:Int} {a:Ac} {r:List Ac} (h:a.1=0):held (ho true m) (a::r)=none:=by rw [held,if_neg (by omega),if_pos h];rfl
theorem held_lock {m:Int} {a:Ac} {r:List Ac} (h:a.1=0):held (ho false m) (a::r)=held (ho true a.2) r:=by rw [held,if_neg (by omega),if_pos h];rfl
theorem held_unlock_no {b:Bool} {m:Int} {a:Ac} {r:List Ac} (h:a.1=2) (hb:b=false\/a.2≠m):held (ho b m) (a::r)=none:=by
 rw [held,if_neg (by omega),if_neg (by omega),if_pos h,if_neg];intro e;cases b
 . cases e
 . rcases hb with hb | hb
   . cases hb
   . exact hb (Option.some.inj e).symm
theorem held_unlock {m:Int} {a:Ac} {r:List Ac} (h:a.1=2) (hm:a.2=m):held (ho true m) (a::r)=held (ho false m) r:=by
 rw [held,if_neg (by omega),if_neg (by omega),if_pos h,if_pos (by rw [hm];rfl)];rfl
theorem held_other {b:Bool} {m:Int} {a:Ac} {r:List Ac} (h0:a.1≠0) (h1:a.1≠1) (h2:a.1≠2):held (ho b m) (a::r)=held (ho b m) r:=by
 rw [held,if_neg h1,if_neg h0,if_neg h2]
theorem tidy_end (b:Bool) (m:Int):(held (ho b m) []==some none)=!b:=by cases b<;>rfl
end P12
end
section
open Go.ChangeShapes Go.WideShapes Go.ChangeAt Go.RowKit
namespace P12
theorem take_more {α:Type} {l:List α} {k:Nat} {x:α} (h:l[k]?=some x):l.take (k+1)=l.take k++[x]:=by
 rw [List.take_add_one,h];rfl
theorem rAct_is {a:Ac} {B:Bool} (hB:okA a=B) (w:World):Calls Tryz.prog 50 #[.agg #[.int .i64 a.1,.int .i64 a.2]] w λ e w'=>e=.returned (.bool B)/\Gr w w':=by
 obtain⟨k,n⟩:=a;have key:∀ B',okA (k,n)=B'->Hid (B'=B):=λ B' h=>hid (by rw [<- h,hB])
 clear hB;by_cases h3:k=3
 . subst h3
   by_cases h0:0<=n
   . by_cases h1:n<=1000
     . have HB:=key true (by unfold okA;simp;omega)
       clear key;go_enter Tryz.func50,Tryz.ntmps50;go_wp2_with fail;go_ret;rw [<- HB.out];exact⟨rfl,(Gr.refl w).al _⟩
     . have HB:=key false (by unfold okA;simp;omega)
       clear key;go_enter Tryz.func50,Tryz.ntmps50;go_wp2_with fail;go_ret;rw [<- HB.out];exact⟨rfl,(Gr.refl w).al _⟩
   . have HB:=key false (by unfold okA;simp;omega)
     clear key;go_enter Tryz.func50,Tryz.ntmps50;go_wp2_with fail;go_ret;rw [<- HB.out];exact⟨rfl,(Gr.refl w).al _⟩
 . have n3:(k==3)=false:=by simpa using h3
   by_cases h0:0<=k
   . by_cases h1:k<=2
     . by_cases h4:0<=n
       . by_cases h5:n<=3
         . have HB:=key true (by unfold okA;rw [if_neg (by simpa using h3)];simp;omega)
           clear key;go_enter Tryz.func50,Tryz.ntmps50;go_wp2_with fail;go_ret;rw [<- HB.out];exact⟨rfl,(Gr.refl w).al _⟩
         . have HB:=key false (by unfold okA;rw [if_neg (by simpa using h3)];simp;omega)
           clear key;go_enter Tryz.func50,Tryz.ntmps50;go_wp2_with fail;go_ret;rw [<- HB.out];exact⟨rfl,(Gr.refl w).al _⟩
       . have HB:=key false (by unfold okA;rw [if_neg (by simpa using h3)];simp;omega)
         clear key;go_enter Tryz.func50,Tryz.ntmps50;go_wp2_with fail;go_ret;rw [<- HB.out];exact⟨rfl,(Gr.refl w).al _⟩
     . have HB:=key false (by unfold okA;rw [if_neg (by simpa using h3)];simp;omega)
       clear key;go_enter Tryz.func50,Tryz.ntmps50;go_wp2_with fail;go_ret;rw [<- HB.out];exact⟨rfl,(Gr.refl w).al _⟩
   . have HB:=key false (by unfold okA;rw [if_neg (by simpa using h3)];simp;omega)
     clear key;go_enter Tryz.func50,Tryz.ntmps50;go_wp2_with fail;go_ret;rw [<- HB.out];exact⟨rfl,(Gr.refl w).al _⟩
theorem rTidy_is {A:Option Addr} {n c:Nat} {l:List Ac} {B:Bool} (hB:tidyB l=B) (hn:n<=9223372036854775807) (w:World) (hm:Mem w A n l) :
 Calls Tryz.prog 23 #[.slice A n c] w λ e w'=>e=.returned (.bool B)/\Gr w w':=by
 have HB0:=hid (show (held (ho false (-1)) l==some none)=B from hB);clear hB;go_enter Tryz.func23,Tryz.ntmps23;go_wp2_with fail
 go_loopw [3,4,9] (λ m b i wr=>∃ (k:Nat) (v:Bool) (u:Int),k<=n/\b=.bool v/\m=.int .i64 u/\i=.int .i64 k/\Hid ((held (ho v u) (l.drop k)==some none)=B)/\Gr w wr) (λ _ _ i _=>n-(intOf i).toNat)
 case atStart=>exact⟨0,false,-1,Nat.zero_le _,rfl,rfl,rfl,HB0,Gr.refl _⟩
 case round =>
  obtain⟨k,v,u,hk,rfl,rfl,rfl,HB,hg⟩:=hrel;by_cases hlt:k<n
  . obtain⟨b,off,x,rfl,hbl,hx,h1,h2,c0,c1⟩:=(hm.gr hg).at_ hlt
    have hd:l.drop k=x::l.drop (k+1):=by
     obtain⟨hl,rfl⟩:=List.getElem?_eq_some_iff.1 hx;exact List.drop_eq_getElem_cons hl
    have HK:=HB.out;rw [hd] at HK;obtain⟨x0,x1⟩:=x;clear hd hx HB hm HB0;dsimp only at c0 c1 h1 h2;by_cases e1:x0=1
    . rw [held_try e1] at HK
      have HK:=hid HK;subst e1;go_wp2_with fail;go_ret;exact⟨ret_bool HK.out,hg.al _⟩
    . have n1:(x0==1)=false:=by simpa using e1
      by_cases e0:x0=0
      . cases v
        . rw [held_lock e0] at HK
          have HK:=hid HK;subst e0;clear e1;go_wp2_with fail;go_roundw
          case rel=>exact⟨k+1,true,_,by omega,rfl,rfl,by go_num,HK,hg.al _⟩
          case measure=>simp [intOf];omega
        . rw [held_lock_no e0] at HK
          have HK:=hid HK;subst e0;clear e1;go_wp2_with fail;go_ret;exact⟨ret_bool HK.out,hg.al _⟩
      . have n0:(x0==0)=false:=by simpa using e0
        by_cases e2:x0=2
        . by_cases hv:v=true/\x1=u
          . obtain⟨rfl,rfl⟩:=hv
            rw [held_unlock (a:=(x0,x1)) e2 rfl] at HK;have HK:=hid HK;subst e2;clear e0 e1;have nb:(x1 != x1)=false:=by simp
            go_wp2_with fail;go_roundw
            case rel=>exact⟨k+1,false,_,by omega,rfl,rfl,by go_num,HK,hg.al _⟩
            case measure=>simp [intOf];omega
          . rw [held_unlock_no e2 (by cases v;exact .inl rfl;exact .inr λ e=>hv ⟨rfl,e⟩)] at HK
            have HK:=hid HK;subst e2;clear e0 e1;cases v
            . go_wp2_with fail
              go_ret;exact⟨ret_bool HK.out,hg.al _⟩
            . have hu:(x1==u)=false:=by simpa using λ e=>hv ⟨rfl,e⟩
              have hu':(x1 != u)=true:=by simp [bne,hu]
              go_wp2_with fail;go_ret;exact⟨ret_bool HK.out,hg.al _⟩
        . have n2:(x0==2)=false:=by simpa using e2
          rw [held_other e0 e1 e2] at HK;have HK:=hid HK;clear e0 e1 e2;go_wp2_with fail;go_roundw
          case rel=>exact⟨k+1,v,u,by omega,rfl,rfl,by go_num,HK,hg.al _⟩
          case measure=>simp [intOf];omega
  . obtain rfl:k=n:=by omega
    have HK:=HB.out;rw [List.drop_of_length_le (by have:=hm.1;omega),tidy_end] at HK;have HK:=hid HK;clear HB hm HB0;go_wp2_with fail;go_ret;exact⟨rfl,hg⟩
theorem plainInt:Tryz.prog.plainKey 3=true:=by kernel_rfl
theorem act_neq (a b:Ac) (W:World):(binOp .neq 67 (.agg #[.int .i64 a.1,.int .i64 a.2]) (.agg #[.int .i64 b.1,.int .i64 b.2])).run Tryz.prog W=.ok (.bool (!(a==b))) W:=by
 have h1:(Op.equalIn 9999 3 (.int .i64 a.1) (.int .i64 b.1)).run Tryz.prog W=.ok (a.1==b.1) W:=run_equalIn_int W 9998 3 .i64 .i64 a.1 b.1 Tryz.underlying3;have h2:(Op.equalIn 9999 3 (.int .i64 a.2) (.int .i64 b.2)).run Tryz.prog W=.ok (a.2==b.2) W:=run_equalIn_int W 9998 3 .i64 .i64 a.2 b.2 Tryz.underlying3;have p1:∀ x y:Int,(part 3 #[.int .i64 x,.int .i64 y] 0).run Tryz.prog W=.ok (.int .i64 x) W:=λ x y=>run_part_plain W plainInt rfl
 have p2:∀ x y:Int,(part 3 #[.int .i64 x,.int .i64 y] 1).run Tryz.prog W=.ok (.int .i64 y) W:=λ x y=>run_part_plain W plainInt rfl
 have hk : (Tryz.prog.fieldsOf 67).toList.map (fun f => (f.name == "_", f.type, f.offset)) = [(false, 3, 0), (false, 3, 1)] := by kernel_rfl
 rw [run_neq_struct,run_equalIn_struct W 9999 67 _ _ (by kernel_rfl) (by kernel_rfl)];generalize (Tryz.prog.fieldsOf 67).toList=F at hk ⊢;rcases F with _ | ⟨f0,_ | ⟨f1,_ | ⟨f2,F⟩⟩⟩
 . simp at hk
 . simp at hk
 rotate_left
 . simp at hk
 simp only [List.map_cons,List.map_nil,List.cons.injEq,Prod.mk.injEq,and_true,beq_eq_false_iff_ne] at hk;obtain⟨⟨n0,t0,o0⟩,n1,t1,o1⟩:=hk;rw [Op.eqFields,if_pos n0,t0,o0,Sem.run_bind,p1,Result.andThen_ok,Sem.run_bind,p1,Result.andThen_ok,Sem.run_bind,h1,Result.andThen_ok,Op.eqFields,if_pos n1,t1,o1];obtain⟨a0,a1⟩:=a;obtain⟨b0,b1⟩:=b;dsimp only at h1 h2 ⊢;by_cases h:a0=b0
 . subst h
   rw [show (a0==a0)=true from by simp,if_neg (by simp),Sem.run_bind,p2,Result.andThen_ok,Sem.run_bind,p2,Result.andThen_ok,Sem.run_bind,h2,Result.andThen_ok];by_cases g:a1=b1
   . subst g
     simp [Op.eqFields]
   . have g':(a1==b1)=false:=by simpa using g
     rw [g'];simp [g]
 . have h':(a0==b0)=false:=by simpa using h
   rw [h'];simp [h]
theorem rActs_is {A B:Option Addr} {n c m d:Nat} {a b:List Ac} {v:Bool} (hv:(a==b)=v) (hn:n<=9223372036854775807) (hmm:m<=9223372036854775807) (w:World) (ha:Mem w A n a) (hb:Mem w B m b) :
 Calls Tryz.prog 46 #[.slice A n c,.slice B m d] w λ e w'=>e=.returned (.bool v)/\∃ k,w'=w.drewN k:=by
 have la:=ha.1;have lb:=hb.1;by_cases hnm:n=m
 . subst hnm
   have t1:((n:Int) != (n:Int))=false:=by simp
   have HV:=hid hv;have HLA:=hid la;have HLB:=hid lb;have H0:=hid (show a.take 0=b.take 0 from rfl);clear hv la lb;go_enter Tryz.func46,Tryz.ntmps46;go_wp2_with fail
   go_loopw [13] (λ i wr=>∃ k:Nat,k<=n/\i=.int .i64 k/\Hid (a.take k=b.take k)/\Hid (∃ q,wr=w.drewN q)) (λ i _=>n-(intOf i).toNat)
   case atStart=>exact⟨0,Nat.zero_le _,rfl,H0,hid ⟨0,rfl⟩⟩
   case round =>
    obtain⟨k,hk,rfl,HK,HQ⟩:=hrel;have hG:Gr w wr:=by obtain⟨q,rfl⟩:=HQ.out;exact (Gr.refl w).drN q
    by_cases hlt:k<n
    . obtain⟨b1,o1,x,rfl,hb1,hx,-,-,c0,c1⟩:=(ha.gr hG).at_ hlt
      obtain⟨b2,o2,y,rfl,hb2,hy,-,-,d0,d1⟩:=(hb.gr hG).at_ hlt;obtain⟨E,hE⟩:∃ E,(x==y)=E:=⟨_,rfl⟩;have hne:=λ W=>act_neq x y W
      rw [hE] at hne;have k0:(0:Int)<=(k:Int):=by omega
      have k1:(k:Int)<(n:Int):=by omega
      have HX:=hid hx;have HY:=hid hy;have HE:=hid hE;clear hx hy hE ha hb;cases E
      . go_wp2_with fail
        go_quiet (fail)
        go_wp2_with fail;go_ret;refine⟨ret_bool ?_,by obtain⟨q,rfl⟩:=HQ.out;exact⟨_,World.drewN_drewN _ _ _⟩⟩;rw [<- HV.out];refine (beq_eq_false_iff_ne.2 λ e=>?_).symm;subst e;have h1:=HX.out;rw [HY.out] at h1;cases h1;have h2:=HE.out;simp at h2
      . go_wp2_with fail
        go_quiet (fail)
        go_wp2_with fail;go_roundw
        case rel=>exact⟨k+1,by omega,by go_num,hid (by rw [take_more HX.out,take_more HY.out,HK.out,eq_of_beq HE.out]),hid (by obtain⟨q,rfl⟩:=HQ.out;exact⟨_,World.drewN_drewN _ _ _⟩)⟩
        case measure=>simp [intOf];omega
    . obtain rfl:k=n:=by omega
      clear ha hb;go_wp2_with fail;go_ret;refine⟨ret_bool ?_,HQ.out⟩;rw [<- HV.out];have h:=HK.out;rw [List.take_of_length_le (by rw [HLA.out];exact Nat.le_refl _),List.take_of_length_le (by rw [HLB.out];exact Nat.le_refl _)] at h;rw [h];simp
 . have t1:((n:Int) != (m:Int))=true:=by simp;omega
   have HV:=hid (show v=false from by
    rw [<- hv];refine beq_eq_false_iff_ne.2 λ e=>hnm ?_
    rw [<- la,<- lb,e])
   clear hv la lb ha hb;go_enter Tryz.func46,Tryz.ntmps46;go_wp2_with fail;go_ret;exact⟨ret_bool HV.out.symm,0,rfl⟩
end P12
end
end Go.Proofs.YtainfijdhcehlaaGreatDoor
