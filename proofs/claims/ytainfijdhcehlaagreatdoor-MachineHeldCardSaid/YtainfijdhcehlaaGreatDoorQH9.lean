/-
  A part of the proof.
-/
import Derived.Test.YtainfijdhcehlaaGreatDoorQH8
import Derived.BigQuiet
import Derived.Laws.StructEq
import Derived.Laws.BitsAllLaws
import Derived.Deep.RegionHeld3
import Derived.RegionTactic
import Derived.Carry
import Derived.Stop.LaidErr
import Derived.LaidLaws
import Derived.SizedLaws
import Derived.ChangeMaps5
import Derived.Lay
import Derived.LaidMore
import Derived.Shelf.Vars
import Derived.SevenTiedAt
import Derived.LaidByTextLater
import Derived.Lib.SmallJoins
import Derived.Lib.Hide
set_option linter.all false
set_option maxRecDepth 100000
set_option maxHeartbeats 8000000
namespace Go.Proofs.YtainfijdhcehlaaGreatDoor
open Lib (hid)
section
namespace P16
section
variable {N i m run:Nat} {p:List Ac} {c:Cl} {a:Cm} {v:Nat->V} {now:Int}
theorem lock_want (hN:N<=8) (hi:i<N) (h:Inv N (mx a) v) (hw:OkW a.word) (hc:CInv p c) (hg:c.gst=0) (ha:p[c.act.toNat]?=some (0,(m:Int))) (hv:v i=vwp p c m) (hnow:0<=now/\now<=4611686018427387904) (hpc:c.pc=2):∃ o,lock now run p.length i c a=.ok o/\StepOk N i m p 0 c a v o:=by
 have hv:v i=.want c.aw c.st (wd c.old):=by rw [hv,vwp_at ha,vl2 hpc]
 obtain⟨hst,hawk,n0,n1⟩:=h.O.ow i c.aw c.st (wd c.old) hi hv
 have hwn:=hw.n
 unfold lock want
 rw [if_neg (by rw [hpc];decide),if_neg (by rw [hpc];decide),if_pos hpc]
 dsimp only
 by_cases hsp:(wd c.old).L=true/\(wd c.old).S=false/\c.rounds<4/\1<run
 . rw [if_pos hsp]
   have r0:=hc.rd
   unfold round
   dsimp only
   by_cases hset:c.aw=false/\(wd c.old).K=false/\0<(wd c.old).n/\a.word=c.old
   . obtain⟨k1,k2,k3,k4⟩:=hset
     have hst':c.st=false:=by cases e:c.st;rfl;rw [hst e] at k1;cases k1
     have q:=h.spin hi (k1▸hv) (by show (wd a.word).K=false;rw [k4];exact k2) (by show (wd a.word).S=false;rw [k4];exact hsp.2.1) hst' (by show (wd a.word).L=true;rw [k4];exact hsp.1)
     rw [if_pos ⟨k1,k2,k3,k4⟩,if_pos ⟨k1,k2,k3,k4⟩]
     exact step_go hc hg ha (by decide) rfl hc.pm (.inl hg) (.inr (.inl ⟨rfl,by show (1:Int)<=1;decide,by show (1:Int)<=8;decide⟩)) hc.tb hc.sc ⟨by show 0<=c.rounds+1;omega,by show c.rounds+1<=4;omega⟩ hc.ol (by intro q;cases q) rfl (okW_un hwn.1 hwn.2) (by rw [vl1 rfl,mx_un];exact q) (.inl ⟨rfl,by show (wd (un _)).L=_;rw [wd_un]⟩) (by show HandsR none 0 c.pc c.st _ (wd (un _)).S;rw [wd_un];exact HandsR.none_)
   . rw [if_neg hset,if_neg hset]
     exact step_go hc hg ha (by decide) rfl hc.pm (.inl hg) (.inr (.inl ⟨rfl,by show (1:Int)<=1;decide,by show (1:Int)<=8;decide⟩)) hc.tb hc.sc ⟨by show 0<=c.rounds+1;omega,by show c.rounds+1<=4;omega⟩ hc.ol (by intro q;cases q) rfl hw (by rw [vl1 rfl];exact h.back hi hv) (.inl ⟨rfl,rfl⟩) HandsR.none_
 . rw [if_neg hsp]
   have hwants:wants c=some (un { L:=(wd c.old).L||!(wd c.old).S,K:=(wd c.old).K&&!c.aw,S:=(wd c.old).S||(c.st&&(wd c.old).L),n:=if (wd c.old).L||(wd c.old).S then (wd c.old).n+1 else (wd c.old).n }):=by
    unfold wants
    dsimp only
    rw [if_neg (λ q=>by rw [hawk q.1] at q;cases q.2),if_neg (λ q=>by omega)]
   rw [hwants]
   dsimp only
   by_cases hne:a.word≠c.old
   . rw [if_pos hne]
     exact step_go hc hg ha (by decide) rfl hc.pm (.inl hg) (.inr (.inl ⟨rfl,by show (1:Int)<=1;decide,by show (1:Int)<=8;decide⟩)) hc.tb hc.sc hc.rd hc.ol (by intro q;cases q) rfl hw (by rw [vl1 rfl];exact h.back hi hv) (.inl ⟨rfl,rfl⟩) HandsR.none_
   . have heq:a.word=c.old:=Classical.not_not.1 hne
     rw [if_neg hne]
     rw [<- heq] at n0 n1 hv ⊢
     by_cases hfree:(wd a.word).L=false/\(wd a.word).S=false
     . rw [if_pos hfree]
       obtain⟨hL,hS⟩:=hfree
       have q:=h.got hi hv hL hS
       have ew:({ L:=(wd a.word).L||!(wd a.word).S,K:=(wd a.word).K&&!c.aw,S:=(wd a.word).S||(c.st&&(wd a.word).L),n:=if (wd a.word).L||(wd a.word).S then (wd a.word).n+1 else (wd a.word).n }:Wd)={ (wd a.word) with L:=true,K:=(wd a.word).K&&!c.aw }:=by
        rw [hL,hS]
        congr 1<;>simp [hS]
       rw [ew]
       refine step_over hc hg (okW_un hwn.1 hwn.2) (by rw [mx_un];exact q) (.inr (.inl ⟨rfl,hL,by show (wd (un _)).L=_;rw [wd_un]⟩)) ?_
       show HandsR _ _ _ _ (wd a.word).S (wd (un _)).S
       rw [wd_un]
       exact HandsR.same (λ q=>by rw [hS] at q;cases q) (λ q=>by rw [hS] at q;cases q)
     . rw [if_neg hfree]
       have hLS:(wd a.word).L=true\/(wd a.word).S=true:=by
        cases e1:(wd a.word).L
        . cases e2:(wd a.word).S
          . exact absurd ⟨e1,e2⟩ hfree
          . exact .inr rfl
        . exact .inl rfl
       have q:=h.wait hi hv hLS
       have ew:({ L:=(wd a.word).L||!(wd a.word).S,K:=(wd a.word).K&&!c.aw,S:=(wd a.word).S||(c.st&&(wd a.word).L),n:=if (wd a.word).L||(wd a.word).S then (wd a.word).n+1 else (wd a.word).n }:Wd)={ L:=(wd a.word).L,K:=(wd a.word).K&&!c.aw,S:=(wd a.word).S||(c.st&&(wd a.word).L),n:=(wd a.word).n+1 }:=by
        rcases hLS with e | e<;>rw [e]<;>congr 1<;>simp
       have hn8:(wd a.word).n+1<268435456:=by omega
       rw [ew]
       refine step_go hc hg ha (by decide) rfl hc.pm (.inl hg) (.inr (.inl ⟨rfl,by show (1:Int)<=3;decide,by show (3:Int)<=8;decide⟩)) hc.tb ?_ hc.rd hw (by intro q;cases q) rfl (okW_un (by show 0<=(wd a.word).n+1;omega) hn8) (by rw [vl3 rfl,mx_un];exact q) (.inl ⟨rfl,by show (wd (un _)).L=_;rw [wd_un]⟩) ?_
       . show (if c.since=-1 then now else c.since)=-1\/(0<=(if c.since=-1 then now else c.since)/\(if c.since=-1 then now else c.since)<=4611686018427387904)
         split
         . exact .inr hnow
         . exact hc.sc
       . show HandsR none 0 c.pc c.st (wd a.word).S (wd (un _)).S
         rw [wd_un]
         refine⟨λ e1 e2=>⟨rfl,hpc,?_⟩,λ e1 e2=>?_,λ _ q=>(by cases q),λ _ q=>(by cases q)⟩
         . dsimp only at e2
           rw [e1] at e2
           cases e3:c.st
           . rw [e3] at e2;simp at e2
           . rfl
         . dsimp only at e2
           rw [e1] at e2;simp at e2
theorem lock_any (hN:N<=8) (hi:i<N) (h:Inv N (mx a) v) (hw:OkW a.word) (hc:CInv p c) (hg:c.gst=0) (ha:p[c.act.toNat]?=some (0,(m:Int))) (hv:v i=vwp p c m) (hnow:0<=now/\now<=4611686018427387904):∃ o,lock now run p.length i c a=.ok o/\StepOk N i m p 0 c a v o:=by
 have hp:=hc.pcs 0 m ha
 have:c.pc=0\/c.pc=1\/c.pc=2\/c.pc=3\/c.pc=4\/c.pc=5\/c.pc=6\/c.pc=7\/c.pc=8:=by
  rcases hp with e | ⟨_,e1,e2⟩ | ⟨e,_⟩ | ⟨e,_⟩<;>omega
 rcases this with e | e | e | e | e | e | e | e | e
 . exact lock_start hN hi h hw hc hg ha hv e
 . exact lock_load hN hi h hw hc hg ha hv e
 . exact lock_want hN hi h hw hc hg ha hv hnow e
 . exact lock_draw hN hi h hw hc hg ha hv e
 . exact lock_turn hN hi h hw hc hg ha hv e
 . exact lock_sema hN hi h hw hc hg ha hv e
 . exact lock_serve hN hi h hw hc hg ha hv e
 . exact lock_woken hN hi h hw hc hg ha hv e
 . exact lock_handed hN hi h hw hc hg ha hv e
theorem try_any (hN:N<=8) (hi:i<N) (h:Inv N (mx a) v) (hw:OkW a.word) (hc:CInv p c) (hg:c.gst=0) (ha:p[c.act.toNat]?=some (1,(m:Int))) (hv:v i=vwp p c m):∃ o,try_ p.length c a=.ok o/\StepOk N i m p 1 c a v o:=by
 have hp:=hc.pcs 1 m ha
 have hwn:=hw.n
 have:c.pc=0\/c.pc=9:=by
  rcases hp with e | ⟨e,_⟩ | ⟨_,e⟩ | ⟨e,_⟩<;>omega
 unfold try_
 rcases this with hpc | hpc
 . have hv:v i=.out:=hv.trans (vwp_start hpc)
   rw [if_neg (by rw [hpc];decide)]
   by_cases hb:(wd a.word).L=true\/(wd a.word).S=true
   . rw [if_pos hb]
     exact step_over hc hg hw (by rw [show V.out=v i from hv.symm,upd_self];exact h) (.inr (.inr (.inr (.inl ⟨rfl,rfl⟩)))) (HandsR.same (λ _ q=>by cases q) (λ _ q=>by cases q))
   . rw [if_neg hb]
     exact step_go hc hg ha (by decide) rfl hc.pm (.inl hg) (.inr (.inr (.inl ⟨rfl,rfl⟩))) hc.tb hc.sc hc.rd hw (by intro q;cases q) rfl hw (by rw [vt9 rfl];exact h.tries hi hv) (.inl ⟨rfl,rfl⟩) HandsR.none_ (λ _=>⟨by cases e:(wd a.word).L;rfl;exact absurd (.inl e) hb,by cases e:(wd a.word).S;rfl;exact absurd (.inr e) hb⟩)
 . have hv:v i=.trying:=by rw [hv,vwp_at ha,vt9 hpc]
   rw [if_pos hpc]
   by_cases hne:a.word≠c.old
   . rw [if_pos hne]
     exact step_over hc hg hw (h.fails hi hv) (.inr (.inr (.inr (.inl ⟨rfl,rfl⟩)))) (HandsR.same (λ _ q=>by cases q) (λ _ q=>by cases q))
   . have heq:a.word=c.old:=Classical.not_not.1 hne
     obtain⟨hL,hS⟩:=hc.tr hpc
     rw [<- heq] at hL hS
     rw [if_neg hne]
     refine step_over hc hg (okW_un hwn.1 hwn.2) (by rw [mx_un];exact h.tried hi hv hS) (.inr (.inr (.inl ⟨rfl,hL,by show (wd (un _)).L=_;rw [wd_un]⟩))) ?_
     show HandsR _ _ _ _ (wd a.word).S (wd (un _)).S
     rw [wd_un]
     exact HandsR.same (λ q=>by rw [hS] at q;cases q) (λ q=>by rw [hS] at q;cases q)
theorem give_any (hN:N<=8) (hi:i<N) (h:Inv N (mx a) v) (hw:OkW a.word) (hc:CInv p c) (hg:c.gst=0) (ha:p[c.act.toNat]?=some (2,(m:Int))) (hv:v i=vwp p c m):(give p.length c a=.fault/\(wd a.word).L=false/\c.pc=0)\/∃ o,give p.length c a=.ok o/\StepOk N i m p 2 c a v o:=by
 have hp:=hc.pcs 2 m ha
 have hwn:=hw.n
 have t3:(a.nx-a.sv) % 4294967296=cnt isT v N:=h.T.t3
 have hle:=cnt_le (p:=isT) (v:=v) (N:=N)
 have:c.pc=0\/c.pc=10\/c.pc=11\/c.pc=12\/c.pc=13\/c.pc=14\/c.pc=15:=by
  rcases hp with e | ⟨e,_⟩ | ⟨e,_⟩ | ⟨_,e1,e2⟩<;>omega
 unfold give
 rcases this with hpc | hpc | hpc | hpc | hpc | hpc | hpc
 . have hv:v i=.out:=hv.trans (vwp_start hpc)
   rw [if_pos hpc]
   unfold unlock
   cases hL:(wd a.word).L
   . exact .inl ⟨by rw [if_pos rfl],rfl,hpc⟩
   . refine .inr ?_
     rw [if_neg (by decide)]
     dsimp only
     have el:=wd_less hL
     have em:mx { a with word:=a.word-1 }={ mx a with w:={ (wd a.word) with L:=false } }:=by
      show (⟨wd (a.word-1),a.nx,a.sv,a.c,a.l⟩:Mx)=_
      rw [el];rfl
     have ow:OkW (a.word-1):=by
      have q:=of_decide_eq_true (show decide (a.word % 2=1)=true from hL)
      have:=hw.1
      have:=hw.2
      exact⟨by omega,by omega⟩
     have heL:(wd (a.word-1)).L=false:=by rw [el]
     have heS:(wd (a.word-1)).S=(wd a.word).S:=by rw [el]
     have hh:HandsR (some 3) 2 c.pc c.st (wd a.word).S (wd (a.word-1)).S:=by
      rw [heS];exact HandsR.same (λ _ q=>by cases q) (λ _ q=>by cases q)
     by_cases h0:a.word-1=0
     . rw [if_pos h0]
       have hz:wd (a.word-1)=⟨false,false,false,0⟩:=by rw [h0,wd0]
       rw [el] at hz
       exact step_over hc hg ow (by rw [em];exact h.gives hi hv hL (.inl ⟨rfl,by show ¬ wakes { (wd a.word) with L:=false };rw [hz];intro q;have:=q.2.2.2;simp at this,by show (wd a.word).S=false;rw [<- heS,h0,wd0]⟩)) (.inr (.inr (.inr (.inr ⟨rfl,hL,heL⟩)))) hh
     . rw [if_neg h0,heS]
       by_cases hS:(wd a.word).S=true
       . rw [if_pos hS]
         exact step_go hc hg ha (by decide) rfl hc.pm (.inl hg) (.inr (.inr (.inr ⟨rfl,by show (10:Int)<=12;decide,by show (12:Int)<=15;decide⟩))) hc.tb hc.sc hc.rd hc.ol (by intro q;cases q) rfl ow (by rw [vg12 rfl,em];exact h.gives hi hv hL (.inr (.inl ⟨rfl,hS⟩))) (.inr (.inr (.inr (.inr ⟨rfl,hL,heL⟩)))) hh
       . have hS':(wd a.word).S=false:=by cases e:(wd a.word).S;rfl;exact absurd e hS
         rw [if_neg hS]
         exact step_go hc hg ha (by decide) rfl hc.pm (.inl hg) (.inr (.inr (.inr ⟨rfl,by show (10:Int)<=10;decide,by show (10:Int)<=15;decide⟩))) hc.tb hc.sc hc.rd ow (by intro q;cases q) rfl ow (by rw [vg10 rfl,em];show Inv N _ (upd v i (.give (wd (a.word-1))));rw [el];exact h.gives hi hv hL (.inr (.inr ⟨rfl,hS'⟩))) (.inr (.inr (.inr (.inr ⟨rfl,hL,heL⟩)))) hh
 all_goals refine .inr ?_
 . have hv:v i=.give (wd c.old):=by rw [hv,vwp_at ha,vg10 hpc]
   have on:=hc.ol.n
   rw [if_neg (by rw [hpc];decide),if_pos hpc]
   unfold let_
   dsimp only
   by_cases hwk:(wd c.old).L=false/\(wd c.old).K=false/\(wd c.old).S=false/\(wd c.old).n≠0
   . have hwk':wakes (wd c.old):=⟨hwk.1,hwk.2.1,hwk.2.2.1,by have:=hwk.2.2.2;omega⟩
     rw [if_neg (λ q=>q hwk)]
     by_cases heq:a.word=c.old
     . rw [if_pos heq]
       rw [<- heq] at hwk' on hwk ⊢
       have n1:=hwk'.2.2.2
       exact step_go hc hg ha (by decide) rfl hc.pm (.inl hg) (.inr (.inr (.inr ⟨rfl,by show (10:Int)<=12;decide,by show (12:Int)<=15;decide⟩))) hc.tb hc.sc hc.rd hw (by intro q;cases q) rfl (okW_un (by show 0<=(wd a.word).n-1;omega) (by show (wd a.word).n-1<_;omega)) (by rw [vg12 rfl,mx_un];exact h.wakes_ hi hv hwk') (.inl ⟨rfl,by show (wd (un _)).L=_;rw [wd_un,hwk.1]⟩) (by show HandsR none 2 c.pc c.st _ (wd (un _)).S;rw [wd_un,hwk.2.2.1];exact HandsR.none_)
     . rw [if_neg heq]
       exact step_go hc hg ha (by decide) rfl hc.pm (.inl hg) (.inr (.inr (.inr ⟨rfl,by show (10:Int)<=11;decide,by show (11:Int)<=15;decide⟩))) hc.tb hc.sc hc.rd hc.ol (by intro q;cases q) rfl hw (by rw [vg11 rfl];exact h.again hi hv) (.inl ⟨rfl,rfl⟩) HandsR.none_
   . rw [if_pos hwk]
     exact step_over hc hg hw (h.leaves hi hv (λ q=>hwk ⟨q.1,q.2.1,q.2.2.1,by have:=q.2.2.2;omega⟩)) (.inl ⟨rfl,rfl⟩) HandsR.none_
 . have hv:v i=.see:=by rw [hv,vwp_at ha,vg11 hpc]
   rw [if_neg (by rw [hpc];decide),if_neg (by rw [hpc];decide),if_pos hpc]
   exact step_go hc hg ha (by decide) rfl hc.pm (.inl hg) (.inr (.inr (.inr ⟨rfl,by show (10:Int)<=10;decide,by show (10:Int)<=15;decide⟩))) hc.tb hc.sc hc.rd hw (by intro q;cases q) rfl hw (by rw [vg10 rfl];exact h.sees hi hv) (.inl ⟨rfl,rfl⟩) HandsR.none_
 . have hv:v i=.draws:=by rw [hv,vwp_at ha,vg12 hpc]
   rw [if_neg (by rw [hpc];decide),if_neg (by rw [hpc];decide),if_neg (by rw [hpc];decide),if_pos hpc]
   unfold draw
   rw [if_neg (by omega)]
   exact step_go hc hg ha (by decide) rfl hc.pm (.inl hg) (.inr (.inr (.inr ⟨rfl,by show (10:Int)<=13;decide,by show (13:Int)<=15;decide⟩))) h.T.nb hc.sc hc.rd hc.ol (by intro q;cases q) rfl hw (by rw [vg13 rfl];exact h.draws hN hi hv) (.inl ⟨rfl,rfl⟩) HandsR.none_
 . have hv:v i=.turns c.ticket:=by rw [hv,vwp_at ha,vg13 hpc]
   rw [if_neg (by rw [hpc];decide),if_neg (by rw [hpc];decide),if_neg (by rw [hpc];decide),if_neg (by rw [hpc];decide),if_pos hpc]
   unfold turn
   by_cases ht:c.ticket=a.sv
   . rw [if_pos ht]
     exact step_go hc hg ha (by decide) rfl hc.pm (.inl hg) (.inr (.inr (.inr ⟨rfl,by show (10:Int)<=14;decide,by show (14:Int)<=15;decide⟩))) hc.tb hc.sc hc.rd hc.ol (by intro q;cases q) rfl hw (by rw [vg14 rfl];show Inv N (mx a) (upd v i (.grant c.ticket));rw [ht];exact h.grant hN hi (by rw [hv,ht];rfl)) (.inl ⟨rfl,rfl⟩) HandsR.none_
   . rw [if_neg ht]
     exact step_go hc hg ha (by decide) rfl hc.pm (.inl hg) (.inr (.inr (.inr ⟨rfl,by rw [hpc];decide,by rw [hpc];decide⟩))) hc.tb hc.sc hc.rd hc.ol (by show c.pc≠0;rw [hpc];decide) rfl hw
      (by
        have e:vw 2 (m:Int) { c with pc:=c.pc } m=v i:=by rw [hv];exact vg13 hpc
        rw [e,upd_self];exact h) (.inl ⟨rfl,rfl⟩) HandsR.none_ (λ q=>by have q:c.pc=9:=q;omega)
 . have hv:v i=.grant c.ticket:=by rw [hv,vwp_at ha,vg14 hpc]
   rw [if_neg (by rw [hpc];decide),if_neg (by rw [hpc];decide),if_neg (by rw [hpc];decide),if_neg (by rw [hpc];decide),if_neg (by rw [hpc];decide),if_pos hpc]
   unfold grant
   have ci:CInv p { c with pc:=15 }:=hc.stay hg ha (by decide) rfl hc.pm (.inl hg) (.inr (.inr (.inr ⟨rfl,by show (10:Int)<=15;decide,by show (15:Int)<=15;decide⟩))) hc.tb hc.sc hc.rd hc.ol (by intro q;cases q) rfl
   cases hl:a.l with
   | nil =>
    dsimp only
    have c1:a.c<=1:=by
     have hg0:=cnt_nonneg (p:=isG) (v:=v) (N:=N)
     have ha0:=cnt_nonneg (p:=isA) (v:=v) (N:=N)
     have hh0:=cnt_nonneg (p:=isH) (v:=v) (N:=N)
     have hW:=h.W
     cases hS:(wd a.word).S
     . have q:cnt isG v N+a.c+cnt isA v N=b1 (wd a.word).K:=(hW.free hS).2.1
       rcases b1_cases (wd a.word).K with e | e<;>omega
     . obtain⟨q1,q2,q3,q4,q5⟩:=hW.starve hS
       cases hL:(wd a.word).L
       . have q:cnt isG v N+a.c+cnt isH v N=1:=q5 hL
         omega
       . have q:cnt isG v N+a.c=0:=(q4 hL).1
         omega
    rw [if_neg (by omega)]
    have q:=h.granted hi hv (show (mx a).l=[] from hl)
    rw [show (mx a).l=[] from hl] at q
    exact step_go hc hg ha (by decide) rfl hc.pm (.inl hg) (.inr (.inr (.inr ⟨rfl,by show (10:Int)<=15;decide,by show (15:Int)<=15;decide⟩))) hc.tb hc.sc hc.rd hc.ol (by intro q;cases q) rfl hw (by rw [vg15 rfl];exact q) (.inl ⟨rfl,rfl⟩) HandsR.none_
   | cons y rest =>
    dsimp only
    have hl':(mx a).l=y::rest:=hl
    obtain⟨j,hj,ey,hne,hvj⟩:=h.next hi hv hl'
    subst ey
    refine⟨_,rfl,ci,hw,.inr ⟨j,hj,hne,rfl,hvj,?_⟩,λ m' hm'=>?_,.inl ⟨rfl,rfl⟩,HandsR.none_⟩
    . rw [vwp_same (c':={ c with pc:=15 }) ha rfl,vg15 rfl]
      exact h.tells hi hv hj hne hvj hl'
    . rw [vwp_same (c':={ c with pc:=15 }) ha rfl];exact vw_far (by omega)
 . have hv:v i=.serves c.ticket:=by rw [hv,vwp_at ha,vg15 hpc]
   have hpos:=cnt_pos (p:=isT) (v:=v) hi (by rw [hv];rfl)
   rw [if_neg (by rw [hpc];decide),if_neg (by rw [hpc];decide),if_neg (by rw [hpc];decide),if_neg (by rw [hpc];decide),if_neg (by rw [hpc];decide),if_neg (by rw [hpc];decide),if_neg (by omega)]
   exact step_over hc hg hw (h.serves hN hi hv) (.inl ⟨rfl,rfl⟩) HandsR.none_
end
end P16
end
section
namespace P16
def view (w:Mw) (m:Nat) (i:Nat):V :=
 match w.cl[i]?,w.progs[i]? with
 | some c,some p=>vwp p c m
 | _,_=>.out
structure WInv (w:Mw):Prop where
 len:w.cl.length=w.progs.length
 l8:w.progs.length<=8
 pr:∀ p,p∈w.progs->∀ a,a∈p->OkA a
 ci:∀ (i:Nat) c p,w.cl[i]?=some c->w.progs[i]?=some p->CInv p c
 ow:∀ m,m<4->OkW (w.cm m).word
 iv:∀ m,m<4->Inv w.progs.length (mx (w.cm m)) (view w m)
 st:w.stop=0\/w.stop=11
 tm:0<=w.now/\w.now<=4611686018427387904
def Lk (w:Mw) (m:Nat):Bool:=(wd (w.cm m).word).L
def Sv (w:Mw) (m:Nat):Bool:=(wd (w.cm m).word).S
structure StpR (w:Mw) (who:Nat) (w':Mw) (ev:Option (Int×Int×Int)):Prop where
 inv:WInv w'
 pr:w'.progs=w.progs
 nw:w'.now=w.now
 still:w.stop≠0->w'=w/\ev=none
 kind:(ev=none/\w'.stop=w.stop/\∀ m,m<4->Lk w' m=Lk w m) \/
  (∃ n:Nat,n<4/\ev=some ((who:Int),4,(n:Int))/\w.stop=0/\w'={ w with stop:=11 }/\Lk w n=false) \/
  (∃ (n:Nat) (e:Int),n<4/\ev=some ((who:Int),e,(n:Int))/\w.stop=0/\w'.stop=0/\HeldR (some e) (Lk w n) (Lk w' n)/\∀ m,m≠n->w'.cm m=w.cm m)
 hands:(∀ m,m<4->w'.cm m=w.cm m)\/∃ c,w.cl[who]?=some c/\∀ m,m<4 ->
  (Sv w m=false->Sv w' m=true->c.pc=2/\c.st=true)/\(Sv w m=true->Sv w' m=false->c.pc=8) /\
  (∀ e,ev=some ((who:Int),e,(m:Int))->Sv w m=true->e≠1/\(e=0->c.pc=8))
section
variable {w:Mw} {who i m:Nat} {c:Cl} {p:List Ac}
theorem view_at (hc:w.cl[i]?=some c) (hp:w.progs[i]?=some p):view w m i=vwp p c m:=by unfold view;rw [hc,hp]
theorem StpR.same (h:WInv w) (he:w.stop≠0->True):StpR w who w none :=
 ⟨h,rfl,rfl,λ _=>⟨rfl,rfl⟩,.inl ⟨rfl,rfl,λ _ _=>rfl⟩,.inl λ _ _=>rfl⟩
theorem view_set (hi:who<w.cl.length) {c':Cl} {cm:Nat->Cm} (hp:w.progs[who]?=some p):view { w with cl:=w.cl.set who c',cm:=cm } m=upd (view w m) who (vwp p c' m):=by
 funext j
 by_cases e:j=who
 . subst e
   rw [upd_at]
   unfold view
   dsimp only
   rw [List.getElem?_set_self hi,hp]
 . rw [upd_off e]
   unfold view
   dsimp only
   rw [List.getElem?_set_ne (λ q=>e q.symm)]
theorem stp_inv (h:WInv w) (who:Nat):StpR w who (stp w who).1 (stp w who).2:=by
 unfold stp
 cases hcw:w.cl[who]? with
 | none=>exact StpR.same h (λ _=>trivial)
 | some c =>
  have hlt:who<w.cl.length:=(List.getElem?_eq_some_iff.1 hcw).1
  have hlt':who<w.progs.length:=by rw [<- h.len];exact hlt
  cases hpw:w.progs[who]? with
  | none=>exact absurd hpw (by rw [List.getElem?_eq_getElem hlt'];intro q;cases q)
  | some p =>
   dsimp only
   have hc:=h.ci who c p hcw hpw
   by_cases hst:w.stop≠0\/c.gst≠0
   . rw [if_pos hst];exact StpR.same h (λ _=>trivial)
   . rw [if_neg hst]
     have hs0:w.stop=0:=Classical.not_not.1 λ q=>hst (.inl q)
     have hg:c.gst=0:=Classical.not_not.1 λ q=>hst (.inr q)
     cases hact:p[c.act.toNat]? with
     | none=>exact StpR.same h (λ _=>trivial)
     | some a =>
      obtain⟨k,n⟩:=a
      dsimp only
      have hok:=h.pr p (List.mem_of_getElem? hpw) (k,n) (List.mem_of_getElem? hact)
      by_cases hk3:k=3
      . rw [if_pos hk3]
        subst hk3
        have cw:CInv p (work n p.length c)/\(work n p.length c).pc=0:=by
         unfold work
         have hpc:c.pc=0:=by
          rcases hc.pcs 3 n hact with e | ⟨e,_⟩ | ⟨e,_⟩ | ⟨e,_⟩
          . exact e
          . cases e
          . cases e
          . cases e
         split
         . exact⟨(show CInv p (over { c with worked:=c.worked+1 } p.length) from hc.over hg),rfl⟩
         . rename_i hn
           refine⟨⟨hc.a0,hc.a1,hc.pm,hc.g,hc.dn,hc.pk,hc.pcs,hc.fin,hc.tb,hc.sc,hc.rd,hc.ol,hc.fr,.inr ⟨?_,n,hact,?_⟩,hc.tr⟩,hpc⟩
           . show 0<c.worked+1
             rcases hc.wk with e | ⟨e,_⟩<;>omega
           . show c.worked+1<n
             have n0:0<=n:=hok.2.1
             have h1:n≠0:=λ q=>hn (.inl q)
             have h2:c.worked+1≠n:=λ q=>hn (.inr q)
             rcases hc.wk with e | ⟨e,n',e',e''⟩
             . omega
             . rw [hact] at e';cases e';omega
        have hv:∀ m,view { w with cl:=w.cl.set who (work n p.length c) } m=view w m:=λ m=>by
         have e:=view_set (m:=m) (c':=work n p.length c) (cm:=w.cm) hlt hpw
         have e2:vwp p (work n p.length c) m=view w m who:=by
          rw [vwp_start cw.2,view_at hcw hpw,vwp_at hact]
          unfold vw
          split
          . rfl
          . rw [if_neg (by decide),if_neg (by decide),if_neg (by decide)]
         rw [e2,upd_self] at e
         exact e
        refine⟨⟨by show (w.cl.set who _).length=_;rw [List.length_set];exact h.len,h.l8,h.pr,λ j c' p' hj hp'=>?_,h.ow,λ m hm=>?_,h.st,h.tm⟩,rfl,rfl,λ q=>absurd hs0 q,.inl ⟨rfl,rfl,λ _ _=>rfl⟩,.inl λ _ _=>rfl⟩
        . by_cases e:j=who
          . subst e
            rw [List.getElem?_set_self hlt] at hj
            cases hj
            rw [hpw] at hp';cases hp'
            exact cw.1
          . rw [List.getElem?_set_ne (λ q=>e q.symm)] at hj
            exact h.ci j c' p' hj hp'
        . rw [hv m];exact h.iv m hm
      . rw [if_neg hk3]
        have hn:0<=n/\n<4:=⟨hok.2.1,hok.2.2 hk3⟩
        obtain⟨m,rfl⟩:∃ m:Nat,n=(m:Int):=⟨n.toNat,by omega⟩
        have hm:m<4:=by omega
        rw [Int.toNat_natCast]
        have hiv:=h.iv m hm
        have how:=h.ow m hm
        have hvi:view w m who=vwp p c m:=view_at hcw hpw
        have hres:(touch w.now (runs w.cl) p.length who k c (w.cm m)=.fault/\Lk w m=false)\/∃ o,touch w.now (runs w.cl) p.length who k c (w.cm m)=.ok o/\StepOk w.progs.length who m p k c (w.cm m) (view w m) o:=by
         unfold touch
         rcases hok.1 with e | e | e | e
         . have e:k=0:=e
           subst e
           rw [if_pos rfl]
           exact .inr (lock_any h.l8 hlt' hiv how hc hg hact hvi h.tm)
         . have e:k=1:=e
           subst e
           rw [if_neg (by decide),if_pos rfl]
           exact .inr (try_any h.l8 hlt' hiv how hc hg hact hvi)
         . have e:k=2:=e
           subst e
           rw [if_neg (by decide),if_neg (by decide)]
           rcases give_any h.l8 hlt' hiv how hc hg hact hvi with ⟨e1,e2,_⟩ | q
           . exact .inl ⟨e1,e2⟩
           . exact .inr q
         . exact absurd e hk3
        rcases hres with ⟨hf,hL⟩ | ⟨o,ho,hs⟩
        . rw [hf]
          refine⟨⟨h.len,h.l8,h.pr,h.ci,h.ow,h.iv,.inr rfl,h.tm⟩,rfl,rfl,λ q=>absurd hs0 q,.inr (.inl ⟨m,hm,rfl,hs0,rfl,hL⟩),.inl λ _ _=>rfl⟩
        . rw [ho]
          dsimp only
          have hcm:∀ m',(if m'=m then o.m else w.cm m')=if m'=m then o.m else w.cm m':=λ _=>rfl
          have kindR:∀ w':Mw,w'.stop=w.stop->(∀ m',w'.cm m'=if m'=m then o.m else w.cm m') ->
           (o.ev.map (λ e=>((who:Int),e,(m:Int)))=none/\w'.stop=w.stop/\∀ m',m'<4->Lk w' m'=Lk w m') \/
           (∃ n:Nat,n<4/\o.ev.map (λ e=>((who:Int),e,(m:Int)))=some ((who:Int),4,(n:Int))/\w.stop=0/\w'={ w with stop:=11 }/\Lk w n=false) \/
           (∃ (n:Nat) (e:Int),n<4/\o.ev.map (λ e=>((who:Int),e,(m:Int)))=some ((who:Int),e,(n:Int))/\w.stop=0/\w'.stop=0/\HeldR (some e) (Lk w n) (Lk w' n)/\∀ m',m'≠n->w'.cm m'=w.cm m'):=λ w' hw1 hw2=>by
           have hL':Lk w' m=(wd o.m.word).L:=by unfold Lk;rw [hw2,if_pos rfl]
           cases hev:o.ev with
           | none =>
            refine .inl ⟨rfl,hw1,λ m' _=>?_⟩
            by_cases e:m'=m
            . subst e
              rw [hL']
              have q:=hs.he
              rw [hev] at q
              rcases q with ⟨_,q⟩ | ⟨q,_⟩ | ⟨q,_⟩ | ⟨q,_⟩ | ⟨q,_⟩
              . exact q
              all_goals cases q
            . unfold Lk;rw [hw2,if_neg e]
           | some e =>
            refine .inr (.inr ⟨m,e,hm,rfl,hs0,by rw [hw1,hs0],?_,λ m' hne=>by rw [hw2,if_neg hne]⟩)
            rw [hL',<- hev]
            exact hs.he
          have handsR:∀ w':Mw,(∀ m',w'.cm m'=if m'=m then o.m else w.cm m')->∃ c,w.cl[who]?=some c/\∀ m',m'<4 ->
           (Sv w m'=false->Sv w' m'=true->c.pc=2/\c.st=true)/\(Sv w m'=true->Sv w' m'=false->c.pc=8) /\
           (∀ e,o.ev.map (λ e=>((who:Int),e,(m:Int)))=some ((who:Int),e,(m':Int))->Sv w m'=true->e≠1/\(e=0->c.pc=8)):=λ w' hw2=>by
           refine⟨c,hcw,λ m' _=>?_⟩
           by_cases e:m'=m
           . subst e
             have hS':Sv w' m'=(wd o.m.word).S:=by unfold Sv;rw [hw2,if_pos rfl]
             obtain⟨q1,q2,q3,q4⟩:=hs.ha
             refine⟨λ a b=>(q1 a (hS'▸b)).2,λ a b=>(q2 a (hS'▸b)).2,λ e he hS=>?_⟩
             cases hev:o.ev with
             | none=>rw [hev] at he;cases he
             | some e' =>
              rw [hev] at he
              cases he
              exact⟨λ q=>q3 hS (by rw [hev,q]),λ q=>(q4 hS (by rw [hev,q])).2⟩
           . have hS':Sv w' m'=Sv w m':=by unfold Sv;rw [hw2,if_neg e]
             refine⟨(λ a b=>by rw [hS',a] at b;cases b),(λ a b=>by rw [hS',a] at b;cases b),λ e' he _=>?_⟩
             cases hev:o.ev with
             | none=>rw [hev] at he;cases he
             | some e'' =>
              rw [hev] at he
              injection he with he
              injection he with _ he
              injection he with _ he
              exact absurd (by omega) e
          have ciW:∀ (j:Nat) c' p',(w.cl.set who o.c)[j]?=some c'->w.progs[j]?=some p'->CInv p' c':=λ j c' p' hj hp'=>by
           by_cases e:j=who
           . subst e
             rw [List.getElem?_set_self hlt] at hj
             cases hj
             rw [hpw] at hp';cases hp'
             exact hs.ci
           . rw [List.getElem?_set_ne (λ q=>e q.symm)] at hj
             exact h.ci j c' p' hj hp'
          have owW:∀ m',m'<4->OkW (if m'=m then o.m else w.cm m').word:=λ m' hm'=>by
           by_cases e:m'=m
           . rw [if_pos e];exact hs.ow
           . rw [if_neg e];exact h.ow m' hm'
          rcases hs.iv with ⟨hr,hinv⟩ | ⟨j,hj,hne,hr,hvj,hinv⟩
          . rw [hr]
            dsimp only
            refine⟨⟨by show (w.cl.set who _).length=_;rw [List.length_set];exact h.len,h.l8,h.pr,ciW,owW,λ m' hm'=>?_,h.st,h.tm⟩,rfl,rfl,λ q=>absurd hs0 q,kindR _ rfl (λ _=>rfl),.inr (handsR _ (λ _=>rfl))⟩
            rw [view_set hlt hpw]
            show Inv w.progs.length (mx (if m'=m then o.m else w.cm m')) _
            by_cases e:m'=m
            . subst e;rw [if_pos rfl];exact hinv
            . rw [if_neg e,hs.far m' e]
              have e2:view w m' who=.out:=by rw [view_at hcw hpw,vwp_at hact];exact vw_far (by omega)
              rw [<- e2,upd_self];exact h.iv m' hm'
          . have hjl:j<w.cl.length:=by rw [h.len];exact hj
            obtain⟨cj,hcj⟩:∃ cj,w.cl[j]?=some cj:=⟨_,List.getElem?_eq_getElem hjl⟩
            obtain⟨pj,hpj⟩:∃ pj,w.progs[j]?=some pj:=⟨_,List.getElem?_eq_getElem hj⟩
            have hcij:=h.ci j cj pj hcj hpj
            rw [view_at hcj hpj] at hvj
            have hvj0:=hvj
            obtain⟨kj,nj,haj,hkj⟩:∃ kj nj,pj[cj.act.toNat]?=some (kj,nj)/\vw kj nj cj m=.wok true:=by
             unfold vwp at hvj
             cases haj:pj[cj.act.toNat]? with
             | none=>rw [haj] at hvj;cases hvj
             | some a=>rw [haj] at hvj;exact⟨a.1,a.2,rfl,hvj⟩
            obtain⟨rfl,rfl,hpcj,hgj⟩:nj=(m:Int)/\kj=0/\cj.pc=7/\cj.gst=1:=by
             unfold vw at hkj
             by_cases h1:nj≠m
             . rw [if_pos h1] at hkj;cases hkj
             . rw [if_neg h1] at hkj
               by_cases h2:kj=0
               . rw [if_pos h2] at hkj
                 refine⟨Classical.not_not.1 h1,h2,?_⟩
                 by_cases h7:cj.pc=7
                 . rw [h7] at hkj
                   refine⟨h7,?_⟩
                   have hkj:V.wok (decide (cj.gst=1))=.wok true:=hkj
                   injection hkj with hkj
                   exact of_decide_eq_true hkj
                 . exfalso
                   revert hkj
                   split
                   . intro q;cases q
                   . split
                     . intro q;cases q
                     . split
                       . intro q;cases q
                       . split
                         . intro q;cases q
                         . split
                           . intro q;cases q
                           . split
                             . intro q;cases q
                             . split<;>(intro q;cases q)
               . rw [if_neg h2] at hkj
                 by_cases h3:kj=1
                 . rw [if_pos h3] at hkj;split at hkj<;>cases hkj
                 . rw [if_neg h3] at hkj
                   by_cases h4:kj=2
                   . rw [if_pos h4] at hkj
                     revert hkj
                     split
                     . intro q;cases q
                     . split
                       . intro q;cases q
                       . split
                         . intro q;cases q
                         . split
                           . intro q;cases q
                           . split
                             . intro q;cases q
                             . split<;>(intro q;cases q)
                   . rw [if_neg h4] at hkj;cases hkj
            rw [hr]
            dsimp only
            have hget:(w.cl.set who o.c)[((j:Int)).toNat]?=some cj:=by
             rw [Int.toNat_natCast,List.getElem?_set_ne (λ q=>hne q.symm)];exact hcj
            have htold:told cj=some { cj with gst:=0 }:=by
             unfold told
             rw [if_neg (by rw [hgj];rintro (q | ⟨q,_⟩)<;>cases q),if_neg (by rw [hgj];decide)]
            rw [hget]
            simp only [Option.bind_some,htold,Int.toNat_natCast]
            have hlj:j<(w.cl.set who o.c).length:=by rw [List.length_set];exact hjl
            have vj:∀ m',vwp pj { cj with gst:=0 } m'=if m'=m then .wok false else .out:=λ m'=>by
             rw [vwp_same (c':={ cj with gst:=0 }) haj rfl]
             by_cases e:m'=m
             . subst e;rw [if_pos rfl];exact vl7 (c:={ cj with gst:=0 }) hpcj
             . rw [if_neg e];exact vw_far (by omega)
            refine⟨⟨by show ((w.cl.set who _).set j _).length=_;rw [List.length_set,List.length_set];exact h.len,h.l8,h.pr,λ i c' p' hi hp'=>?_,owW,λ m' hm'=>?_,h.st,h.tm⟩,rfl,rfl,λ q=>absurd hs0 q,kindR _ rfl (λ _=>rfl),.inr (handsR _ (λ _=>rfl))⟩
            . by_cases e:i=j
              . subst e
                rw [List.getElem?_set_self hlj] at hi
                cases hi
                rw [hpj] at hp';cases hp'
                have ne:cj.act≠pj.length:=λ q=>by
                 have:=hcij.dn.2 q;omega
                exact⟨hcij.a0,hcij.a1,hcij.pm,.inl rfl,⟨λ q=>(by cases q),λ q=>absurd q ne⟩,λ q=>(by cases q),hcij.pcs,hcij.fin,hcij.tb,hcij.sc,hcij.rd,hcij.ol,hcij.fr,hcij.wk,hcij.tr⟩
              . rw [List.getElem?_set_ne (λ q=>e q.symm)] at hi
                exact ciW i c' p' hi hp'
            . have hvw:view { w with cl:=(w.cl.set who o.c).set j { cj with gst:=0 },cm:=λ j=>if j=m then o.m else w.cm j } m'=upd (upd (view w m') j (vwp pj { cj with gst:=0 } m')) who (vwp p o.c m'):=by
               have e1:=view_set (w:={ w with cl:=w.cl.set who o.c }) (who:=j) (m:=m') (c':={ cj with gst:=0 }) (cm:=λ j=>if j=m then o.m else w.cm j) (p:=pj) hlj hpj
               have e2:=view_set (m:=m') (c':=o.c) (cm:=w.cm) hlt hpw
               refine e1.trans ?_
               have e2:view { w with cl:=w.cl.set who o.c } m'=upd (view w m') who (vwp p o.c m'):=e2
               rw [e2]
               funext x
               by_cases x1:x=who
               . subst x1;rw [upd_off (λ q=>hne q.symm),upd_at,upd_at]
               . by_cases x2:x=j
                 . subst x2;rw [upd_at,upd_off x1,upd_at]
                 . rw [upd_off x2,upd_off x1,upd_off x1,upd_off x2]
              rw [hvw,vj m']
              show Inv w.progs.length (mx (if m'=m then o.m else w.cm m')) _
              by_cases e:m'=m
              . subst e;rw [if_pos rfl,if_pos rfl];exact hinv
              . rw [if_neg e,if_neg e,hs.far m' e]
                have e2:view w m' who=.out:=by rw [view_at hcw hpw,vwp_at hact];exact vw_far (by omega)
                have e3:view w m' j=.out:=by rw [view_at hcj hpj,vwp_at haj];exact vw_far (by omega)
                have e4:upd (view w m') j .out=view w m':=by rw [<- e3];exact upd_self
                rw [e4,<- e2,upd_self];exact h.iv m' hm'
end
end P16
end
section
namespace P16
section
variable {l:List (List Ac)} {p:List Ac} {w:Mw} {who:Nat}
theorem new_cl {i:Nat} {c:Cl} (h:(new l).cl[i]?=some c):∃ p,l[i]?=some p/\c=first 0 false 0 p.length:=by
 have h:(l.map λ p=>first 0 false 0 p.length)[i]?=some c:=h
 rw [List.getElem?_map] at h
 cases hp:l[i]? with
 | none=>rw [hp] at h;cases h
 | some p=>rw [hp] at h;cases h;exact⟨p,rfl,rfl⟩
theorem first_inv (p:List Ac):CInv p (first 0 false 0 p.length):=by
 refine⟨Int.le_refl _,by show (0:Int)<=_;omega,?_,?_,?_,?_,λ k n _=>.inl rfl,λ _=>rfl,⟨Int.le_refl _,by show (0:Int)<4294967296;decide⟩,.inl rfl,⟨Int.le_refl _,by show (0:Int)<=4;decide⟩,⟨Int.le_refl _,by show (0:Int)<2147483648;decide⟩,λ _=>⟨rfl,rfl⟩,.inl rfl,λ q=>by cases q⟩
 . show (if (0:Int)=p.length then false else false)=false
   split<;>rfl
 . show (if (0:Int)=p.length then (2:Int) else 0)=0\/(if (0:Int)=p.length then (2:Int) else 0)=1\/(if (0:Int)=p.length then (2:Int) else 0)=2
   split
   . exact .inr (.inr rfl)
   . exact .inl rfl
 . show (if (0:Int)=p.length then (2:Int) else 0)=2↔(0:Int)=p.length
   split
   . rename_i e;exact⟨λ _=>e,λ _=>rfl⟩
   . rename_i e;exact⟨(λ q=>by cases q),λ q=>absurd q e⟩
 . show (if (0:Int)=p.length then (2:Int) else 0)=1->_
   split
   . intro q;cases q
   . intro q;cases q
theorem WInv.new (h8:l.length<=8) (hok:∀ p,p∈l->∀ a,a∈p->OkA a):WInv (new l):=by
 refine⟨by show (l.map _).length=l.length;rw [List.length_map],h8,hok,λ i c p hc hp=>?_,λ m _=>⟨Int.le_refl _,by show (0:Int)<2147483648;decide⟩,λ m _=>?_,.inl rfl,⟨Int.le_refl _,by show (0:Int)<=4611686018427387904;decide⟩⟩
 . obtain⟨p',hp',rfl⟩:=new_cl hc
   have hp:l[i]?=some p:=hp
   rw [hp] at hp';cases hp'
   exact first_inv p
 . have e:mx ((P16.new l).cm m)={ w:={ L:=false,K:=false,S:=false,n:=0 },nx:=0,sv:=0,c:=0,l:=[] }:=by
    show (⟨wd 0,0,0,0,[]⟩:Mx)=_
    rw [wd0]
   rw [e]
   refine Inv.first λ i _=>?_
   unfold view
   split
   . rename_i c p hc hp
     obtain⟨p',_,rfl⟩:=new_cl hc
     exact vwp_start rfl
   . rfl
def cK (k:Int) (p:List Ac):Nat:=(p.filter λ a=>decide (a.1=k)).length
end
end P16
end
section
namespace P16
theorem WInv.tick {w:Mw} {d:Int} (h:WInv w) (h0:0<=d) (h1:w.now+d<=4611686018427387904):WInv (tick w d):=by
 unfold P16.tick
 split
 . exact h
 . have:=h.tm
   exact⟨h.len,h.l8,h.pr,h.ci,h.ow,h.iv,h.st,⟨by show 0<=w.now+d;omega,h1⟩⟩
def cAt (a k:Nat) (len:Nat):Cl:={ first 0 false a len with worked:=k }
def W1 (p:List Ac) (a k:Nat) (hd:Option Nat) (now:Int):Mw :=
 ⟨now,[p],[cAt a k p.length],λ m=>⟨if hd=some m then 1 else 0,0,0,0,[]⟩,0⟩
section
variable {p:List Ac} {a k:Nat} {n now:Int} {hd:Option Nat}
theorem cAt_lt (h:a<p.length):cAt a k p.length={ gst:=0,permit:=false,act:=a,pc:=0,worked:=k,ticket:=0,first:=false,told:=false,since:=-1,st:=false,aw:=false,rounds:=0,old:=0 }:=by
 have:¬ (a:Int)=p.length:=by omega
 unfold cAt first
 simp [this]
theorem over_cAt (h:a<p.length):over (cAt a k p.length) p.length=cAt (a+1) 0 p.length:=by
 rw [cAt_lt h]
 unfold over cAt
 simp only [Int.natCast_add]
 unfold first
 congr 1
theorem new_one:P16.new [p]=W1 p 0 0 none 0:=by
 unfold P16.new W1 cAt
 congr 1
theorem cAt_facts (h:a<p.length):(cAt a k p.length).gst=0/\(cAt a k p.length).pc=0/\(cAt a k p.length).worked=k/\(cAt a k p.length).act.toNat=a:=by
 rw [cAt_lt h]
 exact⟨rfl,rfl,rfl,by simp⟩
theorem alone_touch {kk e:Int} {hd':Option Nat} (ha:p[a]?=some (kk,n)) (hk:kk≠3)
 (ht:∀ r:Nat,touch now r p.length ((0:Nat):Int) kk (cAt a 0 p.length) ⟨if hd=some n.toNat then 1 else 0,0,0,0,[]⟩=.ok ⟨cAt (a+1) 0 p.length,⟨if hd'=some n.toNat then 1 else 0,0,0,0,[]⟩,none,some e⟩)
 (hh:∀ m,m≠n.toNat->(hd=some m↔hd'=some m)):stp (W1 p a 0 hd now) 0=(W1 p (a+1) 0 hd' now,some (0,e,n)):=by
 have hlt:a<p.length:=(List.getElem?_eq_some_iff.1 ha).1
 obtain⟨f1,f2,f3,f4⟩:=cAt_facts (p:=p) (k:=0) hlt
 have hcm:(λ j=>if j=n.toNat then (⟨if hd'=some n.toNat then 1 else 0,0,0,0,[]⟩:Cm) else ⟨if hd=some j then 1 else 0,0,0,0,[]⟩)=λ m=>⟨if hd'=some m then 1 else 0,0,0,0,[]⟩:=by
  funext j
  by_cases e:j=n.toNat
  . rw [if_pos e,e]
  . rw [if_neg e]
    have:=hh j e
    by_cases q:hd=some j
    . rw [if_pos q,if_pos (this.1 q)]
    . rw [if_neg q,if_neg (λ q'=>q (this.2 q'))]
 unfold stp W1
 simp only [List.getElem?_cons_zero,List.set_cons_zero,f1,f4,ha,ht,ne_eq,not_true_eq_false,or_self,if_false,if_neg hk,hcm,Option.map]
 rfl
theorem alone_lock (ha:p[a]?=some (0,n)):stp (W1 p a 0 none now) 0=(W1 p (a+1) 0 (some n.toNat) now,some (0,0,n)):=by
 have hlt:a<p.length:=(List.getElem?_eq_some_iff.1 ha).1
 obtain⟨f1,f2,f3,f4⟩:=cAt_facts (p:=p) (k:=0) hlt
 refine alone_touch ha (by decide) (λ r=>?_) (λ m hm=>⟨(λ q=>by cases q),(λ q=>by cases q;exact absurd rfl hm)⟩)
 unfold touch lock
 rw [if_pos rfl,if_pos f2,over_cAt hlt]
 simp [go]
theorem alone_give (ha:p[a]?=some (2,n)):stp (W1 p a 0 (some n.toNat) now) 0=(W1 p (a+1) 0 none now,some (0,3,n)):=by
 have hlt:a<p.length:=(List.getElem?_eq_some_iff.1 ha).1
 obtain⟨f1,f2,f3,f4⟩:=cAt_facts (p:=p) (k:=0) hlt
 refine alone_touch ha (by decide) (λ r=>?_) (λ m hm=>⟨(λ q=>by cases q;exact absurd rfl hm),(λ q=>by cases q)⟩)
 unfold touch give unlock
 rw [if_neg (by decide),if_neg (by decide),if_pos f2,over_cAt hlt]
 simp [go,wd]
end
end P16
end
section
open Go.ChangeShapes Go.WideShapes Go.ChangeAt Go.RowKit
namespace P3
abbrev fl (a b c:Bool) (n:Int):Value:=.agg #[.bool a,.bool b,.bool c,.int .i64 n]
def b1 (a:Bool):Int:=if a then 1 else 0
def bitI (a:Bool) (b:Int):Int:=if a then b else 0
def pw (a b c:Bool) (n:Int):Int:=8*n+4*b1 c+2*b1 b+b1 a
theorem fbit_ok (is:Bool) (b:Int) (w:World):Calls Tryz.prog 234 #[.bool is,.int .i64 b] w λ e w'=>e=.returned (.int .i64 (bitI is b))/\w'=w:=by
 cases is
 . go_enter Tryz.func234,Tryz.ntmps234
   go_wp2
   go_ret
   exact⟨rfl,rfl⟩
 . go_enter Tryz.func234,Tryz.ntmps234
   go_wp2
   go_ret
   exact⟨rfl,rfl⟩
theorem i64_small {x:Nat} (h:x<2 ^ 63):IntKind.i64.wrap (x:Int)=x:=by
 rw [IntKind.wrap_i64];omega
theorem ofInt_i64 (a:Nat) (ha:a<2 ^ 63):(BitVec.ofInt 64 (a:Int)).toNat=a:=by
 rw [BitVec.toNat_ofInt];omega
theorem i64_or (i x y:Nat) (hx:x % 2 ^ i=0) (hy:y<2 ^ i) (h:x+y<2 ^ 63):bits .or .i64 (x:Int) (y:Int)=((x+y:Nat):Int):=by
 show IntKind.i64.wrap ((BitVec.ofInt 64 (x:Int) ||| BitVec.ofInt 64 (y:Int)).toNat:Int)=_
 rw [BitVec.toNat_or,ofInt_i64 x (by omega),ofInt_i64 y (by omega),nat_join i x y hx hy,i64_small h]
theorem i64_bit (i x:Nat) (hi:2 ^ i<2 ^ 63) (h:x<2 ^ 63):bits .and .i64 (x:Int) ((2 ^ i:Nat):Int)=((x / 2 ^ i % 2*2 ^ i:Nat):Int):=by
 have hl:x &&& 2 ^ i<2 ^ 63:=Nat.lt_of_le_of_lt Nat.and_le_left h
 show IntKind.i64.wrap ((BitVec.ofInt 64 (x:Int) &&& BitVec.ofInt 64 ((2 ^ i:Nat):Int)).toNat:Int)=_
 rw [BitVec.toNat_and,ofInt_i64 x h,ofInt_i64 _ hi,i64_small hl,nat_bit]
theorem i64_mask31 (n:Int):bits .and .i64 n 2147483647=n % 2147483648:=by
 have hm:(BitVec.ofInt 64 2147483647).toNat=2 ^ 31-1:=by decide
 have key:(BitVec.ofInt 64 n &&& BitVec.ofInt 64 2147483647).toNat=(n % ((2 ^ 64:Nat):Int)).toNat % 2 ^ 31:=by
  rw [BitVec.toNat_and,BitVec.toNat_ofInt,hm,Nat.and_two_pow_sub_one_eq_mod]
 show IntKind.i64.wrap ((BitVec.ofInt 64 n &&& BitVec.ofInt 64 2147483647).toNat:Nat)=n % 2147483648
 rw [key,IntKind.wrap_i64]
 omega
theorem b1_le (a:Bool):0<=b1 a/\b1 a<=1:=by cases a<;>decide
theorem pw_nat (a b c:Bool) (n:Int) (h:0<=n/\n<268435456):∃ x:Nat,pw a b c n=(x:Int)/\x<2147483648:=by
 have h1:=b1_le a
 have h2:=b1_le b
 have h3:=b1_le c
 refine⟨(pw a b c n).toNat,?_,?_⟩<;>unfold pw<;>omega
theorem and1 (a b c:Bool) (n:Int) (h:0<=n/\n<268435456):(bits .and .i64 (pw a b c n) 1 != 0)=a:=by
 obtain⟨x,hx,hl⟩:=pw_nat a b c n h
 have e:=i64_bit 0 x (by decide) (by omega)
 simp only [Nat.pow_zero,Nat.div_one,Nat.mul_one] at e
 rw [hx]
 rw [show (1:Int)=((1:Nat):Int) from rfl,e]
 have h2:pw a b c n=x:=hx
 unfold pw at h2
 cases a<;>cases b<;>cases c<;>simp [b1] at h2<;>simp<;>omega
theorem and2 (a b c:Bool) (n:Int) (h:0<=n/\n<268435456):(bits .and .i64 (pw a b c n) 2 != 0)=b:=by
 obtain⟨x,hx,hl⟩:=pw_nat a b c n h
 have e:=i64_bit 1 x (by decide) (by omega)
 simp only [Nat.pow_one] at e
 rw [hx]
 rw [show (2:Int)=((2:Nat):Int) from rfl,e]
 have h2:pw a b c n=x:=hx
 unfold pw at h2
 cases a<;>cases b<;>cases c<;>simp [b1] at h2<;>simp<;>omega
theorem and4 (a b c:Bool) (n:Int) (h:0<=n/\n<268435456):(bits .and .i64 (pw a b c n) 4 != 0)=c:=by
 obtain⟨x,hx,hl⟩:=pw_nat a b c n h
 have e:=i64_bit 2 x (by decide) (by omega)
 rw [show (2:Nat) ^ 2=4 from rfl] at e
 rw [hx]
 rw [show (4:Int)=((4:Nat):Int) from rfl,e]
 have h2:pw a b c n=x:=hx
 unfold pw at h2
 cases a<;>cases b<;>cases c<;>simp [b1] at h2<;>simp<;>omega
theorem div8 (a b c:Bool) (n:Int) (h:0<=n/\n<268435456):wrap64 ((pw a b c n).tdiv 8)=n:=by
 have h1:=b1_le a
 have h2:=b1_le b
 have h3:=b1_le c
 have h0:0<=pw a b c n:=by unfold pw;omega
 rw [Int.tdiv_eq_ediv_of_nonneg h0]
 unfold wrap64 pw
 omega
theorem ors (a b c:Bool) (n:Int):bits .or .i64 (bits .or .i64 (bits .or .i64 (bits .and .i64 (wrap64 (n*8)) 2147483647) (bitI c 4)) (bitI b 2)) (bitI a 1)=pw a b c (n % 268435456):=by
 rw [i64_mask31]
 obtain⟨x,hx⟩:∃ x:Nat,n % 268435456=(x:Int):=⟨(n % 268435456).toNat,by omega⟩
 have hl:x<268435456:=by omega
 have e:wrap64 (n*8) % 2147483648=((8*x:Nat):Int):=by unfold wrap64;omega
 rw [e,hx]
 have e3:bitI c 4=((if c=true then 4 else 0:Nat):Int):=by cases c<;>rfl
 have e2:bitI b 2=((if b=true then 2 else 0:Nat):Int):=by cases b<;>rfl
 have e1:bitI a 1=((if a=true then 1 else 0:Nat):Int):=by cases a<;>rfl
 rw [e3,e2,e1,i64_or 3 (8*x) _ (by omega) (by cases c<;>decide) (by cases c<;>simp<;>omega)]
 rw [i64_or 2 _ _ (by cases c<;>simp<;>omega) (by cases b<;>decide) (by cases b<;>cases c<;>simp<;>omega)]
 rw [i64_or 1 _ _ (by cases c<;>cases b<;>simp<;>omega) (by cases a<;>decide) (by cases a<;>cases b<;>cases c<;>simp<;>omega)]
 unfold pw
 cases a<;>cases b<;>cases c<;>simp [b1]<;>omega
theorem fl_eq {a b c a' b' c':Bool} {n n':Int} (h1:a=a') (h2:b=b') (h3:c=c') (h4:n=n'):fl a b c n=fl a' b' c' n':=by rw [h1,h2,h3,h4]
theorem split_ok (a b c:Bool) (n:Int) (h:0<=n/\n<268435456) (w:World):Calls Tryz.prog 38 #[.int .i64 (pw a b c n)] w λ e w'=>e=.returned (fl a b c n)/\Gr w w':=by
 have h1:=hid (and1 a b c n h)
 have h2:=hid (and2 a b c n h)
 have h3:=hid (and4 a b c n h)
 have h4:=hid (div8 a b c n h)
 generalize pw a b c n=v at *
 go_enter Tryz.func38,Tryz.ntmps38
 go_wp2
 refine bodyPost_ret (v:=fl (bits .and .i64 v 1 != 0) (bits .and .i64 v 2 != 0) (bits .and .i64 v 4 != 0) (wrap64 (v.tdiv 8))) (by simp [results,Tryz.results38,go_sem]) rfl ⟨?_,(Gr.refl _).al _⟩
 exact congrArg _ (fl_eq h1.out h2.out h3.out h4.out)
theorem join_ok (a b c:Bool) (n:Int) (w:World):Calls Tryz.prog 227 #[fl a b c n] w λ e w'=>e=.returned (.int .i64 (pw a b c (n % 268435456)))/\Gr w w':=by
 have h:=hid (ors a b c n)
 go_enter Tryz.func227,Tryz.ntmps227
 go_wp2_with fail
 go_quiet ((go_at_call 234;exact Calls.quiet_of_same (fbit_ok _ _ _)))
 go_wp2_with fail
 go_ret
 exact⟨congrArg _ (congrArg _ h.out),((Gr.refl _).al _).drN _⟩
def FlAt (w:World) (k:Nat) (a b c:Bool) (n:Int):Prop :=
 w.cell? ⟨k,0,none⟩=some (.bool a)/\w.cell? ⟨k,1,none⟩=some (.bool b)/\w.cell? ⟨k,2,none⟩=some (.bool c)/\w.cell? ⟨k,3,none⟩=some (.int .i64 n)/\k<w.heap.size
theorem FlAt.new (w:World) (a b c:Bool) (n:Int) (t:TypeId):FlAt (w.alloc (.cells #[.bool a,.bool b,.bool c,.int .i64 n] t)) w.heap.size a b c n :=
 ⟨by simp,by simp,by simp,by simp,by simp⟩
theorem FlAt.gr {w w':World} {k:Nat} {a b c:Bool} {n:Int} (h:FlAt w k a b c n) (g:Gr w w'):FlAt w' k a b c n:=by
 obtain⟨h0,h1,h2,h3,h4⟩:=h
 exact⟨(g.cell (p:=⟨k,0,none⟩) h4).trans h0,(g.cell (p:=⟨k,1,none⟩) h4).trans h1,(g.cell (p:=⟨k,2,none⟩) h4).trans h2,(g.cell (p:=⟨k,3,none⟩) h4).trans h3,Nat.lt_of_lt_of_le h4 g.size⟩
def Fz (w:World) (k:Nat):Prop:=w.frozen? ⟨k,0,none⟩=false/\w.frozen? ⟨k,1,none⟩=false/\w.frozen? ⟨k,2,none⟩=false/\w.frozen? ⟨k,3,none⟩=false/\k<w.heap.size
theorem Fz.new (w:World) (C:Array Value) (t:TypeId):Fz (w.alloc (.cells C t)) w.heap.size :=
 ⟨by simp [go_sem],by simp [go_sem],by simp [go_sem],by simp [go_sem],by simp⟩
theorem Fz.gr {w w':World} {k:Nat} (h:Fz w k) (g:Gr w w'):Fz w' k:=by
 obtain⟨h0,h1,h2,h3,h4⟩:=h
 exact⟨(g.frozen (p:=⟨k,0,none⟩) h4).trans h0,(g.frozen (p:=⟨k,1,none⟩) h4).trans h1,(g.frozen (p:=⟨k,2,none⟩) h4).trans h2,(g.frozen (p:=⟨k,3,none⟩) h4).trans h3,Nat.lt_of_lt_of_le h4 g.size⟩
theorem Pack_ok (a b c:Bool) (n:Int) (h:0<=n/\n<268435456) (w:World):Calls Tryz.prog 217 #[fl a b c n] w λ e w'=>e=.returned (.tuple #[.int .i64 (pw a b c n),.int .i64 0])/\Gr w w':=by
 have hm:n % 268435456=n:=by omega
 have c1:=λ w=>hid (hm▸join_ok a b c n w)
 have c2:=λ w=>hid (split_ok a b c n h w)
 clear hm h
 generalize pw a b c n=v at *
 go_enter Tryz.func217,Tryz.ntmps217
 go_wp2_with fail
 refine (c1 _).out.mono ?_
 rintro e w1 ⟨rfl,hb1⟩
 have F:=(FlAt.new w a b c n _).gr hb1
 have G:=((Gr.refl w).al _).trans hb1
 clear hb1
 obtain⟨K,hK⟩:∃ k,w.heap.size=k:=⟨_,rfl⟩
 rw [hK] at F
 simp only [hK]
 clear hK
 go_wp2_with fail
 go_region_held3 (λ w'=>w'.cell? ⟨K,0,none⟩=some (.bool a)/\w'.cell? ⟨K,1,none⟩=some (.bool b)/\w'.cell? ⟨K,2,none⟩=some (.bool c)/\w'.cell? ⟨K,3,none⟩=some (.int .i64 n)/\K<w'.heap.size/\Gr w w') (first | exact⟨F.1,F.2.1,F.2.2.1,F.2.2.2.1,F.2.2.2.2,G.dr⟩ | (go_split_ands;exact⟨(hb2.cell (p:=⟨K,0,none⟩) (by assumption)).trans (by assumption),(hb2.cell (p:=⟨K,1,none⟩) (by assumption)).trans (by assumption),(hb2.cell (p:=⟨K,2,none⟩) (by assumption)).trans (by assumption),(hb2.cell (p:=⟨K,3,none⟩) (by assumption)).trans (by assumption),Nat.lt_of_lt_of_le (by assumption) hb2.size,Gr.trans (by assumption) hb2⟩))
  (first | (go_at_call 38;refine (c2 _).out.mono ?_;rintro ee w2 ⟨rfl,hb2⟩))
 rename_i hH
 obtain⟨q0,q1,q2,q3,q4,q5⟩:=hH
 go_wp2_with fail
 go_ret2
 exact⟨rfl,q5⟩
theorem Pack_no (a b c:Bool) (n:Int) (h:¬ (0<=n/\n<268435456)) (w:World):Calls Tryz.prog 217 #[fl a b c n] w λ e w'=>e=.returned (.tuple #[.int .i64 0,.int .i64 1])/\Gr w w':=by
 obtain⟨m,hm⟩:∃ m,n % 268435456=m:=⟨_,rfl⟩
 have hmn:(m==n)=false:=beq_eq_false_iff_ne.2 (by omega)
 have c1:=λ w=>hid (hm▸join_ok a b c n w)
 have c2:=λ w=>hid (split_ok a b c m (by omega) w)
 clear hm h
 generalize pw a b c m=v at *
 go_enter Tryz.func217,Tryz.ntmps217
 go_wp2_with fail
 refine (c1 _).out.mono ?_
 rintro e w1 ⟨rfl,hb1⟩
 have F:=(FlAt.new w a b c n _).gr hb1
 have G:=((Gr.refl w).al _).trans hb1
 clear hb1
 obtain⟨K,hK⟩:∃ k,w.heap.size=k:=⟨_,rfl⟩
 rw [hK] at F
 simp only [hK]
 clear hK
 go_wp2_with fail
 go_region_held3 (λ w'=>w'.cell? ⟨K,0,none⟩=some (.bool a)/\w'.cell? ⟨K,1,none⟩=some (.bool b)/\w'.cell? ⟨K,2,none⟩=some (.bool c)/\w'.cell? ⟨K,3,none⟩=some (.int .i64 n)/\K<w'.heap.size/\Gr w w') (first | exact⟨F.1,F.2.1,F.2.2.1,F.2.2.2.1,F.2.2.2.2,G.dr⟩ | (go_split_ands;exact⟨(hb2.cell (p:=⟨K,0,none⟩) (by assumption)).trans (by assumption),(hb2.cell (p:=⟨K,1,none⟩) (by assumption)).trans (by assumption),(hb2.cell (p:=⟨K,2,none⟩) (by assumption)).trans (by assumption),(hb2.cell (p:=⟨K,3,none⟩) (by assumption)).trans (by assumption),Nat.lt_of_lt_of_le (by assumption) hb2.size,Gr.trans (by assumption) hb2⟩))
  (first | (go_at_call 38;refine (c2 _).out.mono ?_;rintro ee w2 ⟨rfl,hb2⟩))
 rename_i hH
 obtain⟨q0,q1,q2,q3,q4,q5⟩:=hH
 go_wp2_with fail
 go_ret2
 exact⟨rfl,q5⟩
theorem Unpack_ok (a b c:Bool) (n:Int) (h:0<=n/\n<268435456) (w:World):Calls Tryz.prog 17 #[.int .i64 (pw a b c n)] w λ e w'=>e=.returned (.tuple #[fl a b c n,.int .i64 0])/\Gr w w':=by
 have c2:=λ w=>hid (split_ok a b c n h w)
 obtain⟨x,hx,hl⟩:=pw_nat a b c n h
 have h0:¬ pw a b c n<0:=by omega
 have h1:¬ 2147483647<pw a b c n:=by omega
 clear hx hl x
 generalize pw a b c n=v at *
 go_enter Tryz.func17,Tryz.ntmps17
 go_wp2_with fail
 refine (c2 _).out.mono ?_
 rintro e w1 ⟨rfl,hb1⟩
 obtain⟨q0,q1,q2,q3,q4⟩:=(FlAt.new w false false false 0 _).gr hb1
 obtain⟨z0,z1,z2,z3,z4⟩:=(Fz.new w _ _).gr hb1
 have G:=((Gr.refl w).al _).trans hb1
 clear hb1
 go_wp2_with fail
 exact bodyPost_ret (v:=.tuple #[fl a b c n,.int .i64 0]) (by simp [results,Tryz.results17,go_sem,q0,q1,q2,q3]) rfl ⟨rfl,(((G.st (Nat.le_refl _) _).st (Nat.le_refl _) _).st (Nat.le_refl _) _).st (Nat.le_refl _) _⟩
theorem Unpack_no (v:Int) (h:¬ (0<=v/\v<2147483648)) (w:World):Calls Tryz.prog 17 #[.int .i64 v] w λ e w'=>e=.returned (.tuple #[fl false false false 0,.int .i64 1])/\Gr w w':=by
 by_cases h0:v<0
 . clear h
   go_enter Tryz.func17,Tryz.ntmps17
   go_wp2_with fail
   exact bodyPost_ret (v:=.tuple #[fl false false false 0,.int .i64 1]) (by simp [results,Tryz.results17,go_sem]) rfl ⟨rfl,(Gr.refl w).al _⟩
 . have h1:2147483647<v:=by omega
   clear h
   go_enter Tryz.func17,Tryz.ntmps17
   go_wp2_with fail
   exact bodyPost_ret (v:=.tuple #[fl false false false 0,.int .i64 1]) (by simp [results,Tryz.results17,go_sem]) rfl ⟨rfl,(Gr.refl w).al _⟩
theorem Waits_is (a b c:Bool) (n d m:Int) (r s:Int) (h:0<=n/\n<268435456) (hm:wrap64 (n+d)=m) (hp:∀ w,Calls Tryz.prog 217 #[fl a b c m] w λ e w'=>e=.returned (.tuple #[.int .i64 r,.int .i64 s])/\Gr w w') (r' s':Int) (hrs:(s=0/\r'=r/\s'=0)\/(s=1/\r'=0/\s'=10)) (w:World):Calls Tryz.prog 200 #[.int .i64 (pw a b c n),.int .i64 d] w λ e w'=>e=.returned (.tuple #[.int .i64 r',.int .i64 s'])/\Gr w w':=by
 have c1:=λ w=>hid (Unpack_ok a b c n h w)
 have c2:=λ w=>hid (hp w)
 have HM:=hid hm
 clear h hp hm
 generalize pw a b c n=v at *
 go_enter Tryz.func200,Tryz.ntmps200
 go_wp2_with fail
 refine (c1 _).out.mono ?_
 rintro e w1 ⟨rfl,hb1⟩
 go_wp2_with fail
 rw [HM.out]
 refine (c2 _).out.mono ?_
 rintro e w2 ⟨rfl,hb2⟩
 rcases hrs with ⟨rfl,rfl,rfl⟩ | ⟨rfl,rfl,rfl⟩
 . go_wp2_with fail
   go_ret2
   exact⟨rfl,(hb1.al _).trans hb2⟩
 . go_wp2_with fail
   go_ret2
   exact⟨rfl,(hb1.al _).trans hb2⟩
theorem Waits_ok (a b c:Bool) (n d m:Int) (h:0<=n/\n<268435456) (hm:wrap64 (n+d)=m) (hr:0<=m/\m<268435456) (w:World):Calls Tryz.prog 200 #[.int .i64 (pw a b c n),.int .i64 d] w λ e w'=>e=.returned (.tuple #[.int .i64 (pw a b c m),.int .i64 0])/\Gr w w' :=
 Waits_is a b c n d m (pw a b c m) 0 h hm (λ w=>Pack_ok a b c m hr w) _ _ (.inl ⟨rfl,rfl,rfl⟩) w
theorem Waits_no (a b c:Bool) (n d m:Int) (h:0<=n/\n<268435456) (hm:wrap64 (n+d)=m) (hr:¬ (0<=m/\m<268435456)) (w:World):Calls Tryz.prog 200 #[.int .i64 (pw a b c n),.int .i64 d] w λ e w'=>e=.returned (.tuple #[.int .i64 0,.int .i64 10])/\Gr w w' :=
 Waits_is a b c n d m 0 1 h hm (λ w=>Pack_no a b c m hr w) _ _ (.inr ⟨rfl,rfl,rfl⟩) w
theorem pw_of {v:Int} (h:0<=v/\v<2147483648):∃ a b c n,v=pw a b c n/\0<=n/\n<268435456:=by
 refine⟨decide (v % 2=1),decide (v / 2 % 2=1),decide (v / 4 % 2=1),v / 8,?_,by omega,by omega⟩
 unfold pw b1
 by_cases h1:v % 2=1<;>by_cases h2:v / 2 % 2=1<;>by_cases h3:v / 4 % 2=1<;>simp [h1,h2,h3]<;>omega
end P3
end
section
open Go.ChangeShapes Go.WideShapes Go.ChangeAt Go.RowKit
namespace P3
theorem i64_or_low (m y z:Nat) (hy:y<8) (hz:z<8) (hm:m<2 ^ 59):bits .or .i64 ((8*m+y:Nat):Int) (z:Int)=((8*m+(y ||| z):Nat):Int):=by
 have hyz:y ||| z<8:=Nat.or_lt_two_pow (n:=3) hy hz
 show IntKind.i64.wrap ((BitVec.ofInt 64 ((8*m+y:Nat):Int) ||| BitVec.ofInt 64 (z:Int)).toNat:Int)=_
 rw [BitVec.toNat_or,ofInt_i64 _ (by omega),ofInt_i64 _ (by omega),<- nat_join 3 (8*m) y (by omega) hy,Nat.or_assoc,nat_join 3 (8*m) (y ||| z) (by omega) hyz,i64_small (by omega)]
theorem bv_andNot (X Y:BitVec 64):(X &&& ~~~Y)+(X &&& Y)=X:=by
 have h:(X &&& ~~~Y) &&& (X &&& Y)=0#64:=by
  ext i hi
  simp
  cases X[i]<;>cases Y[i]<;>decide
 rw [BitVec.add_eq_or_of_and_eq_zero _ _ h]
 ext i hi
 simp
 cases X[i]<;>cases Y[i]<;>rfl
theorem i64_andNot (x z:Nat) (hx:x<2 ^ 63) (hz:z<2 ^ 63):bits .andNot .i64 (x:Int) (z:Int)=((x-(x &&& z):Nat):Int):=by
 have e:=congrArg BitVec.toNat (bv_andNot (BitVec.ofInt 64 (x:Int)) (BitVec.ofInt 64 (z:Int)))
 have l:(BitVec.ofInt 64 (x:Int) &&& ~~~BitVec.ofInt 64 (z:Int)).toNat<=x:=by
  rw [BitVec.toNat_and,ofInt_i64 x hx];exact Nat.and_le_left
 have l2:x &&& z<=x:=Nat.and_le_left
 rw [BitVec.toNat_add,BitVec.toNat_and (BitVec.ofInt 64 (x:Int)) (BitVec.ofInt 64 (z:Int)),ofInt_i64 x hx,ofInt_i64 z hz] at e
 show IntKind.i64.wrap ((BitVec.ofInt 64 (x:Int) &&& ~~~BitVec.ofInt 64 (z:Int)).toNat:Int)=_
 generalize (BitVec.ofInt 64 (x:Int) &&& ~~~BitVec.ofInt 64 (z:Int)).toNat=q at *
 rw [Nat.mod_eq_of_lt (by omega)] at e
 rw [i64_small (by omega)]
 omega
section
variable {a b c:Bool} {n:Int}
theorem low_of (a b c:Bool) (n:Int) (h:0<=n/\n<536870912):∃ m y:Nat,pw a b c n=((8*m+y:Nat):Int)/\(m:Int)=n/\y=(if c then 4 else 0)+(if b then 2 else 0)+(if a then 1 else 0)/\y<8:=by
 refine⟨n.toNat,(if c then 4 else 0)+(if b then 2 else 0)+(if a then 1 else 0),?_,by omega,rfl,by cases a<;>cases b<;>cases c<;>decide⟩
 unfold pw
 cases a<;>cases b<;>cases c<;>simp [b1]<;>omega
theorem or_1 (h:0<=n/\n<536870912):bits .or .i64 (pw a b c n) 1=pw true b c n:=by
 obtain⟨m,y,e,hm,hy,hl⟩:=low_of a b c n h
 rw [e,show (1:Int)=((1:Nat):Int) from rfl,i64_or_low m y 1 hl (by decide) (by omega)]
 unfold pw
 subst hy
 cases a<;>cases b<;>cases c<;>simp [b1]<;>omega
theorem or_4 (h:0<=n/\n<536870912):bits .or .i64 (pw a b c n) 4=pw a b true n:=by
 obtain⟨m,y,e,hm,hy,hl⟩:=low_of a b c n h
 rw [e,show (4:Int)=((4:Nat):Int) from rfl,i64_or_low m y 4 hl (by decide) (by omega)]
 unfold pw
 subst hy
 cases a<;>cases b<;>cases c<;>simp [b1]<;>omega
theorem or_2 (h:0<=n/\n<536870912):bits .or .i64 (pw a b c n) 2=pw a true c n:=by
 obtain⟨m,y,e,hm,hy,hl⟩:=low_of a b c n h
 rw [e,show (2:Int)=((2:Nat):Int) from rfl,i64_or_low m y 2 hl (by decide) (by omega)]
 unfold pw
 subst hy
 cases a<;>cases b<;>cases c<;>simp [b1]<;>omega
def lowI (a b c:Bool):Int:=4*b1 c+2*b1 b+b1 a
theorem and7 (h:0<=n/\n<536870912):bits .and .i64 (pw a b c n) 7=lowI a b c:=by
 obtain⟨m,y,e,hm,hy,hl⟩:=low_of a b c n h
 rw [e,show (7:Int)=((7:Nat):Int) from rfl]
 show IntKind.i64.wrap ((BitVec.ofInt 64 ((8*m+y:Nat):Int) &&& BitVec.ofInt 64 ((7:Nat):Int)).toNat:Int)=_
 rw [BitVec.toNat_and,ofInt_i64 _ (by omega),ofInt_i64 7 (by decide),show (7:Nat)=2 ^ 3-1 from rfl,Nat.and_two_pow_sub_one_eq_mod,i64_small (by omega)]
 have h8:(8*m+y) % 2 ^ 3=y:=by omega
 rw [h8]
 subst hy
 cases a<;>cases b<;>cases c<;>rfl
theorem not_2 (h:0<=n/\n<536870912):bits .andNot .i64 (pw a b c n) 2=pw a false c n:=by
 obtain⟨m,y,e,hm,hy,hl⟩:=low_of a b c n h
 rw [e,show (2:Int)=((2:Nat):Int) from rfl,i64_andNot _ 2 (by omega) (by decide),nat_bit1]
 unfold pw
 subst hy
 cases a<;>cases b<;>cases c<;>simp [b1]<;>omega
end
end P3
end
section
open Go.ChangeShapes Go.WideShapes Go.ChangeAt Go.RowKit
theorem laidOut:laidOutB Tryz.prog=true:=by kernel_rfl
section
variable {H:Type} {enc:TypeId×Value->H} {P:Program} {W W':World}
theorem trodAll_stays (hl:laidOutB P=true) (hb:Below W.heap.size W W') (sp:Nat->Bool):∀ {ts:List TypeId} {vs:List Value} {ds:List (DataW H)} {ps:List MemPlace},
 (ts.all λ t=>P.readableRec t&&decide (t<P.types.size))=true->DataW.TrodAll enc P W 0 (λ _=>true) true ts vs ds ps->(∀ x∈ps,x.block<W.heap.size)->(∀ x∈ps,sp x.block=true) ->
 DataW.TrodAll enc P W' 0 sp true ts vs ds ps
 | [],[],[],_,_,h,_,_=>h
 | t::ts,v::vs,d::ds,_,hr,⟨p,q,h1,h2,e⟩,hlt,hs=>by
  simp only [List.all_cons,Bool.and_eq_true,decide_eq_true_eq] at hr
  exact⟨p,q,WideElems.Trod_stays hl hr.1.1 hr.1.2 h1 (λ x hx=>hb.same (hlt x (by rw [e];exact List.mem_append_left _ hx))) (λ x hx=>hs x (by rw [e];exact List.mem_append_left _ hx)),
   trodAll_stays hl hb sp hr.2 h2 (λ x hx=>hlt x (by rw [e];exact List.mem_append_right _ hx)) (λ x hx=>hs x (by rw [e];exact List.mem_append_right _ hx)),e⟩
end
end
section
open Go.ChangeShapes Go.WideShapes Go.ChangeAt Go.RowKit Go.Joins
namespace LW
theorem returns_laid_shaped {H:Type} {enc:TypeId×Value->H} {a:Assume} {C:Checked} {os:Os} {f:FuncId} {fn:Func} {s:ChangeSpec} {conds:List PathCond} {apart fresh handsOn again:Bool} {X:World->Array Value->Prop}
 (hX:∀ (w w':World) (args:Array Value),w.heap=w'.heap->X w args->X w' args)
 (ow:ownKnob C.prog.godebug=none) (started:os.Started) (noInit:C.prog.inits.idxOf? f=none) (hfn:C.prog.funcs[f]?=some fn)
 (witness:∃ (w:World) (tape:Tape) (i:Input),w.os=os/\(w.forCall tape i).Shaped C.prog/\i.vars=[]/\Input.okWide C.prog (w.forCall tape i) .any w.heap.size f i /\
   ((s.pre enc C.prog fn conds apart (w.forCall tape i).memory i.args/\X (w.forCall tape i).memory i.args)/\sizedMet enc C.prog fn (OpenSpec.ofChange s) apart (w.forCall tape i).memory i.args)/\a.holds C.prog (lone (Frame.enter C.prog f i.args .normal) [] (w.forCall tape i)))
 (contract:∀ (W:World) (base:Nat) (args:Array Value) (ds gs:List (DataW H)) (before:List MemPlace),
   (∀ (j:Nat) t v,fn.params[j]?=some t->args[j]?=some v->Value.okWide C.prog W .any base t v) ->
   DataW.Whole enc C.prog fn.params.toList s.vars apart W args.toList ds gs before->X W args->W.ShapedOpen C.prog ->
   Calls C.prog f args W λ e W'=>∃ v,e=.returned v/\s.post enc C.prog fn apart fresh handsOn again W args v W') :
 ReturnsInHanded a C os f .any (λ w args=>(s.pre enc C.prog fn conds apart w args/\X w args)/\sizedMet enc C.prog fn (OpenSpec.ofChange s) apart w args) (s.post enc C.prog fn apart fresh handsOn again):=by
 refine returnsInHanded_of_calls ow started noInit witness ?_
 intro w tape i _ hsh _ hok hpre _
 obtain⟨_,_,_,fn',hfn',_,_,_,_,hval⟩:=hok
 obtain rfl:fn'=fn:=Option.some.inj (hfn'.symm.trans hfn)
 obtain⟨⟨⟨ds,gs,before,hw,_⟩,hx⟩,_⟩:=hpre
 refine (contract (w.forCall tape i) w.heap.size i.args ds gs before hval (DataW.Whole.of_heap (w':=w.forCall tape i) (by rfl) hw) (hX _ _ _ (by rfl) hx) hsh).mono λ e W' ⟨v,he,hp⟩=>?_
 subst he
 exact ChangeSpec.post_blind hp
end LW
end
section
open Go.ChangeShapes Go.WideShapes Go.ChangeAt Go.RowKit
namespace P15
open P3 (fl pw lowI)
def Glob (w : World) : Prop := w.var? Tryz.prog "deadbolt/give.states" = some #[.int .i64 0, .int .i64 3, .int .i64 1, .int .i64 3, .int .i64 2, .int .i64 3, .int .i64 2, .int .i64 3]
theorem Glob.gr {w w':World} (h:Glob w) (g:Gr w w'):Glob w' :=
 Joins.var_stays (by kernel_rfl : Tryz.prog.globalNamed "deadbolt/give.states" = some 0) h g (Nat.le_refl _)
def st (a b c:Bool):Int:=if a then 3 else if c then 2 else if b then 1 else 0
theorem Glob.at_ {w:World} (h:Glob w) (a b c:Bool):w.cell? ⟨0,(lowI a b c).toNat,none⟩=some (.int .i64 (st a b c)):=by
 have hn : Tryz.prog.globalNamed "deadbolt/give.states" = some 0 := by kernel_rfl
 have hc:=World.var?_cell hn h
 cases a<;>cases b<;>cases c
 . exact hc 0
 . exact hc 4
 . exact hc 2
 . exact hc 6
 . exact hc 1
 . exact hc 5
 . exact hc 3
 . exact hc 7
theorem low_in (a b c:Bool):0<=lowI a b c/\lowI a b c<8:=by cases a<;>cases b<;>cases c<;>decide
section
variable {a b c:Bool} {n v:Int} {w:World}
theorem state_of (hg:Glob w) (hv:bits .and .i64 v 7=lowI a b c) :
 Calls Tryz.prog 199 #[.int .i64 v] w λ e w'=>e=.returned (.int .i64 (st a b c))/\w'=w:=by
 have h0:=hg.at_ a b c
 obtain⟨h1,h2⟩:=low_in a b c
 generalize lowI a b c=k at *
 go_enter Tryz.func199,Tryz.ntmps199
 go_wp2_with fail
 go_ret
 exact⟨rfl,rfl⟩
end
end P15
end
end Go.Proofs.YtainfijdhcehlaaGreatDoor
