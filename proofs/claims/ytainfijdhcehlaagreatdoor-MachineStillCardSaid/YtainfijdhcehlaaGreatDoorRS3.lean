/-
  A part of the proof.
-/
import Derived.Test.YtainfijdhcehlaaGreatDoorRS2
set_option linter.unusedVariables false
set_option linter.unusedSimpArgs false
set_option maxRecDepth 100000
set_option maxHeartbeats 8000000
namespace Go.Proofs.YtainfijdhcehlaaGreatDoor
open Lib (hid)
section
namespace P16
theorem wd0:wd 0=⟨false,false,false,0⟩:=by simp [wd]
theorem wd1:wd 1=⟨true,false,false,0⟩:=by simp [wd]
theorem wd_less {o:Int} (h:(wd o).L=true):wd (o-1)={ wd o with L:=false }:=by
 have h:decide (o % 2=1)=true:=h;have h:=of_decide_eq_true h;unfold wd;dsimp only;congr 1
 . exact decide_eq_false (by omega)
 . exact decide_eq_decide.2 (by omega)
 . exact decide_eq_decide.2 (by omega)
 . omega
theorem wd_hand {o:Int} (hL:(wd o).L=false) (hK:(wd o).K=false) (hS:(wd o).S=true):wd (o+-11)=⟨true,false,false,(wd o).n-1⟩/\wd (o+-7)=⟨true,false,true,(wd o).n-1⟩:=by
 have hL:=of_decide_eq_false (show decide (o % 2=1)=false from hL);have hK:=of_decide_eq_false (show decide (o / 2 % 2=1)=false from hK);have hS:=of_decide_eq_true (show decide (o / 4 % 2=1)=true from hS);constructor
 . unfold wd
   dsimp only;congr 1
   . exact decide_eq_true (by omega)
   . exact decide_eq_false (by omega)
   . exact decide_eq_false (by omega)
   . omega
 . unfold wd
   dsimp only;congr 1
   . exact decide_eq_true (by omega)
   . exact decide_eq_false (by omega)
   . exact decide_eq_true (by omega)
   . omega
theorem mx_un {a:Cm} {w:Wd}:mx { a with word:=un w }={ mx a with w:=w }:=by
 show (⟨wd (un w),a.nx,a.sv,a.c,a.l⟩:Mx)=_;rw [wd_un];rfl
section
variable {N i m run:Nat} {p:List Ac} {c:Cl} {a:Cm} {v:Nat->V} {now:Int}
theorem vwp_same {c':Cl} {k n:Int} {m:Nat} (h:p[c.act.toNat]?=some (k,n)) (e:c'.act=c.act):vwp p c' m=vw k n c' m:=by unfold vwp;rw [e,h]
theorem vl1 {c:Cl} {m:Nat} (h:c.pc=1):vw 0 (m:Int) c m=.load c.aw c.st:=by unfold vw;rw [if_neg (by simp),if_pos rfl,h];rfl
theorem vl2 {c:Cl} {m:Nat} (h:c.pc=2):vw 0 (m:Int) c m=.want c.aw c.st (wd c.old):=by unfold vw;rw [if_neg (by simp),if_pos rfl,h];rfl
theorem vl3 {c:Cl} {m:Nat} (h:c.pc=3):vw 0 (m:Int) c m=.draw:=by unfold vw;rw [if_neg (by simp),if_pos rfl,h];rfl
theorem vl4 {c:Cl} {m:Nat} (h:c.pc=4):vw 0 (m:Int) c m=.turn c.ticket:=by unfold vw;rw [if_neg (by simp),if_pos rfl,h];rfl
theorem vl5 {c:Cl} {m:Nat} (h:c.pc=5):vw 0 (m:Int) c m=.sema c.ticket:=by unfold vw;rw [if_neg (by simp),if_pos rfl,h];rfl
theorem vl6 {c:Cl} {m:Nat} (h:c.pc=6):vw 0 (m:Int) c m=.serve c.ticket c.told:=by unfold vw;rw [if_neg (by simp),if_pos rfl,h];rfl
theorem vl7 {c:Cl} {m:Nat} (h:c.pc=7):vw 0 (m:Int) c m=.wok (decide (c.gst=1)):=by unfold vw;rw [if_neg (by simp),if_pos rfl,h];rfl
theorem vl8 {c:Cl} {m:Nat} (h:c.pc=8):vw 0 (m:Int) c m=.hand c.st (wd c.old):=by unfold vw;rw [if_neg (by simp),if_pos rfl,h];rfl
theorem vt9 {c:Cl} {m:Nat} (h:c.pc=9):vw 1 (m:Int) c m=.trying:=by unfold vw;rw [if_neg (by simp),if_neg (by decide),if_pos rfl,h];rfl
theorem vg10 {c:Cl} {m:Nat} (h:c.pc=10):vw 2 (m:Int) c m=.give (wd c.old):=by unfold vw;rw [if_neg (by simp),if_neg (by decide),if_neg (by decide),if_pos rfl,h];rfl
theorem vg11 {c:Cl} {m:Nat} (h:c.pc=11):vw 2 (m:Int) c m=.see:=by unfold vw;rw [if_neg (by simp),if_neg (by decide),if_neg (by decide),if_pos rfl,h];rfl
theorem vg12 {c:Cl} {m:Nat} (h:c.pc=12):vw 2 (m:Int) c m=.draws:=by unfold vw;rw [if_neg (by simp),if_neg (by decide),if_neg (by decide),if_pos rfl,h];rfl
theorem vg13 {c:Cl} {m:Nat} (h:c.pc=13):vw 2 (m:Int) c m=.turns c.ticket:=by unfold vw;rw [if_neg (by simp),if_neg (by decide),if_neg (by decide),if_pos rfl,h];rfl
theorem vg14 {c:Cl} {m:Nat} (h:c.pc=14):vw 2 (m:Int) c m=.grant c.ticket:=by unfold vw;rw [if_neg (by simp),if_neg (by decide),if_neg (by decide),if_pos rfl,h];rfl
theorem vg15 {c:Cl} {m:Nat} (h:c.pc=15):vw 2 (m:Int) c m=.serves c.ticket:=by unfold vw;rw [if_neg (by simp),if_neg (by decide),if_neg (by decide),if_pos rfl,h];rfl
theorem step_go {k:Int} {c':Cl} {a':Cm} {ev:Option Int} (hc:CInv p c) (hg:c.gst=0) (ha:p[c.act.toNat]?=some (k,(m:Int))) (hk:k≠3) (e1:c'.act=c.act) (e2:c'.permit=false) (e3:c'.gst=0\/(c'.gst=1/\c'.pc=7)) (e4:OkPc k c'.pc) (e5:0<=c'.ticket/\c'.ticket<4294967296)
 (e6:c'.since=-1\/(0<=c'.since/\c'.since<=4611686018427387904)) (e7:0<=c'.rounds/\c'.rounds<=4) (e8:OkW c'.old) (e9:c'.pc≠0) (e10:c'.worked=c.worked)
 (ow:OkW a'.word) (iv:Inv N (mx a') (upd v i (vw k (m:Int) c' m))) (he:HeldR ev (wd a.word).L (wd a'.word).L) (hh:HandsR ev k c.pc c.st (wd a.word).S (wd a'.word).S) (e11:c'.pc=9->(wd c'.old).L=false/\(wd c'.old).S=false:=by intro q;cases q) :
 ∃ o,go c' a' ev=.ok o/\StepOk N i m p k c a v o :=
 ⟨_,rfl,hc.stay hg ha hk e1 e2 e3 e4 e5 e6 e7 e8 e9 e10 e11,ow,.inl ⟨rfl,by rw [vwp_same ha e1];exact iv⟩,λ m' hm'=>by rw [vwp_same ha e1];exact vw_far (by omega),he,hh⟩
theorem step_over {k:Int} {a':Cm} {ev:Option Int} (hc:CInv p c) (hg:c.gst=0) (ow:OkW a'.word) (iv:Inv N (mx a') (upd v i .out)) (he:HeldR ev (wd a.word).L (wd a'.word).L) (hh:HandsR ev k c.pc c.st (wd a.word).S (wd a'.word).S) :
 ∃ o,go (over c p.length) a' ev=.ok o/\StepOk N i m p k c a v o :=
 ⟨_,rfl,hc.over hg,ow,.inl ⟨rfl,by rw [vwp_over];exact iv⟩,λ _ _=>vwp_over,he,hh⟩
theorem HandsR.none_ {k pc:Int} {st S:Bool}:HandsR none k pc st S S:=HandsR.same (λ _ q=>by cases q) (λ _ q=>by cases q)
theorem upd_self {v:Nat->V}:upd v i (v i)=v:=by
 funext j;by_cases q:j=i
 . subst q;exact upd_at
 . exact upd_off q
theorem line_len (h:Inv N (mx a) v):a.l.length<=N:=by
 have hsub:∀ x∈a.l,x∈(List.range N).map (λ k:Nat=>(k:Int)):=λ x hx=>by
  obtain⟨k,hk,e,_⟩:=(h.L.lm x).1 hx;exact List.mem_map.2 ⟨k,List.mem_range.2 hk,e.symm⟩
 have q:=List.Nodup.length_le_of_subset h.L.nd hsub;rw [List.length_map,List.length_range] at q;exact q
theorem lock_start (hN:N<=8) (hi:i<N) (h:Inv N (mx a) v) (hw:OkW a.word) (hc:CInv p c) (hg:c.gst=0) (ha:p[c.act.toNat]?=some (0,(m:Int))) (hv:v i=vwp p c m) (hpc:c.pc=0):∃ o,lock now run p.length i c a=.ok o/\StepOk N i m p 0 c a v o:=by
 have hv:v i=.out:=hv.trans (vwp_start hpc);unfold lock;rw [if_pos hpc];by_cases h0:a.word=0
 . rw [if_pos h0]
   have e0:wd a.word=⟨false,false,false,0⟩:=by rw [h0,wd0]
   have q:=h.fast hi hv (by show (wd a.word).L=false;rw [e0]) (by show (wd a.word).S=false;rw [e0]) (by show (wd a.word).n=0;rw [e0]);have e:mx { a with word:=1 }={ mx a with w:={ (mx a).w with L:=true } }:=by
    show (⟨wd 1,a.nx,a.sv,a.c,a.l⟩:Mx)=⟨{ wd a.word with L:=true },a.nx,a.sv,a.c,a.l⟩;rw [e0,wd1]
   refine step_over hc hg (by show OkW 1;exact⟨by decide,by decide⟩) (e▸q) (.inr (.inl ⟨rfl,by rw [e0],by show (wd 1).L=true;rw [wd1]⟩)) ?_;show HandsR _ _ _ _ (wd a.word).S (wd 1).S;rw [e0,wd1];exact HandsR.same (λ q=>by cases q) (λ q=>by cases q)
 . rw [if_neg h0]
   have f:=hc.fr hpc;exact step_go hc hg ha (by decide) rfl hc.pm (.inl hg) (.inr (.inl ⟨rfl,by show (1:Int)<=1;decide,by show (1:Int)<=8;decide⟩)) hc.tb hc.sc hc.rd hc.ol (by intro q;cases q) rfl hw (by rw [vl1 rfl,f.1,f.2];exact h.slow hi hv) (.inl ⟨rfl,rfl⟩) HandsR.none_
theorem lock_load (hN:N<=8) (hi:i<N) (h:Inv N (mx a) v) (hw:OkW a.word) (hc:CInv p c) (hg:c.gst=0) (ha:p[c.act.toNat]?=some (0,(m:Int))) (hv:v i=vwp p c m) (hpc:c.pc=1):∃ o,lock now run p.length i c a=.ok o/\StepOk N i m p 0 c a v o:=by
 have hv:v i=.load c.aw c.st:=by rw [hv,vwp_at ha,vl1 hpc]
 unfold lock;rw [if_neg (by rw [hpc];decide),if_pos hpc];exact step_go hc hg ha (by decide) rfl hc.pm (.inl hg) (.inr (.inl ⟨rfl,by show (1:Int)<=2;decide,by show (2:Int)<=8;decide⟩)) hc.tb hc.sc hc.rd hw (by intro q;cases q) rfl hw (by rw [vl2 rfl];exact h.look hi hv) (.inl ⟨rfl,rfl⟩) HandsR.none_
theorem lock_draw (hN:N<=8) (hi:i<N) (h:Inv N (mx a) v) (hw:OkW a.word) (hc:CInv p c) (hg:c.gst=0) (ha:p[c.act.toNat]?=some (0,(m:Int))) (hv:v i=vwp p c m) (hpc:c.pc=3):∃ o,lock now run p.length i c a=.ok o/\StepOk N i m p 0 c a v o:=by
 have hv:v i=.draw:=by rw [hv,vwp_at ha,vl3 hpc]
 unfold lock draw;have t3:=h.T.t3;have hle:=cnt_le (p:=isT) (v:=v) (N:=N);have t3:(a.nx-a.sv) % 4294967296=cnt isT v N:=t3;rw [if_neg (by rw [hpc];decide),if_neg (by rw [hpc];decide),if_neg (by rw [hpc];decide),if_pos hpc,if_neg (by omega)];exact step_go hc hg ha (by decide) rfl hc.pm (.inl hg) (.inr (.inl ⟨rfl,by show (1:Int)<=4;decide,by show (4:Int)<=8;decide⟩)) h.T.nb hc.sc hc.rd hc.ol (by intro q;cases q) rfl hw (by rw [vl4 rfl];exact h.draw hN hi hv) (.inl ⟨rfl,rfl⟩) HandsR.none_
theorem lock_turn (hN:N<=8) (hi:i<N) (h:Inv N (mx a) v) (hw:OkW a.word) (hc:CInv p c) (hg:c.gst=0) (ha:p[c.act.toNat]?=some (0,(m:Int))) (hv:v i=vwp p c m) (hpc:c.pc=4):∃ o,lock now run p.length i c a=.ok o/\StepOk N i m p 0 c a v o:=by
 have hv:v i=.turn c.ticket:=by rw [hv,vwp_at ha,vl4 hpc]
 unfold lock turn;rw [if_neg (by rw [hpc];decide),if_neg (by rw [hpc];decide),if_neg (by rw [hpc];decide),if_neg (by rw [hpc];decide),if_pos hpc];by_cases ht:c.ticket=a.sv
 . rw [if_pos ht]
   exact step_go hc hg ha (by decide) rfl hc.pm (.inl hg) (.inr (.inl ⟨rfl,by show (1:Int)<=5;decide,by show (5:Int)<=8;decide⟩)) hc.tb hc.sc hc.rd hc.ol (by intro q;cases q) rfl hw (by rw [vl5 rfl];show Inv N (mx a) (upd v i (.sema c.ticket));rw [ht];exact h.sema hN hi (by rw [hv,ht];rfl)) (.inl ⟨rfl,rfl⟩) HandsR.none_
 . rw [if_neg ht]
   exact step_go hc hg ha (by decide) rfl hc.pm (.inl hg) (.inr (.inl ⟨rfl,by rw [hpc];decide,by rw [hpc];decide⟩)) hc.tb hc.sc hc.rd hc.ol (by show c.pc≠0;rw [hpc];decide) rfl hw
    (by
      have e:vw 0 (m:Int) { c with pc:=c.pc } m=v i:=by rw [hv];exact vl4 hpc
      rw [e];have e2:upd v i (v i)=v:=upd_self;rw [e2];exact h) (.inl ⟨rfl,rfl⟩) HandsR.none_ (λ q=>by have q:c.pc=9:=q;omega)
theorem lock_sema (hN:N<=8) (hi:i<N) (h:Inv N (mx a) v) (hw:OkW a.word) (hc:CInv p c) (hg:c.gst=0) (ha:p[c.act.toNat]?=some (0,(m:Int))) (hv:v i=vwp p c m) (hpc:c.pc=5):∃ o,lock now run p.length i c a=.ok o/\StepOk N i m p 0 c a v o:=by
 have hv:v i=.sema c.ticket:=by rw [hv,vwp_at ha,vl5 hpc]
 unfold lock ask;have hno:¬ (i:Int)∈a.l:=λ q=>by
  obtain⟨k,hk,e,hx⟩:=(h.L.lm _).1 q;obtain rfl:k=i:=by omega
  rw [hv] at hx;cases hx
 rw [if_neg (by rw [hpc];decide),if_neg (by rw [hpc];decide),if_neg (by rw [hpc];decide),if_neg (by rw [hpc];decide),if_neg (by rw [hpc];decide),if_pos hpc,if_neg hno];have c0:0<=a.c:=h.W.c0;by_cases h0:0<a.c
 . rw [if_pos h0]
   exact step_go hc hg ha (by decide) rfl hc.pm (.inl hg) (.inr (.inl ⟨rfl,by show (1:Int)<=6;decide,by show (6:Int)<=8;decide⟩)) hc.tb hc.sc hc.rd hc.ol (by intro q;cases q) rfl hw (by rw [vl6 rfl];exact h.let_ hi hv h0) (.inl ⟨rfl,rfl⟩) HandsR.none_
 . have hlen:a.l.length<=8:=Nat.le_trans (line_len h) hN
   rw [if_neg h0,if_neg (by omega)];have hperm:(if c.first then (i:Int)::a.l else a.l++[(i:Int)]).Perm ((i:Int)::a.l):=by
    split
    . exact List.Perm.refl _
    . exact List.perm_append_singleton _ _
   exact step_go hc hg ha (by decide) rfl hc.pm (.inl hg) (.inr (.inl ⟨rfl,by show (1:Int)<=6;decide,by show (6:Int)<=8;decide⟩)) hc.tb hc.sc hc.rd hc.ol (by intro q;cases q) rfl hw (by rw [vl6 rfl];exact h.comes hi hv (by show a.c=0;omega) hperm) (.inl ⟨rfl,rfl⟩) HandsR.none_
theorem lock_serve (hN:N<=8) (hi:i<N) (h:Inv N (mx a) v) (hw:OkW a.word) (hc:CInv p c) (hg:c.gst=0) (ha:p[c.act.toNat]?=some (0,(m:Int))) (hv:v i=vwp p c m) (hpc:c.pc=6):∃ o,lock now run p.length i c a=.ok o/\StepOk N i m p 0 c a v o:=by
 have hv:v i=.serve c.ticket c.told:=by rw [hv,vwp_at ha,vl6 hpc]
 unfold lock rest;have t3:(a.nx-a.sv) % 4294967296=cnt isT v N:=h.T.t3;have hp:=cnt_pos (p:=isT) (v:=v) hi (by rw [hv];rfl);rw [if_neg (by rw [hpc];decide),if_neg (by rw [hpc];decide),if_neg (by rw [hpc];decide),if_neg (by rw [hpc];decide),if_neg (by rw [hpc];decide),if_neg (by rw [hpc];decide),if_pos hpc,if_neg (by omega)];have q:=h.served hN hi hv;by_cases ht:c.told=true
 . rw [ht] at q
   dsimp only;rw [if_pos ht];exact step_go hc hg ha (by decide) rfl hc.pm (.inl hg) (.inr (.inl ⟨rfl,by show (1:Int)<=7;decide,by show (7:Int)<=8;decide⟩)) hc.tb hc.sc hc.rd hc.ol (by intro q;cases q) rfl hw (by rw [vl7 rfl];show Inv N _ (upd v i (.wok (decide (c.gst=1))));rw [hg];exact q) (.inl ⟨rfl,rfl⟩) HandsR.none_
 . have hf:c.told=false:=by cases e:c.told;rfl;exact absurd e ht
   rw [hf] at q;dsimp only;rw [if_neg ht];have hpm:=hc.pm;refine step_go hc hg ha (by decide) rfl rfl (.inr ⟨by rw [hpm];rfl,rfl⟩) (.inr (.inl ⟨rfl,by show (1:Int)<=7;decide,by show (7:Int)<=8;decide⟩)) hc.tb hc.sc hc.rd hc.ol (by intro q;cases q) rfl hw ?_ (.inl ⟨rfl,rfl⟩) HandsR.none_;rw [vl7 rfl];show Inv N _ (upd v i (.wok (decide ((if c.permit=true then (0:Int) else 1)=1))));rw [hpm];exact q
theorem lock_woken (hN:N<=8) (hi:i<N) (h:Inv N (mx a) v) (hw:OkW a.word) (hc:CInv p c) (hg:c.gst=0) (ha:p[c.act.toNat]?=some (0,(m:Int))) (hv:v i=vwp p c m) (hpc:c.pc=7):∃ o,lock now run p.length i c a=.ok o/\StepOk N i m p 0 c a v o:=by
 have hv:v i=.wok false:=by rw [hv,vwp_at ha,vl7 hpc,hg];rfl
 unfold lock woken;rw [if_neg (by rw [hpc];decide),if_neg (by rw [hpc];decide),if_neg (by rw [hpc];decide),if_neg (by rw [hpc];decide),if_neg (by rw [hpc];decide),if_neg (by rw [hpc];decide),if_neg (by rw [hpc];decide),if_pos hpc];dsimp only;by_cases hS:(wd a.word).S=true
 . rw [if_pos hS]
   exact step_go hc hg ha (by decide) rfl hc.pm (.inl hg) (.inr (.inl ⟨rfl,by show (1:Int)<=8;decide,by show (8:Int)<=8;decide⟩)) hc.tb hc.sc hc.rd hw (by intro q;cases q) rfl hw (by rw [vl8 rfl];exact h.handed hi hv hS) (.inl ⟨rfl,rfl⟩) HandsR.none_
 . have hS':(wd a.word).S=false:=by cases e:(wd a.word).S;rfl;exact absurd e hS
   rw [if_neg hS];exact step_go hc hg ha (by decide) rfl hc.pm (.inl hg) (.inr (.inl ⟨rfl,by show (1:Int)<=2;decide,by show (2:Int)<=8;decide⟩)) hc.tb hc.sc ⟨Int.le_refl _,by show (0:Int)<=4;decide⟩ hw (by intro q;cases q) rfl hw (by rw [vl2 rfl];exact h.goes hi hv hS') (.inl ⟨rfl,rfl⟩) HandsR.none_
theorem lock_handed (hN:N<=8) (hi:i<N) (h:Inv N (mx a) v) (hw:OkW a.word) (hc:CInv p c) (hg:c.gst=0) (ha:p[c.act.toNat]?=some (0,(m:Int))) (hv:v i=vwp p c m) (hpc:c.pc=8):∃ o,lock now run p.length i c a=.ok o/\StepOk N i m p 0 c a v o:=by
 have hv:v i=.hand c.st (wd c.old):=by rw [hv,vwp_at ha,vl8 hpc]
 obtain⟨hL,hS,hK,hn,-⟩:=h.hand_word hi hv;obtain⟨oL,oK,oS,o1,o2⟩:=h.O.oh i c.st (wd c.old) hi hv;have hL:(wd a.word).L=false:=hL;have hS:(wd a.word).S=true:=hS;have hK:(wd a.word).K=false:=hK;have hn:1<=(wd a.word).n:=hn;have hh:=wd_hand hL hK hS;have hw8:8<=a.word:=by have:1<=a.word / 8:=hn;omega
 have hw12:12<=a.word:=by
  have q:=of_decide_eq_true (show decide (a.word / 4 % 2=1)=true from hS);omega
 have hw1:=hw.2;have hand:hands c=some (if c.st=false\/(wd c.old).n=1 then -11 else -7):=by
  unfold hands;dsimp only;rw [if_neg (by rw [oL,oK];rintro (q | q | q);cases q;cases q;omega)]
 unfold lock handed;rw [if_neg (by rw [hpc];decide),if_neg (by rw [hpc];decide),if_neg (by rw [hpc];decide),if_neg (by rw [hpc];decide),if_neg (by rw [hpc];decide),if_neg (by rw [hpc];decide),if_neg (by rw [hpc];decide),if_neg (by rw [hpc];decide),hand];dsimp only;have fin:∀ (d:Int) (S':Bool),(d=-11\/d=-7)->wd (a.word+d)=⟨true,false,S',(wd a.word).n-1⟩->∃ o,(if 0<=a.word+d/\a.word+d<2147483648 then go (over c p.length) { a with word:=a.word+d } (some 0) else .bad)=.ok o/\StepOk N i m p 0 c a v o:=λ d S' hd e=>by
  rw [if_pos ⟨by omega,by omega⟩];have q:=h.takes (S':=S') hi hv;have em:mx { a with word:=a.word+d }={ mx a with w:=⟨true,false,S',(wd a.word).n-1⟩ }:=by
   show (⟨wd (a.word+d),a.nx,a.sv,a.c,a.l⟩:Mx)=_;rw [e];rfl
  refine step_over hc hg (by show OkW (a.word+d);exact⟨by omega,by omega⟩) (em▸q) (.inr (.inl ⟨rfl,hL,by show (wd (a.word+d)).L=true;rw [e]⟩)) ?_;show HandsR _ _ _ _ (wd a.word).S (wd (a.word+d)).S;rw [hS,e];exact⟨λ q=>(by cases q),λ _ _=>⟨rfl,hpc⟩,λ _ q=>(by cases q),λ _ _=>⟨rfl,hpc⟩⟩
 split
 . exact fin _ _ (.inl rfl) hh.1
 . exact fin _ _ (.inr rfl) hh.2
end
end P16
end
section
namespace P16
section
variable {N i m run:Nat} {p:List Ac} {c:Cl} {a:Cm} {v:Nat->V} {now:Int}
theorem lock_want (hN:N<=8) (hi:i<N) (h:Inv N (mx a) v) (hw:OkW a.word) (hc:CInv p c) (hg:c.gst=0) (ha:p[c.act.toNat]?=some (0,(m:Int))) (hv:v i=vwp p c m) (hnow:0<=now/\now<=4611686018427387904) (hpc:c.pc=2):∃ o,lock now run p.length i c a=.ok o/\StepOk N i m p 0 c a v o:=by
 have hv:v i=.want c.aw c.st (wd c.old):=by rw [hv,vwp_at ha,vl2 hpc]
 obtain⟨hst,hawk,n0,n1⟩:=h.O.ow i c.aw c.st (wd c.old) hi hv;have hwn:=hw.n;unfold lock want;rw [if_neg (by rw [hpc];decide),if_neg (by rw [hpc];decide),if_pos hpc];dsimp only;by_cases hsp:(wd c.old).L=true/\(wd c.old).S=false/\c.rounds<4/\1<run
 . rw [if_pos hsp]
   have r0:=hc.rd;unfold round;dsimp only;by_cases hset:c.aw=false/\(wd c.old).K=false/\0<(wd c.old).n/\a.word=c.old
   . obtain⟨k1,k2,k3,k4⟩:=hset
     have hst':c.st=false:=by cases e:c.st;rfl;rw [hst e] at k1;cases k1
     have q:=h.spin hi (k1▸hv) (by show (wd a.word).K=false;rw [k4];exact k2) (by show (wd a.word).S=false;rw [k4];exact hsp.2.1) hst' (by show (wd a.word).L=true;rw [k4];exact hsp.1);rw [if_pos ⟨k1,k2,k3,k4⟩,if_pos ⟨k1,k2,k3,k4⟩];exact step_go hc hg ha (by decide) rfl hc.pm (.inl hg) (.inr (.inl ⟨rfl,by show (1:Int)<=1;decide,by show (1:Int)<=8;decide⟩)) hc.tb hc.sc ⟨by show 0<=c.rounds+1;omega,by show c.rounds+1<=4;omega⟩ hc.ol (by intro q;cases q) rfl (okW_un hwn.1 hwn.2) (by rw [vl1 rfl,mx_un];exact q) (.inl ⟨rfl,by show (wd (un _)).L=_;rw [wd_un]⟩) (by show HandsR none 0 c.pc c.st _ (wd (un _)).S;rw [wd_un];exact HandsR.none_)
   . rw [if_neg hset,if_neg hset]
     exact step_go hc hg ha (by decide) rfl hc.pm (.inl hg) (.inr (.inl ⟨rfl,by show (1:Int)<=1;decide,by show (1:Int)<=8;decide⟩)) hc.tb hc.sc ⟨by show 0<=c.rounds+1;omega,by show c.rounds+1<=4;omega⟩ hc.ol (by intro q;cases q) rfl hw (by rw [vl1 rfl];exact h.back hi hv) (.inl ⟨rfl,rfl⟩) HandsR.none_
 . rw [if_neg hsp]
   have hwants:wants c=some (un { L:=(wd c.old).L||!(wd c.old).S,K:=(wd c.old).K&&!c.aw,S:=(wd c.old).S||(c.st&&(wd c.old).L),n:=if (wd c.old).L||(wd c.old).S then (wd c.old).n+1 else (wd c.old).n }):=by
    unfold wants;dsimp only;rw [if_neg (λ q=>by rw [hawk q.1] at q;cases q.2),if_neg (λ q=>by omega)]
   rw [hwants];dsimp only;by_cases hne:a.word≠c.old
   . rw [if_pos hne]
     exact step_go hc hg ha (by decide) rfl hc.pm (.inl hg) (.inr (.inl ⟨rfl,by show (1:Int)<=1;decide,by show (1:Int)<=8;decide⟩)) hc.tb hc.sc hc.rd hc.ol (by intro q;cases q) rfl hw (by rw [vl1 rfl];exact h.back hi hv) (.inl ⟨rfl,rfl⟩) HandsR.none_
   . have heq:a.word=c.old:=Classical.not_not.1 hne
     rw [if_neg hne];rw [<- heq] at n0 n1 hv ⊢;by_cases hfree:(wd a.word).L=false/\(wd a.word).S=false
     . rw [if_pos hfree]
       obtain⟨hL,hS⟩:=hfree;have q:=h.got hi hv hL hS;have ew:({ L:=(wd a.word).L||!(wd a.word).S,K:=(wd a.word).K&&!c.aw,S:=(wd a.word).S||(c.st&&(wd a.word).L),n:=if (wd a.word).L||(wd a.word).S then (wd a.word).n+1 else (wd a.word).n }:Wd)={ (wd a.word) with L:=true,K:=(wd a.word).K&&!c.aw }:=by
        rw [hL,hS];congr 1<;>simp [hS]
       rw [ew];refine step_over hc hg (okW_un hwn.1 hwn.2) (by rw [mx_un];exact q) (.inr (.inl ⟨rfl,hL,by show (wd (un _)).L=_;rw [wd_un]⟩)) ?_;show HandsR _ _ _ _ (wd a.word).S (wd (un _)).S;rw [wd_un];exact HandsR.same (λ q=>by rw [hS] at q;cases q) (λ q=>by rw [hS] at q;cases q)
     . rw [if_neg hfree]
       have hLS:(wd a.word).L=true\/(wd a.word).S=true:=by
        cases e1:(wd a.word).L
        . cases e2:(wd a.word).S
          . exact absurd ⟨e1,e2⟩ hfree
          . exact .inr rfl
        . exact .inl rfl
       have q:=h.wait hi hv hLS;have ew:({ L:=(wd a.word).L||!(wd a.word).S,K:=(wd a.word).K&&!c.aw,S:=(wd a.word).S||(c.st&&(wd a.word).L),n:=if (wd a.word).L||(wd a.word).S then (wd a.word).n+1 else (wd a.word).n }:Wd)={ L:=(wd a.word).L,K:=(wd a.word).K&&!c.aw,S:=(wd a.word).S||(c.st&&(wd a.word).L),n:=(wd a.word).n+1 }:=by
        rcases hLS with e | e<;>rw [e]<;>congr 1<;>simp
       have hn8:(wd a.word).n+1<268435456:=by omega
       rw [ew];refine step_go hc hg ha (by decide) rfl hc.pm (.inl hg) (.inr (.inl ⟨rfl,by show (1:Int)<=3;decide,by show (3:Int)<=8;decide⟩)) hc.tb ?_ hc.rd hw (by intro q;cases q) rfl (okW_un (by show 0<=(wd a.word).n+1;omega) hn8) (by rw [vl3 rfl,mx_un];exact q) (.inl ⟨rfl,by show (wd (un _)).L=_;rw [wd_un]⟩) ?_
       . show (if c.since=-1 then now else c.since)=-1\/(0<=(if c.since=-1 then now else c.since)/\(if c.since=-1 then now else c.since)<=4611686018427387904)
         split
         . exact .inr hnow
         . exact hc.sc
       . show HandsR none 0 c.pc c.st (wd a.word).S (wd (un _)).S
         rw [wd_un];refine⟨λ e1 e2=>⟨rfl,hpc,?_⟩,λ e1 e2=>?_,λ _ q=>(by cases q),λ _ q=>(by cases q)⟩
         . dsimp only at e2
           rw [e1] at e2;cases e3:c.st
           . rw [e3] at e2;simp at e2
           . rfl
         . dsimp only at e2
           rw [e1] at e2;simp at e2
theorem lock_any (hN:N<=8) (hi:i<N) (h:Inv N (mx a) v) (hw:OkW a.word) (hc:CInv p c) (hg:c.gst=0) (ha:p[c.act.toNat]?=some (0,(m:Int))) (hv:v i=vwp p c m) (hnow:0<=now/\now<=4611686018427387904):∃ o,lock now run p.length i c a=.ok o/\StepOk N i m p 0 c a v o:=by
 have hp:=hc.pcs 0 m ha;have:c.pc=0\/c.pc=1\/c.pc=2\/c.pc=3\/c.pc=4\/c.pc=5\/c.pc=6\/c.pc=7\/c.pc=8:=by
  rcases hp with e | ⟨_,e1,e2⟩ | ⟨e,_⟩ | ⟨e,_⟩<;>omega
 rcases this with e | e | e | e | e | e | e | e | e
 . exact lock_start hN hi h hw hc hg ha hv e
 . exact lock_load hN hi h hw hc hg ha hv e
 . exact lock_want hN hi h hw hc hg ha hv hnow e
 . exact lock_draw hN hi h hw hc hg ha hv e
 . exact lock_turn hN hi h hw hc hg ha hv e
 . exact lock_sema hN hi h hw hc hg ha hv e
 . exact lock_serve hN hi h hw hc hg ha hv e
 . exact lock_woken hN hi h hw hc hg ha hv e
 . exact lock_handed hN hi h hw hc hg ha hv e
theorem try_any (hN:N<=8) (hi:i<N) (h:Inv N (mx a) v) (hw:OkW a.word) (hc:CInv p c) (hg:c.gst=0) (ha:p[c.act.toNat]?=some (1,(m:Int))) (hv:v i=vwp p c m):∃ o,try_ p.length c a=.ok o/\StepOk N i m p 1 c a v o:=by
 have hp:=hc.pcs 1 m ha;have hwn:=hw.n;have:c.pc=0\/c.pc=9:=by
  rcases hp with e | ⟨e,_⟩ | ⟨_,e⟩ | ⟨e,_⟩<;>omega
 unfold try_;rcases this with hpc | hpc
 . have hv:v i=.out:=hv.trans (vwp_start hpc)
   rw [if_neg (by rw [hpc];decide)];by_cases hb:(wd a.word).L=true\/(wd a.word).S=true
   . rw [if_pos hb]
     exact step_over hc hg hw (by rw [show V.out=v i from hv.symm,upd_self];exact h) (.inr (.inr (.inr (.inl ⟨rfl,rfl⟩)))) (HandsR.same (λ _ q=>by cases q) (λ _ q=>by cases q))
   . rw [if_neg hb]
     exact step_go hc hg ha (by decide) rfl hc.pm (.inl hg) (.inr (.inr (.inl ⟨rfl,rfl⟩))) hc.tb hc.sc hc.rd hw (by intro q;cases q) rfl hw (by rw [vt9 rfl];exact h.tries hi hv) (.inl ⟨rfl,rfl⟩) HandsR.none_ (λ _=>⟨by cases e:(wd a.word).L;rfl;exact absurd (.inl e) hb,by cases e:(wd a.word).S;rfl;exact absurd (.inr e) hb⟩)
 . have hv:v i=.trying:=by rw [hv,vwp_at ha,vt9 hpc]
   rw [if_pos hpc];by_cases hne:a.word≠c.old
   . rw [if_pos hne]
     exact step_over hc hg hw (h.fails hi hv) (.inr (.inr (.inr (.inl ⟨rfl,rfl⟩)))) (HandsR.same (λ _ q=>by cases q) (λ _ q=>by cases q))
   . have heq:a.word=c.old:=Classical.not_not.1 hne
     obtain⟨hL,hS⟩:=hc.tr hpc;rw [<- heq] at hL hS;rw [if_neg hne];refine step_over hc hg (okW_un hwn.1 hwn.2) (by rw [mx_un];exact h.tried hi hv hS) (.inr (.inr (.inl ⟨rfl,hL,by show (wd (un _)).L=_;rw [wd_un]⟩))) ?_;show HandsR _ _ _ _ (wd a.word).S (wd (un _)).S;rw [wd_un];exact HandsR.same (λ q=>by rw [hS] at q;cases q) (λ q=>by rw [hS] at q;cases q)
theorem give_any (hN:N<=8) (hi:i<N) (h:Inv N (mx a) v) (hw:OkW a.word) (hc:CInv p c) (hg:c.gst=0) (ha:p[c.act.toNat]?=some (2,(m:Int))) (hv:v i=vwp p c m):(give p.length c a=.fault/\(wd a.word).L=false/\c.pc=0)\/∃ o,give p.length c a=.ok o/\StepOk N i m p 2 c a v o:=by
 have hp:=hc.pcs 2 m ha;have hwn:=hw.n;have t3:(a.nx-a.sv) % 4294967296=cnt isT v N:=h.T.t3;have hle:=cnt_le (p:=isT) (v:=v) (N:=N);have:c.pc=0\/c.pc=10\/c.pc=11\/c.pc=12\/c.pc=13\/c.pc=14\/c.pc=15:=by
  rcases hp with e | ⟨e,_⟩ | ⟨e,_⟩ | ⟨_,e1,e2⟩<;>omega
 unfold give;rcases this with hpc | hpc | hpc | hpc | hpc | hpc | hpc
 . have hv:v i=.out:=hv.trans (vwp_start hpc)
   rw [if_pos hpc];unfold unlock;cases hL:(wd a.word).L
   . exact .inl ⟨by rw [if_pos rfl],rfl,hpc⟩
   . refine .inr ?_
     rw [if_neg (by decide)];dsimp only;have el:=wd_less hL;have em:mx { a with word:=a.word-1 }={ mx a with w:={ (wd a.word) with L:=false } }:=by
      show (⟨wd (a.word-1),a.nx,a.sv,a.c,a.l⟩:Mx)=_;rw [el];rfl
     have ow:OkW (a.word-1):=by
      have q:=of_decide_eq_true (show decide (a.word % 2=1)=true from hL);have:=hw.1;have:=hw.2;exact⟨by omega,by omega⟩
     have heL:(wd (a.word-1)).L=false:=by rw [el]
     have heS:(wd (a.word-1)).S=(wd a.word).S:=by rw [el]
     have hh:HandsR (some 3) 2 c.pc c.st (wd a.word).S (wd (a.word-1)).S:=by
      rw [heS];exact HandsR.same (λ _ q=>by cases q) (λ _ q=>by cases q)
     by_cases h0:a.word-1=0
     . rw [if_pos h0]
       have hz:wd (a.word-1)=⟨false,false,false,0⟩:=by rw [h0,wd0]
       rw [el] at hz;exact step_over hc hg ow (by rw [em];exact h.gives hi hv hL (.inl ⟨rfl,by show ¬ wakes { (wd a.word) with L:=false };rw [hz];intro q;have:=q.2.2.2;simp at this,by show (wd a.word).S=false;rw [<- heS,h0,wd0]⟩)) (.inr (.inr (.inr (.inr ⟨rfl,hL,heL⟩)))) hh
     . rw [if_neg h0,heS]
       by_cases hS:(wd a.word).S=true
       . rw [if_pos hS]
         exact step_go hc hg ha (by decide) rfl hc.pm (.inl hg) (.inr (.inr (.inr ⟨rfl,by show (10:Int)<=12;decide,by show (12:Int)<=15;decide⟩))) hc.tb hc.sc hc.rd hc.ol (by intro q;cases q) rfl ow (by rw [vg12 rfl,em];exact h.gives hi hv hL (.inr (.inl ⟨rfl,hS⟩))) (.inr (.inr (.inr (.inr ⟨rfl,hL,heL⟩)))) hh
       . have hS':(wd a.word).S=false:=by cases e:(wd a.word).S;rfl;exact absurd e hS
         rw [if_neg hS];exact step_go hc hg ha (by decide) rfl hc.pm (.inl hg) (.inr (.inr (.inr ⟨rfl,by show (10:Int)<=10;decide,by show (10:Int)<=15;decide⟩))) hc.tb hc.sc hc.rd ow (by intro q;cases q) rfl ow (by rw [vg10 rfl,em];show Inv N _ (upd v i (.give (wd (a.word-1))));rw [el];exact h.gives hi hv hL (.inr (.inr ⟨rfl,hS'⟩))) (.inr (.inr (.inr (.inr ⟨rfl,hL,heL⟩)))) hh
 all_goals refine .inr ?_
 . have hv:v i=.give (wd c.old):=by rw [hv,vwp_at ha,vg10 hpc]
   have on:=hc.ol.n;rw [if_neg (by rw [hpc];decide),if_pos hpc];unfold let_;dsimp only;by_cases hwk:(wd c.old).L=false/\(wd c.old).K=false/\(wd c.old).S=false/\(wd c.old).n≠0
   . have hwk':wakes (wd c.old):=⟨hwk.1,hwk.2.1,hwk.2.2.1,by have:=hwk.2.2.2;omega⟩
     rw [if_neg (λ q=>q hwk)];by_cases heq:a.word=c.old
     . rw [if_pos heq]
       rw [<- heq] at hwk' on hwk ⊢;have n1:=hwk'.2.2.2;exact step_go hc hg ha (by decide) rfl hc.pm (.inl hg) (.inr (.inr (.inr ⟨rfl,by show (10:Int)<=12;decide,by show (12:Int)<=15;decide⟩))) hc.tb hc.sc hc.rd hw (by intro q;cases q) rfl (okW_un (by show 0<=(wd a.word).n-1;omega) (by show (wd a.word).n-1<_;omega)) (by rw [vg12 rfl,mx_un];exact h.wakes_ hi hv hwk') (.inl ⟨rfl,by show (wd (un _)).L=_;rw [wd_un,hwk.1]⟩) (by show HandsR none 2 c.pc c.st _ (wd (un _)).S;rw [wd_un,hwk.2.2.1];exact HandsR.none_)
     . rw [if_neg heq]
       exact step_go hc hg ha (by decide) rfl hc.pm (.inl hg) (.inr (.inr (.inr ⟨rfl,by show (10:Int)<=11;decide,by show (11:Int)<=15;decide⟩))) hc.tb hc.sc hc.rd hc.ol (by intro q;cases q) rfl hw (by rw [vg11 rfl];exact h.again hi hv) (.inl ⟨rfl,rfl⟩) HandsR.none_
   . rw [if_pos hwk]
     exact step_over hc hg hw (h.leaves hi hv (λ q=>hwk ⟨q.1,q.2.1,q.2.2.1,by have:=q.2.2.2;omega⟩)) (.inl ⟨rfl,rfl⟩) HandsR.none_
 . have hv:v i=.see:=by rw [hv,vwp_at ha,vg11 hpc]
   rw [if_neg (by rw [hpc];decide),if_neg (by rw [hpc];decide),if_pos hpc];exact step_go hc hg ha (by decide) rfl hc.pm (.inl hg) (.inr (.inr (.inr ⟨rfl,by show (10:Int)<=10;decide,by show (10:Int)<=15;decide⟩))) hc.tb hc.sc hc.rd hw (by intro q;cases q) rfl hw (by rw [vg10 rfl];exact h.sees hi hv) (.inl ⟨rfl,rfl⟩) HandsR.none_
 . have hv:v i=.draws:=by rw [hv,vwp_at ha,vg12 hpc]
   rw [if_neg (by rw [hpc];decide),if_neg (by rw [hpc];decide),if_neg (by rw [hpc];decide),if_pos hpc];unfold draw;rw [if_neg (by omega)];exact step_go hc hg ha (by decide) rfl hc.pm (.inl hg) (.inr (.inr (.inr ⟨rfl,by show (10:Int)<=13;decide,by show (13:Int)<=15;decide⟩))) h.T.nb hc.sc hc.rd hc.ol (by intro q;cases q) rfl hw (by rw [vg13 rfl];exact h.draws hN hi hv) (.inl ⟨rfl,rfl⟩) HandsR.none_
 . have hv:v i=.turns c.ticket:=by rw [hv,vwp_at ha,vg13 hpc]
   rw [if_neg (by rw [hpc];decide),if_neg (by rw [hpc];decide),if_neg (by rw [hpc];decide),if_neg (by rw [hpc];decide),if_pos hpc];unfold turn;by_cases ht:c.ticket=a.sv
   . rw [if_pos ht]
     exact step_go hc hg ha (by decide) rfl hc.pm (.inl hg) (.inr (.inr (.inr ⟨rfl,by show (10:Int)<=14;decide,by show (14:Int)<=15;decide⟩))) hc.tb hc.sc hc.rd hc.ol (by intro q;cases q) rfl hw (by rw [vg14 rfl];show Inv N (mx a) (upd v i (.grant c.ticket));rw [ht];exact h.grant hN hi (by rw [hv,ht];rfl)) (.inl ⟨rfl,rfl⟩) HandsR.none_
   . rw [if_neg ht]
     exact step_go hc hg ha (by decide) rfl hc.pm (.inl hg) (.inr (.inr (.inr ⟨rfl,by rw [hpc];decide,by rw [hpc];decide⟩))) hc.tb hc.sc hc.rd hc.ol (by show c.pc≠0;rw [hpc];decide) rfl hw
      (by
        have e:vw 2 (m:Int) { c with pc:=c.pc } m=v i:=by rw [hv];exact vg13 hpc
        rw [e,upd_self];exact h) (.inl ⟨rfl,rfl⟩) HandsR.none_ (λ q=>by have q:c.pc=9:=q;omega)
 . have hv:v i=.grant c.ticket:=by rw [hv,vwp_at ha,vg14 hpc]
   rw [if_neg (by rw [hpc];decide),if_neg (by rw [hpc];decide),if_neg (by rw [hpc];decide),if_neg (by rw [hpc];decide),if_neg (by rw [hpc];decide),if_pos hpc];unfold grant;have ci:CInv p { c with pc:=15 }:=hc.stay hg ha (by decide) rfl hc.pm (.inl hg) (.inr (.inr (.inr ⟨rfl,by show (10:Int)<=15;decide,by show (15:Int)<=15;decide⟩))) hc.tb hc.sc hc.rd hc.ol (by intro q;cases q) rfl
   cases hl:a.l with
   | nil =>
    dsimp only;have c1:a.c<=1:=by
     have hg0:=cnt_nonneg (p:=isG) (v:=v) (N:=N);have ha0:=cnt_nonneg (p:=isA) (v:=v) (N:=N);have hh0:=cnt_nonneg (p:=isH) (v:=v) (N:=N);have hW:=h.W;cases hS:(wd a.word).S
     . have q:cnt isG v N+a.c+cnt isA v N=b1 (wd a.word).K:=(hW.free hS).2.1
       rcases b1_cases (wd a.word).K with e | e<;>omega
     . obtain⟨q1,q2,q3,q4,q5⟩:=hW.starve hS
       cases hL:(wd a.word).L
       . have q:cnt isG v N+a.c+cnt isH v N=1:=q5 hL
         omega
       . have q:cnt isG v N+a.c=0:=(q4 hL).1
         omega
    rw [if_neg (by omega)];have q:=h.granted hi hv (show (mx a).l=[] from hl);rw [show (mx a).l=[] from hl] at q;exact step_go hc hg ha (by decide) rfl hc.pm (.inl hg) (.inr (.inr (.inr ⟨rfl,by show (10:Int)<=15;decide,by show (15:Int)<=15;decide⟩))) hc.tb hc.sc hc.rd hc.ol (by intro q;cases q) rfl hw (by rw [vg15 rfl];exact q) (.inl ⟨rfl,rfl⟩) HandsR.none_
   | cons y rest =>
    dsimp only;have hl':(mx a).l=y::rest:=hl;obtain⟨j,hj,ey,hne,hvj⟩:=h.next hi hv hl';subst ey;refine⟨_,rfl,ci,hw,.inr ⟨j,hj,hne,rfl,hvj,?_⟩,λ m' hm'=>?_,.inl ⟨rfl,rfl⟩,HandsR.none_⟩
    . rw [vwp_same (c':={ c with pc:=15 }) ha rfl,vg15 rfl]
      exact h.tells hi hv hj hne hvj hl'
    . rw [vwp_same (c':={ c with pc:=15 }) ha rfl];exact vw_far (by omega)
 . have hv:v i=.serves c.ticket:=by rw [hv,vwp_at ha,vg15 hpc]
   have hpos:=cnt_pos (p:=isT) (v:=v) hi (by rw [hv];rfl);rw [if_neg (by rw [hpc];decide),if_neg (by rw [hpc];decide),if_neg (by rw [hpc];decide),if_neg (by rw [hpc];decide),if_neg (by rw [hpc];decide),if_neg (by rw [hpc];decide),if_neg (by omega)];exact step_over hc hg hw (h.serves hN hi hv) (.inl ⟨rfl,rfl⟩) HandsR.none_
end
end P16
end
end Go.Proofs.YtainfijdhcehlaaGreatDoor
