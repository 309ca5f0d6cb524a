/-
  A part of the proof.
-/
import Derived.Test.YtainfijdhcehlaaGreatDoorQN3
import Derived.IntWalk
import Derived.Laws.CopyOwn
import Derived.Laws.MakeOwn
import Derived.Laws.Entries
set_option linter.all false
set_option maxRecDepth 100000
set_option maxHeartbeats 8000000
namespace Go.Proofs.YtainfijdhcehlaaGreatDoor
open Lib (hid)
section
open Go.ChangeShapes Go.WideShapes Go.ChangeAt Go.RowKit
def SF (s:Nat):Value:=.func (.func 242) #[] #[.pointer (some ⟨s,0,none⟩),.pointer (some ⟨s+1,0,none⟩),.pointer (some ⟨s+2,0,none⟩)]
structure RW (w0:World) (r:Int) (A:Option Addr) (n c:Nat) (k:Int) (W:World):Prop where
 gr:Gr w0 W
 b0:Blk W w0.heap.size #[.int .i64 r,.slice A n c] 281
 b1:Blk W (w0.heap.size+1) #[.int .i64 k] 3
 b2:Blk W (w0.heap.size+2) #[SF w0.heap.size] 298
section
variable {w0 W W':World} {r:Int} {A:Option Addr} {n c:Nat} {k:Int} {l:List Nd}
theorem RW.dr (h:RW w0 r A n c k W):RW w0 r A n c k W.drew:=⟨h.gr.dr,h.b0,h.b1,h.b2⟩
theorem RW.drN (h:RW w0 r A n c k W) (m:Nat):RW w0 r A n c k (W.drewN m):=⟨h.gr.drN m,h.b0,h.b1,h.b2⟩
theorem RW.come (h:RW w0 r A n c k W) (j:Int):RW w0 r A n c j (W.setCell ⟨w0.heap.size+1,0,none⟩ (.int .i64 j)) :=
 ⟨h.gr.st (by show w0.heap.size<=w0.heap.size+1;omega) _,h.b0.st (by show w0.heap.size+1≠w0.heap.size;omega) _,by simpa using h.b1.set 0 (.int .i64 j),h.b2.st (by show w0.heap.size+1≠w0.heap.size+2;omega) _⟩
def Loads (s i b off:Nat) (n c:Nat) (nd:Nd) (W:World):Prop :=
 W.cell? ⟨s,1,none⟩=some (.slice (some ⟨b,off,none⟩) n c)/\W.cell? ⟨s+2,0,none⟩=some (.func (.func 242) #[] #[.pointer (some ⟨s,0,none⟩),.pointer (some ⟨s+1,0,none⟩),.pointer (some ⟨s+2,0,none⟩)]) /\
  W.cell? ⟨b,off+i*3,none⟩=some (.int .i64 nd.key)/\W.cell? ⟨b,off+i*3+1,none⟩=some (.int .i64 nd.left)/\W.cell? ⟨b,off+i*3+2,none⟩=some (.int .i64 nd.right)
theorem RW.loads {b off i:Nat} {nd:Nd} (hR:RW w0 r (some ⟨b,off,none⟩) n c k W) (hm:NMem w0 (some ⟨b,off,none⟩) n l) (hx:l[i]?=some nd):Loads w0.heap.size i b off n c nd W:=by
 have hi:i<n:=by have:=(List.getElem?_eq_some_iff.1 hx).1;have:=hm.1;omega
 obtain⟨b',off',nd',e,hbl,hx',i0,i1,i2,d0,d1,d2⟩:=(hm.gr hR.gr).at_ hi
 cases e
 rw [hx] at hx'
 cases hx'
 exact⟨(hR.b0.at_ (k:=1) rfl).1,(hR.b2.at_ (k:=0) rfl).1,d0,d1,d2⟩
theorem sound_is (hm:NMem w0 A n l) (hn:n<=64) {a lo hi w:Int} {b:Bool} {q:Nat} (hs:Snd l a lo hi w b q):∀ (W:World) (k:Int),RW w0 r A n c k W->0<=k->k+q<=1000->-1<=lo->hi<=4294967296 ->
 Calls Tryz.prog 242 #[.int .i64 a,.int .i64 lo,.int .i64 hi,.int .i64 w,.pointer (some ⟨w0.heap.size,0,none⟩),.pointer (some ⟨w0.heap.size+1,0,none⟩),.pointer (some ⟨w0.heap.size+2,0,none⟩)] W
  λ e w'=>e=.returned (.bool b)/\RW w0 r A n c (k+q) w':=by
 have hlen:=hm.1
 induction hs with
 | nil lo hi w =>
  intro W k hR hk hq hlo hhi
  have HR:=hid hR
  clear hm hR
  go_enter Tryz.func242,Tryz.ntmps242
  go_wp2_with fail
  go_ret
  exact⟨rfl,by simpa using HR.out⟩
 | out a lo hi w h1 h2 =>
  intro W k hR hk hq hlo hhi
  have c1:=(hR.b0.at_ (k:=1) rfl).1
  have HR:=hid hR
  have ne:(a==-1)=false:=beq_eq_false_iff_ne.2 h1
  rw [hlen] at h2
  clear hm hR
  by_cases h3:a<0
  . go_enter Tryz.func242,Tryz.ntmps242
    go_wp2_with fail
    go_ret
    exact⟨rfl,by simpa using HR.out⟩
  . have h4:(n:Int)<=a:=by omega
    clear h2
    go_enter Tryz.func242,Tryz.ntmps242
    go_wp2_with fail
    go_ret
    exact⟨rfl,by simpa using HR.out⟩
 | no i nd lo hi w hx hno =>
  intro W k hR hk hq hlo hhi
  have c1:=(hR.b0.at_ (k:=1) rfl).1
  have hi1:i<n:=by have:=(List.getElem?_eq_some_iff.1 hx).1;omega
  obtain⟨b,off,nd',rfl,hbl,hx',i0,i1,i2,d0,d1,d2⟩:=(hm.gr hR.gr).at_ hi1
  rw [hx] at hx'
  cases hx'
  obtain⟨x,y,z⟩:=nd
  have HR:=hid hR
  have g0:¬ ((i:Int)<0):=by omega
  have g1:(i:Int)<(n:Int):=by omega
  have g2:((i:Int)==-1)=false:=beq_eq_false_iff_ne.2 (by omega)
  obtain⟨p,hp⟩:∃ p,prf x=p:=⟨_,rfl⟩
  have hC:=λ W=>Pri_is x W
  rw [hp] at hC
  have hno:x<=lo\/(¬ x<=lo/\hi<=x)\/(¬ x<=lo/\¬ hi<=x/\w<=p):=by
   dsimp only at hno
   have hpk:0<=x->x<=4294967295->p=pri x:=λ h h'=>by rw [<- hp];exact prf_key ⟨h,h'⟩
   by_cases e1:x<=lo
   . exact .inl e1
   . by_cases e2:hi<=x
     . exact .inr (.inl ⟨e1,e2⟩)
     . refine .inr (.inr ⟨e1,e2,?_⟩)
       rw [hpk (by omega) (by omega)]
       omega
  have kC:=hid hC
  clear hm hR hx hC hp
  dsimp only at *
  rcases hno with h | ⟨h,h'⟩ | ⟨h,h',h''⟩
  all_goals (
   go_enter Tryz.func242,Tryz.ntmps242
   go_wp2_with fail
   go_quiet ((go_at_call 235;with_reducible exact Calls.quiet_of_same (kC.out _)))
   go_wp2_with fail
   go_ret
   exact⟨rfl,by simpa using HR.out.drN _⟩)
 | left i nd lo hi w q hx h1 h2 h3 hs ih =>
  intro W k hR hk hq hlo hhi
  obtain⟨x,y,z⟩:=nd
  dsimp only at *
  have hIK:IsKey x:=by unfold IsKey;omega
  have c1:=(hR.b0.at_ (k:=1) rfl).1
  obtain⟨c2,c3⟩:=hR.b1.at_ (k:=0) rfl
  have hi1:i<n:=by have:=(List.getElem?_eq_some_iff.1 hx).1;omega
  obtain⟨bb,off,nd',rfl,hbl,hx',i0,i1,i2,d0,d1,d2⟩:=(hm.gr hR.gr).at_ hi1
  rw [hx] at hx'
  cases hx'
  dsimp only at *
  have g0:¬ ((i:Int)<0):=by omega
  have g1:(i:Int)<(n:Int):=by omega
  have g2:((i:Int)==-1)=false:=beq_eq_false_iff_ne.2 (by omega)
  have g3:¬ x<=lo:=by omega
  have g4:¬ hi<=x:=by omega
  have g5:¬ w<=pri x:=by omega
  have hC:=λ W=>Pri_is x W
  rw [prf_key hIK] at hC
  generalize pri x=p at *
  have kC:=hid hC
  have HI:=hid ih
  have HR:=hid hR
  have HM:=hid hm
  have e1:IntKind.i64.wrap (k+1)=k+1:=IntWalk.i64_in _ (by omega)
  have EQ:=hid (show k+((q+1:Nat):Int)=k+1+(q:Int) from by omega)
  have b1:=hid (show 0<=k+1 from by omega)
  have b2:=hid (show k+1+(q:Int)<=1000 from by omega)
  have b3:=hid hlo
  have b4:=hid (show x<=4294967296 from by omega)
  have HX:=hid hx
  clear hm hR hx hC ih hs hq hk h1 h2 h3 hIK
  go_enter Tryz.func242,Tryz.ntmps242
  go_wp2_with fail
  go_quiet ((go_at_call 235;with_reducible exact Calls.quiet_of_same (kC.out _)))
  clear d0
  go_wp2_with fail
  have R1:=(HR.out.drN nq).come (k+1)
  clear c1 c2 c3 d1 d2 hbl
  generalize (W.drewN nq).setCell _ _=W1 at R1 ⊢
  refine wp_region_held_drew (S:=λ w'=>w'.cell? ⟨w0.heap.size,1,none⟩=some (.slice (some ⟨bb,off,none⟩) n c)/\w'.cell? ⟨w0.heap.size+2,0,none⟩=some (.func (.func 242) #[] #[.pointer (some ⟨w0.heap.size,0,none⟩),.pointer (some ⟨w0.heap.size+1,0,none⟩),.pointer (some ⟨w0.heap.size+2,0,none⟩)]) /\
   w'.cell? ⟨bb,off+i*3,none⟩=some (.int .i64 x)/\w'.cell? ⟨bb,off+i*3+1,none⟩=some (.int .i64 y)/\w'.cell? ⟨bb,off+i*3+2,none⟩=some (.int .i64 z)) (by kernel_rfl) (R1.dr.loads HM.out HX.out) (λ hHeld=>?_)
  refine wpAnyH_take (i:=0) (oi:=⟨some 53,_,_,_,_,_⟩) (v:=?_) rfl (by kernel_rfl) (by kernel_rfl) (by kernel_rfl) (λ _ _ _ h=>h) (Or.inl ⟨by rfl,?_⟩) (by assumption) ?_
  rotate_left 1
  . (intro w hSw;(try dsimp only at hSw);go_simp;(try with_reducible rfl))
  try simp only [pL]
  refine wpAnyH_take (i:=1) (oi:=⟨some 54,_,_,_,_,_⟩) (v:=?_) rfl (by kernel_rfl) (by kernel_rfl) (by kernel_rfl) (λ _ _ _ h=>h) (Or.inl ⟨by rfl,?_⟩) (by assumption) ?_
  rotate_left 1
  . (intro w hSw;(try dsimp only at hSw);go_simp;(try with_reducible rfl))
  try simp only [pL]
  refine wpAnyH_take (i:=2) (oi:=⟨some 55,_,_,_,_,_⟩) (v:=?_) rfl (by kernel_rfl) (by kernel_rfl) (by kernel_rfl) (λ _ _ _ h=>h) (Or.inl ⟨by rfl,?_⟩) (by assumption) ?_
  rotate_left 1
  . (intro w hSw;(try dsimp only at hSw);go_simp;(try with_reducible rfl))
  try simp only [pL]
  refine wpAnyH_take (i:=3) (oi:=⟨some 56,_,_,_,_,_⟩) (v:=?_) rfl (by kernel_rfl) (by kernel_rfl) (by kernel_rfl) (λ _ _ _ h=>h) (Or.inl ⟨by rfl,?_⟩) (by assumption) ?_
  rotate_left 1
  . (intro w hSw;(try dsimp only at hSw);go_simp;(try with_reducible rfl))
  try simp only [pL]
  refine wpAnyH_take (i:=4) (oi:=⟨some 57,_,_,_,_,_⟩) (v:=?_) rfl (by kernel_rfl) (by kernel_rfl) (by kernel_rfl) (λ _ _ _ h=>h) (Or.inl ⟨by rfl,?_⟩) (by assumption) ?_
  rotate_left 1
  . (intro w hSw;(try dsimp only at hSw);go_simp;(try with_reducible rfl))
  try simp only [pL]
  refine wpAnyH_take (i:=5) (oi:=⟨some 58,_,_,_,_,_⟩) (v:=?_) rfl (by kernel_rfl) (by kernel_rfl) (by kernel_rfl) (λ _ _ _ h=>h) (Or.inl ⟨by rfl,?_⟩) (by assumption) ?_
  rotate_left 1
  . (intro w hSw;(try dsimp only at hSw);go_simp;(try with_reducible rfl))
  try simp only [pL]
  refine wpAnyH_take (i:=6) (oi:=⟨some 59,_,_,_,_,_⟩) (v:=?_) rfl (by kernel_rfl) (by kernel_rfl) (by kernel_rfl) (λ _ _ _ h=>h) (Or.inl ⟨by rfl,?_⟩) (by assumption) ?_
  rotate_left 1
  . (intro w hSw;(try dsimp only at hSw);go_simp;(try with_reducible rfl))
  try simp only [pL]
  refine wpAnyH_take (i:=7) (oi:=⟨some 60,_,_,_,_,_⟩) (v:=?_) rfl (by kernel_rfl) (by kernel_rfl) (by kernel_rfl) (λ _ _ _ h=>h) (Or.inl ⟨by rfl,?_⟩) (by assumption) ?_
  rotate_left 1
  . (intro w hSw;(try dsimp only at hSw);go_simp;(try with_reducible rfl))
  try simp only [pL]
  refine wpAnyH_take (i:=8) (oi:=⟨some 61,_,_,_,_,_⟩) (v:=?_) rfl (by kernel_rfl) (by kernel_rfl) (by kernel_rfl) (λ _ _ _ h=>h) (Or.inl ⟨by rfl,?_⟩) (by assumption) ?_
  rotate_left 1
  . (intro w hSw;(try dsimp only at hSw);go_simp;(try with_reducible rfl))
  try simp only [pL]
  refine wpAnyH_take (i:=9) (oi:=⟨some 62,_,_,_,_,_⟩) (v:=?_) rfl (by kernel_rfl) (by kernel_rfl) (by kernel_rfl) (λ _ _ _ h=>h) (Or.inl ⟨by rfl,?_⟩) (by assumption) ?_
  rotate_left 1
  . (intro w hSw;(try dsimp only at hSw);go_simp;(try with_reducible rfl))
  try simp only [pL]
  refine wpAnyH_ready (rs:=[10]) (by kernel_rfl) (by simp) ?_
  refine AllReadyH.cons (o:=⟨some 63,_,_,_,_,_⟩) rfl (λ K hK=>?_) AllReadyH.nil
  go_simp
  go_at_call 242
  with_reducible refine (HI.out _ _ R1.dr b1.out b2.out b3.out b4.out).mono ?_
  rintro e w2 ⟨rfl,hb2⟩
  go_wp2_with fail
  refine hK.out _ _ (hb2.loads HM.out HX.out) (λ hHeld2=>?_)
  clear hK K hHeld
  try simp only [pL]
  refine wpAnyH_take (i:=11) (oi:=⟨some 64,_,_,_,_,_⟩) (v:=?_) rfl (by kernel_rfl) (by kernel_rfl) (by kernel_rfl) (λ _ _ _ h=>h) (Or.inl ⟨by rfl,?_⟩) (by assumption) ?_
  rotate_left 1
  . (intro w hSw;(try dsimp only at hSw);go_simp;(try with_reducible rfl))
  try simp only [pL]
  refine wP 12 (by assumption) ?_
  refine wP 13 (by assumption) ?_
  refine wP 14 (by assumption) ?_
  refine wP 15 (by assumption) ?_
  refine wP 16 (by assumption) ?_
  refine wP 17 (by assumption) ?_
  refine wP 18 (by assumption) ?_
  refine wP 19 (by assumption) ?_
  refine wP 20 (by assumption) ?_
  refine wP 21 (by assumption) ?_
  refine wP 22 (by assumption) ?_
  refine wpAnyH_take (i:=23) (oi:=⟨some 76,_,_,_,_,_⟩) (v:=?_) rfl (by kernel_rfl) (by kernel_rfl) (by kernel_rfl) (λ _ _ _ h=>h) (Or.inl ⟨by rfl,?_⟩) (by assumption) ?_
  rotate_left 1
  . (intro w hSw;(try dsimp only at hSw);go_simp;(try with_reducible rfl))
  try simp only [pL]
  refine wpAnyH_take (i:=24) (oi:=⟨some 11,_,_,_,_,_⟩) (v:=?_) rfl (by kernel_rfl) (by kernel_rfl) (by kernel_rfl) (λ _ _ _ h=>h) (Or.inl ⟨by rfl,?_⟩) (by assumption) ?_
  rotate_left 1
  . (intro w hSw;(try dsimp only at hSw);go_simp;(try with_reducible rfl))
  try simp only [pL]
  refine wpAnyH_done (by kernel_rfl) ?_ _
  go_wp2_with fail
  go_ret
  rw [EQ.out]
  exact⟨rfl,hb2⟩
 | both i nd lo hi w b q u hx h1 h2 h3 hs hs' ih ih' =>
  intro W k hR hk hq hlo hhi
  obtain⟨x,y,z⟩:=nd
  dsimp only at *
  have hIK:IsKey x:=by unfold IsKey;omega
  have c1:=(hR.b0.at_ (k:=1) rfl).1
  obtain⟨c2,c3⟩:=hR.b1.at_ (k:=0) rfl
  have hi1:i<n:=by have:=(List.getElem?_eq_some_iff.1 hx).1;omega
  obtain⟨bb,off,nd',rfl,hbl,hx',i0,i1,i2,d0,d1,d2⟩:=(hm.gr hR.gr).at_ hi1
  rw [hx] at hx'
  cases hx'
  dsimp only at *
  have g0:¬ ((i:Int)<0):=by omega
  have g1:(i:Int)<(n:Int):=by omega
  have g2:((i:Int)==-1)=false:=beq_eq_false_iff_ne.2 (by omega)
  have g3:¬ x<=lo:=by omega
  have g4:¬ hi<=x:=by omega
  have g5:¬ w<=pri x:=by omega
  have hC:=λ W=>Pri_is x W
  rw [prf_key hIK] at hC
  generalize pri x=p at *
  have kC:=hid hC
  have HI:=hid ih
  have HI2:=hid ih'
  have HR:=hid hR
  have HM:=hid hm
  have e1:IntKind.i64.wrap (k+1)=k+1:=IntWalk.i64_in _ (by omega)
  have EQ:=hid (show k+((q+u+1:Nat):Int)=k+1+(q:Int)+(u:Int) from by omega)
  have b1:=hid (show 0<=k+1 from by omega)
  have b2:=hid (show k+1+(q:Int)<=1000 from by omega)
  have b3:=hid hlo
  have b5:=hid (show 0<=k+1+(q:Int) from by omega)
  have b6:=hid (show k+1+(q:Int)+(u:Int)<=1000 from by omega)
  have b7:=hid (show -1<=x from by omega)
  have b8:=hid hhi
  have b4:=hid (show x<=4294967296 from by omega)
  have HX:=hid hx
  clear hm hR hx hC ih ih' hs hs' hq hk h1 h2 h3 hIK
  go_enter Tryz.func242,Tryz.ntmps242
  go_wp2_with fail
  go_quiet ((go_at_call 235;with_reducible exact Calls.quiet_of_same (kC.out _)))
  clear d0
  go_wp2_with fail
  have R1:=(HR.out.drN nq).come (k+1)
  clear c1 c2 c3 d1 d2 hbl
  generalize (W.drewN nq).setCell _ _=W1 at R1 ⊢
  refine wp_region_held_drew (S:=λ w'=>w'.cell? ⟨w0.heap.size,1,none⟩=some (.slice (some ⟨bb,off,none⟩) n c)/\w'.cell? ⟨w0.heap.size+2,0,none⟩=some (.func (.func 242) #[] #[.pointer (some ⟨w0.heap.size,0,none⟩),.pointer (some ⟨w0.heap.size+1,0,none⟩),.pointer (some ⟨w0.heap.size+2,0,none⟩)]) /\
   w'.cell? ⟨bb,off+i*3,none⟩=some (.int .i64 x)/\w'.cell? ⟨bb,off+i*3+1,none⟩=some (.int .i64 y)/\w'.cell? ⟨bb,off+i*3+2,none⟩=some (.int .i64 z)) (by kernel_rfl) (R1.dr.loads HM.out HX.out) (λ hHeld=>?_)
  refine wpAnyH_take (i:=0) (oi:=⟨some 53,_,_,_,_,_⟩) (v:=?_) rfl (by kernel_rfl) (by kernel_rfl) (by kernel_rfl) (λ _ _ _ h=>h) (Or.inl ⟨by rfl,?_⟩) (by assumption) ?_
  rotate_left 1
  . (intro w hSw;(try dsimp only at hSw);go_simp;(try with_reducible rfl))
  try simp only [pL]
  refine wpAnyH_take (i:=1) (oi:=⟨some 54,_,_,_,_,_⟩) (v:=?_) rfl (by kernel_rfl) (by kernel_rfl) (by kernel_rfl) (λ _ _ _ h=>h) (Or.inl ⟨by rfl,?_⟩) (by assumption) ?_
  rotate_left 1
  . (intro w hSw;(try dsimp only at hSw);go_simp;(try with_reducible rfl))
  try simp only [pL]
  refine wpAnyH_take (i:=2) (oi:=⟨some 55,_,_,_,_,_⟩) (v:=?_) rfl (by kernel_rfl) (by kernel_rfl) (by kernel_rfl) (λ _ _ _ h=>h) (Or.inl ⟨by rfl,?_⟩) (by assumption) ?_
  rotate_left 1
  . (intro w hSw;(try dsimp only at hSw);go_simp;(try with_reducible rfl))
  try simp only [pL]
  refine wpAnyH_take (i:=3) (oi:=⟨some 56,_,_,_,_,_⟩) (v:=?_) rfl (by kernel_rfl) (by kernel_rfl) (by kernel_rfl) (λ _ _ _ h=>h) (Or.inl ⟨by rfl,?_⟩) (by assumption) ?_
  rotate_left 1
  . (intro w hSw;(try dsimp only at hSw);go_simp;(try with_reducible rfl))
  try simp only [pL]
  refine wpAnyH_take (i:=4) (oi:=⟨some 57,_,_,_,_,_⟩) (v:=?_) rfl (by kernel_rfl) (by kernel_rfl) (by kernel_rfl) (λ _ _ _ h=>h) (Or.inl ⟨by rfl,?_⟩) (by assumption) ?_
  rotate_left 1
  . (intro w hSw;(try dsimp only at hSw);go_simp;(try with_reducible rfl))
  try simp only [pL]
  refine wpAnyH_take (i:=5) (oi:=⟨some 58,_,_,_,_,_⟩) (v:=?_) rfl (by kernel_rfl) (by kernel_rfl) (by kernel_rfl) (λ _ _ _ h=>h) (Or.inl ⟨by rfl,?_⟩) (by assumption) ?_
  rotate_left 1
  . (intro w hSw;(try dsimp only at hSw);go_simp;(try with_reducible rfl))
  try simp only [pL]
  refine wpAnyH_take (i:=6) (oi:=⟨some 59,_,_,_,_,_⟩) (v:=?_) rfl (by kernel_rfl) (by kernel_rfl) (by kernel_rfl) (λ _ _ _ h=>h) (Or.inl ⟨by rfl,?_⟩) (by assumption) ?_
  rotate_left 1
  . (intro w hSw;(try dsimp only at hSw);go_simp;(try with_reducible rfl))
  try simp only [pL]
  refine wpAnyH_take (i:=7) (oi:=⟨some 60,_,_,_,_,_⟩) (v:=?_) rfl (by kernel_rfl) (by kernel_rfl) (by kernel_rfl) (λ _ _ _ h=>h) (Or.inl ⟨by rfl,?_⟩) (by assumption) ?_
  rotate_left 1
  . (intro w hSw;(try dsimp only at hSw);go_simp;(try with_reducible rfl))
  try simp only [pL]
  refine wpAnyH_take (i:=8) (oi:=⟨some 61,_,_,_,_,_⟩) (v:=?_) rfl (by kernel_rfl) (by kernel_rfl) (by kernel_rfl) (λ _ _ _ h=>h) (Or.inl ⟨by rfl,?_⟩) (by assumption) ?_
  rotate_left 1
  . (intro w hSw;(try dsimp only at hSw);go_simp;(try with_reducible rfl))
  try simp only [pL]
  refine wpAnyH_take (i:=9) (oi:=⟨some 62,_,_,_,_,_⟩) (v:=?_) rfl (by kernel_rfl) (by kernel_rfl) (by kernel_rfl) (λ _ _ _ h=>h) (Or.inl ⟨by rfl,?_⟩) (by assumption) ?_
  rotate_left 1
  . (intro w hSw;(try dsimp only at hSw);go_simp;(try with_reducible rfl))
  try simp only [pL]
  refine wpAnyH_ready (rs:=[10]) (by kernel_rfl) (by simp) ?_
  refine AllReadyH.cons (o:=⟨some 63,_,_,_,_,_⟩) rfl (λ K hK=>?_) AllReadyH.nil
  go_simp
  go_at_call 242
  with_reducible refine (HI.out _ _ R1.dr b1.out b2.out b3.out b4.out).mono ?_
  rintro e w2 ⟨rfl,hb2⟩
  go_wp2_with fail
  refine hK.out _ _ (hb2.loads HM.out HX.out) (λ hHeld2=>?_)
  clear hK K hHeld
  try simp only [pL]
  refine wpAnyH_take (i:=11) (oi:=⟨some 64,_,_,_,_,_⟩) (v:=?_) rfl (by kernel_rfl) (by kernel_rfl) (by kernel_rfl) (λ _ _ _ h=>h) (Or.inl ⟨by rfl,?_⟩) (by assumption) ?_
  rotate_left 1
  . (intro w hSw;(try dsimp only at hSw);go_simp;(try with_reducible rfl))
  try simp only [pL]
  refine wpAnyH_take (i:=12) (oi:=⟨some 65,_,_,_,_,_⟩) (v:=?_) rfl (by kernel_rfl) (by kernel_rfl) (by kernel_rfl) (λ _ _ _ h=>h) (Or.inl ⟨by rfl,?_⟩) (by assumption) ?_
  rotate_left 1
  . (intro w hSw;(try dsimp only at hSw);go_simp;(try with_reducible rfl))
  try simp only [pL]
  refine wpAnyH_take (i:=13) (oi:=⟨some 66,_,_,_,_,_⟩) (v:=?_) rfl (by kernel_rfl) (by kernel_rfl) (by kernel_rfl) (λ _ _ _ h=>h) (Or.inl ⟨by rfl,?_⟩) (by assumption) ?_
  rotate_left 1
  . (intro w hSw;(try dsimp only at hSw);go_simp;(try with_reducible rfl))
  try simp only [pL]
  refine wpAnyH_take (i:=14) (oi:=⟨some 67,_,_,_,_,_⟩) (v:=?_) rfl (by kernel_rfl) (by kernel_rfl) (by kernel_rfl) (λ _ _ _ h=>h) (Or.inl ⟨by rfl,?_⟩) (by assumption) ?_
  rotate_left 1
  . (intro w hSw;(try dsimp only at hSw);go_simp;(try with_reducible rfl))
  try simp only [pL]
  refine wpAnyH_take (i:=15) (oi:=⟨some 68,_,_,_,_,_⟩) (v:=?_) rfl (by kernel_rfl) (by kernel_rfl) (by kernel_rfl) (λ _ _ _ h=>h) (Or.inl ⟨by rfl,?_⟩) (by assumption) ?_
  rotate_left 1
  . (intro w hSw;(try dsimp only at hSw);go_simp;(try with_reducible rfl))
  try simp only [pL]
  refine wpAnyH_take (i:=16) (oi:=⟨some 69,_,_,_,_,_⟩) (v:=?_) rfl (by kernel_rfl) (by kernel_rfl) (by kernel_rfl) (λ _ _ _ h=>h) (Or.inl ⟨by rfl,?_⟩) (by assumption) ?_
  rotate_left 1
  . (intro w hSw;(try dsimp only at hSw);go_simp;(try with_reducible rfl))
  try simp only [pL]
  refine wpAnyH_take (i:=17) (oi:=⟨some 70,_,_,_,_,_⟩) (v:=?_) rfl (by kernel_rfl) (by kernel_rfl) (by kernel_rfl) (λ _ _ _ h=>h) (Or.inl ⟨by rfl,?_⟩) (by assumption) ?_
  rotate_left 1
  . (intro w hSw;(try dsimp only at hSw);go_simp;(try with_reducible rfl))
  try simp only [pL]
  refine wpAnyH_take (i:=18) (oi:=⟨some 71,_,_,_,_,_⟩) (v:=?_) rfl (by kernel_rfl) (by kernel_rfl) (by kernel_rfl) (λ _ _ _ h=>h) (Or.inl ⟨by rfl,?_⟩) (by assumption) ?_
  rotate_left 1
  . (intro w hSw;(try dsimp only at hSw);go_simp;(try with_reducible rfl))
  try simp only [pL]
  refine wpAnyH_take (i:=19) (oi:=⟨some 72,_,_,_,_,_⟩) (v:=?_) rfl (by kernel_rfl) (by kernel_rfl) (by kernel_rfl) (λ _ _ _ h=>h) (Or.inl ⟨by rfl,?_⟩) (by assumption) ?_
  rotate_left 1
  . (intro w hSw;(try dsimp only at hSw);go_simp;(try with_reducible rfl))
  try simp only [pL]
  refine wpAnyH_take (i:=20) (oi:=⟨some 73,_,_,_,_,_⟩) (v:=?_) rfl (by kernel_rfl) (by kernel_rfl) (by kernel_rfl) (λ _ _ _ h=>h) (Or.inl ⟨by rfl,?_⟩) (by assumption) ?_
  rotate_left 1
  . (intro w hSw;(try dsimp only at hSw);go_simp;(try with_reducible rfl))
  try simp only [pL]
  refine wpAnyH_take (i:=21) (oi:=⟨some 74,_,_,_,_,_⟩) (v:=?_) rfl (by kernel_rfl) (by kernel_rfl) (by kernel_rfl) (λ _ _ _ h=>h) (Or.inl ⟨by rfl,?_⟩) (by assumption) ?_
  rotate_left 1
  . (intro w hSw;(try dsimp only at hSw);go_simp;(try with_reducible rfl))
  try simp only [pL]
  refine wpAnyH_ready (rs:=[22]) (by kernel_rfl) (by simp) ?_
  refine AllReadyH.cons (o:=⟨some 75,_,_,_,_,_⟩) rfl (λ K hK=>?_) AllReadyH.nil
  go_simp
  go_at_call 242
  with_reducible refine (HI2.out _ _ hb2 b5.out b6.out b7.out b8.out).mono ?_
  rintro e w3 ⟨rfl,hb3⟩
  go_wp2_with fail
  refine hK.out _ _ (hb3.loads HM.out HX.out) (λ hHeld3=>?_)
  clear hK K hHeld2
  try simp only [pL]
  refine wpAnyH_take (i:=23) (oi:=⟨some 76,_,_,_,_,_⟩) (v:=?_) rfl (by kernel_rfl) (by kernel_rfl) (by kernel_rfl) (λ _ _ _ h=>h) (Or.inl ⟨by rfl,?_⟩) (by assumption) ?_
  rotate_left 1
  . (intro w hSw;(try dsimp only at hSw);go_simp;(try with_reducible rfl))
  try simp only [pL]
  refine wpAnyH_take (i:=24) (oi:=⟨some 11,_,_,_,_,_⟩) (v:=?_) rfl (by kernel_rfl) (by kernel_rfl) (by kernel_rfl) (λ _ _ _ h=>h) (Or.inl ⟨by rfl,?_⟩) (by assumption) ?_
  rotate_left 1
  . (intro w hSw;(try dsimp only at hSw);go_simp;(try with_reducible rfl))
  try simp only [pL]
  refine wpAnyH_done (by kernel_rfl) ?_ _
  go_wp2_with fail
  go_ret
  rw [EQ.out]
  exact⟨rfl,hb3⟩
end
end
section
open Go.ChangeShapes Go.WideShapes Go.ChangeAt Go.RowKit
theorem run_store_fn (a:Addr) (fn:Fn) (x y:Array Value) (m:Mode) (w:World):(store a (.func fn x y) m).run Tryz.prog w=stored Tryz.prog w a (.func fn x y) m:=run_store Tryz.prog w a _ m rfl
theorem Right_is {w:World} {r:Int} {A:Option Addr} {n c:Nat} {l:List Nd} (hm:NMem w A n l) {v:Bool} (hv:v=true↔∃ t,Good l r t) :
 Calls Tryz.prog 236 #[.agg #[.int .i64 r,.slice A n c]] w λ e w'=>e=.returned (.bool v)/\Gr w w':=by
 have hlen:=hm.1
 by_cases hn:n<=64
 . obtain⟨b,q,hs,hq,hg⟩:=right_ex (r:=r) (show l.length<=64 from by omega)
   have hvb:v=(b&&decide (q=n)):=by
    have h:v=true↔(b&&decide (q=n))=true:=by rw [hv,<- hg,hlen,Bool.and_eq_true,decide_eq_true_eq]
    exact Bool.eq_iff_iff.2 h
   clear hv hg
   have h1:¬ (64:Int)<(n:Int):=by omega
   have hS:∀ W,RW w r A n c 0 W->Calls Tryz.prog 242 #[.int .i64 r,.int .i64 (-1),.int .i64 4294967296,.int .i64 4294967296,.pointer (some ⟨w.heap.size,0,none⟩),.pointer (some ⟨w.heap.size+1,0,none⟩),.pointer (some ⟨w.heap.size+1+1,0,none⟩)] W
    λ e w'=>e=.returned (.bool b)/\RW w r A n c (0+q) w':=λ W hR=>sound_is hm hn hs W 0 hR (by omega) (by omega) (by omega) (by omega) (c:=c)
   have stf:=run_store_fn
   have KS:=hid hS
   clear hS hs
   go_enter Tryz.func236,Tryz.ntmps236
   go_wp2_with fail
   with_reducible refine (KS.out _ ?_).mono ?_
   . refine⟨(((Gr.refl w).al _).al _).al _,((Blk.new w _ _).al _).al _,?_,?_⟩
     . simpa [SF] using (Blk.new (w.alloc (.cells #[.int .i64 r,.slice A n c] 281)) #[.int .i64 0] 3).al (.cells #[SF w.heap.size] 298)
     . simpa [SF] using Blk.new ((w.alloc (.cells #[.int .i64 r,.slice A n c] 281)).alloc (.cells #[.int .i64 0] 3)) #[SF w.heap.size] 298
   rintro e w2 ⟨rfl,hR⟩
   rw [Int.zero_add] at hR
   have f0:=(hR.b0.at_ (k:=1) rfl).1
   have f1:=(hR.b1.at_ (k:=0) rfl).1
   have HG:=hid hR.gr
   clear hR KS stf hq
   cases b with
   | false =>
    have hv2:v=false:=hvb
    clear hvb
    subst hv2
    go_wp2_with fail
    go_ret
    exact⟨rfl,HG.out⟩
   | true =>
    by_cases hqn:q=n
    . subst hqn
      have hv2:v=true:=by rw [hvb,decide_eq_true rfl];rfl
      clear hvb
      subst hv2
      go_wp2_with fail
      go_ret
      exact⟨rfl,HG.out⟩
    . have ne:((q:Int)==(n:Int))=false:=beq_eq_false_iff_ne.2 (by omega)
      have hv2:v=false:=by rw [hvb,decide_eq_false hqn];rfl
      clear hvb hqn
      subst hv2
      go_wp2_with fail
      go_ret
      exact⟨rfl,HG.out⟩
 . obtain rfl:v=false:=by
    cases v
    . rfl
    . obtain⟨t,ht⟩:=hv.1 rfl
      have:=ht.2.2.1;omega
   have h1:(64:Int)<(n:Int):=by omega
   clear hv
   go_enter Tryz.func236,Tryz.ntmps236
   go_wp2_with fail
   go_ret
   exact⟨rfl,(Gr.refl _).al _⟩
end
section
open Go.ChangeShapes Go.WideShapes Go.ChangeAt Go.RowKit Go.Shelf
section
variable {w:World} {r:Int} {A:Option Addr} {n c:Nat} {l:List Nd}
theorem map_take_more {k:Nat} {nd:Nd} (h:l[k]?=some nd):(l.take (k+1)).map Nd.key=(l.take k).map Nd.key++[nd.key]:=by
 rw [List.take_add_one,h];simp
theorem keysFn_is (hm:NMem w A n l) (hn:n<=1000000):Calls Tryz.prog 245 #[.agg #[.int .i64 r,.slice A n c]] w λ e w'=>∃ C k,e=.returned (.slice C n k)/\IOwn w.heap.size w' C n k (l.map Nd.key)/\Gr w w':=by
 obtain⟨i0,hi0,hz0,hz1,hz2⟩:=info_parts infoInt
 have HZ:=hid hz0
 have HZ1:=hid hz1
 have HZ2:=hid hz2
 have HI0:=hid hi0
 have HM:=hid hm
 clear hz0 hz1 hz2 hi0 hm
 have g0:=(Gr.refl w).al (.cells #[.int .i64 r,.slice A n c] 281)
 go_enter Tryz.func245,Tryz.ntmps245
 go_wp2_with fail
 go_loopw [3,9] (λ L i wr=>∃ (k:Nat) (C:Option Addr) (d:Nat),k<=n/\i=.int .i64 (k:Int)/\L=.slice C k d/\Hid (IOwn w.heap.size wr C k d ((l.take k).map Nd.key))/\Hid (Gr w wr)) (λ _ i _=>n-(intOf i).toNat)
 case atStart=>exact⟨0,_,0,Nat.zero_le _,rfl,rfl,hid (by simpa using OMem.nil_),hid g0⟩
 case round =>
  clear g0
  obtain⟨k,C,d,hk,rfl,rfl,HO,HG⟩:=hrel
  by_cases hlt:k<n
  . obtain⟨b,off,nd,rfl,hbl,hx,i0',i1,i2,d0,d1,d2⟩:=(HM.out.gr HG.out).at_ hlt
    have HX:=hid (map_take_more hx)
    obtain⟨y,p,q⟩:=nd
    have HI:=hid i0'
    dsimp only at d0 d1 d2
    clear hx i0' i1 i2
    go_wp2_with (at_builtin;refine Mark.stop ?_)
    refine Mark.go ?_
    refine wpList_append_omem _ (Value.int .i64) B64 rfl (.tmp 13) (.tmp 16) 23 rfl (λ _=>rfl) w.heap.size 3 i0 (.int .i64 0) 8 Tryz.underlying23 HI0.out HZ.out HZ1.out HZ2.out rfl C k d _ rfl (HO.out.gr (((Gr.refl _).al _).al _)) _ 1 1 [y] rfl (emem_one' _ y HI.out _ (by simp)) (by unfold maxLen;omega) (by omega) ((HG.out.al _).al _).size ?_
    intro C3 k3 w3 own3 gb3
    have G3:=hid (((HG.out.al (.cells #[.int .i64 y,.int .i64 p,.int .i64 q] 292)).al (.cells #[.int .i64 y] 3)).gb gb3 (λ k hk=>(HO.out.lt k hk).1))
    clear gb3
    go_wp2_with fail
    go_roundw
    case rel=>exact⟨k+1,C3,k3,by omega,by go_num,rfl,hid (by rw [HX.out];exact own3),G3⟩
    case measure=>simp [intOf];omega
  . obtain rfl:k=n:=by omega
    have own:=HO.out
    rw [<- HM.out.1,List.take_length] at own
    go_wp2_with fail
    go_ret
    exact⟨C,d,rfl,HM.out.1▸own,HG.out⟩
def KeysR (l:List Nd) (r:Int) (R:List Int) (e:Int):Prop:=((¬ ∃ t,Good l r t)/\R=[]/\e=1)\/∃ t,Good l r t/\R=t.inord/\e=0
theorem KeysR.len {R:List Int} {e:Int} (h:KeysR l r R e):R.length<=64:=by
 rcases h with ⟨_,rfl,_⟩ | ⟨t,ht,rfl,_⟩
 . simp
 . rw [T.inord_len,ht.2.1];exact ht.2.2.1
end
end
section
open Go.RowKit
theorem run_makeN {P:Program} (t e:TypeId) (i:TypeInfo) (z:Value) (ht:P.underlying t=some (.slice e)) (hi:P.info? e=some i) (hz:i.zero=some z)
 (n:Nat) (hb:i.bytes*n<=281474976710656) (h63:n<=9223372036854775807) (w:World) :
 (Instr.makeSlice t (.int .i64 (n:Int)) (.int .i64 (n:Int))).run P w=.ok (.slice (some ⟨w.heap.size,0,none⟩) n n) (w.alloc (.cells (madeCells z.cells (n*i.size)) e)):=by
 simpa using run_make (P:=P) w t e i z ht hi hz .i64 .i64 n n (by omega) (by omega) (by rw [<- Int.natCast_mul];omega) (by omega)
theorem run_copyN {P:Program} (w:World) (dT sT ty elem:TypeId) (size:Nat) (g m dCap:Nat) (a:Addr) (sCap:Nat) (cur:Array Value) (t:TypeId) (cs:List Value)
 (hu:P.underlying dT=some (.slice elem)) (hs:(P.info? elem).map (·.size)=some size)
 (hg:w.heap[g]?=some (.cells cur t (0,0))) (hn:cs.length=m*size)
 (hsrc:∀ j v,cs[j]?=some v->w.cell? (a.add j)=some v) (hfit:cs.length=cur.size) (h1:∀ v∈cs,v.oneCell'=true) :
 (Builtin.copy_ #[dT,sT] ty #[.slice (some ⟨g,0,none⟩) m dCap,.slice (some a) m sCap]).run P w=.ok (goInt m) (w.setRow g cs.toArray):=by
 have hl:=run_loadCells_list (P:=P) w a cs hsrc
 have hst:=run_storeCells_at P g 0 t cs 0 cur w hg (by simp;omega) h1
 have hd:cur.toList.drop (0+0+cs.length)=[]:=List.drop_of_length_le (by simp;omega)
 rw [hd] at hst
 simp only [Nat.add_zero,List.take_zero,List.nil_append,List.append_nil] at hst
 cases hq:P.info? elem with
 | none=>simp [hq] at hs
 | some i =>
  have hi:i.size=size:=by simpa [hq] using hs
  simp [Builtin.copy_,run_underlying hu,Builtin.lenOf,Builtin.firstCells,sizeOf,typeInfo,hq,hi,<- hn,hl,hst]
theorem wpList_copyN {P:Program} {w:World} {ops:Array Oper} {rest:List Oper} {o:Oper} {a:Act} {Q:Exit->Act->World->Prop} (hgd:o.guard=none) (d s:Operand) (dT sT:TypeId)
 (ho:o.op=.call { callee:=.builtin .copy,args:=#[d,s],argTypes:=#[dT,sT] }) (elem:TypeId) (size:Nat) (hu:P.underlying dT=some (.slice elem)) (hsz:(P.info? elem).map (·.size)=some size)
 (g m dCap:Nat) (b off:Nat) (sCap:Nat) (hd:a.eval d=.slice (some ⟨g,0,none⟩) m dCap) (hs:a.eval s=.slice (some ⟨b,off,none⟩) m sCap)
 (cur:Array Value) (t:TypeId) (hg:w.heap[g]?=some (.cells cur t (0,0))) (cs:List Value) (hn:cs.length=m*size)
 (hsrc:∀ j v,cs[j]?=some v->w.cell? ⟨b,off+j,none⟩=some v) (hfit:cs.length=cur.size) (h1:∀ v∈cs,v.oneCell'=true)
 (h:∀ w',Hid (w'.heap[g]?=some (.cells cs.toArray t (0,0)))->Below g w w'->w'.heap.size=w.heap.size->wpList P ops Q rest (a.put o.dst (goInt m)) w'):wpList P ops Q (o::rest) a w:=by
 refine wpList_plain hgd λ K hK=>?_
 have hadd:∀ j,(⟨b,off,none⟩:Addr).add j=⟨b,off+j,none⟩:=λ j=>by unfold Addr.add;split<;>simp_all
 have hrun:=run_copyN (P:=P) w dT sT o.type elem size g m dCap ⟨b,off,none⟩ sCap cur t cs hu hsz hg hn (λ j v hv=>by rw [hadd];exact hsrc j v hv) hfit h1
 unfold Oper.wp
 simp [execOp,ho,resolve,invoke,builtin,hd,hs,hrun,Result.andThen]
 exact hK _ _ (h _ (hid (setRow_heap w g _ _ t _ hg)) (below_setRow (Below.refl _ _) (Nat.le_refl _) _) (by simp [World.setRow]))
end
section
open Go.ChangeShapes Go.WideShapes Go.ChangeAt Go.RowKit Go.Shelf
section
variable {W1 W:World} {r:Int} {A:Option Addr} {n c tb kb b off:Nat} {x:Int} {l:List Nd}
def Drawn (W1:World) (_:Int) (W:World):Prop:=∃ q,W=W1.drewN q
theorem Drawn.self (W1:World) (s:Int):Drawn W1 s W1:=⟨0,rfl⟩
theorem grow_further (hm:∀ (i:Nat) (nd:Nd),l[i]?=some nd->W1.cell? ⟨b,off+i*3,none⟩=some (.int .i64 nd.key)) (hK:∀ (i:Nat) (nd:Nd),l[i]?=some nd->IsKey nd.key) (hx:IsKey x) (hk:W1.cell? ⟨kb,0,none⟩=some (.int .i64 x)) :
 Further 248 #[.pointer (some ⟨kb,0,none⟩)] (Drawn W1) (gdir x) (λ _ s=>s) b off l:=by
 rintro s W i nd ⟨q,rfl⟩ hi
 have c0:(W1.drewN q).cell? ⟨b,off+i*3,none⟩=some (.int .i64 nd.key):=hm i nd hi
 have c1:(W1.drewN q).cell? ⟨kb,0,none⟩=some (.int .i64 x):=hk
 have hC:=λ W=>Pri_is nd.key W
 have hC2:=λ W=>Pri_is x W
 rw [prf_key (hK i nd hi)] at hC
 rw [prf_key hx] at hC2
 have HD:Hid (∀ m,Drawn W1 s ((W1.drewN q).drewN m)):=hid λ m=>⟨q+m,by simp [World.drewN,Nat.add_assoc]⟩
 clear hm hK hk hx hi
 generalize W1.drewN q=V at *
 obtain⟨y,p,u⟩:=nd
 dsimp only at *
 unfold gdir
 obtain⟨py,hpy⟩:∃ py,pri y=py:=⟨_,rfl⟩
 obtain⟨px,hpx⟩:∃ px,pri x=px:=⟨_,rfl⟩
 rw [hpy] at hC ⊢
 rw [hpx] at hC2 ⊢
 have K1:=hid hC
 have K2:=hid hC2
 clear hC hC2 hpy hpx
 show Calls Tryz.prog 248 #[.pointer (some ⟨b,off+i*3,none⟩),.pointer (some ⟨kb,0,none⟩)] V _
 by_cases hlt:py<px
 . rw [if_pos hlt]
   go_enter Tryz.func248,Tryz.ntmps248
   go_wp2_with fail
   go_quiet ((go_at_call 235;first | (with_reducible exact Calls.quiet_of_same (K1.out _)) | (with_reducible exact Calls.quiet_of_same (K2.out _))))
   go_wp2_with fail
   go_ret
   exact⟨rfl,HD.out _⟩
 . rw [if_neg hlt]
   go_enter Tryz.func248,Tryz.ntmps248
   go_wp2_with fail
   go_quiet ((go_at_call 235;first | (with_reducible exact Calls.quiet_of_same (K1.out _)) | (with_reducible exact Calls.quiet_of_same (K2.out _))))
   go_wp2_with fail
   go_ret
   exact⟨rfl,HD.out _⟩
theorem New_is (w:World):Calls Tryz.prog 239 #[] w λ e w'=>e=.returned (.agg #[.int .i64 (-1),.slice none 0 0])/\Gr w w':=by
 have B0:=Blk.new w #[.int .i64 0,.slice none 0 0] 281
 go_enter Tryz.func239,Tryz.ntmps239
 go_wp2_with fail
 exact bodyPost_ret (v:=.agg #[.int .i64 (-1),.slice none 0 0]) (by simp [results,Tryz.results239,go_sem]) rfl ⟨rfl,(Gr.refl w).al _⟩
structure GS (w1:World) (R:List Int) (n tb nb:Nat) (k:Nat) (root:Int) (l:List Nd) (t:T) (V:Array Value) (wr:World):Prop where
 gr:Gr w1 wr
 b0:Blk wr tb #[.int .i64 root,.slice (some ⟨nb,0,none⟩) n n] 281
 b1:Blk wr nb V 292
 nv:NV V l
 ge:w1.heap.size<=tb/\w1.heap.size<=nb/\tb≠nb
 len:l.length=n
 bnd:∀ nd∈l,IsKey nd.key/\B64 nd.left/\B64 nd.right
 lay:Lay l t root
 nod:t.ids.Nodup
 ids:∀ i∈t.ids,i<k
 ord:t.inord=R.take k
 hp:Hp t 4294967296
theorem GS.gr' {w1 wr wr':World} {R:List Int} {n tb nb k:Nat} {root:Int} {l:List Nd} {t:T} {V:Array Value} (S:GS w1 R n tb nb k root l t V wr) (g:Gr wr wr'):GS w1 R n tb nb k root l t V wr' :=
 ⟨S.gr.trans g,S.b0.gr g,S.b1.gr g,S.nv,S.ge,S.len,S.bnd,S.lay,S.nod,S.ids,S.ord,S.hp⟩
section
variable {w1 W:World} {n tb nb k:Nat} {R:List Int} {root x:Int} {l:List Nd} {t:T} {V:Array Value}
def V3 (V:Array Value) (k:Nat) (x v:Int):Array Value:=((V.setIfInBounds (k*3) (.int .i64 x)).setIfInBounds (k*3+1) (.int .i64 v)).setIfInBounds (k*3+2) (.int .i64 (-1))
def W4 (W:World) (nb k:Nat) (x v:Int):World:=(((W.setCell ⟨nb,k*3,none⟩ (.int .i64 x)).setCell ⟨nb,k*3+1,none⟩ (.int .i64 v)).setCell ⟨nb,k*3+2,none⟩ (.int .i64 (-1))).drew
theorem GS.w4 (S:GS w1 R n tb nb k root l t V W) (v:Int):Gr w1 (W4 W nb k x v)/\Blk (W4 W nb k x v) tb #[.int .i64 root,.slice (some ⟨nb,0,none⟩) n n] 281/\Blk (W4 W nb k x v) nb (V3 V k x v) 292:=by
 obtain⟨e1,e2,e3⟩:=S.ge
 refine⟨(((S.gr.st e2 _).st e2 _).st e2 _).dr,?_,?_⟩
 . exact (((S.b0.st (p:=⟨nb,_,none⟩) (λ e=>e3 e.symm) _).st (p:=⟨nb,_,none⟩) (λ e=>e3 e.symm) _).st (p:=⟨nb,_,none⟩) (λ e=>e3 e.symm) _)
 . exact ((S.b1.set _ _).set _ _).set _ _
theorem GS.rest (S:GS w1 R n tb nb k root l t V W) (hR:Rising R) (hK:∀ x∈R,IsKey x) (hx:R[k]?=some x) :
 k ∉ t.ids/\(ins k x t).ids.Nodup/\(∀ i∈(ins k x t).ids,i<k+1)/\(ins k x t).inord=R.take (k+1)/\Hp (ins k x t) 4294967296:=by
 have hk:k ∉ t.ids:=λ h=>by have:=S.ids k h;omega
 have hxk:=hK x (List.mem_of_getElem? hx)
 refine⟨hk,ins_nodup S.nod hk,λ i hi=>?_,?_,ins_hp S.hp (pri_range x).2 λ y hy e=>?_⟩
 . rcases ins_ids hi with rfl | h
   . omega
   . have:=S.ids i h;omega
 . rw [ins_inord,S.ord,List.take_add_one,hx];rfl
 . rw [S.ord] at hy
   have hy':=List.mem_of_mem_take hy
   have:=pri_inj (hK y hy') hxk e
   subst this
   obtain⟨i,hi,hiy⟩:=List.mem_take_iff_getElem.1 hy
   obtain⟨h1,h2⟩:=List.getElem?_eq_some_iff.1 hx
   have:=List.pairwise_iff_getElem.1 hR i k (by omega) h1 (by omega)
   omega
theorem GS.root64 (S:GS w1 R n tb nb k root l t V W) (hn:n<=64):B64 root:=by
 have:=S.len
 unfold B64
 by_cases h:root=-1
 . omega
 . have:=S.lay.bad h;omega
theorem GS.nohold (S:GS w1 R n tb nb k root l t V W) (hn:n<=64) (hk:k<n) (hR:Rising R) (hK:∀ x∈R,IsKey x) (hx:R[k]?=some x) (hh:hold x t=none) :
 GS w1 R n tb nb (k+1) k (l.set k ⟨x,root,-1⟩) (ins k x t) (V3 V k x root) ((W4 W nb k x root).setCell ⟨tb,0,none⟩ (.int .i64 k)):=by
 obtain⟨g,c0,c1⟩:=S.w4 (x:=x) root
 obtain⟨r1,r2,r3,r4,r5⟩:=S.rest hR hK hx
 have hl:=S.len
 refine⟨g.st S.ge.1 _,by simpa using c0.set 0 (.int .i64 k),c1.st S.ge.2.2 _,S.nv.set (by omega) _ _ _,S.ge,by simpa using hl,λ nd h=>?_,(lay_ins S.lay S.nod r1 (by omega)).1 hh,r2,r3,r4,r5⟩
 rcases List.mem_or_eq_of_mem_set h with h | rfl
 . exact S.bnd nd h
 . exact⟨hK x (List.mem_of_getElem? hx),S.root64 hn,(show B64 (-1) from ⟨by decide,by decide⟩)⟩
theorem GS.held {j:Nat} {nd:Nd} (S:GS w1 R n tb nb k root l t V W) (hn:n<=64) (hk:k<n) (hR:Rising R) (hK:∀ x∈R,IsKey x) (hx:R[k]?=some x) (hh:hold x t=some j) (hj:l[j]?=some nd) :
 GS w1 R n tb nb (k+1) root ((l.set k ⟨x,nd.right,-1⟩).set j ⟨nd.key,nd.left,k⟩) (ins k x t) ((V3 V k x nd.right).setIfInBounds (j*3+2) (.int .i64 k)) ((W4 W nb k x nd.right).setCell ⟨nb,j*3+2,none⟩ (.int .i64 k)):=by
 obtain⟨g,c0,c1⟩:=S.w4 (x:=x) nd.right
 obtain⟨r1,r2,r3,r4,r5⟩:=S.rest hR hK hx
 have hl:=S.len
 have hjk:k≠j:=λ e=>by have:=S.ids j (hold_mem hh);omega
 have hj':(l.set k ⟨x,nd.right,-1⟩)[j]?=some nd:=by rw [List.getElem?_set_ne hjk];exact hj
 obtain⟨nd',e1,hlay⟩:=(lay_ins S.lay S.nod r1 (by omega)).2 j hh
 rw [hj] at e1
 cases e1
 have hb:=S.bnd nd (List.mem_of_getElem? hj)
 refine⟨g.st S.ge.2.1 _,c0.st (λ e=>S.ge.2.2 e.symm) _,c1.set _ _,(S.nv.set (by omega) _ _ _).right hj' k,S.ge,by simpa using hl,λ m h=>?_,hlay,r2,r3,r4,r5⟩
 rcases List.mem_or_eq_of_mem_set h with h | rfl
 . rcases List.mem_or_eq_of_mem_set h with h | rfl
   . exact S.bnd m h
   . exact⟨hK x (List.mem_of_getElem? hx),hb.2.2,(show B64 (-1) from ⟨by decide,by decide⟩)⟩
 . refine⟨hb.1,hb.2.1,?_⟩
   show B64 (k:Int)
   unfold B64;omega
end
theorem infoNode:(Tryz.prog.info? 292).map (λ i=>(i.zero,i.size,i.bytes))=some (some (.agg #[.int .i64 0,.int .i64 0,.int .i64 0]),3,24):=by kernel_rfl
section
variable {w0 w w1 wr:World} {C:Option Addr} {base n c tb nb k:Nat} {L R:List Int} {root:Int} {l:List Nd} {t:T} {V:Array Value}
theorem grow_way {x:Int} (S:GS w1 R n tb nb k root l t V wr) (hx:IsKey x) :
 Calls Tryz.prog 237 #[.pointer (some ⟨tb,0,none⟩),.func (.func 248) #[] #[.pointer (some ⟨wr.heap.size,0,none⟩)]] (wr.alloc (.cells #[.int .i64 x] 3)) λ e w' =>
  e=.returned (.pointer (some ⟨(match hold x t with | none=>(tb,0) | some j=>(nb,0+j*3+2)).1,(match hold x t with | none=>(tb,0) | some j=>(nb,0+j*3+2)).2,none⟩))/\Drawn (wr.alloc (.cells #[.int .i64 x] 3)) 0 w':=by
 have hm:NMem (wr.alloc (.cells #[.int .i64 x] 3)) (some ⟨nb,0,none⟩) n l:=S.nv.mem S.len (λ nd h=>by
  obtain⟨h1,h2,h3⟩:=S.bnd nd h
  exact⟨by unfold IsKey at h1;unfold B64;omega,h2,h3⟩) (S.b1.al _)
 have hKp:Keeps (Drawn (wr.alloc (.cells #[.int .i64 x] 3))) tb root (some ⟨nb,0,none⟩) n n l:=by
  refine⟨?_,?_,?_,?_⟩
  . rintro s W ⟨q,rfl⟩;exact ((S.b0.al _).at_ (k:=0) rfl).1
  . rintro s W ⟨q,rfl⟩;exact ((S.b0.al _).at_ (k:=1) rfl).1
  . rintro s W ⟨q,rfl⟩;exact hm.gr ((Gr.refl _).drN q)
  . rintro s W ⟨q,rfl⟩;exact⟨q+1,rfl⟩
 have hF:=follow_is (enters_of Tryz.func248 (by kernel_rfl) rfl) hKp
  (grow_further (λ i nd h=>(hm.cells h).1) (λ i nd h=>(S.bnd nd (List.mem_of_getElem? h)).1) hx ((Blk.new wr #[.int .i64 x] 3).at_ (k:=0) rfl).1) (.inr rfl) S.lay (Drawn.self _ 0)
 rw [run_grow] at hF
 exact hF.mono λ e w' h=>⟨h.1,h.2⟩
theorem grow_is (ho:IOwn base w C n c L) (hn:n<=64) (hL:L.Nodup) (hK:∀ x∈L,IsKey x) (hbase:w0.heap.size<=base) (hg:Gr w0 w) :
 Calls Tryz.prog 244 #[.slice C n c] w λ e w'=>∃ r g l t,e=.returned (.agg #[.int .i64 r,.slice (some ⟨g,0,none⟩) n n])/\NMem w' (some ⟨g,0,none⟩) n l/\Good l r t/\t.inord=srt L/\Gr w0 w'/\w0.heap.size<=g:=by
 have hlen:=ho.1.1
 have g0:=(Gr.refl w).al (.cells #[.int .i64 0,.slice none 0 0] 281)
 have B0:=Blk.new w #[.int .i64 0,.slice none 0 0] 281
 have hS:=hid (Sort_is (ho.gr g0) (by omega))
 have hRr:=srt_rising hL
 have hRl:=srt_len L
 have hRk:∀ x∈srt L,IsKey x:=λ x hx=>hK x ((srt_perm L).mem_iff.1 hx)
 rw [hlen] at hRl
 have hN:=λ W=>New_is W
 have KN:=hid hN
 obtain⟨i0,hj,hz0,hz1,hz2⟩:=info_parts infoNode
 have hmk:=λ W=>run_makeN (P:=Tryz.prog) 279 292 i0 _ Tryz.underlying279 hj hz0 n (by rw [hz2];omega) (by omega) W
 rw [hz1] at hmk
 obtain⟨M,hM⟩:∃ M,madeCells (Value.agg #[.int .i64 0,.int .i64 0,.int .i64 0]).cells (n*3)=M:=⟨_,rfl⟩
 have hNV:=NV.made n
 rw [hM] at hmk hNV
 obtain⟨R,hR⟩:∃ R,srt L=R:=⟨_,rfl⟩
 rw [hR] at hS hRr hRl hRk ⊢
 have HNV:=hid hNV
 have HRr:=hid hRr
 have HRk:=hid hRk
 have HO:=hid ho
 have HG:=hid hg
 clear hM hNV hRr hRk hR hz0 hz1 hz2 hj hN hg ho hL hK
 go_enter Tryz.func244,Tryz.ntmps244
 go_wp2_with fail
 with_reducible refine hS.out.mono ?_
 rintro e w1 ⟨rfl,own1,gb1⟩
 have G1:=hid ((HG.out.trans g0).gb gb1 (λ k hk=>by have:=(HO.out.lt k hk).1;omega))
 have B1:Blk w1 w.heap.size #[.int .i64 0,.slice none 0 0] 281:=B0.gb gb1 (λ e=>by have:=(HO.out.lt _ e).2;omega)
 have M1:=hid own1.mem
 clear own1 gb1 B0 hS g0
 go_wp2_with fail
 with_reducible refine (KN.out _).mono ?_
 rintro e w2 ⟨rfl,hb2⟩
 go_wp2_with fail
 have M2:=hid (M1.out.gr hb2)
 have B2:=hid (B1.gr hb2)
 have G2:=hid (G1.out.trans hb2)
 clear M1 B1 G1 hb2 hmk KN
 have S0:GS w2 R n w2.heap.size (w2.heap.size+1) 0 (-1) (List.replicate n ⟨0,0,0⟩) .nil M ((w2.alloc (.cells #[.int .i64 (-1),.slice (some ⟨w2.heap.size+1,0,none⟩) n n] 281)).alloc (.cells M 292)):=by
  refine⟨((Gr.refl w2).al _).al _,(Blk.new w2 _ _).al _,?_,HNV.out,⟨Nat.le_refl _,by omega,by omega⟩,by simp,λ nd h=>?_,rfl,by simp [T.ids],λ i h=>by simp [T.ids] at h,by simp [T.inord],trivial⟩
  . simpa using Blk.new (w2.alloc (.cells #[.int .i64 (-1),.slice (some ⟨w2.heap.size+1,0,none⟩) n n] 281)) M 292
  . obtain⟨_,rfl⟩:=List.mem_replicate.1 h
    exact⟨⟨by decide,by decide⟩,⟨by decide,by decide⟩,⟨by decide,by decide⟩⟩
 have HS0:=hid S0
 clear S0 HNV
 generalize w2.heap.size=tb at *
 go_loopw [16] (λ i wr=>∃ (k:Nat) (root:Int) (l:List Nd) (t:T) (V:Array Value),k<=n/\i=.int .i64 (k:Int)/\Hid (GS w2 R n tb (tb+1) k root l t V wr)) (λ i _=>n-(intOf i).toNat)
 case atStart=>exact⟨0,_,_,_,_,Nat.zero_le _,rfl,HS0⟩
 case round =>
  clear HS0
  obtain⟨k,root,l,t,V,hk,rfl,HS⟩:=hrel
  by_cases hlt:k<n
  . obtain⟨b,off,x,rfl,hbl,hx,hix,cx⟩:=(M2.out.gr HS.out.gr).at_ hlt
    have HX:=hid hx
    have hKx:=HRk.out x (List.mem_of_getElem? hx)
    have hW:=hid (grow_way HS.out hKx)
    have HIX:=hid hix
    have HKX:=hid hKx
    clear hx hix hKx
    cases hh:hold x t with
    | none =>
     rw [hh] at hW
     have HH:=hid hh
     clear hh
     go_wp2_with fail
     with_reducible refine hW.out.mono ?_
     rintro e w3 ⟨rfl,q,rfl⟩
     have S3:=HS.out.gr' (((Gr.refl wr).al (.cells #[.int .i64 x] 3)).drN q)
     have K3:Blk ((wr.alloc (.cells #[.int .i64 x] 3)).drewN q) wr.heap.size #[.int .i64 x] 3:=Blk.new _ _ _
     have f0:=(K3.at_ (k:=0) rfl).1
     have f1:=(S3.b0.at_ (k:=0) rfl).1
     have f2:=(S3.b0.at_ (k:=1) rfl).1
     obtain⟨nd0,hl⟩:∃ nd,l[k]?=some nd:=⟨_,List.getElem?_eq_getElem (by rw [HS.out.len];exact hlt)⟩
     obtain⟨v0,v1,v2⟩:=S3.nv.2 k _ hl
     obtain⟨c0,z0⟩:=S3.b1.at_ v0
     obtain⟨c1,z1⟩:=S3.b1.at_ v1
     obtain⟨c2,z2⟩:=S3.b1.at_ v2
     obtain⟨f3,z3⟩:=S3.b0.at_ (k:=0) rfl
     have H3:=hid S3
     clear v0 v1 v2 hl K3 S3 hW cx
     generalize (wr.alloc (.cells #[.int .i64 x] 3)).drewN q=W3 at *
     generalize wr.heap.size=gk at *
     go_wp2_with fail
     go_region
     obtain⟨_,k0,k1⟩:=H3.out.w4 (x:=x) root
     have HN:=hid (H3.out.nohold hn hlt HRr.out HRk.out HX.out HH.out)
     obtain⟨f1,z1⟩:=k0.at_ (k:=0) rfl
     unfold W4 at f1 z1
     clear f0 f2 c0 c1 c2 f3 z3 k0 k1
     go_wp2_with fail
     go_roundw
     case rel=>exact⟨k+1,_,_,_,_,by omega,by go_num,HN⟩
     case measure=>simp [intOf];omega
    | some j =>
     rw [hh] at hW
     have HH:=hid hh
     clear hh
     go_wp2_with fail
     with_reducible refine hW.out.mono ?_
     rintro e w3 ⟨rfl,q,rfl⟩
     obtain⟨ndj,hj⟩:∃ nd,l[j]?=some nd:=by
      have:=(HS.out.lay.key_of j (hold_mem HH.out))
      exact⟨_,this.choose_spec.1⟩
     have HJ:=hid hj
     have S3:=HS.out.gr' (((Gr.refl wr).al (.cells #[.int .i64 x] 3)).drN q)
     have K3:Blk ((wr.alloc (.cells #[.int .i64 x] 3)).drewN q) wr.heap.size #[.int .i64 x] 3:=Blk.new _ _ _
     have f0:=(K3.at_ (k:=0) rfl).1
     have f1:=(S3.b0.at_ (k:=0) rfl).1
     have f2:=(S3.b0.at_ (k:=1) rfl).1
     obtain⟨nd0,hl⟩:∃ nd,l[k]?=some nd:=⟨_,List.getElem?_eq_getElem (by rw [HS.out.len];exact hlt)⟩
     obtain⟨v0,v1,v2⟩:=S3.nv.2 k _ hl
     obtain⟨c0,z0⟩:=S3.b1.at_ v0
     obtain⟨c1,z1⟩:=S3.b1.at_ v1
     obtain⟨c2,z2⟩:=S3.b1.at_ v2
     obtain⟨f3,z3⟩:=S3.b1.at_ (S3.nv.2 j _ hj).2.2
     have H3:=hid S3
     clear v0 v1 v2 hl hj K3 S3 hW cx
     generalize (wr.alloc (.cells #[.int .i64 x] 3)).drewN q=W3 at *
     generalize wr.heap.size=gk at *
     go_wp2_with fail
     go_region
     obtain⟨_,k0,k1⟩:=H3.out.w4 (x:=x) ndj.right
     have HN:=hid (H3.out.held hn hlt HRr.out HRk.out HX.out HH.out HJ.out)
     have hjk:j<k:=HS.out.ids j (hold_mem HH.out)
     have hv:(V3 V k x ndj.right)[j*3+2]?=some (.int .i64 ndj.right):=by
      have:=((H3.out.nv.set (i:=k) (by rw [H3.out.len];exact hlt) x ndj.right (-1)).2 j ndj (by rw [List.getElem?_set_ne (by omega)];exact HJ.out)).2.2
      exact this
     obtain⟨f1,z1⟩:=k1.at_ hv
     unfold W4 at f1 z1
     clear f0 f2 c0 c1 c2 f3 z3 k0 k1 hv hjk
     go_wp2_with fail
     go_roundw
     case rel=>exact⟨k+1,_,_,_,_,by omega,by go_num,HN⟩
     case measure=>simp [intOf];omega
  . obtain rfl:k=n:=by omega
    have hS:=HS.out
    have f0:=(hS.b0.at_ (k:=0) rfl).1
    have f1:=(hS.b0.at_ (k:=1) rfl).1
    have hB:=B2.out.gr hS.gr
    obtain⟨p0,z0⟩:=hB.at_ (k:=0) rfl
    obtain⟨p1,z1⟩:=hB.at_ (k:=1) rfl
    have hor:t.inord=R:=by rw [hS.ord,<- hRl,List.take_length]
    have hgood:Good l root t:=by
     refine⟨hS.lay,by rw [<- T.inord_len,hor,hS.len,hRl],by rw [hS.len];exact hn,bst_of (hor▸HRr.out) λ x hx=>?_,hS.hp⟩
     have:=HRk.out x (hor▸hx)
     unfold IsKey at this;omega
    have hlt2:=B2.out.lt
    have hge:=hS.ge.1
    have BF:=(hB.set 0 (.int .i64 root)).set 1 (.slice (some ⟨tb+1,0,none⟩) k k)
    have BN:=(hS.b1.st (p:=⟨w.heap.size,0,none⟩) (by show w.heap.size≠tb+1;omega) (.int .i64 root)).st (p:=⟨w.heap.size,1,none⟩) (by show w.heap.size≠tb+1;omega) (.slice (some ⟨tb+1,0,none⟩) k k)
    have GN:=((G2.out.trans hS.gr).st (p:=⟨w.heap.size,0,none⟩) HG.out.size (.int .i64 root)).st (p:=⟨w.heap.size,1,none⟩) HG.out.size (.slice (some ⟨tb+1,0,none⟩) k k)
    have HN:=hid (λ (W:World) (h:Blk W (tb+1) V 292)=>hS.nv.mem hS.len (λ nd h=>by
     obtain⟨h1,h2,h3⟩:=hS.bnd nd h
     exact⟨by unfold IsKey at h1;unfold B64;omega,h2,h3⟩) h)
    have HB:=hid (And.intro hgood (And.intro hor (show w0.heap.size<=tb+1 from by have:=G2.out.size;omega)))
    have HBB:=hid (And.intro BF (And.intro BN GN))
    clear hS hB hor hgood BF BN GN hlt2 hge
    go_wp2_with fail
    obtain⟨BF,BN,GN⟩:=HBB.out
    clear f0 f1 p0 p1 z0 z1 HBB
    generalize (wr.setCell _ _).setCell _ _=WF at BF BN GN ⊢
    have q0:WF.cell? ⟨w.heap.size,0,none⟩=some (.int .i64 root):=(BF.at_ (k:=0) rfl).1
    have q1:WF.cell? ⟨w.heap.size,1,none⟩=some (.slice (some ⟨tb+1,0,none⟩) k k):=(BF.at_ (k:=1) rfl).1
    exact bodyPost_ret (v:=.agg #[.int .i64 root,.slice (some ⟨tb+1,0,none⟩) k k]) (by simp [results,Tryz.results244,go_sem,q0,q1]) rfl ⟨root,tb+1,l,t,rfl,HN.out _ BN,HB.out.1,HB.out.2.1,GN,HB.out.2.2⟩
end
end
end
section
open Go.ChangeShapes Go.WideShapes Go.ChangeAt Go.RowKit Go.Shelf
structure FW (w0:World) (r:Int) (A:Option Addr) (n c tb kb sb:Nat) (x v:Int) (W:World):Prop where
 gr:Gr w0 W
 b0:Blk W tb #[.int .i64 r,.slice A n c] 281
 b1:Blk W kb #[.int .i64 x] 3
 b2:Blk W sb #[.int .i64 v] 3
 n0:sb≠tb
 n1:sb≠kb
 ge:w0.heap.size<=sb
section
variable {w0 W:World} {r:Int} {A:Option Addr} {n c tb kb sb:Nat} {x v:Int} {l:List Nd}
theorem FW.drew (h:FW w0 r A n c tb kb sb x v W):FW w0 r A n c tb kb sb x v W.drew:=⟨h.gr.dr,h.b0,h.b1,h.b2,h.n0,h.n1,h.ge⟩
theorem FW.drN (h:FW w0 r A n c tb kb sb x v W) (m:Nat):FW w0 r A n c tb kb sb x v (W.drewN m):=⟨h.gr.drN m,h.b0,h.b1,h.b2,h.n0,h.n1,h.ge⟩
theorem FW.set (h:FW w0 r A n c tb kb sb x v W) (u:Int):FW w0 r A n c tb kb sb x u (W.setCell ⟨sb,0,none⟩ (.int .i64 u)) :=
 ⟨h.gr.st h.ge _,h.b0.st h.n0 _,h.b1.st h.n1 _,by simpa using h.b2.set 0 (.int .i64 u),h.n0,h.n1,h.ge⟩
theorem fw_keeps (hm:NMem w0 A n l):Keeps (FW w0 r A n c tb kb sb x) tb r A n c l where
 root:=λ s W h=>(h.b0.at_ (k:=0) rfl).1
 nodes:=λ s W h=>(h.b0.at_ (k:=1) rfl).1
 mem:=λ s W h=>hm.gr h.gr
 drew:=λ s W h=>h.drew
def fdir (x k:Int):Option Bool:=if x=k then none else if x<k then some false else some true
def fupd (x k s:Int):Int:=if x=k then s else IntKind.i64.wrap (s+1)
def ndir (x k:Int):Option Bool:=if k<x then some true else some false
def nupd (x k s:Int):Int:=if k<x then s else k
theorem find_further {b off:Nat} (hm:NMem w0 (some ⟨b,off,none⟩) n l):Further 246 #[.pointer (some ⟨kb,0,none⟩),.pointer (some ⟨sb,0,none⟩)] (FW w0 r (some ⟨b,off,none⟩) n c tb kb sb x) (fdir x) (fupd x) b off l:=by
 intro s W i nd hW hx
 have c0:=(hm.gr hW.gr).cells hx
 obtain⟨c0,c1,c2⟩:=c0
 have k0:=(hW.b1.at_ (k:=0) rfl).1
 obtain⟨k1,k2⟩:=hW.b2.at_ (k:=0) rfl
 have HW:=hid hW
 have HM:=hid hm
 have HX:=hid hx
 clear hm hx hW
 obtain⟨y,p,q⟩:=nd
 dsimp only at *
 show Calls Tryz.prog 246 #[.pointer (some ⟨b,off+i*3,none⟩),.pointer (some ⟨kb,0,none⟩),.pointer (some ⟨sb,0,none⟩)] W _
 by_cases he:x=y
 . subst he
   rw [show fdir x x=none from if_pos rfl,show fupd x x s=s from if_pos rfl]
   go_enter Tryz.func246,Tryz.ntmps246
   go_wp2_with fail
   go_quiet (fail)
   go_wp2_with fail
   go_ret
   exact⟨rfl,HW.out.drN _⟩
 . have ne:(x==y)=false:=beq_eq_false_iff_ne.2 he
   by_cases hlt:x<y
   . rw [show fdir x y=some false from (if_neg he).trans (if_pos hlt),show fupd x y s=IntKind.i64.wrap (s+1) from if_neg he]
     obtain⟨u,hu⟩:∃ u,IntKind.i64.wrap (s+1)=u:=⟨_,rfl⟩
     rw [hu]
     go_enter Tryz.func246,Tryz.ntmps246
     go_wp2_with fail
     go_quiet (fail)
     go_wp2_with fail
     have W3:=(HW.out.drN nq).set u
     clear c0 c1 c2 k0 k1 k2 hu
     generalize (W.drewN nq).setCell _ _=V at W3 ⊢
     have c0:=((HM.out.gr W3.gr).cells HX.out).1
     have k0:=(W3.b1.at_ (k:=0) rfl).1
     have H3:=hid W3
     clear W3
     dsimp only at c0
     go_quiet (fail)
     go_wp2_with fail
     go_ret
     exact⟨rfl,H3.out.drN _⟩
   . rw [show fdir x y=some true from (if_neg he).trans (if_neg hlt),show fupd x y s=IntKind.i64.wrap (s+1) from if_neg he]
     obtain⟨u,hu⟩:∃ u,IntKind.i64.wrap (s+1)=u:=⟨_,rfl⟩
     rw [hu]
     go_enter Tryz.func246,Tryz.ntmps246
     go_wp2_with fail
     go_quiet (fail)
     go_wp2_with fail
     have W3:=(HW.out.drN nq).set u
     clear c0 c1 c2 k0 k1 k2 hu
     generalize (W.drewN nq).setCell _ _=V at W3 ⊢
     have c0:=((HM.out.gr W3.gr).cells HX.out).1
     have k0:=(W3.b1.at_ (k:=0) rfl).1
     have H3:=hid W3
     clear W3
     dsimp only at c0
     go_quiet (fail)
     go_wp2_with fail
     go_ret
     exact⟨rfl,H3.out.drN _⟩
theorem next_further {b off:Nat} (hm:NMem w0 (some ⟨b,off,none⟩) n l):Further 238 #[.pointer (some ⟨kb,0,none⟩),.pointer (some ⟨sb,0,none⟩)] (FW w0 r (some ⟨b,off,none⟩) n c tb kb sb x) (ndir x) (nupd x) b off l:=by
 intro s W i nd hW hx
 have c0:=(hm.gr hW.gr).cells hx
 obtain⟨c0,c1,c2⟩:=c0
 have k0:=(hW.b1.at_ (k:=0) rfl).1
 obtain⟨k1,k2⟩:=hW.b2.at_ (k:=0) rfl
 have HW:=hid hW
 clear hm hx hW
 obtain⟨y,p,q⟩:=nd
 dsimp only at *
 show Calls Tryz.prog 238 #[.pointer (some ⟨b,off+i*3,none⟩),.pointer (some ⟨kb,0,none⟩),.pointer (some ⟨sb,0,none⟩)] W _
 by_cases hlt:y<x
 . rw [show ndir x y=some true from if_pos hlt,show nupd x y s=s from if_pos hlt]
   go_enter Tryz.func238,Tryz.ntmps238
   go_wp2_with fail
   go_quiet (fail)
   go_wp2_with fail
   go_ret
   exact⟨rfl,HW.out.drN _⟩
 . rw [show ndir x y=some false from if_neg hlt,show nupd x y s=y from if_neg hlt]
   go_enter Tryz.func238,Tryz.ntmps238
   go_wp2_with fail
   go_quiet (fail)
   go_wp2_with fail
   go_ret
   exact⟨rfl,(HW.out.drN _).set y⟩
theorem run_find {b off:Nat}:∀ {t:T} {lo hi:Int} {pb po:Nat} {s:Int},Bst t lo hi->0<=s->s+t.size<=100000 ->
 (x ∉ t.inord->(run (fdir x) (fupd x) b off t pb po s).2.1=.nil)/\(x∈t.inord->(run (fdir x) (fupd x) b off t pb po s).2.1≠.nil/\(run (fdir x) (fupd x) b off t pb po s).2.2=s+dpt t x)
 | .nil,_,_,_,_,s,_,_,_=>⟨λ _=>rfl,λ h=>by simp [T.inord] at h⟩
 | .node i k L R,lo,hi,pb,po,s,hb,h0,h1=>by
  obtain⟨b1,b2,b3,b4⟩:=hb
  unfold T.size at h1
  by_cases he:x=k
  . subst he
    rw [run_stop (show fdir x x=none from if_pos rfl),show fupd x x s=s from if_pos rfl]
    exact⟨λ h=>absurd (by simp [T.inord]) h,λ _=>⟨by simp,by simp [dpt]⟩⟩
  . have hw:fupd x k s=s+1:=(if_neg he).trans (wrap_id (by omega) (by omega))
    by_cases hlt:x<k
    . rw [run_go (show fdir x k=some false from (if_neg he).trans (if_pos hlt)),hw]
      obtain⟨g1,g2⟩:=@run_find b off L lo k b (off+i*3+side false) (s+1) b3 (by omega) (by omega)
      have hm:x∈(T.node i k L R).inord↔x∈L.inord:=by
       simp only [T.inord,List.mem_append,List.mem_cons]
       refine⟨λ h=>?_,λ h=>.inl h⟩
       rcases h with h | h | h
       . exact h
       . exact absurd h he
       . have:=(b4.mem h).1;omega
      refine⟨λ h=>g1 (λ h'=>h (hm.2 h')),λ h=>⟨(g2 (hm.1 h)).1,(g2 (hm.1 h)).2.trans ?_⟩⟩
      rw [dpt,if_neg he,if_pos hlt];omega
    . rw [run_go (show fdir x k=some true from (if_neg he).trans (if_neg hlt)),hw]
      obtain⟨g1,g2⟩:=@run_find b off R k hi b (off+i*3+side true) (s+1) b4 (by omega) (by omega)
      have hm:x∈(T.node i k L R).inord↔x∈R.inord:=by
       simp only [T.inord,List.mem_append,List.mem_cons]
       refine⟨λ h=>?_,λ h=>.inr (.inr h)⟩
       rcases h with h | h | h
       . have:=(b3.mem h).2;omega
       . exact absurd h he
       . exact h
      refine⟨λ h=>g1 (λ h'=>h (hm.2 h')),λ h=>⟨(g2 (hm.1 h)).1,(g2 (hm.1 h)).2.trans ?_⟩⟩
      rw [dpt,if_neg he,if_neg hlt];omega
theorem run_next {b off:Nat}:∀ {t:T} {pb po:Nat} {s:Int},(run (ndir x) (nupd x) b off t pb po s).2.2=nx t x s
 | .nil,_,_,_=>rfl
 | .node i k L R,pb,po,s=>by
  by_cases hlt:k<x
  . rw [run_go (show ndir x k=some true from if_pos hlt),show nupd x k s=s from if_pos hlt,nx,if_pos hlt]
    exact run_next
  . rw [run_go (show ndir x k=some false from if_neg hlt),show nupd x k s=k from if_neg hlt,nx,if_neg hlt]
    exact run_next
end
end
end Go.Proofs.YtainfijdhcehlaaGreatDoor
