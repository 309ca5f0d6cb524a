/-
  A part of the proof.
-/
import Derived.Test.YtainfijdhcehlaaGreatDoorQN11
import Derived.Shelf.Abstract
import Derived.FnLit
import Derived.OwnWalk
import Derived.WalkLawsBesides
import Derived.Defers
import Derived.Recover
import Derived.Laws.Pointers
import Derived.Deep.RegionHeld3
import Derived.Deep.RegionHeld2
import Derived.RegionTactic
import Derived.Deep.RegionWith
import Derived.BigRegion
set_option linter.all false
set_option maxRecDepth 100000
set_option maxHeartbeats 8000000
namespace Go.Proofs.YtainfijdhcehlaaGreatDoor
open Lib (hid)
section
open Go.ChangeShapes Go.WideShapes Go.ChangeAt Go.RowKit
namespace P11
theorem b64_pk {x:G} (h:B64 x.1):B64 (pkG x).2.1:=by
 unfold pkG
 split
 . simp only;split<;>exact⟨by decide,by decide⟩
 . exact h
theorem b64_rd {x:G} (h:B64 x.1):B64 (rdG x).2.1:=by
 unfold rdG
 split
 . exact h
 . split
   . exact h
   . exact (show B64 0 from ⟨by decide,by decide⟩)
theorem b64_en {x:G} (h:B64 x.1):B64 (enG x).2.1:=by
 unfold enG
 split
 . exact⟨by decide,by decide⟩
 . exact h
theorem err_pk (x:G):(pkG x).1=0\/(pkG x).1=6\/(pkG x).1=7:=by
 unfold pkG;split<;>simp
theorem err_rd (x:G):(rdG x).1=0\/(rdG x).1=6\/(rdG x).1=7:=by
 unfold rdG;split
 . simp
 . split<;>simp
theorem err_en (x:G):(enG x).1=0\/(enG x).1=6\/(enG x).1=7:=by
 unfold enG;split<;>simp
theorem b64_set {l:List G} {k:Nat} {y:G} (h:∀ x∈l,B64 x.1) (hy:B64 y.1):∀ x∈l.set k y,B64 x.1:=by
 intro x hx
 rcases List.mem_or_eq_of_mem_set hx with h1 | rfl
 . exact h x h1
 . exact hy
theorem got_yes {w w':World} {g k n:Nat} {l:List G} {y:G} (hn:l.length=n) (hl:w.heap.size<=g) (hb:∀ x∈l.set k y,B64 x.1) (h:∃ vs,Blk w' g vs 51/\vs.toList=flat (l.set k y)) (G1:Gr w w') :
 Got w (0,l.set k y) (.returned (.tuple #[.slice (some ⟨g,0,none⟩) n n,.int .i64 0])) w':=by
 subst hn
 obtain⟨vs,h1,h2⟩:=h
 have e:(l.set k y).length=l.length:=List.length_set
 refine⟨_,l.length,?_,GMem.of_blk h1 h2 hb,(λ k hk=>by cases hk;exact hl),Nat.le_of_eq e,G1⟩
 rw [e]
section
variable {A:Option Addr} {n c:Nat} {l:List G} {who:Int}
theorem Park_is (hn:n<=9223372036854775807) (w:World) (hm:GMem w A n l) :
 Calls Tryz.prog 153 #[.slice A n c,.int .i64 who] w (Got w (outc pkG l who)):=by
 have hmf:=mkF
 have hl:=hm.1
 by_cases hr:rightB l=true
 . by_cases hw:who<0\/n<=who
   . rw [outc_range hr (by rw [hl];exact hw)]
     have c1:=hid (choose_range (c:=c) hn hr hw hm)
     clear hm hr hw
     go_enter Tryz.func153,Tryz.ntmps153
     go_wp2_with fail
     with_reducible refine c1.out.mono ?_
     rintro e w1 ⟨cp,rfl,hcp,hB,g1⟩
     have c2:=λ f=>hid (after_no (f:=f) (.inr rfl) hB)
     go_wp2_with fail
     with_reducible refine (c2 _).out.mono ?_
     rintro e w2 ⟨rfl,g2⟩
     go_wp2_with fail
     go_ret2
     exact got_err 3 (g1.trans g2)
   . obtain⟨k,rfl⟩:∃ k:Nat,who=(k:Int):=⟨who.toNat,by omega⟩
     have hk:k<n:=by omega
     obtain⟨x,hx⟩:∃ x,l[k]?=some x:=⟨_,List.getElem?_eq_getElem (by omega)⟩
     rw [outc_at hr hx]
     have hbx:=hm.2.1 x (List.mem_of_getElem? hx)
     have HB:=hid hm.2.1
     have HX:=hid hx
     have c1:=hid (choose_ok (c:=c) hn hr hk hm)
     obtain⟨⟨q,y⟩,hp⟩:∃ r,pkG x=r:=⟨_,rfl⟩
     have hy:=b64_pk hbx
     have hq:=err_pk x
     rw [hp] at hy hq ⊢
     have HP:=hid hp
     clear hm hr hw hx hp
     rcases hq with hq | hq
     . obtain rfl:q=0:=hq
       rw [if_pos rfl]
       go_enter Tryz.func153,Tryz.ntmps153
       go_wp2_with fail
       with_reducible refine c1.out.mono ?_
       rintro e w1 ⟨cp,g,rfl,hcp,hg,hC,g1⟩
       have c2:=hid (after_yes (enters_of Tryz.func194 (by kernel_rfl) rfl) park_is hC HX.out hg HP.out)
       rw [hl] at c2
       clear hC
       go_wp2_with fail
       with_reducible refine c2.out.mono ?_
       rintro e w2 ⟨rfl,g2,hv⟩
       have HV:=hid hv
       clear hv
       go_wp2_with fail
       go_ret2
       exact got_yes hl hg (b64_set HB.out hy) HV.out (g1.trans' g2)
     . rw [if_neg (by show q≠0;omega)]
       go_enter Tryz.func153,Tryz.ntmps153
       go_wp2_with fail
       with_reducible refine c1.out.mono ?_
       rintro e w1 ⟨cp,g,rfl,hcp,hg,hC,g1⟩
       have c2:=hid (after_err (enters_of Tryz.func194 (by kernel_rfl) rfl) park_is hC HX.out hg (by rw [HP.out]) hq)
       clear hC
       go_wp2_with fail
       with_reducible refine c2.out.mono ?_
       rintro e w2 ⟨rfl,g2⟩
       go_wp2_with fail
       go_ret2
       exact got_err q (g1.trans' g2)
 . have hr0:rightB l=false:=by simpa using hr
   rw [outc_arg hr0]
   have c1:=hid (choose_arg (c:=c) (who:=who) hn hr0 hm)
   clear hm hr hr0
   go_enter Tryz.func153,Tryz.ntmps153
   go_wp2_with fail
   with_reducible refine c1.out.mono ?_
   rintro e w1 ⟨cp,rfl,hcp,hB,g1⟩
   have c2:=λ f=>hid (after_no (f:=f) (.inl rfl) hB)
   go_wp2_with fail
   with_reducible refine (c2 _).out.mono ?_
   rintro e w2 ⟨rfl,g2⟩
   go_wp2_with fail
   go_ret2
   exact got_err 1 (g1.trans g2)
end
section
variable {A:Option Addr} {n c:Nat} {l:List G} {who:Int}
theorem Ready_is (hn:n<=9223372036854775807) (w:World) (hm:GMem w A n l) :
 Calls Tryz.prog 162 #[.slice A n c,.int .i64 who] w (Got w (outc rdG l who)):=by
 have hmf:=mkF
 have hl:=hm.1
 by_cases hr:rightB l=true
 . by_cases hw:who<0\/n<=who
   . rw [outc_range hr (by rw [hl];exact hw)]
     have c1:=hid (choose_range (c:=c) hn hr hw hm)
     clear hm hr hw
     go_enter Tryz.func162,Tryz.ntmps162
     go_wp2_with fail
     with_reducible refine c1.out.mono ?_
     rintro e w1 ⟨cp,rfl,hcp,hB,g1⟩
     have c2:=λ f=>hid (after_no (f:=f) (.inr rfl) hB)
     go_wp2_with fail
     with_reducible refine (c2 _).out.mono ?_
     rintro e w2 ⟨rfl,g2⟩
     go_wp2_with fail
     go_ret2
     exact got_err 3 (g1.trans g2)
   . obtain⟨k,rfl⟩:∃ k:Nat,who=(k:Int):=⟨who.toNat,by omega⟩
     have hk:k<n:=by omega
     obtain⟨x,hx⟩:∃ x,l[k]?=some x:=⟨_,List.getElem?_eq_getElem (by omega)⟩
     rw [outc_at hr hx]
     have hbx:=hm.2.1 x (List.mem_of_getElem? hx)
     have HB:=hid hm.2.1
     have HX:=hid hx
     have c1:=hid (choose_ok (c:=c) hn hr hk hm)
     obtain⟨⟨q,y⟩,hp⟩:∃ r,rdG x=r:=⟨_,rfl⟩
     have hy:=b64_rd hbx
     have hq:=err_rd x
     rw [hp] at hy hq ⊢
     have HP:=hid hp
     clear hm hr hw hx hp
     rcases hq with hq | hq
     . obtain rfl:q=0:=hq
       rw [if_pos rfl]
       go_enter Tryz.func162,Tryz.ntmps162
       go_wp2_with fail
       with_reducible refine c1.out.mono ?_
       rintro e w1 ⟨cp,g,rfl,hcp,hg,hC,g1⟩
       have c2:=hid (after_yes (enters_of Tryz.func202 (by kernel_rfl) rfl) ready_is hC HX.out hg HP.out)
       rw [hl] at c2
       clear hC
       go_wp2_with fail
       with_reducible refine c2.out.mono ?_
       rintro e w2 ⟨rfl,g2,hv⟩
       have HV:=hid hv
       clear hv
       go_wp2_with fail
       go_ret2
       exact got_yes hl hg (b64_set HB.out hy) HV.out (g1.trans' g2)
     . rw [if_neg (by show q≠0;omega)]
       go_enter Tryz.func162,Tryz.ntmps162
       go_wp2_with fail
       with_reducible refine c1.out.mono ?_
       rintro e w1 ⟨cp,g,rfl,hcp,hg,hC,g1⟩
       have c2:=hid (after_err (enters_of Tryz.func202 (by kernel_rfl) rfl) ready_is hC HX.out hg (by rw [HP.out]) hq)
       clear hC
       go_wp2_with fail
       with_reducible refine c2.out.mono ?_
       rintro e w2 ⟨rfl,g2⟩
       go_wp2_with fail
       go_ret2
       exact got_err q (g1.trans' g2)
 . have hr0:rightB l=false:=by simpa using hr
   rw [outc_arg hr0]
   have c1:=hid (choose_arg (c:=c) (who:=who) hn hr0 hm)
   clear hm hr hr0
   go_enter Tryz.func162,Tryz.ntmps162
   go_wp2_with fail
   with_reducible refine c1.out.mono ?_
   rintro e w1 ⟨cp,rfl,hcp,hB,g1⟩
   have c2:=λ f=>hid (after_no (f:=f) (.inl rfl) hB)
   go_wp2_with fail
   with_reducible refine (c2 _).out.mono ?_
   rintro e w2 ⟨rfl,g2⟩
   go_wp2_with fail
   go_ret2
   exact got_err 1 (g1.trans g2)
end
section
variable {A:Option Addr} {n c:Nat} {l:List G} {who:Int}
theorem End_is (hn:n<=9223372036854775807) (w:World) (hm:GMem w A n l) :
 Calls Tryz.prog 65 #[.slice A n c,.int .i64 who] w (Got w (outc enG l who)):=by
 have hmf:=mkF
 have hl:=hm.1
 by_cases hr:rightB l=true
 . by_cases hw:who<0\/n<=who
   . rw [outc_range hr (by rw [hl];exact hw)]
     have c1:=hid (choose_range (c:=c) hn hr hw hm)
     clear hm hr hw
     go_enter Tryz.func65,Tryz.ntmps65
     go_wp2_with fail
     with_reducible refine c1.out.mono ?_
     rintro e w1 ⟨cp,rfl,hcp,hB,g1⟩
     have c2:=λ f=>hid (after_no (f:=f) (.inr rfl) hB)
     go_wp2_with fail
     with_reducible refine (c2 _).out.mono ?_
     rintro e w2 ⟨rfl,g2⟩
     go_wp2_with fail
     go_ret2
     exact got_err 3 (g1.trans g2)
   . obtain⟨k,rfl⟩:∃ k:Nat,who=(k:Int):=⟨who.toNat,by omega⟩
     have hk:k<n:=by omega
     obtain⟨x,hx⟩:∃ x,l[k]?=some x:=⟨_,List.getElem?_eq_getElem (by omega)⟩
     rw [outc_at hr hx]
     have hbx:=hm.2.1 x (List.mem_of_getElem? hx)
     have HB:=hid hm.2.1
     have HX:=hid hx
     have c1:=hid (choose_ok (c:=c) hn hr hk hm)
     obtain⟨⟨q,y⟩,hp⟩:∃ r,enG x=r:=⟨_,rfl⟩
     have hy:=b64_en hbx
     have hq:=err_en x
     rw [hp] at hy hq ⊢
     have HP:=hid hp
     clear hm hr hw hx hp
     rcases hq with hq | hq
     . obtain rfl:q=0:=hq
       rw [if_pos rfl]
       go_enter Tryz.func65,Tryz.ntmps65
       go_wp2_with fail
       with_reducible refine c1.out.mono ?_
       rintro e w1 ⟨cp,g,rfl,hcp,hg,hC,g1⟩
       have c2:=hid (after_yes (enters_of Tryz.func87 (by kernel_rfl) rfl) end_is hC HX.out hg HP.out)
       rw [hl] at c2
       clear hC
       go_wp2_with fail
       with_reducible refine c2.out.mono ?_
       rintro e w2 ⟨rfl,g2,hv⟩
       have HV:=hid hv
       clear hv
       go_wp2_with fail
       go_ret2
       exact got_yes hl hg (b64_set HB.out hy) HV.out (g1.trans' g2)
     . rw [if_neg (by show q≠0;omega)]
       go_enter Tryz.func65,Tryz.ntmps65
       go_wp2_with fail
       with_reducible refine c1.out.mono ?_
       rintro e w1 ⟨cp,g,rfl,hcp,hg,hC,g1⟩
       have c2:=hid (after_err (enters_of Tryz.func87 (by kernel_rfl) rfl) end_is hC HX.out hg (by rw [HP.out]) hq)
       clear hC
       go_wp2_with fail
       with_reducible refine c2.out.mono ?_
       rintro e w2 ⟨rfl,g2⟩
       go_wp2_with fail
       go_ret2
       exact got_err q (g1.trans' g2)
 . have hr0:rightB l=false:=by simpa using hr
   rw [outc_arg hr0]
   have c1:=hid (choose_arg (c:=c) (who:=who) hn hr0 hm)
   clear hm hr hr0
   go_enter Tryz.func65,Tryz.ntmps65
   go_wp2_with fail
   with_reducible refine c1.out.mono ?_
   rintro e w1 ⟨cp,rfl,hcp,hB,g1⟩
   have c2:=λ f=>hid (after_no (f:=f) (.inl rfl) hB)
   go_wp2_with fail
   with_reducible refine (c2 _).out.mono ?_
   rintro e w2 ⟨rfl,g2⟩
   go_wp2_with fail
   go_ret2
   exact got_err 1 (g1.trans g2)
end
def rnK (l:List G) (k:Nat):List Int:=((List.range k).filter λ (i:Nat)=>(l[i]?.map (λ x:G=>x.1))==some 0).map λ (i:Nat)=>(i:Int)
def rn (l:List G):List Int:=rnK l l.length
theorem rnK_yes {l:List G} {k:Nat} {x:G} (h:l[k]?=some x) (hx:x.1=0):rnK l (k+1)=rnK l k++[(k:Int)]:=by
 simp [rnK,List.range_succ,h,hx]
theorem rnK_no {l:List G} {k:Nat} {x:G} (h:l[k]?=some x) (hx:x.1≠0):rnK l (k+1)=rnK l k:=by
 simp [rnK,List.range_succ,h,hx]
theorem rnK_cnt (l:List G) (k:Nat) (hk:k<=l.length):(rnK l k).length=(l.take k).countP (λ x=>x.1==0):=by
 induction k with
 | zero=>simp [rnK]
 | succ k ih =>
  have hx:l[k]?=some l[k]:=List.getElem?_eq_getElem (by omega)
  rw [List.take_succ_eq_append_getElem (by omega),List.countP_append,<- ih (by omega)]
  by_cases h0:l[k].1=0
  . rw [rnK_yes hx h0];simp [h0]
  . rw [rnK_no hx h0];simp [h0]
theorem rn_cnt (l:List G):(rn l).length=l.countP (λ x=>x.1==0):=by
 rw [rn,rnK_cnt l _ (Nat.le_refl _),List.take_length]
section
variable {A:Option Addr} {n c:Nat} {l:List G}
theorem Runnable_yes (hn:n<=9223372036854775807) (hr:rightB l=true) (w:World) (hm:GMem w A n l) :
 Calls Tryz.prog 24 #[.slice A n c] w λ e w'=>∃ C d,e=.returned (.tuple #[.slice C (rn l).length d,.int .i64 0])/\IOwn w.heap.size w' C (rn l).length d (rn l)/\Gr w w':=by
 have h8:n<=8:=by have:=hm.1;simp [rightB] at hr;omega
 have c1:=hid (Right_is (c:=c) hr hn w hm)
 obtain⟨i0,hi0,hz0,hz1,hz2⟩:=info_parts infoInt
 have HZ:=hid hz0
 have HZ1:=hid hz1
 have HZ2:=hid hz2
 have HI0:=hid hi0
 have HM:=hid hm
 clear hz0 hz1 hz2 hi0 hm hr
 go_enter Tryz.func24,Tryz.ntmps24
 go_wp2_with fail
 with_reducible refine c1.out.mono ?_
 rintro e w1 ⟨rfl,g1⟩
 go_wp2_with fail
 go_loopw [4,12] (λ L i wr=>∃ (k q:Nat) (C:Option Addr) (d:Nat),k<=n/\q<=k/\i=.int .i64 (k:Int)/\L=.slice C q d/\Hid (IOwn w.heap.size wr C q d (rnK l k))/\Hid (Gr w wr)) (λ _ i _=>n-(intOf i).toNat)
 case atStart=>exact⟨0,0,_,0,Nat.zero_le _,Nat.zero_le _,rfl,rfl,hid OMem.nil_,hid g1⟩
 case round =>
  obtain⟨k,q,C,d,hk,hq,rfl,rfl,HO,HG⟩:=hrel
  by_cases hlt:k<n
  . obtain⟨b,off,x,rfl,hbl,hx,hix,cx,cy⟩:=(HM.out.gr HG.out).at_ hlt
    have HX:=hid hx
    clear hx
    obtain⟨s,p⟩:=x
    by_cases he:s=0
    . subst he
      have H1:=hid (rnK_yes HX.out rfl)
      go_wp2_with (at_builtin;refine Mark.stop ?_)
      refine Mark.go ?_
      refine wpList_append_omem _ (Value.int .i64) B64 rfl (.tmp 20) (.tmp 22) 23 rfl (λ _=>rfl) w.heap.size 3 i0 (.int .i64 0) 8 Tryz.underlying23 HI0.out HZ.out HZ1.out HZ2.out rfl C q d _ rfl (HO.out.gr (((Gr.refl _).al _).al _)) _ 1 1 [(k:Int)] rfl (emem_one' _ (k:Int) ⟨by omega,by omega⟩ _ (by simp)) (by unfold maxLen;omega) (by omega) ((HG.out.al _).al _).size ?_
      intro C3 k3 w3 own3 gb3
      rw [<- H1.out] at own3
      have O3:=hid own3
      have G3:=hid (((HG.out.al (.cells #[.int .i64 0,.bool p] 51)).al (.cells #[.int .i64 (k:Int)] 3)).gb gb3 (λ k hk=>(HO.out.lt k hk).1))
      clear gb3 own3
      go_wp2_with fail
      go_roundw
      case rel=>exact⟨k+1,q+1,C3,k3,by omega,by omega,by go_num,rfl,O3,G3⟩
      case measure=>simp [intOf];omega
    . have ne:(s==0)=false:=beq_eq_false_iff_ne.2 he
      have H1:=hid (rnK_no HX.out he)
      go_wp2_with fail
      go_roundw
      case rel=>exact⟨k+1,q,C,d,by omega,by omega,by go_num,rfl,hid (by rw [H1.out];exact HO.out.gr ((Gr.refl _).al _)),hid (HG.out.al _)⟩
      case measure=>simp [intOf];omega
  . obtain rfl:k=n:=by omega
    have own:=HO.out
    rw [<- HM.out.1] at own
    have hq:q=(rn l).length:=own.mem.1.symm
    subst hq
    go_wp2_with fail
    go_ret2
    exact⟨C,d,rfl,own,HG.out⟩
end
end P11
end
section
open Go.ChangeShapes Go.WideShapes Go.ChangeAt Go.RowKit
namespace P11
def GotN (w:World) (N:Nat) (q:Int) (R:List G) (e:Ending) (w':World):Prop :=
 ∃ B m,e=.returned (.tuple #[.slice B N m,.int .i64 q])/\GMem w' B N R/\N<=m/\Late w.heap.size B/\Gr w w'
theorem got_n {w w':World} {N:Nat} {q:Int} {R:List G} {e:Ending} (h:Got w (q,R) e w') (hl:R.length=N):GotN w N q R e w':=by
 obtain⟨B,m,h1,h2,h3,h4,h5⟩:=h
 simp only [hl] at h1 h2 h4
 exact⟨B,m,h1,h2,h4,h3,h5⟩
section
variable {A:Option Addr} {n c N:Nat} {l R:List G} {who q:Int} {w:World}
theorem Park_at (hn:n<=9223372036854775807) (hr:outc pkG l who=(q,R)) (hl:R.length=N) (w:World) (hm:GMem w A n l) :
 Calls Tryz.prog 153 #[.slice A n c,.int .i64 who] w (GotN w N q R) :=
 (Park_is hn w hm).mono λ _ _ h=>got_n (hr▸h) hl
theorem Ready_at (hn:n<=9223372036854775807) (hr:outc rdG l who=(q,R)) (hl:R.length=N) (w:World) (hm:GMem w A n l) :
 Calls Tryz.prog 162 #[.slice A n c,.int .i64 who] w (GotN w N q R) :=
 (Ready_is hn w hm).mono λ _ _ h=>got_n (hr▸h) hl
theorem End_at (hn:n<=9223372036854775807) (hr:outc enG l who=(q,R)) (hl:R.length=N) (w:World) (hm:GMem w A n l) :
 Calls Tryz.prog 65 #[.slice A n c,.int .i64 who] w (GotN w N q R) :=
 (End_is hn w hm).mono λ _ _ h=>got_n (hr▸h) hl
end
theorem Runnable_at {A:Option Addr} {n c v:Nat} {l:List G} (hn:n<=9223372036854775807) (hr:rightB l=true) (hv:(rn l).length=v) (w:World) (hm:GMem w A n l) :
 Calls Tryz.prog 24 #[.slice A n c] w λ e w'=>∃ C d,e=.returned (.tuple #[.slice C v d,.int .i64 0])/\IMem w' C v (rn l)/\v<=d/\Gr w w' :=
 (Runnable_yes hn hr w hm).mono λ _ _ h=>by
   obtain⟨C,d,h1,h2,h3⟩:=h
   rw [hv] at h1 h2
   exact⟨C,d,h1,h2.mem,h2.le,h3⟩
end P11
end
section
open Go.ChangeShapes Go.WideShapes Go.ChangeAt Go.RowKit Go.Shelf
namespace P16
def gor (c:Cl):P11.G:=(c.gst,c.permit)
abbrev gV (x:P11.G):List Value:=[.int .i64 x.1,.bool x.2]
theorem gV_len (x:P11.G):(gV x).length=2:=rfl
theorem ORow.gmem {W:World} {b n:Nat} {l:List P11.G} (h:ORow gV 2 W b 0 l) (hl:l.length=n) (hb:∀ x∈l,B64 x.1):P11.GMem W (some ⟨b,0,none⟩) n l :=
 ⟨hl,hb,λ _=>⟨b,0,rfl,h.lt,λ j u hu=>by
   obtain⟨i,x,hx,q⟩:=P11.flat_inv l j u hu
   rcases q with ⟨rfl,rfl⟩ | ⟨rfl,rfl⟩
   . exact (h.at_ (j:=0) hx rfl).1
   . have:=(h.at_ (j:=1) hx rfl).1
     rwa [Nat.add_assoc] at this⟩⟩
theorem gors_zero (w:World) (n:Nat):ORow gV 2 (w.alloc (.cells (madeCells #[.int .i64 0,.bool false] (n*2)) 51)) w.heap.size 0 (List.replicate n (0,false)):=by
 refine⟨_,_,Blk.new w _ _,λ i x hx j v hv=>?_⟩
 have hi:i<n:=by have:=(List.getElem?_eq_some_iff.1 hx).1;rwa [List.length_replicate] at this
 rw [List.getElem?_replicate,if_pos hi] at hx
 cases hx
 have hj:j<2:=(List.getElem?_eq_some_iff.1 hv).1
 unfold madeCells
 rw [Array.getElem?_map,Array.getElem?_range,if_pos (by omega),<- hv]
 rcases j with _ | _ | j
 . simp
 . simp [Nat.add_mod]
 . omega
theorem fill_set {α β:Type} {f:α->β} {l:List α} {k n:Nat} {y:α} {z:β} (hy:l[k]?=some y) (hl:l.length=n) (v:β) (hv:v=f y) :
 ((l.take k).map f++List.replicate (n-k) z).set k v=(l.take (k+1)).map f++List.replicate (n-(k+1)) z:=by
 have hk:=(List.getElem?_eq_some_iff.1 hy).1
 have e:n-k=n-(k+1)+1:=by omega
 rw [List.set_append_right _ _ (by rw [List.length_map,List.length_take];omega),List.length_map,List.length_take,Nat.min_eq_left (by omega),Nat.sub_self,e,List.replicate_succ,List.set_cons_zero,List.take_add_one,hy]
 simp [hv]
section
variable {w:World} {A:Option Addr} {n c:Nat} {l:List Cl}
theorem gors_is (hm:CMem w A n l) (hn:n<=1000) :
 Calls Tryz.prog 70 #[.slice A n c] w λ e w'=>e=.returned (.slice (some ⟨w.heap.size,0,none⟩) n n)/\P11.GMem w' (some ⟨w.heap.size,0,none⟩) n (l.map gor)/\Gr w w':=by
 obtain⟨i0,hi0,hz0,hz1,hz2⟩:=P12.info_parts P11.infoGor
 dsimp only at hz0 hz1 hz2
 have hmk:=λ w=>run_makeN (P:=Tryz.prog) 70 51 i0 _ Tryz.underlying70 hi0 hz0 n (by rw [hz2];omega) (by omega) w
 rw [hz1] at hmk
 have Z:=gors_zero w n
 obtain⟨V,hV⟩:∃ V,madeCells #[.int .i64 0,.bool false] (n*2)=V:=⟨_,rfl⟩
 have hmk':∀ w,(Instr.makeSlice 70 (.int .i64 (n:Int)) (.int .i64 (n:Int))).run Tryz.prog w=.ok (.slice (some ⟨w.heap.size,0,none⟩) n n) (w.alloc (.cells V 51)):=λ w=>by rw [<- hV];exact hmk w
 rw [hV] at Z
 have HV:=hid hV
 have HM:=hid hm
 have H0:=hid (show ORow gV 2 (w.alloc (.cells V 51)) w.heap.size 0 ((l.take 0).map gor++List.replicate (n-0) (0,false)) from by simpa using Z)
 clear hV hmk hi0 hz0 hz1 hz2 Z hm
 go_enter Tryz.func70,Tryz.ntmps70
 go_wp2_with fail
 go_loopw [11] (λ i wr=>∃ k:Nat,k<=n/\i=.int .i64 k/\Hid (ORow gV 2 wr w.heap.size 0 ((l.take k).map gor++List.replicate (n-k) (0,false)))/\Hid (Gr w wr)) (λ i _=>n-(intOf i).toNat)
 case atStart=>exact⟨0,Nat.zero_le _,rfl,H0,hid ((Gr.refl w).al _)⟩
 case round =>
  obtain⟨k,hk,rfl,HO,HG⟩:=hrel
  by_cases hlt:k<n
  . have hlb:=HO.out.lt
    obtain⟨b,off,y,rfl,hb,hy,okx,c0,c1,c2,c3,c4,c5,c6,c7,c8,c9,c10,c11,c12⟩:=CMem.cells (RMem.gr HM.out HG.out) hlt
    have k0:(0:Int)<=(k:Int):=by omega
    have k1:(k:Int)<(n:Int):=by omega
    have hne:w.heap.size≠wr.heap.size:=by omega
    have hz:((l.take k).map gor++List.replicate (n-k) (0,false))[k]?=some (0,false):=by
     have hl:=HM.out.len
     rw [List.getElem?_append_right (by rw [List.length_map,List.length_take];omega),List.length_map,List.length_take,List.getElem?_replicate,if_pos (by omega)]
    obtain⟨g0,f0⟩:=HO.out.at_ (j:=0) hz rfl
    obtain⟨g1,f1⟩:=HO.out.at_ (j:=1) hz rfl
    rw [Nat.zero_add,Nat.add_zero] at g0 f0
    rw [Nat.zero_add] at g1 f1
    have HY:=hid hy
    have HZ:=hid hz
    clear hy hz okx
    go_wp2_with fail
    go_roundw
    case rel =>
     have h1:=HO.out.put gV_len HZ.out (j:=0) (v:=.int .i64 y.gst) (y:=(y.gst,false)) (by decide) rfl
     have h2:=h1.put gV_len (i:=k) (x:=(y.gst,false)) (by rw [List.getElem?_set_self (List.getElem?_eq_some_iff.1 HZ.out).1]) (j:=1) (v:=.bool y.permit) (y:=gor y) (by decide) rfl
     rw [List.set_set,fill_set HY.out HM.out.len _ rfl] at h2
     simp only [Nat.zero_add,Nat.add_zero] at h2
     exact⟨k+1,by omega,by go_num,hid (h2.gr ((Gr.refl _).al _)),hid (((HG.out.st (p:=⟨w.heap.size,k*2,none⟩) (Nat.le_refl _) _).st (p:=⟨w.heap.size,k*2+1,none⟩) (Nat.le_refl _) _).al _)⟩
    case measure=>simp [intOf];omega
  . obtain rfl:k=n:=by omega
    have h1:=HO.out
    have hl:=HM.out.len
    rw [Nat.sub_self,List.replicate_zero,List.append_nil,List.take_of_length_le (by omega)] at h1
    have hb:=HM.out.all
    clear HO HM
    go_wp2_with fail
    go_ret
    exact⟨rfl,h1.gmem (by rw [List.length_map];exact hl) (λ z hz=>by obtain⟨y,hy,rfl⟩:=List.mem_map.1 hz;exact (hb y hy).gst),HG.out⟩
end
end P16
end
section
open Go.ChangeShapes Go.WideShapes Go.ChangeAt Go.RowKit Go.Shelf
namespace P14
abbrev pan (y:Int):List PanicEntry:=[{ v:=.iface 27 (.int .i64 y),recovered:=false }]
theorem need_yes (y:Int) (w:World):Calls Tryz.prog 171 #[.bool true,.int .i64 y] w λ e w'=>e=.returned (.tuple #[])/\w'=w:=by
 go_enter Tryz.func171,Tryz.ntmps171
 go_wp2
 go_end0
 exact⟨rfl,rfl⟩
theorem need_no (y:Int) (w:World):Calls Tryz.prog 171 #[.bool false,.int .i64 y] w λ e w'=>e=.panicked (pan y)/\w'=w:=by
 go_enter Tryz.func171,Tryz.ntmps171
 go_wp2
 exact⟨rfl,rfl,rfl⟩
theorem sureB_yes (v:Bool) (w:World):Calls Tryz.prog 175 #[.bool v,.int .i64 0] w λ e w'=>e=.returned (.bool v)/\w'=w:=by
 go_enter Tryz.func175,Tryz.ntmps175
 go_wp2_with fail
 with_reducible refine (need_yes _ _).mono ?_
 rintro e w1 ⟨rfl,rfl⟩
 go_wp2_with fail
 go_ret
 exact⟨rfl,rfl⟩
theorem sureI_yes (v:Int) (w:World):Calls Tryz.prog 207 #[.int .i64 v,.int .i64 0] w λ e w'=>e=.returned (.int .i64 v)/\w'=w:=by
 go_enter Tryz.func207,Tryz.ntmps207
 go_wp2_with fail
 with_reducible refine (need_yes _ _).mono ?_
 rintro e w1 ⟨rfl,rfl⟩
 go_wp2_with fail
 go_ret
 exact⟨rfl,rfl⟩
theorem sureI_no (v:Int) {y:Int} (hy:(y==0)=false) (w:World):Calls Tryz.prog 207 #[.int .i64 v,.int .i64 y] w λ e w'=>e=.panicked (pan y)/\w'=w:=by
 go_enter Tryz.func207,Tryz.ntmps207
 go_wp2_with fail
 with_reducible refine (need_no _ _).mono ?_
 rintro e w1 ⟨rfl,rfl⟩
 go_wp2_with fail
 exact⟨rfl,rfl,rfl⟩
theorem sureF_yes (a b c:Bool) (n:Int) (w:World):Calls Tryz.prog 172 #[.agg #[.bool a,.bool b,.bool c,.int .i64 n],.int .i64 0] w λ e w'=>e=.returned (.agg #[.bool a,.bool b,.bool c,.int .i64 n])/\Gr w w':=by
 go_enter Tryz.func172,Tryz.ntmps172
 go_wp2_with fail
 with_reducible refine (need_yes _ _).mono ?_
 rintro e w1 ⟨rfl,rfl⟩
 go_wp2_with fail
 exact bodyPost_ret (v:=.agg #[.bool a,.bool b,.bool c,.int .i64 n]) (by simp [results,Tryz.results172,go_sem]) rfl ⟨rfl,by first | exact ((Gr.refl w).al _).al _ | skip⟩
theorem sureF_no (a b c:Bool) (n:Int) {y:Int} (hy:(y==0)=false) (w:World):Calls Tryz.prog 172 #[.agg #[.bool a,.bool b,.bool c,.int .i64 n],.int .i64 y] w λ e w'=>e=.panicked (pan y)/\Gr w w':=by
 go_enter Tryz.func172,Tryz.ntmps172
 go_wp2_with fail
 with_reducible refine (need_no _ _).mono ?_
 rintro e w1 ⟨rfl,rfl⟩
 go_wp2_with fail
 exact⟨rfl,rfl,((Gr.refl w).al _).al _⟩
theorem as_errno (v:Value) (w:World):(Instr.typeAssert (.iface 27 v) 20 27 false).run Tryz.prog w=.ok v w:=by kernel_rfl
theorem catchB_idle (p:Addr) (w:World) :
 CallsD Tryz.prog 204 #[.pointer (some p)] .returning w λ e u' w'=>e=.returned (.tuple #[])/\u'=.returning/\w'=w:=by
 refine callsD_of_wpS Tryz.func204 rfl λ c₀ cs hu=>?_
 apply wpS_seq
 apply wpS_region
 simp [wpOpsS,go_sem,recoverD,hu,Tryz.ntmps204,Exit.thenS]
 apply wpS_seq
 apply wpS_region
 simp [wpOpsS,go_sem,recoverD,hu,Exit.thenS]
 refine wpS_cond (t:=false) (by simp [Act.eval,Array.replicate]) ?_
 simp only [Bool.false_eq_true,if_false]
 refine wpS_of_wp (wp_skip ?_)
 cases c₀
 simp_all [bodyPostS,results,Tryz.results204]
theorem catchI_up (p:Addr) (y x:Int) (w:World) (hc:w.cell? p=some (.int .i64 x)) (hz:w.frozen? p=false) :
 CallsD Tryz.prog 206 #[.pointer (some p)] (.panicking (pan y)) w λ e u' w' =>
  e=.returned (.tuple #[])/\u'=.panicking [{ v:=.iface 27 (.int .i64 y),recovered:=true }]/\w'=w.setCell p (.int .i64 y):=by
 refine callsD_of_wpS Tryz.func206 rfl λ c₀ cs hu=>?_
 apply wpS_seq
 apply wpS_region
 simp [wpOpsS,go_sem,recoverD,hu,Tryz.ntmps206,Exit.thenS]
 apply wpS_seq
 apply wpS_region
 simp [wpOpsS,go_sem,recoverD,hu,Exit.thenS]
 refine wpS_cond (t:=true) (by simp [Act.eval,Array.replicate]) ?_
 simp only [if_true]
 apply wpS_region
 simp [wpOpsS,go_sem,as_errno,hc,hz,bodyPostS,results,Tryz.results206]
theorem catchI_idle (p:Addr) (w:World) :
 CallsD Tryz.prog 206 #[.pointer (some p)] .returning w λ e u' w'=>e=.returned (.tuple #[])/\u'=.returning/\w'=w:=by
 refine callsD_of_wpS Tryz.func206 rfl λ c₀ cs hu=>?_
 apply wpS_seq
 apply wpS_region
 simp [wpOpsS,go_sem,recoverD,hu,Tryz.ntmps206,Exit.thenS]
 apply wpS_seq
 apply wpS_region
 simp [wpOpsS,go_sem,recoverD,hu,Exit.thenS]
 refine wpS_cond (t:=false) (by simp [Act.eval,Array.replicate]) ?_
 simp only [Bool.false_eq_true,if_false]
 refine wpS_of_wp (wp_skip ?_)
 cases c₀
 simp_all [bodyPostS,results,Tryz.results206]
theorem catchF_up (p:Addr) (y x:Int) (w:World) (hc:w.cell? p=some (.int .i64 x)) (hz:w.frozen? p=false) :
 CallsD Tryz.prog 170 #[.pointer (some p)] (.panicking (pan y)) w λ e u' w' =>
  e=.returned (.tuple #[])/\u'=.panicking [{ v:=.iface 27 (.int .i64 y),recovered:=true }]/\w'=w.setCell p (.int .i64 y):=by
 refine callsD_of_wpS Tryz.func170 rfl λ c₀ cs hu=>?_
 apply wpS_seq
 apply wpS_region
 simp [wpOpsS,go_sem,recoverD,hu,Tryz.ntmps170,Exit.thenS]
 apply wpS_seq
 apply wpS_region
 simp [wpOpsS,go_sem,recoverD,hu,Exit.thenS]
 refine wpS_cond (t:=true) (by simp [Act.eval,Array.replicate]) ?_
 simp only [if_true]
 apply wpS_region
 simp [wpOpsS,go_sem,as_errno,hc,hz,bodyPostS,results,Tryz.results170]
theorem catchF_idle (p:Addr) (w:World) :
 CallsD Tryz.prog 170 #[.pointer (some p)] .returning w λ e u' w'=>e=.returned (.tuple #[])/\u'=.returning/\w'=w:=by
 refine callsD_of_wpS Tryz.func170 rfl λ c₀ cs hu=>?_
 apply wpS_seq
 apply wpS_region
 simp [wpOpsS,go_sem,recoverD,hu,Tryz.ntmps170,Exit.thenS]
 apply wpS_seq
 apply wpS_region
 simp [wpOpsS,go_sem,recoverD,hu,Exit.thenS]
 refine wpS_cond (t:=false) (by simp [Act.eval,Array.replicate]) ?_
 simp only [Bool.false_eq_true,if_false]
 refine wpS_of_wp (wp_skip ?_)
 cases c₀
 simp_all [bodyPostS,results,Tryz.results170]
theorem catchO_idle (p:Addr) (w:World) :
 CallsD Tryz.prog 208 #[.pointer (some p)] .returning w λ e u' w'=>e=.returned (.tuple #[])/\u'=.returning/\w'=w:=by
 refine callsD_of_wpS Tryz.func208 rfl λ c₀ cs hu=>?_
 apply wpS_seq
 apply wpS_region
 simp [wpOpsS,go_sem,recoverD,hu,Tryz.ntmps208,Exit.thenS]
 apply wpS_seq
 apply wpS_region
 simp [wpOpsS,go_sem,recoverD,hu,Exit.thenS]
 refine wpS_cond (t:=false) (by simp [Act.eval,Array.replicate]) ?_
 simp only [Bool.false_eq_true,if_false]
 refine wpS_of_wp (wp_skip ?_)
 cases c₀
 simp_all [bodyPostS,results,Tryz.results208]
section
variable {F:Nat} {caps:Array Value} {w:World}
theorem toldB_ok (eg:∀ args w,(callFunc F args).run Tryz.prog w=.ok (.enter F args) w) (v:Bool) (hq:∀ W,Gr w W->Calls Tryz.prog F caps W λ e w'=>e=.returned (.bool v)/\Gr W w') :
 Calls Tryz.prog 173 #[.func (.func F) #[] caps] w λ e w'=>e=.returned (.tuple #[.bool v,.int .i64 0])/\Gr w w':=by
 have hmf:=mkF
 have HQ:=hid hq
 clear hq
 go_enter_defers Tryz.func173,Tryz.ntmps173
 go_wp2_with fail
 with_reducible refine (HQ.out _ ((Gr.refl w).al _)).mono ?_
 rintro e w1 ⟨rfl,g1⟩
 have B0:=(Blk.new w #[.int .i64 0] 27).gr g1
 obtain⟨q0,z0⟩:=B0.at_ (k:=0) rfl
 obtain⟨q1,z1⟩:=(B0.set 0 (.int .i64 0)).at_ (k:=0) (v:=.int .i64 0) rfl
 have G:=hid ((((Gr.refl w).al (.cells #[.int .i64 0] 27)).trans g1).st (p:=⟨w.heap.size,0,none⟩) (Nat.le_refl _) (.int .i64 0))
 clear B0 g1
 go_wp2_with fail
 refine leaves_cons (f:=204) (args:=#[.pointer (some ⟨w.heap.size,0,none⟩)]) (by simp) (by simp [go_sem]) ?_
 refine (catchB_idle ⟨w.heap.size,0,none⟩ _).mono ?_
 rintro e u' w'' ⟨rfl,rfl,rfl⟩
 simp [Leaves,settle,results,Tryz.results173,go_sem,q1]
 exact G.out
theorem toldI_ok (eg:∀ args w,(callFunc F args).run Tryz.prog w=.ok (.enter F args) w) (v:Int) (hq:∀ W,Gr w W->Calls Tryz.prog F caps W λ e w'=>e=.returned (.int .i64 v)/\Gr W w') :
 Calls Tryz.prog 179 #[.func (.func F) #[] caps] w λ e w'=>e=.returned (.tuple #[.int .i64 v,.int .i64 0])/\Gr w w':=by
 have hmf:=mkF
 have HQ:=hid hq
 clear hq
 go_enter_defers Tryz.func179,Tryz.ntmps179
 go_wp2_with fail
 with_reducible refine (HQ.out _ ((Gr.refl w).al _)).mono ?_
 rintro e w1 ⟨rfl,g1⟩
 have B0:=(Blk.new w #[.int .i64 0] 27).gr g1
 obtain⟨q0,z0⟩:=B0.at_ (k:=0) rfl
 obtain⟨q1,z1⟩:=(B0.set 0 (.int .i64 0)).at_ (k:=0) (v:=.int .i64 0) rfl
 have G:=hid ((((Gr.refl w).al (.cells #[.int .i64 0] 27)).trans g1).st (p:=⟨w.heap.size,0,none⟩) (Nat.le_refl _) (.int .i64 0))
 clear B0 g1
 go_wp2_with fail
 refine leaves_cons (f:=206) (args:=#[.pointer (some ⟨w.heap.size,0,none⟩)]) (by simp) (by simp [go_sem]) ?_
 refine (catchI_idle ⟨w.heap.size,0,none⟩ _).mono ?_
 rintro e u' w'' ⟨rfl,rfl,rfl⟩
 simp [Leaves,settle,results,Tryz.results179,go_sem,q1]
 exact G.out
theorem toldI_no (eg:∀ args w,(callFunc F args).run Tryz.prog w=.ok (.enter F args) w) (y:Int) (hq:∀ W,Gr w W->Calls Tryz.prog F caps W λ e w'=>e=.panicked (pan y)/\Gr W w') :
 Calls Tryz.prog 179 #[.func (.func F) #[] caps] w λ e w'=>e=.returned (.tuple #[.int .i64 0,.int .i64 y])/\Gr w w':=by
 have hmf:=mkF
 have HQ:=hid hq
 clear hq
 go_enter_defers Tryz.func179,Tryz.ntmps179
 go_wp2_with fail
 with_reducible refine (HQ.out _ ((Gr.refl w).al _)).mono ?_
 rintro e w1 ⟨rfl,g1⟩
 have B0:=(Blk.new w #[.int .i64 0] 27).gr g1
 obtain⟨q0,z0⟩:=B0.at_ (k:=0) rfl
 obtain⟨q1,z1⟩:=(B0.set 0 (.int .i64 y)).at_ (k:=0) (v:=.int .i64 y) rfl
 have G:=hid ((((Gr.refl w).al (.cells #[.int .i64 0] 27)).trans g1).st (p:=⟨w.heap.size,0,none⟩) (Nat.le_refl _) (.int .i64 y))
 clear B0 g1
 go_wp2_with fail
 refine leaves_cons (f:=206) (args:=#[.pointer (some ⟨w.heap.size,0,none⟩)]) (by simp) (by simp [go_sem]) ?_
 refine (catchI_up ⟨w.heap.size,0,none⟩ y 0 _ q0 z0).mono ?_
 rintro e u' w'' ⟨rfl,rfl,rfl⟩
 simp [Leaves,settle,results,Tryz.results179,go_sem,q1]
 exact G.out
theorem toldF_ok (eg:∀ args w,(callFunc F args).run Tryz.prog w=.ok (.enter F args) w) (a b c:Bool) (n:Int) (hq:∀ W,Gr w W->Calls Tryz.prog F caps W λ e w'=>e=.returned (.agg #[.bool a,.bool b,.bool c,.int .i64 n])/\Gr W w') :
 Calls Tryz.prog 128 #[.func (.func F) #[] caps] w λ e w'=>e=.returned (.tuple #[.agg #[.bool a,.bool b,.bool c,.int .i64 n],.int .i64 0])/\Gr w w':=by
 have hmf:=mkF
 have HQ:=hid hq
 clear hq
 go_enter_defers Tryz.func128,Tryz.ntmps128
 go_wp2_with fail
 with_reducible refine (HQ.out _ (((Gr.refl w).al _).al _)).mono ?_
 rintro e w1 ⟨rfl,g1⟩
 have B0:=((Blk.new w #[.bool false,.bool false,.bool false,.int .i64 0] 42).al (.cells #[.int .i64 0] 27)).gr g1
 have B1:=(Blk.new (w.alloc (.cells #[.bool false,.bool false,.bool false,.int .i64 0] 42)) #[.int .i64 0] 27).gr g1
 rw [World.size_alloc] at B1
 have G0:=(((Gr.refl w).al (.cells #[.bool false,.bool false,.bool false,.int .i64 0] 42)).al (.cells #[.int .i64 0] 27)).trans g1
 have hne:w.heap.size+1≠w.heap.size:=by omega
 obtain⟨a0,y0⟩:=B0.at_ (k:=0) rfl
 obtain⟨a1,y1⟩:=B0.at_ (k:=1) rfl
 obtain⟨a2,y2⟩:=B0.at_ (k:=2) rfl
 obtain⟨a3,y3⟩:=B0.at_ (k:=3) rfl
 obtain⟨q0,z0⟩:=B1.at_ (k:=0) rfl
 have BF:=((((B0.set 0 (.bool a)).set 1 (.bool b)).set 2 (.bool c)).set 3 (.int .i64 n)).st (p:=⟨w.heap.size+1,0,none⟩) hne (.int .i64 0)
 have BG:=((((B1.st (p:=⟨w.heap.size,0,none⟩) hne.symm (.bool a)).st (p:=⟨w.heap.size,1,none⟩) hne.symm (.bool b)).st (p:=⟨w.heap.size,2,none⟩) hne.symm (.bool c)).st (p:=⟨w.heap.size,3,none⟩) hne.symm (.int .i64 n)).set 0 (.int .i64 0)
 obtain⟨c0,x0⟩:=BF.at_ (k:=0) (v:=.bool a) rfl
 obtain⟨c1,x1⟩:=BF.at_ (k:=1) (v:=.bool b) rfl
 obtain⟨c2,x2⟩:=BF.at_ (k:=2) (v:=.bool c) rfl
 obtain⟨c3,x3⟩:=BF.at_ (k:=3) (v:=.int .i64 n) rfl
 obtain⟨q1,z1⟩:=BG.at_ (k:=0) (v:=.int .i64 0) rfl
 have G:=hid (((((G0.st (p:=⟨w.heap.size,0,none⟩) (Nat.le_refl _) (.bool a)).st (p:=⟨w.heap.size,1,none⟩) (Nat.le_refl _) (.bool b)).st (p:=⟨w.heap.size,2,none⟩) (Nat.le_refl _) (.bool c)).st (p:=⟨w.heap.size,3,none⟩) (Nat.le_refl _) (.int .i64 n)).st (p:=⟨w.heap.size+1,0,none⟩) (Nat.le_succ _) (.int .i64 0))
 clear B0 B1 BF BG g1 G0
 go_wp2_with fail
 refine leaves_cons (f:=170) (args:=#[.pointer (some ⟨w.heap.size+1,0,none⟩)]) (by simp) (by simp [go_sem]) ?_
 refine (catchF_idle ⟨w.heap.size+1,0,none⟩ _).mono ?_
 rintro e u' w'' ⟨rfl,rfl,rfl⟩
 simp [Leaves,settle,results,Tryz.results128,go_sem,q1,c0,c1,c2,c3]
 exact G.out
theorem toldF_no (eg:∀ args w,(callFunc F args).run Tryz.prog w=.ok (.enter F args) w) (y:Int) (hq:∀ W,Gr w W->Calls Tryz.prog F caps W λ e w'=>e=.panicked (pan y)/\Gr W w') :
 Calls Tryz.prog 128 #[.func (.func F) #[] caps] w λ e w'=>e=.returned (.tuple #[.agg #[.bool false,.bool false,.bool false,.int .i64 0],.int .i64 y])/\Gr w w':=by
 have hmf:=mkF
 have HQ:=hid hq
 clear hq
 go_enter_defers Tryz.func128,Tryz.ntmps128
 go_wp2_with fail
 with_reducible refine (HQ.out _ (((Gr.refl w).al _).al _)).mono ?_
 rintro e w1 ⟨rfl,g1⟩
 have B0:=((Blk.new w #[.bool false,.bool false,.bool false,.int .i64 0] 42).al (.cells #[.int .i64 0] 27)).gr g1
 have B1:=(Blk.new (w.alloc (.cells #[.bool false,.bool false,.bool false,.int .i64 0] 42)) #[.int .i64 0] 27).gr g1
 rw [World.size_alloc] at B1
 have G0:=(((Gr.refl w).al (.cells #[.bool false,.bool false,.bool false,.int .i64 0] 42)).al (.cells #[.int .i64 0] 27)).trans g1
 have hne:w.heap.size+1≠w.heap.size:=by omega
 obtain⟨q0,z0⟩:=B1.at_ (k:=0) rfl
 have BF:=B0.st (p:=⟨w.heap.size+1,0,none⟩) hne (.int .i64 y)
 obtain⟨c0,x0⟩:=BF.at_ (k:=0) (v:=.bool false) rfl
 obtain⟨c1,x1⟩:=BF.at_ (k:=1) (v:=.bool false) rfl
 obtain⟨c2,x2⟩:=BF.at_ (k:=2) (v:=.bool false) rfl
 obtain⟨c3,x3⟩:=BF.at_ (k:=3) (v:=.int .i64 0) rfl
 obtain⟨q1,z1⟩:=(B1.set 0 (.int .i64 y)).at_ (k:=0) (v:=.int .i64 y) rfl
 have G:=hid (G0.st (p:=⟨w.heap.size+1,0,none⟩) (Nat.le_succ _) (.int .i64 y))
 clear B0 B1 BF g1 G0
 go_wp2_with fail
 refine leaves_cons (f:=170) (args:=#[.pointer (some ⟨w.heap.size+1,0,none⟩)]) (by simp) (by simp [go_sem]) ?_
 refine (catchF_up ⟨w.heap.size+1,0,none⟩ y 0 _ q0 z0).mono ?_
 rintro e u' w'' ⟨rfl,rfl,rfl⟩
 simp [Leaves,settle,results,Tryz.results128,go_sem,q1,c0,c1,c2,c3]
 exact G.out
theorem toldO_ok (eg:∀ args w,(callFunc F args).run Tryz.prog w=.ok (.enter F args) w) (s:Int) (t k:Bool) (r o:Int) (hq:∀ W,Gr w W->Calls Tryz.prog F caps W λ e w'=>e=.returned (.agg #[.int .i64 s,.bool t,.bool k,.int .i64 r,.int .i64 o])/\Gr W w') :
 Calls Tryz.prog 183 #[.func (.func F) #[] caps] w λ e w'=>e=.returned (.tuple #[.agg #[.int .i64 s,.bool t,.bool k,.int .i64 r,.int .i64 o],.int .i64 0])/\Gr w w':=by
 have hmf:=mkF
 have HQ:=hid hq
 clear hq
 go_enter_defers Tryz.func183,Tryz.ntmps183
 go_wp2_with fail
 with_reducible refine (HQ.out _ (((Gr.refl w).al _).al _)).mono ?_
 rintro e w1 ⟨rfl,g1⟩
 have B0:=((Blk.new w #[.int .i64 0,.bool false,.bool false,.int .i64 0,.int .i64 0] 53).al (.cells #[.int .i64 0] 27)).gr g1
 have B1:=(Blk.new (w.alloc (.cells #[.int .i64 0,.bool false,.bool false,.int .i64 0,.int .i64 0] 53)) #[.int .i64 0] 27).gr g1
 rw [World.size_alloc] at B1
 have G0:=(((Gr.refl w).al (.cells #[.int .i64 0,.bool false,.bool false,.int .i64 0,.int .i64 0] 53)).al (.cells #[.int .i64 0] 27)).trans g1
 have hne:w.heap.size+1≠w.heap.size:=by omega
 obtain⟨a0,y0⟩:=B0.at_ (k:=0) rfl
 obtain⟨a1,y1⟩:=B0.at_ (k:=1) rfl
 obtain⟨a2,y2⟩:=B0.at_ (k:=2) rfl
 obtain⟨a3,y3⟩:=B0.at_ (k:=3) rfl
 obtain⟨a4,y4⟩:=B0.at_ (k:=4) rfl
 obtain⟨q0,z0⟩:=B1.at_ (k:=0) rfl
 have BF:=(((((B0.set 0 (.int .i64 s)).set 1 (.bool t)).set 2 (.bool k)).set 3 (.int .i64 r)).set 4 (.int .i64 o)).st (p:=⟨w.heap.size+1,0,none⟩) hne (.int .i64 0)
 have BG:=(((((B1.st (p:=⟨w.heap.size,0,none⟩) hne.symm (.int .i64 s)).st (p:=⟨w.heap.size,1,none⟩) hne.symm (.bool t)).st (p:=⟨w.heap.size,2,none⟩) hne.symm (.bool k)).st (p:=⟨w.heap.size,3,none⟩) hne.symm (.int .i64 r)).st (p:=⟨w.heap.size,4,none⟩) hne.symm (.int .i64 o)).set 0 (.int .i64 0)
 obtain⟨c0,x0⟩:=BF.at_ (k:=0) (v:=.int .i64 s) rfl
 obtain⟨c1,x1⟩:=BF.at_ (k:=1) (v:=.bool t) rfl
 obtain⟨c2,x2⟩:=BF.at_ (k:=2) (v:=.bool k) rfl
 obtain⟨c3,x3⟩:=BF.at_ (k:=3) (v:=.int .i64 r) rfl
 obtain⟨c4,x4⟩:=BF.at_ (k:=4) (v:=.int .i64 o) rfl
 obtain⟨q1,z1⟩:=BG.at_ (k:=0) (v:=.int .i64 0) rfl
 have G:=hid ((((((G0.st (p:=⟨w.heap.size,0,none⟩) (Nat.le_refl _) (.int .i64 s)).st (p:=⟨w.heap.size,1,none⟩) (Nat.le_refl _) (.bool t)).st (p:=⟨w.heap.size,2,none⟩) (Nat.le_refl _) (.bool k)).st (p:=⟨w.heap.size,3,none⟩) (Nat.le_refl _) (.int .i64 r)).st (p:=⟨w.heap.size,4,none⟩) (Nat.le_refl _) (.int .i64 o)).st (p:=⟨w.heap.size+1,0,none⟩) (Nat.le_succ _) (.int .i64 0))
 clear B0 B1 BF BG g1 G0
 go_wp2_with fail
 refine leaves_cons (f:=208) (args:=#[.pointer (some ⟨w.heap.size+1,0,none⟩)]) (by simp) (by simp [go_sem]) ?_
 refine (catchO_idle ⟨w.heap.size+1,0,none⟩ _).mono ?_
 rintro e u' w'' ⟨rfl,rfl,rfl⟩
 simp [Leaves,settle,results,Tryz.results183,go_sem,q1,c0,c1,c2,c3,c4]
 exact G.out
end
end P14
end
section
open Go.ChangeShapes Go.WideShapes Go.ChangeAt Go.RowKit Go.Shelf
theorem bodyPost_pan {P:Program} {fn:Func} {R:Ending->World->Prop} {a:Act} {w:World} {c:List PanicEntry} (hd:a.defers=[]) (hR:R (.panicked c) w):bodyPost P fn R (.panic c) a w:=⟨hd,hR⟩
namespace P16
open P14 (pan)
theorem need_yes (y:Int) (w:World):Calls Tryz.prog 121 #[.bool true,.int .i64 y] w λ e w'=>e=.returned (.tuple #[])/\w'=w:=by
 go_enter Tryz.func121,Tryz.ntmps121
 go_wp2
 go_end0
 exact⟨rfl,rfl⟩
theorem need_no (y:Int) (w:World):Calls Tryz.prog 121 #[.bool false,.int .i64 y] w λ e w'=>e=.panicked (pan y)/\w'=w:=by
 go_enter Tryz.func121,Tryz.ntmps121
 go_wp2
 exact⟨rfl,rfl,rfl⟩
theorem sureB_yes (v:Bool) (w:World):Calls Tryz.prog 137 #[.bool v,.int .i64 0] w λ e w'=>e=.returned (.bool v)/\w'=w:=by
 go_enter Tryz.func137,Tryz.ntmps137
 go_wp2_with fail
 with_reducible refine (need_yes _ _).mono ?_
 rintro e w1 ⟨rfl,rfl⟩
 go_wp2_with fail
 go_ret
 exact⟨rfl,rfl⟩
theorem sureB_no (v:Bool) {y:Int} (hy:(y==0)=false) (w:World):Calls Tryz.prog 137 #[.bool v,.int .i64 y] w λ e w'=>e=.panicked (pan 12)/\w'=w:=by
 go_enter Tryz.func137,Tryz.ntmps137
 go_wp2_with fail
 with_reducible refine (need_no _ _).mono ?_
 rintro e w1 ⟨rfl,rfl⟩
 go_wp2_with fail
 exact⟨rfl,rfl,rfl⟩
theorem sureI_yes (v:Int) (w:World):Calls Tryz.prog 141 #[.int .i64 v,.int .i64 0] w λ e w'=>e=.returned (.int .i64 v)/\w'=w:=by
 go_enter Tryz.func141,Tryz.ntmps141
 go_wp2_with fail
 with_reducible refine (need_yes _ _).mono ?_
 rintro e w1 ⟨rfl,rfl⟩
 go_wp2_with fail
 go_ret
 exact⟨rfl,rfl⟩
theorem sureI_no (v:Int) {y:Int} (hy:(y==0)=false) (w:World):Calls Tryz.prog 141 #[.int .i64 v,.int .i64 y] w λ e w'=>e=.panicked (pan 12)/\w'=w:=by
 go_enter Tryz.func141,Tryz.ntmps141
 go_wp2_with fail
 with_reducible refine (need_no _ _).mono ?_
 rintro e w1 ⟨rfl,rfl⟩
 go_wp2_with fail
 exact⟨rfl,rfl,rfl⟩
theorem sureG_yes (A:Option Addr) (n c:Nat) (w:World):Calls Tryz.prog 84 #[.slice A n c,.int .i64 0] w λ e w'=>e=.returned (.slice A n c)/\w'=w:=by
 go_enter Tryz.func84,Tryz.ntmps84
 go_wp2_with fail
 with_reducible refine (need_yes _ _).mono ?_
 rintro e w1 ⟨rfl,rfl⟩
 go_wp2_with fail
 go_ret
 exact⟨rfl,rfl⟩
theorem sureG_no (A:Option Addr) (n c:Nat) {y:Int} (hy:(y==0)=false) (w:World):Calls Tryz.prog 84 #[.slice A n c,.int .i64 y] w λ e w'=>e=.panicked (pan 12)/\w'=w:=by
 go_enter Tryz.func84,Tryz.ntmps84
 go_wp2_with fail
 with_reducible refine (need_no _ _).mono ?_
 rintro e w1 ⟨rfl,rfl⟩
 go_wp2_with fail
 exact⟨rfl,rfl,rfl⟩
theorem sureN_yes (A:Option Addr) (n c:Nat) (w:World):Calls Tryz.prog 136 #[.slice A n c,.int .i64 0] w λ e w'=>e=.returned (.slice A n c)/\w'=w:=by
 go_enter Tryz.func136,Tryz.ntmps136
 go_wp2_with fail
 with_reducible refine (need_yes _ _).mono ?_
 rintro e w1 ⟨rfl,rfl⟩
 go_wp2_with fail
 go_ret
 exact⟨rfl,rfl⟩
theorem sureF_yes (a b c:Bool) (n:Int) (w:World):Calls Tryz.prog 156 #[.agg #[.bool a,.bool b,.bool c,.int .i64 n],.int .i64 0] w λ e w'=>e=.returned (.agg #[.bool a,.bool b,.bool c,.int .i64 n])/\Gr w w':=by
 go_enter Tryz.func156,Tryz.ntmps156
 go_wp2_with fail
 with_reducible refine (need_yes _ _).mono ?_
 rintro e w1 ⟨rfl,rfl⟩
 go_wp2_with fail
 exact bodyPost_ret (v:=.agg #[.bool a,.bool b,.bool c,.int .i64 n]) (by simp [results,Tryz.results156,go_sem]) rfl ⟨rfl,((Gr.refl w).al _).al _⟩
theorem sureT_yes (a b:Int) (w:World):Calls Tryz.prog 192 #[.agg #[.int .i64 a,.int .i64 b],.int .i64 0] w λ e w'=>e=.returned (.agg #[.int .i64 a,.int .i64 b])/\Gr w w':=by
 go_enter Tryz.func192,Tryz.ntmps192
 go_wp2_with fail
 with_reducible refine (need_yes _ _).mono ?_
 rintro e w1 ⟨rfl,rfl⟩
 go_wp2_with fail
 exact bodyPost_ret (v:=.agg #[.int .i64 a,.int .i64 b]) (by simp [results,Tryz.results192,go_sem]) rfl ⟨rfl,((Gr.refl w).al _).al _⟩
theorem sureT_no (a b:Int) {y:Int} (hy:(y==0)=false) (w:World):Calls Tryz.prog 192 #[.agg #[.int .i64 a,.int .i64 b],.int .i64 y] w λ e w'=>e=.panicked (pan 12)/\Gr w w':=by
 go_enter Tryz.func192,Tryz.ntmps192
 go_wp2_with fail
 with_reducible refine (need_no _ _).mono ?_
 rintro e w1 ⟨rfl,rfl⟩
 go_wp2_with fail
 exact⟨rfl,rfl,((Gr.refl w).al _).al _⟩
theorem bothSB_yes (A:Option Addr) (n c:Nat) (v:Bool) (w:World):Calls Tryz.prog 149 #[.slice A n c,.bool v,.int .i64 0] w λ e w'=>e=.returned (.tuple #[.slice A n c,.bool v])/\w'=w:=by
 go_enter Tryz.func149,Tryz.ntmps149
 go_wp2_with fail
 with_reducible refine (sureB_yes _ _).mono ?_
 rintro e w1 ⟨rfl,rfl⟩
 go_wp2_with fail
 go_ret2
 exact⟨rfl,rfl⟩
theorem bothSB_no (A:Option Addr) (n c:Nat) (v:Bool) {y:Int} (hy:(y==0)=false) (w:World):Calls Tryz.prog 149 #[.slice A n c,.bool v,.int .i64 y] w λ e w'=>e=.panicked (pan 12)/\w'=w:=by
 go_enter Tryz.func149,Tryz.ntmps149
 go_wp2_with fail
 with_reducible refine (sureB_no _ hy _).mono ?_
 rintro e w1 ⟨rfl,rfl⟩
 go_wp2_with fail
 exact⟨rfl,rfl,rfl⟩
theorem bothBI_yes (u:Bool) (v:Int) (w:World):Calls Tryz.prog 158 #[.bool u,.int .i64 v,.int .i64 0] w λ e w'=>e=.returned (.tuple #[.bool u,.int .i64 v])/\w'=w:=by
 go_enter Tryz.func158,Tryz.ntmps158
 go_wp2_with fail
 with_reducible refine (sureI_yes _ _).mono ?_
 rintro e w1 ⟨rfl,rfl⟩
 go_wp2_with fail
 go_ret2
 exact⟨rfl,rfl⟩
theorem bothSI_yes (A:Option Addr) (n c:Nat) (v:Int) (w:World):Calls Tryz.prog 160 #[.slice A n c,.int .i64 v,.int .i64 0] w λ e w'=>e=.returned (.tuple #[.slice A n c,.int .i64 v])/\w'=w:=by
 go_enter Tryz.func160,Tryz.ntmps160
 go_wp2_with fail
 with_reducible refine (sureI_yes _ _).mono ?_
 rintro e w1 ⟨rfl,rfl⟩
 go_wp2_with fail
 go_ret2
 exact⟨rfl,rfl⟩
theorem bothSI_no (A:Option Addr) (n c:Nat) (v:Int) {y:Int} (hy:(y==0)=false) (w:World):Calls Tryz.prog 160 #[.slice A n c,.int .i64 v,.int .i64 y] w λ e w'=>e=.panicked (pan 12)/\w'=w:=by
 go_enter Tryz.func160,Tryz.ntmps160
 go_wp2_with fail
 with_reducible refine (sureI_no _ hy _).mono ?_
 rintro e w1 ⟨rfl,rfl⟩
 go_wp2_with fail
 exact⟨rfl,rfl,rfl⟩
theorem bothOB_yes (s:Int) (t k:Bool) (r o:Int) (v:Bool) (w:World):Calls Tryz.prog 144 #[.agg #[.int .i64 s,.bool t,.bool k,.int .i64 r,.int .i64 o],.bool v,.int .i64 0] w λ e w'=>e=.returned (.tuple #[.agg #[.int .i64 s,.bool t,.bool k,.int .i64 r,.int .i64 o],.bool v])/\Gr w w':=by
 have cs:=λ W=>hid (sureB_yes v W)
 have B0:=((Blk.new w #[.int .i64 s,.bool t,.bool k,.int .i64 r,.int .i64 o] 53).al (.cells #[.int .i64 0,.bool false,.bool false,.int .i64 0,.int .i64 0] 53)).gr ((Gr.refl _).dr)
 obtain⟨a0,y0⟩:=B0.at_ (k:=0) (v:=.int .i64 s) rfl
 obtain⟨a1,y1⟩:=B0.at_ (k:=1) (v:=.bool t) rfl
 obtain⟨a2,y2⟩:=B0.at_ (k:=2) (v:=.bool k) rfl
 obtain⟨a3,y3⟩:=B0.at_ (k:=3) (v:=.int .i64 r) rfl
 obtain⟨a4,y4⟩:=B0.at_ (k:=4) (v:=.int .i64 o) rfl
 have B1:=((Blk.new w #[.int .i64 s,.bool t,.bool k,.int .i64 r,.int .i64 o] 53).al (.cells #[.int .i64 s,.bool t,.bool k,.int .i64 r,.int .i64 o] 53)).gr ((Gr.refl _).dr)
 obtain⟨c0,z0⟩:=B1.at_ (k:=0) (v:=.int .i64 s) rfl
 obtain⟨c1,z1⟩:=B1.at_ (k:=1) (v:=.bool t) rfl
 obtain⟨c2,z2⟩:=B1.at_ (k:=2) (v:=.bool k) rfl
 obtain⟨c3,z3⟩:=B1.at_ (k:=3) (v:=.int .i64 r) rfl
 obtain⟨c4,z4⟩:=B1.at_ (k:=4) (v:=.int .i64 o) rfl
 go_enter Tryz.func144,Tryz.ntmps144
 go_wp2_with fail
 go_region_held2 (λ w'=>w'.cell? ⟨w.heap.size,0,none⟩=some (.int .i64 s)/\w'.cell? ⟨w.heap.size,1,none⟩=some (.bool t)/\w'.cell? ⟨w.heap.size,2,none⟩=some (.bool k)/\w'.cell? ⟨w.heap.size,3,none⟩=some (.int .i64 r)/\w'.cell? ⟨w.heap.size,4,none⟩=some (.int .i64 o)) (first | exact⟨a0,a1,a2,a3,a4⟩ | exact⟨c0,c1,c2,c3,c4⟩) (first | (go_at_call 137;(with_reducible refine (cs _).out.mono ?_);rintro ee w2 ⟨rfl,rfl⟩))
 all_goals go_wp2_with fail
 all_goals exact bodyPost_ret (v:=.tuple #[.agg #[.int .i64 s,.bool t,.bool k,.int .i64 r,.int .i64 o],.bool v]) (by simp [results,Tryz.results144,go_sem]) rfl ⟨rfl,(((Gr.refl w).al _).al _).dr⟩
theorem bothTI_yes (a b:Int) (v:Int) (w:World):Calls Tryz.prog 146 #[.agg #[.int .i64 a,.int .i64 b],.int .i64 v,.int .i64 0] w λ e w'=>e=.returned (.tuple #[.agg #[.int .i64 a,.int .i64 b],.int .i64 v])/\Gr w w':=by
 have cs:=λ W=>hid (sureI_yes v W)
 have B0:=((Blk.new w #[.int .i64 a,.int .i64 b] 46).al (.cells #[.int .i64 0,.int .i64 0] 46)).gr ((Gr.refl _).dr)
 obtain⟨a0,y0⟩:=B0.at_ (k:=0) (v:=.int .i64 a) rfl
 obtain⟨a1,y1⟩:=B0.at_ (k:=1) (v:=.int .i64 b) rfl
 have B1:=((Blk.new w #[.int .i64 a,.int .i64 b] 46).al (.cells #[.int .i64 a,.int .i64 b] 46)).gr ((Gr.refl _).dr)
 obtain⟨c0,z0⟩:=B1.at_ (k:=0) (v:=.int .i64 a) rfl
 obtain⟨c1,z1⟩:=B1.at_ (k:=1) (v:=.int .i64 b) rfl
 go_enter Tryz.func146,Tryz.ntmps146
 go_wp2_with fail
 go_region_held2 (λ w'=>w'.cell? ⟨w.heap.size,0,none⟩=some (.int .i64 a)/\w'.cell? ⟨w.heap.size,1,none⟩=some (.int .i64 b)) (first | exact⟨a0,a1⟩ | exact⟨c0,c1⟩) (first | (go_at_call 141;(with_reducible refine (cs _).out.mono ?_);rintro ee w2 ⟨rfl,rfl⟩))
 all_goals go_wp2_with fail
 all_goals exact bodyPost_ret (v:=.tuple #[.agg #[.int .i64 a,.int .i64 b],.int .i64 v]) (by simp [results,Tryz.results146,go_sem]) rfl ⟨rfl,(((Gr.refl w).al _).al _).dr⟩
theorem bothTI_no (a b:Int) (v:Int) {y:Int} (hy:(y==0)=false) (w:World):Calls Tryz.prog 146 #[.agg #[.int .i64 a,.int .i64 b],.int .i64 v,.int .i64 y] w λ e w'=>e=.panicked (pan 12)/\Gr w w':=by
 have cs:=λ W=>hid (sureI_no v hy W)
 have B0:=((Blk.new w #[.int .i64 a,.int .i64 b] 46).al (.cells #[.int .i64 0,.int .i64 0] 46)).gr ((Gr.refl _).dr)
 obtain⟨a0,y0⟩:=B0.at_ (k:=0) (v:=.int .i64 a) rfl
 obtain⟨a1,y1⟩:=B0.at_ (k:=1) (v:=.int .i64 b) rfl
 have B1:=((Blk.new w #[.int .i64 a,.int .i64 b] 46).al (.cells #[.int .i64 a,.int .i64 b] 46)).gr ((Gr.refl _).dr)
 obtain⟨c0,z0⟩:=B1.at_ (k:=0) (v:=.int .i64 a) rfl
 obtain⟨c1,z1⟩:=B1.at_ (k:=1) (v:=.int .i64 b) rfl
 go_enter Tryz.func146,Tryz.ntmps146
 go_wp2_with fail
 refine wp_region_held_drew (S:=(λ w'=>(w'.cell? ⟨w.heap.size,0,none⟩=some (.int .i64 a)/\w'.cell? ⟨w.heap.size,1,none⟩=some (.int .i64 b))/\Gr w w')) (by kernel_rfl) ⟨⟨a0,a1⟩,(((Gr.refl w).al _).al _).dr⟩ (λ hS=>?_)
 refine wG 0 hS ?_
 refine wG 1 hS ?_
 refine wG 2 hS ?_
 refine wR1 3 (λ K hK=>?_)
 go_simp;go_at_call 141;with_reducible refine (cs _).out.mono ?_;rintro ee w2 ⟨rfl,rfl⟩;exact bodyPost_pan rfl ⟨rfl,hS.2⟩
end P16
end
section
open Go.ChangeShapes Go.WideShapes Go.ChangeAt Go.RowKit Go.Shelf
namespace P16
open P14 (pan)
structure Ko (b:Nat) (W W':World):Prop where
 os:W'.os=W.os
 tape:W'.tape=W.tape
 output:W'.output=W.output
 size:W.heap.size<=W'.heap.size
 block:∀ k,k<W.heap.size->k≠b->W'.heap[k]?=W.heap[k]?
section
variable {b:Nat} {W W' W'':World}
theorem Ko.refl:Ko b W W:=⟨rfl,rfl,rfl,Nat.le_refl _,λ _ _ _=>rfl⟩
theorem Ko.trans (h:Ko b W W') (g:Ko b W' W''):Ko b W W'' :=
 ⟨g.os.trans h.os,g.tape.trans h.tape,g.output.trans h.output,Nat.le_trans h.size g.size,λ k hk h1=>(g.block k (Nat.lt_of_lt_of_le hk h.size) h1).trans (h.block k hk h1)⟩
theorem Ko.gr (g:Gr W W'):Ko b W W':=⟨g.os,g.tape,g.output,g.size,λ k hk _=>g.block k hk⟩
theorem Ko.st {p:Addr} (hp:p.block=b) (v:Value):Ko b W (W.setCell p v) :=
 ⟨rfl,rfl,rfl,by simp [World.setCell],λ k hk h1=>Below.heap_setCell W p v k (by rw [hp];exact h1)⟩
theorem Ko.cell (h:Ko b W W') {p:Addr} (hp:p.block<W.heap.size) (hn:p.block≠b):W'.cell? p=W.cell? p:=World.cell?_of_block (h.block _ hp hn)
theorem Ko.gmem {A:Option Addr} {n:Nat} {l:List P11.G} (h:Ko b W W') (hm:P11.GMem W A n l) (hA:∀ k,A.map (·.block)=some k->k≠b):P11.GMem W' A n l :=
 ⟨hm.1,hm.2.1,λ hn=>by
   obtain⟨g,off,rfl,hg,hc⟩:=hm.2.2 hn
   exact⟨g,off,rfl,Nat.lt_of_lt_of_le hg h.size,λ j u hu=>(h.cell (p:=⟨g,off+j,none⟩) hg (hA g rfl)).trans (hc j u hu)⟩⟩
end
theorem set_same {α:Type} {l:List α} {k:Nat} {y:α} (h:l[k]?=some y):l.set k y=l:=by
 apply List.ext_getElem?
 intro i
 rw [List.getElem?_set]
 by_cases e:k=i
 . subst e
   rw [if_pos rfl,if_pos (List.getElem?_eq_some_iff.1 h).1,h]
 . rw [if_neg e]
def withG (c:Cl) (g:P11.G):Cl:={ c with gst:=g.1,permit:=g.2 }
theorem withG_self (c:Cl):withG c (gor c)=c:=rfl
section
variable {W:World} {b bc oc n cc F:Nat} {cl:List Cl} {who q:Int} {R:List P11.G} {j:Nat} {c:Cl} {g:P11.G}
def ChgG (F:Nat) (cl:List Cl) (who q:Int) (N:Nat) (R:List P11.G):Prop :=
 ∀ (W:World) (A:Option Addr) (m d:Nat),P11.GMem W A m (cl.map gor)->m=cl.length->Calls Tryz.prog F #[.slice A m d,.int .i64 who] W (P11.GotN W N q R)
theorem changeGor_no (eg:∀ args w,(callFunc F args).run Tryz.prog w=.ok (.enter F args) w) {p:Nat} (c2:W.cell? ⟨b,p+2,none⟩=some (.slice (some ⟨bc,oc,none⟩) n cc)) (hO:ORow clV 13 W bc oc cl) (hl:cl.length=n) (hn:n<=1000) (hcb:∀ c∈cl,CB c)
 {N:Nat} (hF:ChgG F cl who q N R) (hq:(q==0)=false) :
 Calls Tryz.prog 64 #[.pointer (some ⟨b,p,none⟩),.int .i64 who,.func (.func F) #[] #[]] W λ e W'=>e=.panicked (pan 12)/\Gr W W':=by
 have hm:CMem W (some ⟨bc,oc,none⟩) n cl:=⟨hl,hcb,λ _=>⟨bc,oc,rfl,hO.lt,λ i y hy j v hv=>(hO.at_ hy hv).1⟩⟩
 have cg:=hid (gors_is (c:=cc) hm hn)
 have HF:=hid hF
 have HL:=hid hl
 clear hF hO hl hcb hm
 go_enter Tryz.func64,Tryz.ntmps64
 go_wp2_with fail
 with_reducible refine cg.out.mono ?_
 rintro e w1 ⟨rfl,m1,g1⟩
 have HG1:=hid g1
 have H2:=hid (HF.out w1 _ n n m1 HL.out.symm)
 clear m1 g1
 go_wp2_with fail
 with_reducible refine H2.out.mono ?_
 rintro e w2 ⟨B,m,rfl,m2,_,_,g2⟩
 have HG2:=hid g2
 clear m2 g2
 go_wp2_with fail
 with_reducible refine (sureG_no _ _ _ hq _).mono ?_
 rintro e w3 ⟨rfl,rfl⟩
 go_wp2_with fail
 exact bodyPost_pan rfl ⟨rfl,HG1.out.trans HG2.out⟩
def redone (cl:List Cl) (j k:Nat) (c:Cl) (g:P11.G):List Cl:=if k<=j then cl else cl.set j (withG c g)
theorem redone_at {k:Nat} {y:Cl} (hy:cl[k]?=some y):(redone cl j k c g)[k]?=some y:=by
 unfold redone
 by_cases h:k<=j
 . rw [if_pos h];exact hy
 . rw [if_neg h,List.getElem?_set_ne (by omega)];exact hy
theorem redone_next {k:Nat} {y:Cl} {z:P11.G} (hc:cl[j]?=some c) (hy:cl[k]?=some y) (hz:((cl.map gor).set j g)[k]?=some z):(redone cl j k c g).set k (withG y z)=redone cl j (k+1) c g:=by
 have hk:=(List.getElem?_eq_some_iff.1 hy).1
 unfold redone
 by_cases h:k=j
 . subst h
   rw [hc] at hy
   cases hy
   rw [List.getElem?_set_self (by simpa using hk)] at hz
   cases hz
   rw [if_pos (Nat.le_refl _),if_neg (by omega)]
 . rw [List.getElem?_set_ne (by omega),List.getElem?_map,hy] at hz
   cases hz
   rw [withG_self]
   by_cases h2:k<=j
   . rw [if_pos h2,if_pos (by omega)]
     exact set_same hy
   . rw [if_neg h2,if_neg (by omega)]
     exact set_same (by rw [List.getElem?_set_ne (by omega)];exact hy)
theorem changeGor_yes (eg:∀ args w,(callFunc F args).run Tryz.prog w=.ok (.enter F args) w) {p:Nat} (c2:W.cell? ⟨b,p+2,none⟩=some (.slice (some ⟨bc,oc,none⟩) n cc)) (hb:b≠bc) (hO:ORow clV 13 W bc oc cl) (hl:cl.length=n) (hn:n<=1000) (hcb:∀ c∈cl,CB c)
 (hc:cl[j]?=some c) (hF:ChgG F cl who 0 n ((cl.map gor).set j g)) :
 Calls Tryz.prog 64 #[.pointer (some ⟨b,p,none⟩),.int .i64 who,.func (.func F) #[] #[]] W λ e W'=>e=.returned (.tuple #[])/\ORow clV 13 W' bc oc (cl.set j (withG c g))/\Ko bc W W':=by
 have hm:CMem W (some ⟨bc,oc,none⟩) n cl:=⟨hl,hcb,λ _=>⟨bc,oc,rfl,hO.lt,λ i y hy j v hv=>(hO.at_ hy hv).1⟩⟩
 have hbl:=World.block_lt_of_cell? W _ c2
 have hbc:=hO.lt
 have cg:=hid (gors_is (c:=cc) hm hn)
 have HF:=hid hF
 have HL:=hid hl
 have HC:=hid hc
 have HO:=hid hO
 clear hF hO hl hcb hm hc
 dsimp only at hbl
 go_enter Tryz.func64,Tryz.ntmps64
 go_wp2_with fail
 with_reducible refine cg.out.mono ?_
 rintro e w1 ⟨rfl,m1,g1⟩
 have HG1:=hid g1
 have H2:=hid (HF.out w1 _ n n m1 HL.out.symm)
 clear m1 g1
 go_wp2_with fail
 with_reducible refine H2.out.mono ?_
 rintro e w2 ⟨B,m,rfl,m2,_,l2,g2⟩
 have hs1:=HG1.out.size
 have HG2:=hid (HG1.out.trans g2)
 have HM:=hid m2
 have HLT:=hid (show ∀ k,B.map (·.block)=some k->k≠bc from λ k hk=>by have:=l2 k hk;omega)
 clear m2 g2 l2
 go_wp2_with fail
 with_reducible refine (sureG_yes _ _ _ _).mono ?_
 rintro e w3 ⟨rfl,rfl⟩
 have H0:=hid (show ORow clV 13 w3 bc oc (redone cl j 0 c g) from by unfold redone;rw [if_pos (Nat.zero_le _)];exact HO.out.gr HG2.out)
 go_wp2_with fail
 go_loopw [20] (λ i wr=>∃ k:Nat,k<=n/\i=.int .i64 k/\Hid (ORow clV 13 wr bc oc (redone cl j k c g))/\Hid (Ko bc w3 wr)) (λ i _=>n-(intOf i).toNat)
 case atStart=>exact⟨0,Nat.zero_le _,rfl,H0,hid Ko.refl⟩
 case round =>
  obtain⟨k,hk,rfl,HR,HK⟩:=hrel
  by_cases hlt:k<n
  . have hlb:=HR.out.lt
    have hb3:b<w3.heap.size:=Nat.lt_of_lt_of_le hbl HG2.out.size
    have hbr:b<wr.heap.size:=Nat.lt_of_lt_of_le hb3 HK.out.size
    have d2:wr.cell? ⟨b,p+2,none⟩=some (.slice (some ⟨bc,oc,none⟩) n cc):=((HK.out.cell (p:=⟨b,p+2,none⟩) hb3 hb).trans (HG2.out.cell (p:=⟨b,p+2,none⟩) hbl)).trans c2
    have hkl:k<cl.length:=by rw [HL.out];exact hlt
    obtain⟨y,hy⟩:∃ y,cl[k]?=some y:=⟨_,List.getElem?_eq_getElem hkl⟩
    have hy':=redone_at (j:=j) (c:=c) (g:=g) hy
    obtain⟨e0,f0⟩:=HR.out.at_ (j:=0) hy' rfl
    obtain⟨e1,f1⟩:=HR.out.at_ (j:=1) hy' rfl
    rw [Nat.add_zero] at e0 f0
    obtain⟨bg,og,z,rfl,hg,hz,_,g0,g1⟩:=(HK.out.gmem HM.out HLT.out).at_ hlt
    have k0:(0:Int)<=(k:Int):=by omega
    have k1:(k:Int)<(n:Int):=by omega
    have HY:=hid hy
    have HY':=hid hy'
    have HZ:=hid hz
    clear hy hy' hz
    have ne1:bc≠wr.heap.size:=by omega
    go_wp2_with fail
    go_region
    all_goals go_wp2_with fail
    all_goals
     have h1:=HR.out.put clV_len HY'.out (j:=0) (v:=.int .i64 z.1) (y:={ y with gst:=z.1 }) (by decide) rfl
     have h2:=h1.put clV_len (i:=k) (x:={ y with gst:=z.1 }) (by rw [List.getElem?_set_self (List.getElem?_eq_some_iff.1 HY'.out).1]) (j:=1) (v:=.bool z.2) (y:=withG y z) (by decide) rfl
     rw [List.set_set,redone_next HC.out HY.out HZ.out,Nat.add_zero] at h2
     exact⟨⟨k+1,by omega,by go_num,hid (h2.gr ((Gr.refl _).al _).dr),hid (((HK.out.trans (Ko.st (p:=⟨bc,oc+k*13,none⟩) rfl _)).trans (Ko.st (p:=⟨bc,oc+k*13+1,none⟩) rfl _)).trans (Ko.gr ((Gr.refl _).al _).dr))⟩,by simp [intOf];omega⟩
  . obtain rfl:k=n:=by omega
    have h1:=HR.out
    have hj:j<k:=by rw [<- HL.out];exact (List.getElem?_eq_some_iff.1 HC.out).1
    unfold redone at h1
    rw [if_neg (by omega)] at h1
    clear HR
    go_wp2_with fail
    go_end0
    exact⟨rfl,h1,(Ko.gr HG2.out).trans HK.out⟩
end
end P16
end
end Go.Proofs.YtainfijdhcehlaaGreatDoor
