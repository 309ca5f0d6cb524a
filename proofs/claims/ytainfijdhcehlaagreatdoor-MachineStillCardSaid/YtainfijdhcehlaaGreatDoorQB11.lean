/-
  A part of the proof.
-/
import Derived.Test.YtainfijdhcehlaaGreatDoorQB3
import Derived.Test.YtainfijdhcehlaaGreatDoorQB10
import Derived.OwnWalk
import Derived.Shelf.Abstract
import Derived.FnLit
set_option linter.unusedVariables false
set_option linter.unusedSimpArgs false
set_option maxRecDepth 100000
set_option maxHeartbeats 8000000
namespace Go.Proofs.YtainfijdhcehlaaGreatDoor
open Lib (hid)
section
open Go.ChangeShapes Go.WideShapes Go.ChangeAt Go.RowKit
namespace P11
theorem get_set {l:List G} {k:Nat} {x y:G} (h:l[k]?=some x):(l.set k y)[k]?=some y:=by
 obtain⟨hk,_⟩:=List.getElem?_eq_some_iff.1 h
 rw [List.getElem?_set_self hk]
theorem park_is:ChgIs 194 pkG:=by
 intro w base cp g k l x hC hx hb
 obtain⟨c1,q0,q1,f0,f1,hlc,hlg⟩:=hC.facts hx
 obtain⟨s,p⟩:=x
 have HC:=hid hC
 have HX:=hid hx
 clear hC hx
 by_cases hs:s=0
 . subst hs
   cases p
   . have S1:=HC.out.set1 HX.out 1
     have S2:=S1.set2 (get_set HX.out) false
     rw [List.set_set] at S2
     have H2:=hid S2
     clear S1 S2
     go_enter Tryz.func194,Tryz.ntmps194
     go_wp2_with fail
     go_ret
     exact⟨rfl,Below.setCell (Below.setCell (Below.refl _ _) hb _) hb _,H2.out⟩
   . have S2:=hid (HC.out.set2 HX.out false)
     go_enter Tryz.func194,Tryz.ntmps194
     go_wp2_with fail
     go_ret
     exact⟨rfl,Below.setCell (Below.refl _ _) hb _,S2.out⟩
 . have ne:(s==0)=false:=beq_eq_false_iff_ne.2 hs
   have HP:=hid (show pkG (s,p)=(6,(s,p)) by simp [pkG,hs])
   have HL:=hid (chg_no (l:=l) (k:=k) HP.out (by omega))
   go_enter Tryz.func194,Tryz.ntmps194
   go_wp2_with fail
   go_ret
   rw [HL.out,HP.out]
   exact⟨rfl,Below.refl _ _,HC.out⟩
theorem end_is:ChgIs 87 enG:=by
 intro w base cp g k l x hC hx hb
 obtain⟨c1,q0,q1,f0,f1,hlc,hlg⟩:=hC.facts hx
 obtain⟨s,p⟩:=x
 have HC:=hid hC
 have HX:=hid hx
 clear hC hx
 by_cases hs:s=0
 . subst hs
   have S1:=HC.out.set1 HX.out 2
   have S2:=S1.set2 (get_set HX.out) false
   rw [List.set_set] at S2
   have H2:=hid S2
   clear S1 S2
   go_enter Tryz.func87,Tryz.ntmps87
   go_wp2_with fail
   go_ret
   exact⟨rfl,Below.setCell (Below.setCell (Below.refl _ _) hb _) hb _,H2.out⟩
 . have ne:(s==0)=false:=beq_eq_false_iff_ne.2 hs
   have HP:=hid (show enG (s,p)=(6,(s,p)) by simp [enG,hs])
   have HL:=hid (chg_no (l:=l) (k:=k) HP.out (by omega))
   go_enter Tryz.func87,Tryz.ntmps87
   go_wp2_with fail
   go_ret
   rw [HL.out,HP.out]
   exact⟨rfl,Below.refl _ _,HC.out⟩
theorem ready_is:ChgIs 202 rdG:=by
 intro w base cp g k l x hC hx hb
 obtain⟨c1,q0,q1,f0,f1,hlc,hlg⟩:=hC.facts hx
 obtain⟨s,p⟩:=x
 have HC:=hid hC
 have HX:=hid hx
 clear hC hx
 by_cases hs:s=2
 . subst hs
   have HP:=hid (show rdG (2,p)=(6,(2,p)) by simp [rdG])
   have HL:=hid (chg_no (l:=l) (k:=k) HP.out (by omega))
   go_enter Tryz.func202,Tryz.ntmps202
   go_wp2_with fail
   go_ret
   rw [HL.out,HP.out]
   exact⟨rfl,Below.refl _ _,HC.out⟩
 . have ne:(s==2)=false:=beq_eq_false_iff_ne.2 hs
   cases p
   . obtain⟨B,hB⟩:∃ B,(s==0)=B:=⟨_,rfl⟩
     have S1:=(HC.out.set2 HX.out B).drew
     have S2:=S1.set1 (get_set HX.out) 0
     rw [List.set_set] at S2
     have H2:=hid S2
     have HP:=hid (show rdG (s,false)=(0,(0,B)) by simp [rdG,hs,hB])
     have HL:=hid (chg_yes (l:=l) (k:=k) HP.out)
     obtain⟨d1,r0,r1,z0,z1,hld,hle⟩:=S1.facts (get_set HX.out)
     clear S1 S2
     go_enter Tryz.func202,Tryz.ntmps202
     go_wp2_with fail
     go_region
     have G1:=Below.drew (Below.setCell (Below.refl base w) (p:=⟨g,k*2+1,none⟩) hb (.bool B))
     generalize (w.setCell ⟨g,k*2+1,none⟩ (.bool B)).drew=W at *
     go_wp2_with fail
     go_ret
     rw [HL.out,HP.out]
     exact⟨rfl,Below.setCell G1 hb _,H2.out⟩
   . have HP:=hid (show rdG (s,true)=(7,(s,true)) by simp [rdG,hs])
     have HL:=hid (chg_no (l:=l) (k:=k) HP.out (by omega))
     go_enter Tryz.func202,Tryz.ntmps202
     go_wp2_with fail
     go_ret
     rw [HL.out,HP.out]
     exact⟨rfl,Below.refl _ _,HC.out⟩
def Got (w:World) (r:Int×List G) (e:Ending) (w':World):Prop :=
 ∃ B m,e=.returned (.tuple #[.slice B r.2.length m,.int .i64 r.1])/\GMem w' B r.2.length r.2/\Late w.heap.size B/\r.2.length<=m/\Gr w w'
section
variable {A:Option Addr} {n c:Nat} {l:List G} {w:World}
theorem choose_arg {who:Int} (hn:n<=9223372036854775807) (hr:rightB l=false) (hm:GMem w A n l) :
 Calls Tryz.prog 85 #[.slice A n c,.int .i64 who] w λ e w'=>∃ cp,e=.returned (.pointer (some ⟨cp,0,none⟩))/\w.heap.size<=cp/\Blk w' cp #[.slice none 0 0,.pointer none,.int .i64 1] 178/\Gr w w':=by
 have cc:=hid (Right_is (c:=c) hr hn w hm)
 clear hr hm
 go_enter Tryz.func85,Tryz.ntmps85
 go_wp2_with fail
 refine cc.out.mono ?_
 rintro e w1 ⟨rfl,b1⟩
 go_wp2_with fail
 go_ret
 exact⟨_,rfl,b1.size,Blk.new _ _ _,b1.al _⟩
theorem choose_range {who:Int} (hn:n<=9223372036854775807) (hr:rightB l=true) (hw:who<0\/n<=who) (hm:GMem w A n l) :
 Calls Tryz.prog 85 #[.slice A n c,.int .i64 who] w λ e w'=>∃ cp,e=.returned (.pointer (some ⟨cp,0,none⟩))/\w.heap.size<=cp/\Blk w' cp #[.slice none 0 0,.pointer none,.int .i64 3] 178/\Gr w w':=by
 have cc:=hid (Right_is (c:=c) hr hn w hm)
 clear hr hm
 rcases hw with hw | hw
 . go_enter Tryz.func85,Tryz.ntmps85
   go_wp2_with fail
   refine cc.out.mono ?_
   rintro e w1 ⟨rfl,b1⟩
   go_wp2_with fail
   go_ret
   exact⟨_,rfl,b1.size,Blk.new _ _ _,b1.al _⟩
 . have h0:decide (who<0)=false:=by simp;omega
   go_enter Tryz.func85,Tryz.ntmps85
   go_wp2_with fail
   refine cc.out.mono ?_
   rintro e w1 ⟨rfl,b1⟩
   go_wp2_with fail
   go_ret
   exact⟨_,rfl,b1.size,Blk.new _ _ _,b1.al _⟩
theorem choose_ok {k:Nat} (hn:n<=9223372036854775807) (hr:rightB l=true) (hk:k<n) (hm:GMem w A n l) :
 Calls Tryz.prog 85 #[.slice A n c,.int .i64 (k:Int)] w λ e w'=>∃ cp g,e=.returned (.pointer (some ⟨cp,0,none⟩))/\w.heap.size<=cp/\w.heap.size<=g/\Chosen w' cp g k l/\Gr w w':=by
 have h8:n<=8:=by have:=hm.1;simp [rightB] at hr;omega
 have cc:=hid (Right_is (c:=c) hr hn w hm)
 obtain⟨i0,hi0,hz0,hz1,hz2⟩:=info_parts infoGor
 have hmk:=λ w=>run_makeN (P:=Tryz.prog) 70 51 i0 _ Tryz.underlying70 hi0 hz0 n (by rw [hz2];omega) (by omega) w
 rw [hz1] at hmk
 obtain⟨M,hM⟩:∃ M,madeCells (Value.agg #[.int .i64 0,.bool false]).cells (n*2)=M:=⟨_,rfl⟩
 have hMs:M.size=n*2:=by rw [<- hM,size_madeCells]
 rw [hM] at hmk
 have k0:(0:Int)<=(k:Int):=by omega
 have k1:(k:Int)<(n:Int):=by omega
 have k2:decide ((k:Int)<0)=false:=by simp
 have k3:decide (n<=k)=false:=by simp;omega
 have HMs:=hid hMs
 have hsz:=hid (show (Tryz.prog.info? 51).map (·.size)=some 2 by rw [hi0];simp [hz1])
 obtain⟨b,off,rfl,hbl,hcells⟩:=hm.2.2 (by omega)
 have HC:=hid hcells
 have HL:=hid hm.1
 have hfl:=hid (flat_len l)
 clear hr hm hi0 hz0 hz1 hz2 hcells hM hMs
 go_enter Tryz.func85,Tryz.ntmps85
 go_wp2_with fail
 refine cc.out.mono ?_
 rintro e w1 ⟨rfl,b1⟩
 have hz:b<w1.heap.size:=Nat.lt_of_lt_of_le hbl b1.size
 go_wp2_with (with_reducible refine wpList_copyN rfl (.tmp 26) (.tmp 27) 70 70 rfl 51 2 Tryz.underlying70 hsz.out w1.heap.size n n b off c rfl rfl M 51 ?hg (flat l) ?hn ?hs ?hf (flat_one l) ?_)
 case hg=>exact heap_alloc_new w1 _
 case hn=>rw [hfl.out,HL.out]
 case hf=>rw [hfl.out,HL.out,HMs.out]
 case hs =>
  intro j v hv
  exact (((Gr.refl w1).al _).cell (p:=⟨b,off+j,none⟩) hz).trans ((b1.cell (p:=⟨b,off+j,none⟩) hbl).trans (HC.out j v hv))
 intro w2 HG hB2 hS2
 have HS2:=hid (show w2.heap.size=w1.heap.size+1 by simpa using hS2)
 have hG2:Gr w w2:=(b1.al _).trans' (hB2.mono b1.size)
 clear hS2 hB2
 have X:Blk w2 w1.heap.size (flat l).toArray 51:=HG.out
 go_wp2_with fail
 go_ret
 refine⟨_,_,rfl,hG2.size,b1.size,⟨by rw [HS2.out];omega,?_,_,X.al _,by simp⟩,hG2.al _⟩
 rw [HL.out]
 exact Blk.new _ _ _
end
theorem got_err {w w':World} (q:Int) (h:Gr w w'):Got w (q,[]) (.returned (.tuple #[.slice none 0 0,.int .i64 q])) w' :=
 ⟨none,0,rfl,GMem.nil_,(λ k hk=>by cases hk),Nat.le_refl _,h⟩
theorem after_no {w:World} {cp:Nat} {f:Value} {q:Int} (hq:q=1\/q=3) (hc:Blk w cp #[.slice none 0 0,.pointer none,.int .i64 q] 178) :
 Calls Tryz.prog 86 #[.pointer (some ⟨cp,0,none⟩),f] w λ e w'=>e=.returned (.tuple #[.slice none 0 0,.int .i64 q])/\Gr w w':=by
 obtain⟨c2,_⟩:=hc.at_ (k:=2) rfl
 have hl:=hc.lt
 clear hc
 rcases hq with rfl | rfl
 all_goals (
  go_enter Tryz.func86,Tryz.ntmps86
  go_wp2_with fail
  go_quiet (fail)
  go_wp2_with fail
  go_ret2
  exact⟨rfl,(Gr.refl w).drN _⟩)
theorem after_err {w:World} {F cp g k base:Nat} {p:G->Int×G} {l:List G} {x:G} {q:Int} (eg:∀ args w,(callFunc F args).run Tryz.prog w=.ok (.enter F args) w) (hF:ChgIs F p) (hC:Chosen w cp g k l) (hx:l[k]?=some x) (hb:base<=g)
 (hr:(p x).1=q) (hq:q=6\/q=7) :
 Calls Tryz.prog 86 #[.pointer (some ⟨cp,0,none⟩),.func (.func F) #[.pointer (some ⟨cp,0,none⟩)] #[]] w λ e w' =>
  e=.returned (.tuple #[.slice none 0 0,.int .i64 q])/\Below base w w':=by
 have H1:=hid (hF w base cp g k l x hC hx hb)
 rw [hr] at H1
 have c2:=(hC.2.1.at_ (k:=2) rfl).1
 have hl:=hC.2.1.lt
 clear hF hC hx hr
 rcases hq with rfl | rfl
 all_goals (
  go_enter Tryz.func86,Tryz.ntmps86
  go_wp2_with fail
  with_reducible refine H1.out.mono ?_
  rintro ee w1 ⟨rfl,b1,_⟩
  go_wp2_with fail
  go_ret2
  exact⟨rfl,b1⟩)
theorem after_yes {w:World} {F cp g k base:Nat} {p:G->Int×G} {l:List G} {x y:G} (eg:∀ args w,(callFunc F args).run Tryz.prog w=.ok (.enter F args) w) (hF:ChgIs F p) (hC:Chosen w cp g k l) (hx:l[k]?=some x) (hb:base<=g)
 (hr:p x=(0,y)) :
 Calls Tryz.prog 86 #[.pointer (some ⟨cp,0,none⟩),.func (.func F) #[.pointer (some ⟨cp,0,none⟩)] #[]] w λ e w' =>
  e=.returned (.tuple #[.slice (some ⟨g,0,none⟩) l.length l.length,.int .i64 0])/\Below base w w'/\∃ vs,Blk w' g vs 51/\vs.toList=flat (l.set k y):=by
 have H1:=hid (hF w base cp g k l x hC hx hb)
 rw [chg_yes hr,hr] at H1
 have c2:=(hC.2.1.at_ (k:=2) rfl).1
 have hl:=hC.2.1.lt
 clear hF hC hx hr
 go_enter Tryz.func86,Tryz.ntmps86
 go_wp2_with fail
 with_reducible refine H1.out.mono ?_
 rintro ee w1 ⟨rfl,b1,hne,h1,h2⟩
 rw [List.length_set] at h1
 have d0:=(h1.at_ (k:=0) rfl).1
 have hl1:=h1.lt
 have H2:=hid h2
 clear h1 h2
 go_wp2_with fail
 go_ret2
 exact⟨rfl,b1,H2.out⟩
end P11
end
section
open Go.ChangeShapes Go.WideShapes Go.ChangeAt Go.RowKit
namespace P11
theorem b64_pk {x:G} (h:B64 x.1):B64 (pkG x).2.1:=by
 unfold pkG
 split
 . simp only;split<;>exact⟨by decide,by decide⟩
 . exact h
theorem b64_rd {x:G} (h:B64 x.1):B64 (rdG x).2.1:=by
 unfold rdG
 split
 . exact h
 . split
   . exact h
   . exact (show B64 0 from ⟨by decide,by decide⟩)
theorem b64_en {x:G} (h:B64 x.1):B64 (enG x).2.1:=by
 unfold enG
 split
 . exact⟨by decide,by decide⟩
 . exact h
theorem err_pk (x:G):(pkG x).1=0\/(pkG x).1=6\/(pkG x).1=7:=by
 unfold pkG;split<;>simp
theorem err_rd (x:G):(rdG x).1=0\/(rdG x).1=6\/(rdG x).1=7:=by
 unfold rdG;split
 . simp
 . split<;>simp
theorem err_en (x:G):(enG x).1=0\/(enG x).1=6\/(enG x).1=7:=by
 unfold enG;split<;>simp
theorem b64_set {l:List G} {k:Nat} {y:G} (h:∀ x∈l,B64 x.1) (hy:B64 y.1):∀ x∈l.set k y,B64 x.1:=by
 intro x hx
 rcases List.mem_or_eq_of_mem_set hx with h1 | rfl
 . exact h x h1
 . exact hy
theorem got_yes {w w':World} {g k n:Nat} {l:List G} {y:G} (hn:l.length=n) (hl:w.heap.size<=g) (hb:∀ x∈l.set k y,B64 x.1) (h:∃ vs,Blk w' g vs 51/\vs.toList=flat (l.set k y)) (G1:Gr w w') :
 Got w (0,l.set k y) (.returned (.tuple #[.slice (some ⟨g,0,none⟩) n n,.int .i64 0])) w':=by
 subst hn
 obtain⟨vs,h1,h2⟩:=h
 have e:(l.set k y).length=l.length:=List.length_set
 refine⟨_,l.length,?_,GMem.of_blk h1 h2 hb,(λ k hk=>by cases hk;exact hl),Nat.le_of_eq e,G1⟩
 rw [e]
section
variable {A:Option Addr} {n c:Nat} {l:List G} {who:Int}
theorem Park_is (hn:n<=9223372036854775807) (w:World) (hm:GMem w A n l) :
 Calls Tryz.prog 153 #[.slice A n c,.int .i64 who] w (Got w (outc pkG l who)):=by
 have hmf:=mkF
 have hl:=hm.1
 by_cases hr:rightB l=true
 . by_cases hw:who<0\/n<=who
   . rw [outc_range hr (by rw [hl];exact hw)]
     have c1:=hid (choose_range (c:=c) hn hr hw hm)
     clear hm hr hw
     go_enter Tryz.func153,Tryz.ntmps153
     go_wp2_with fail
     with_reducible refine c1.out.mono ?_
     rintro e w1 ⟨cp,rfl,hcp,hB,g1⟩
     have c2:=λ f=>hid (after_no (f:=f) (.inr rfl) hB)
     go_wp2_with fail
     with_reducible refine (c2 _).out.mono ?_
     rintro e w2 ⟨rfl,g2⟩
     go_wp2_with fail
     go_ret2
     exact got_err 3 (g1.trans g2)
   . obtain⟨k,rfl⟩:∃ k:Nat,who=(k:Int):=⟨who.toNat,by omega⟩
     have hk:k<n:=by omega
     obtain⟨x,hx⟩:∃ x,l[k]?=some x:=⟨_,List.getElem?_eq_getElem (by omega)⟩
     rw [outc_at hr hx]
     have hbx:=hm.2.1 x (List.mem_of_getElem? hx)
     have HB:=hid hm.2.1
     have HX:=hid hx
     have c1:=hid (choose_ok (c:=c) hn hr hk hm)
     obtain⟨⟨q,y⟩,hp⟩:∃ r,pkG x=r:=⟨_,rfl⟩
     have hy:=b64_pk hbx
     have hq:=err_pk x
     rw [hp] at hy hq ⊢
     have HP:=hid hp
     clear hm hr hw hx hp
     rcases hq with hq | hq
     . obtain rfl:q=0:=hq
       rw [if_pos rfl]
       go_enter Tryz.func153,Tryz.ntmps153
       go_wp2_with fail
       with_reducible refine c1.out.mono ?_
       rintro e w1 ⟨cp,g,rfl,hcp,hg,hC,g1⟩
       have c2:=hid (after_yes (enters_of Tryz.func194 (by kernel_rfl) rfl) park_is hC HX.out hg HP.out)
       rw [hl] at c2
       clear hC
       go_wp2_with fail
       with_reducible refine c2.out.mono ?_
       rintro e w2 ⟨rfl,g2,hv⟩
       have HV:=hid hv
       clear hv
       go_wp2_with fail
       go_ret2
       exact got_yes hl hg (b64_set HB.out hy) HV.out (g1.trans' g2)
     . rw [if_neg (by show q≠0;omega)]
       go_enter Tryz.func153,Tryz.ntmps153
       go_wp2_with fail
       with_reducible refine c1.out.mono ?_
       rintro e w1 ⟨cp,g,rfl,hcp,hg,hC,g1⟩
       have c2:=hid (after_err (enters_of Tryz.func194 (by kernel_rfl) rfl) park_is hC HX.out hg (by rw [HP.out]) hq)
       clear hC
       go_wp2_with fail
       with_reducible refine c2.out.mono ?_
       rintro e w2 ⟨rfl,g2⟩
       go_wp2_with fail
       go_ret2
       exact got_err q (g1.trans' g2)
 . have hr0:rightB l=false:=by simpa using hr
   rw [outc_arg hr0]
   have c1:=hid (choose_arg (c:=c) (who:=who) hn hr0 hm)
   clear hm hr hr0
   go_enter Tryz.func153,Tryz.ntmps153
   go_wp2_with fail
   with_reducible refine c1.out.mono ?_
   rintro e w1 ⟨cp,rfl,hcp,hB,g1⟩
   have c2:=λ f=>hid (after_no (f:=f) (.inl rfl) hB)
   go_wp2_with fail
   with_reducible refine (c2 _).out.mono ?_
   rintro e w2 ⟨rfl,g2⟩
   go_wp2_with fail
   go_ret2
   exact got_err 1 (g1.trans g2)
end
section
variable {A:Option Addr} {n c:Nat} {l:List G} {who:Int}
theorem Ready_is (hn:n<=9223372036854775807) (w:World) (hm:GMem w A n l) :
 Calls Tryz.prog 162 #[.slice A n c,.int .i64 who] w (Got w (outc rdG l who)):=by
 have hmf:=mkF
 have hl:=hm.1
 by_cases hr:rightB l=true
 . by_cases hw:who<0\/n<=who
   . rw [outc_range hr (by rw [hl];exact hw)]
     have c1:=hid (choose_range (c:=c) hn hr hw hm)
     clear hm hr hw
     go_enter Tryz.func162,Tryz.ntmps162
     go_wp2_with fail
     with_reducible refine c1.out.mono ?_
     rintro e w1 ⟨cp,rfl,hcp,hB,g1⟩
     have c2:=λ f=>hid (after_no (f:=f) (.inr rfl) hB)
     go_wp2_with fail
     with_reducible refine (c2 _).out.mono ?_
     rintro e w2 ⟨rfl,g2⟩
     go_wp2_with fail
     go_ret2
     exact got_err 3 (g1.trans g2)
   . obtain⟨k,rfl⟩:∃ k:Nat,who=(k:Int):=⟨who.toNat,by omega⟩
     have hk:k<n:=by omega
     obtain⟨x,hx⟩:∃ x,l[k]?=some x:=⟨_,List.getElem?_eq_getElem (by omega)⟩
     rw [outc_at hr hx]
     have hbx:=hm.2.1 x (List.mem_of_getElem? hx)
     have HB:=hid hm.2.1
     have HX:=hid hx
     have c1:=hid (choose_ok (c:=c) hn hr hk hm)
     obtain⟨⟨q,y⟩,hp⟩:∃ r,rdG x=r:=⟨_,rfl⟩
     have hy:=b64_rd hbx
     have hq:=err_rd x
     rw [hp] at hy hq ⊢
     have HP:=hid hp
     clear hm hr hw hx hp
     rcases hq with hq | hq
     . obtain rfl:q=0:=hq
       rw [if_pos rfl]
       go_enter Tryz.func162,Tryz.ntmps162
       go_wp2_with fail
       with_reducible refine c1.out.mono ?_
       rintro e w1 ⟨cp,g,rfl,hcp,hg,hC,g1⟩
       have c2:=hid (after_yes (enters_of Tryz.func202 (by kernel_rfl) rfl) ready_is hC HX.out hg HP.out)
       rw [hl] at c2
       clear hC
       go_wp2_with fail
       with_reducible refine c2.out.mono ?_
       rintro e w2 ⟨rfl,g2,hv⟩
       have HV:=hid hv
       clear hv
       go_wp2_with fail
       go_ret2
       exact got_yes hl hg (b64_set HB.out hy) HV.out (g1.trans' g2)
     . rw [if_neg (by show q≠0;omega)]
       go_enter Tryz.func162,Tryz.ntmps162
       go_wp2_with fail
       with_reducible refine c1.out.mono ?_
       rintro e w1 ⟨cp,g,rfl,hcp,hg,hC,g1⟩
       have c2:=hid (after_err (enters_of Tryz.func202 (by kernel_rfl) rfl) ready_is hC HX.out hg (by rw [HP.out]) hq)
       clear hC
       go_wp2_with fail
       with_reducible refine c2.out.mono ?_
       rintro e w2 ⟨rfl,g2⟩
       go_wp2_with fail
       go_ret2
       exact got_err q (g1.trans' g2)
 . have hr0:rightB l=false:=by simpa using hr
   rw [outc_arg hr0]
   have c1:=hid (choose_arg (c:=c) (who:=who) hn hr0 hm)
   clear hm hr hr0
   go_enter Tryz.func162,Tryz.ntmps162
   go_wp2_with fail
   with_reducible refine c1.out.mono ?_
   rintro e w1 ⟨cp,rfl,hcp,hB,g1⟩
   have c2:=λ f=>hid (after_no (f:=f) (.inl rfl) hB)
   go_wp2_with fail
   with_reducible refine (c2 _).out.mono ?_
   rintro e w2 ⟨rfl,g2⟩
   go_wp2_with fail
   go_ret2
   exact got_err 1 (g1.trans g2)
end
section
variable {A:Option Addr} {n c:Nat} {l:List G} {who:Int}
theorem End_is (hn:n<=9223372036854775807) (w:World) (hm:GMem w A n l) :
 Calls Tryz.prog 65 #[.slice A n c,.int .i64 who] w (Got w (outc enG l who)):=by
 have hmf:=mkF
 have hl:=hm.1
 by_cases hr:rightB l=true
 . by_cases hw:who<0\/n<=who
   . rw [outc_range hr (by rw [hl];exact hw)]
     have c1:=hid (choose_range (c:=c) hn hr hw hm)
     clear hm hr hw
     go_enter Tryz.func65,Tryz.ntmps65
     go_wp2_with fail
     with_reducible refine c1.out.mono ?_
     rintro e w1 ⟨cp,rfl,hcp,hB,g1⟩
     have c2:=λ f=>hid (after_no (f:=f) (.inr rfl) hB)
     go_wp2_with fail
     with_reducible refine (c2 _).out.mono ?_
     rintro e w2 ⟨rfl,g2⟩
     go_wp2_with fail
     go_ret2
     exact got_err 3 (g1.trans g2)
   . obtain⟨k,rfl⟩:∃ k:Nat,who=(k:Int):=⟨who.toNat,by omega⟩
     have hk:k<n:=by omega
     obtain⟨x,hx⟩:∃ x,l[k]?=some x:=⟨_,List.getElem?_eq_getElem (by omega)⟩
     rw [outc_at hr hx]
     have hbx:=hm.2.1 x (List.mem_of_getElem? hx)
     have HB:=hid hm.2.1
     have HX:=hid hx
     have c1:=hid (choose_ok (c:=c) hn hr hk hm)
     obtain⟨⟨q,y⟩,hp⟩:∃ r,enG x=r:=⟨_,rfl⟩
     have hy:=b64_en hbx
     have hq:=err_en x
     rw [hp] at hy hq ⊢
     have HP:=hid hp
     clear hm hr hw hx hp
     rcases hq with hq | hq
     . obtain rfl:q=0:=hq
       rw [if_pos rfl]
       go_enter Tryz.func65,Tryz.ntmps65
       go_wp2_with fail
       with_reducible refine c1.out.mono ?_
       rintro e w1 ⟨cp,g,rfl,hcp,hg,hC,g1⟩
       have c2:=hid (after_yes (enters_of Tryz.func87 (by kernel_rfl) rfl) end_is hC HX.out hg HP.out)
       rw [hl] at c2
       clear hC
       go_wp2_with fail
       with_reducible refine c2.out.mono ?_
       rintro e w2 ⟨rfl,g2,hv⟩
       have HV:=hid hv
       clear hv
       go_wp2_with fail
       go_ret2
       exact got_yes hl hg (b64_set HB.out hy) HV.out (g1.trans' g2)
     . rw [if_neg (by show q≠0;omega)]
       go_enter Tryz.func65,Tryz.ntmps65
       go_wp2_with fail
       with_reducible refine c1.out.mono ?_
       rintro e w1 ⟨cp,g,rfl,hcp,hg,hC,g1⟩
       have c2:=hid (after_err (enters_of Tryz.func87 (by kernel_rfl) rfl) end_is hC HX.out hg (by rw [HP.out]) hq)
       clear hC
       go_wp2_with fail
       with_reducible refine c2.out.mono ?_
       rintro e w2 ⟨rfl,g2⟩
       go_wp2_with fail
       go_ret2
       exact got_err q (g1.trans' g2)
 . have hr0:rightB l=false:=by simpa using hr
   rw [outc_arg hr0]
   have c1:=hid (choose_arg (c:=c) (who:=who) hn hr0 hm)
   clear hm hr hr0
   go_enter Tryz.func65,Tryz.ntmps65
   go_wp2_with fail
   with_reducible refine c1.out.mono ?_
   rintro e w1 ⟨cp,rfl,hcp,hB,g1⟩
   have c2:=λ f=>hid (after_no (f:=f) (.inl rfl) hB)
   go_wp2_with fail
   with_reducible refine (c2 _).out.mono ?_
   rintro e w2 ⟨rfl,g2⟩
   go_wp2_with fail
   go_ret2
   exact got_err 1 (g1.trans g2)
end
def rnK (l:List G) (k:Nat):List Int:=((List.range k).filter λ (i:Nat)=>(l[i]?.map (λ x:G=>x.1))==some 0).map λ (i:Nat)=>(i:Int)
def rn (l:List G):List Int:=rnK l l.length
theorem rnK_yes {l:List G} {k:Nat} {x:G} (h:l[k]?=some x) (hx:x.1=0):rnK l (k+1)=rnK l k++[(k:Int)]:=by
 simp [rnK,List.range_succ,h,hx]
theorem rnK_no {l:List G} {k:Nat} {x:G} (h:l[k]?=some x) (hx:x.1≠0):rnK l (k+1)=rnK l k:=by
 simp [rnK,List.range_succ,h,hx]
theorem rnK_cnt (l:List G) (k:Nat) (hk:k<=l.length):(rnK l k).length=(l.take k).countP (λ x=>x.1==0):=by
 induction k with
 | zero=>simp [rnK]
 | succ k ih =>
  have hx:l[k]?=some l[k]:=List.getElem?_eq_getElem (by omega)
  rw [List.take_succ_eq_append_getElem (by omega),List.countP_append,<- ih (by omega)]
  by_cases h0:l[k].1=0
  . rw [rnK_yes hx h0];simp [h0]
  . rw [rnK_no hx h0];simp [h0]
theorem rn_cnt (l:List G):(rn l).length=l.countP (λ x=>x.1==0):=by
 rw [rn,rnK_cnt l _ (Nat.le_refl _),List.take_length]
section
variable {A:Option Addr} {n c:Nat} {l:List G}
theorem Runnable_yes (hn:n<=9223372036854775807) (hr:rightB l=true) (w:World) (hm:GMem w A n l) :
 Calls Tryz.prog 24 #[.slice A n c] w λ e w'=>∃ C d,e=.returned (.tuple #[.slice C (rn l).length d,.int .i64 0])/\IOwn w.heap.size w' C (rn l).length d (rn l)/\Gr w w':=by
 have h8:n<=8:=by have:=hm.1;simp [rightB] at hr;omega
 have c1:=hid (Right_is (c:=c) hr hn w hm)
 obtain⟨i0,hi0,hz0,hz1,hz2⟩:=info_parts infoInt
 have HZ:=hid hz0
 have HZ1:=hid hz1
 have HZ2:=hid hz2
 have HI0:=hid hi0
 have HM:=hid hm
 clear hz0 hz1 hz2 hi0 hm hr
 go_enter Tryz.func24,Tryz.ntmps24
 go_wp2_with fail
 with_reducible refine c1.out.mono ?_
 rintro e w1 ⟨rfl,g1⟩
 go_wp2_with fail
 go_loopw [4,12] (λ L i wr=>∃ (k q:Nat) (C:Option Addr) (d:Nat),k<=n/\q<=k/\i=.int .i64 (k:Int)/\L=.slice C q d/\Hid (IOwn w.heap.size wr C q d (rnK l k))/\Hid (Gr w wr)) (λ _ i _=>n-(intOf i).toNat)
 case atStart=>exact⟨0,0,_,0,Nat.zero_le _,Nat.zero_le _,rfl,rfl,hid OMem.nil_,hid g1⟩
 case round =>
  obtain⟨k,q,C,d,hk,hq,rfl,rfl,HO,HG⟩:=hrel
  by_cases hlt:k<n
  . obtain⟨b,off,x,rfl,hbl,hx,hix,cx,cy⟩:=(HM.out.gr HG.out).at_ hlt
    have HX:=hid hx
    clear hx
    obtain⟨s,p⟩:=x
    by_cases he:s=0
    . subst he
      have H1:=hid (rnK_yes HX.out rfl)
      go_wp2_with (at_builtin;refine Mark.stop ?_)
      refine Mark.go ?_
      refine wpList_append_omem _ (Value.int .i64) B64 rfl (.tmp 20) (.tmp 22) 23 rfl (λ _=>rfl) w.heap.size 3 i0 (.int .i64 0) 8 Tryz.underlying23 HI0.out HZ.out HZ1.out HZ2.out rfl C q d _ rfl (HO.out.gr (((Gr.refl _).al _).al _)) _ 1 1 [(k:Int)] rfl (emem_one' _ (k:Int) ⟨by omega,by omega⟩ _ (by simp)) (by unfold maxLen;omega) (by omega) ((HG.out.al _).al _).size ?_
      intro C3 k3 w3 own3 gb3
      rw [<- H1.out] at own3
      have O3:=hid own3
      have G3:=hid (((HG.out.al (.cells #[.int .i64 0,.bool p] 51)).al (.cells #[.int .i64 (k:Int)] 3)).gb gb3 (λ k hk=>(HO.out.lt k hk).1))
      clear gb3 own3
      go_wp2_with fail
      go_roundw
      case rel=>exact⟨k+1,q+1,C3,k3,by omega,by omega,by go_num,rfl,O3,G3⟩
      case measure=>simp [intOf];omega
    . have ne:(s==0)=false:=beq_eq_false_iff_ne.2 he
      have H1:=hid (rnK_no HX.out he)
      go_wp2_with fail
      go_roundw
      case rel=>exact⟨k+1,q,C,d,by omega,by omega,by go_num,rfl,hid (by rw [H1.out];exact HO.out.gr ((Gr.refl _).al _)),hid (HG.out.al _)⟩
      case measure=>simp [intOf];omega
  . obtain rfl:k=n:=by omega
    have own:=HO.out
    rw [<- HM.out.1] at own
    have hq:q=(rn l).length:=own.mem.1.symm
    subst hq
    go_wp2_with fail
    go_ret2
    exact⟨C,d,rfl,own,HG.out⟩
end
end P11
end
section
open Go.ChangeShapes Go.WideShapes Go.ChangeAt Go.RowKit
namespace P11
def GotN (w:World) (N:Nat) (q:Int) (R:List G) (e:Ending) (w':World):Prop :=
 ∃ B m,e=.returned (.tuple #[.slice B N m,.int .i64 q])/\GMem w' B N R/\N<=m/\Late w.heap.size B/\Gr w w'
theorem got_n {w w':World} {N:Nat} {q:Int} {R:List G} {e:Ending} (h:Got w (q,R) e w') (hl:R.length=N):GotN w N q R e w':=by
 obtain⟨B,m,h1,h2,h3,h4,h5⟩:=h
 simp only [hl] at h1 h2 h4
 exact⟨B,m,h1,h2,h4,h3,h5⟩
section
variable {A:Option Addr} {n c N:Nat} {l R:List G} {who q:Int} {w:World}
theorem Park_at (hn:n<=9223372036854775807) (hr:outc pkG l who=(q,R)) (hl:R.length=N) (w:World) (hm:GMem w A n l) :
 Calls Tryz.prog 153 #[.slice A n c,.int .i64 who] w (GotN w N q R) :=
 (Park_is hn w hm).mono λ _ _ h=>got_n (hr▸h) hl
theorem Ready_at (hn:n<=9223372036854775807) (hr:outc rdG l who=(q,R)) (hl:R.length=N) (w:World) (hm:GMem w A n l) :
 Calls Tryz.prog 162 #[.slice A n c,.int .i64 who] w (GotN w N q R) :=
 (Ready_is hn w hm).mono λ _ _ h=>got_n (hr▸h) hl
theorem End_at (hn:n<=9223372036854775807) (hr:outc enG l who=(q,R)) (hl:R.length=N) (w:World) (hm:GMem w A n l) :
 Calls Tryz.prog 65 #[.slice A n c,.int .i64 who] w (GotN w N q R) :=
 (End_is hn w hm).mono λ _ _ h=>got_n (hr▸h) hl
end
theorem Runnable_at {A:Option Addr} {n c v:Nat} {l:List G} (hn:n<=9223372036854775807) (hr:rightB l=true) (hv:(rn l).length=v) (w:World) (hm:GMem w A n l) :
 Calls Tryz.prog 24 #[.slice A n c] w λ e w'=>∃ C d,e=.returned (.tuple #[.slice C v d,.int .i64 0])/\IMem w' C v (rn l)/\v<=d/\Gr w w' :=
 (Runnable_yes hn hr w hm).mono λ _ _ h=>by
   obtain⟨C,d,h1,h2,h3⟩:=h
   rw [hv] at h1 h2
   exact⟨C,d,h1,h2.mem,h2.le,h3⟩
end P11
end
section
open Go.ChangeShapes Go.WideShapes Go.ChangeAt Go.RowKit Go.Shelf
namespace P16
def gor (c:Cl):P11.G:=(c.gst,c.permit)
abbrev gV (x:P11.G):List Value:=[.int .i64 x.1,.bool x.2]
theorem gV_len (x:P11.G):(gV x).length=2:=rfl
theorem ORow.gmem {W:World} {b n:Nat} {l:List P11.G} (h:ORow gV 2 W b 0 l) (hl:l.length=n) (hb:∀ x∈l,B64 x.1):P11.GMem W (some ⟨b,0,none⟩) n l :=
 ⟨hl,hb,λ _=>⟨b,0,rfl,h.lt,λ j u hu=>by
   obtain⟨i,x,hx,q⟩:=P11.flat_inv l j u hu
   rcases q with ⟨rfl,rfl⟩ | ⟨rfl,rfl⟩
   . exact (h.at_ (j:=0) hx rfl).1
   . have:=(h.at_ (j:=1) hx rfl).1
     rwa [Nat.add_assoc] at this⟩⟩
theorem gors_zero (w:World) (n:Nat):ORow gV 2 (w.alloc (.cells (madeCells #[.int .i64 0,.bool false] (n*2)) 51)) w.heap.size 0 (List.replicate n (0,false)):=by
 refine⟨_,_,Blk.new w _ _,λ i x hx j v hv=>?_⟩
 have hi:i<n:=by have:=(List.getElem?_eq_some_iff.1 hx).1;rwa [List.length_replicate] at this
 rw [List.getElem?_replicate,if_pos hi] at hx
 cases hx
 have hj:j<2:=(List.getElem?_eq_some_iff.1 hv).1
 unfold madeCells
 rw [Array.getElem?_map,Array.getElem?_range,if_pos (by omega),<- hv]
 rcases j with _ | _ | j
 . simp
 . simp [Nat.add_mod]
 . omega
theorem fill_set {α β:Type} {f:α->β} {l:List α} {k n:Nat} {y:α} {z:β} (hy:l[k]?=some y) (hl:l.length=n) (v:β) (hv:v=f y) :
 ((l.take k).map f++List.replicate (n-k) z).set k v=(l.take (k+1)).map f++List.replicate (n-(k+1)) z:=by
 have hk:=(List.getElem?_eq_some_iff.1 hy).1
 have e:n-k=n-(k+1)+1:=by omega
 rw [List.set_append_right _ _ (by rw [List.length_map,List.length_take];omega),List.length_map,List.length_take,Nat.min_eq_left (by omega),Nat.sub_self,e,List.replicate_succ,List.set_cons_zero,List.take_add_one,hy]
 simp [hv]
section
variable {w:World} {A:Option Addr} {n c:Nat} {l:List Cl}
theorem gors_is (hm:CMem w A n l) (hn:n<=1000) :
 Calls Tryz.prog 70 #[.slice A n c] w λ e w'=>e=.returned (.slice (some ⟨w.heap.size,0,none⟩) n n)/\P11.GMem w' (some ⟨w.heap.size,0,none⟩) n (l.map gor)/\Gr w w':=by
 obtain⟨i0,hi0,hz0,hz1,hz2⟩:=P12.info_parts P11.infoGor
 dsimp only at hz0 hz1 hz2
 have hmk:=λ w=>run_makeN (P:=Tryz.prog) 70 51 i0 _ Tryz.underlying70 hi0 hz0 n (by rw [hz2];omega) (by omega) w
 rw [hz1] at hmk
 have Z:=gors_zero w n
 obtain⟨V,hV⟩:∃ V,madeCells #[.int .i64 0,.bool false] (n*2)=V:=⟨_,rfl⟩
 have hmk':∀ w,(Instr.makeSlice 70 (.int .i64 (n:Int)) (.int .i64 (n:Int))).run Tryz.prog w=.ok (.slice (some ⟨w.heap.size,0,none⟩) n n) (w.alloc (.cells V 51)):=λ w=>by rw [<- hV];exact hmk w
 rw [hV] at Z
 have HV:=hid hV
 have HM:=hid hm
 have H0:=hid (show ORow gV 2 (w.alloc (.cells V 51)) w.heap.size 0 ((l.take 0).map gor++List.replicate (n-0) (0,false)) from by simpa using Z)
 clear hV hmk hi0 hz0 hz1 hz2 Z hm
 go_enter Tryz.func70,Tryz.ntmps70
 go_wp2_with fail
 go_loopw [11] (λ i wr=>∃ k:Nat,k<=n/\i=.int .i64 k/\Hid (ORow gV 2 wr w.heap.size 0 ((l.take k).map gor++List.replicate (n-k) (0,false)))/\Hid (Gr w wr)) (λ i _=>n-(intOf i).toNat)
 case atStart=>exact⟨0,Nat.zero_le _,rfl,H0,hid ((Gr.refl w).al _)⟩
 case round =>
  obtain⟨k,hk,rfl,HO,HG⟩:=hrel
  by_cases hlt:k<n
  . have hlb:=HO.out.lt
    obtain⟨b,off,y,rfl,hb,hy,okx,c0,c1,c2,c3,c4,c5,c6,c7,c8,c9,c10,c11,c12⟩:=CMem.cells (RMem.gr HM.out HG.out) hlt
    have k0:(0:Int)<=(k:Int):=by omega
    have k1:(k:Int)<(n:Int):=by omega
    have hne:w.heap.size≠wr.heap.size:=by omega
    have hz:((l.take k).map gor++List.replicate (n-k) (0,false))[k]?=some (0,false):=by
     have hl:=HM.out.len
     rw [List.getElem?_append_right (by rw [List.length_map,List.length_take];omega),List.length_map,List.length_take,List.getElem?_replicate,if_pos (by omega)]
    obtain⟨g0,f0⟩:=HO.out.at_ (j:=0) hz rfl
    obtain⟨g1,f1⟩:=HO.out.at_ (j:=1) hz rfl
    rw [Nat.zero_add,Nat.add_zero] at g0 f0
    rw [Nat.zero_add] at g1 f1
    have HY:=hid hy
    have HZ:=hid hz
    clear hy hz okx
    go_wp2_with fail
    go_roundw
    case rel =>
     have h1:=HO.out.put gV_len HZ.out (j:=0) (v:=.int .i64 y.gst) (y:=(y.gst,false)) (by decide) rfl
     have h2:=h1.put gV_len (i:=k) (x:=(y.gst,false)) (by rw [List.getElem?_set_self (List.getElem?_eq_some_iff.1 HZ.out).1]) (j:=1) (v:=.bool y.permit) (y:=gor y) (by decide) rfl
     rw [List.set_set,fill_set HY.out HM.out.len _ rfl] at h2
     simp only [Nat.zero_add,Nat.add_zero] at h2
     exact⟨k+1,by omega,by go_num,hid (h2.gr ((Gr.refl _).al _)),hid (((HG.out.st (p:=⟨w.heap.size,k*2,none⟩) (Nat.le_refl _) _).st (p:=⟨w.heap.size,k*2+1,none⟩) (Nat.le_refl _) _).al _)⟩
    case measure=>simp [intOf];omega
  . obtain rfl:k=n:=by omega
    have h1:=HO.out
    have hl:=HM.out.len
    rw [Nat.sub_self,List.replicate_zero,List.append_nil,List.take_of_length_le (by omega)] at h1
    have hb:=HM.out.all
    clear HO HM
    go_wp2_with fail
    go_ret
    exact⟨rfl,h1.gmem (by rw [List.length_map];exact hl) (λ z hz=>by obtain⟨y,hy,rfl⟩:=List.mem_map.1 hz;exact (hb y hy).gst),HG.out⟩
end
end P16
end
end Go.Proofs.YtainfijdhcehlaaGreatDoor
