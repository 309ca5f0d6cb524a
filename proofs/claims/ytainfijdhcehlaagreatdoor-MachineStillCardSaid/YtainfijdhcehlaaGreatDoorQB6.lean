/-
  A part of the proof.
-/
import Derived.Test.YtainfijdhcehlaaGreatDoorQB3
import Derived.Test.YtainfijdhcehlaaGreatDoorQB4
import Derived.Test.YtainfijdhcehlaaGreatDoorQB5
import Derived.RangeFuncNested
import Derived.RangeFuncBound
import Derived.RangeFuncCalls
import Derived.RangeFuncLeaves
import Derived.Shelf.Abstract
import Derived.OwnWalkIn
import Derived.TacticsInMore
import Derived.LoopNIn
import Derived.LoopIn
set_option linter.unusedVariables false
set_option linter.unusedSimpArgs false
set_option maxRecDepth 100000
set_option maxHeartbeats 8000000
namespace Go.Proofs.YtainfijdhcehlaaGreatDoor
open Lib (hid)
section
open Go.ChangeShapes Go.WideShapes Go.ChangeAt Go.RowKit Go.Shelf
def NextR (l:List Nd) (r x d e:Int):Prop:=(¬ IsKey x/\d=0/\e=1)\/(IsKey x/\(¬ ∃ t,Good l r t)/\d=0/\e=1) \/
 (IsKey x/\∃ t,Good l r t/\((t.inord.find? (λ k=>decide (x<=k))=none/\d=0/\e=4)\/(t.inord.find? (λ k=>decide (x<=k))=some d/\e=0)))
section
variable {w0 W:World} {r:Int} {A:Option Addr} {n c tb kb sb:Nat} {x v:Int} {l:List Nd} {t:T}
theorem Next_is (hm:NMem w0 A n l) {d e:Int} (h:NextR l r x d e) :
 Calls Tryz.prog 229 #[.agg #[.int .i64 r,.slice A n c],.int .i64 x] w0 λ ee w'=>ee=.returned (.tuple #[.int .i64 d,.int .i64 e])/\Gr w0 w':=by
 have g0:=((Gr.refl w0).al (.cells #[.int .i64 r,.slice A n c] 281)).al (.cells #[.int .i64 x] 3)
 have hP:=λ W=>Pri_is x W
 obtain⟨p,hp⟩:∃ p,prf x=p:=⟨_,rfl⟩
 rw [hp] at hP
 have KP:=hid hP
 have hpr:=pri_range x
 rcases h with ⟨h1,rfl,rfl⟩ | ⟨h1,h2,rfl,rfl⟩ | ⟨h1,t,hg,hcase⟩
 . have hp0:p<0:=by rw [<- hp,prf_no h1];decide
   clear hP hp
   go_enter Tryz.func229,Tryz.ntmps229
   go_wp2_with fail
   with_reducible refine (KP.out _).mono ?_
   rintro e w1 ⟨rfl,rfl⟩
   go_wp2_with fail
   go_ret2
   exact⟨rfl,g0⟩
 . have hp0:¬ p<0:=by rw [<- hp,prf_key h1];omega
   have hC:=hid (Right_is (c:=c) (hm.gr g0) (v:=false) (r:=r) ⟨λ h=>(by cases h),λ h=>absurd h h2⟩)
   clear hP hp h2
   go_enter Tryz.func229,Tryz.ntmps229
   go_wp2_with fail
   with_reducible refine (KP.out _).mono ?_
   rintro e w1 ⟨rfl,rfl⟩
   go_wp2_with fail
   with_reducible refine hC.out.mono ?_
   rintro e w1 ⟨rfl,hb1⟩
   go_wp2_with fail
   go_ret2
   exact⟨rfl,g0.trans hb1⟩
 . have hp0:¬ p<0:=by rw [<- hp,prf_key h1];omega
   have hC:=hid (Right_is (c:=c) (hm.gr g0) (v:=true) (r:=r) ⟨λ _=>⟨t,hg⟩,λ _=>rfl⟩)
   have B0:=(Blk.new w0 #[.int .i64 r,.slice A n c] 281).al (.cells #[.int .i64 x] 3)
   have B1:=Blk.new (w0.alloc (.cells #[.int .i64 r,.slice A n c] 281)) #[.int .i64 x] 3
   have HM:=hid hm
   have HG:=hid hg
   have HC:=hid hcase
   have hsz:w0.heap.size+2=((w0.alloc (.cells #[.int .i64 r,.slice A n c] 281)).alloc (.cells #[.int .i64 x] 3)).heap.size:=by simp
   simp only [World.size_alloc] at B1
   clear hP hp hm hg hcase
   go_enter Tryz.func229,Tryz.ntmps229
   go_wp2_with fail
   with_reducible refine (KP.out _).mono ?_
   rintro e w1 ⟨rfl,rfl⟩
   go_wp2_with fail
   with_reducible refine hC.out.mono ?_
   rintro e w2 ⟨rfl,hb1⟩
   have hFW:FW w0 r A n c w0.heap.size (w0.heap.size+1) w2.heap.size x (-1) (w2.alloc (.cells #[.int .i64 (-1)] 3)):=by
    have:=hb1.size
    exact⟨(g0.trans hb1).al _,(B0.gr hb1).al _,(B1.gr hb1).al _,Blk.new _ _ _,by omega,by omega,by omega⟩
   obtain⟨pb,po,hway⟩:=next_way HM.out HG.out hFW
   rw [nx_find HG.out.2.2.2.1] at hway
   have KW:=hid hway
   clear hway hsz
   rcases HC.out with ⟨m,rfl,rfl⟩ | ⟨m,rfl⟩
   . rw [m] at KW
     clear HC m
     go_wp2_with fail
     with_reducible refine KW.out.mono ?_
     rintro e w3 ⟨rfl,hF⟩
     have f0:w3.cell? ⟨w2.heap.size,0,none⟩=some (.int .i64 (-1)):=(hF.b2.at_ (k:=0) rfl).1
     have GF:=hid hF.gr
     clear hF KW hFW
     go_wp2_with fail
     go_ret2
     exact⟨rfl,GF.out⟩
   . rw [m] at KW
     have hd:¬ d<0:=by
      have:=(HG.out.isKey (List.mem_of_find?_eq_some m)).1;omega
     clear HC m
     go_wp2_with fail
     with_reducible refine KW.out.mono ?_
     rintro e w3 ⟨rfl,hF⟩
     have f0:w3.cell? ⟨w2.heap.size,0,none⟩=some (.int .i64 d):=(hF.b2.at_ (k:=0) rfl).1
     have GF:=hid hF.gr
     clear hF KW hFW
     go_wp2_with fail
     go_ret2
     exact⟨rfl,GF.out⟩
end
end
section
open Go.ChangeShapes Go.WideShapes Go.ChangeAt Go.RowKit
theorem good_nil:Good [] (-1) .nil:=⟨rfl,rfl,by simp,trivial,trivial⟩
def Holds (base:Nat) (w:World) (tb:Nat) (K:List Int):Prop :=
 ∃ r A n c l t,Blk w tb #[.int .i64 r,.slice A n c] 281/\NMem w A n l/\Good l r t/\t.inord=K/\∀ k,A.map (·.block)=some k->base<k/\k≠tb
theorem Holds.gr {base:Nat} {w w':World} {tb:Nat} {K:List Int} (h:Holds base w tb K) (g:Gr w w'):Holds base w' tb K:=by
 obtain⟨r,A,n,c,l,t,h1,h2,h3,h4,h5⟩:=h
 exact⟨r,A,n,c,l,t,h1.gr g,h2.gr g,h3,h4,h5⟩
theorem und_new {L:List SV} {k:Nat} {x:SV} (h:TOk L) (hx:L[k]?=some x):x.addr ∉ und (L.take k) (rt x.addr):=λ hm=>by
 obtain⟨y,hy,e,_⟩:=mem_und.1 hm
 obtain⟨j,hj⟩:=List.mem_iff_getElem?.1 hy
 rw [List.getElem?_take] at hj
 split at hj
 . have:=h.at_ (by assumption) hj hx
   rw [e] at this
   exact this.irrefl
 . cases hj
section
variable {w:World} {A:Option Addr} {n c:Nat} {L:List SV}
theorem grown_is (hm:SMem w A n L) (ht:Tab L) (r:Int) :
 Calls Tryz.prog 230 #[.slice A n c,.int .i64 r] w λ e w' =>
  ∃ r' A' n' c' l t,e=.returned (.agg #[.int .i64 r',.slice A' n' c'])/\NMem w' A' n' l/\Good l r' t/\t.inord=und L r/\Gr w w':=by
 have hlen:=hm.1
 have HM:=hid hm
 have HT:=hid ht
 have hn:n<=64:=by have:=ht.1;omega
 have g0:=(Gr.refl w).al (.cells #[.int .i64 0,.slice none 0 0] 281)
 have B0:=Blk.new w #[.int .i64 0,.slice none 0 0] 281
 clear hm ht
 go_enter Tryz.func230,Tryz.ntmps230
 go_wp2_with fail
 with_reducible refine (New_is _).mono ?_
 rintro e w1 ⟨rfl,hb1⟩
 have G1:=g0.trans hb1
 have BR:=B0.gr hb1
 have BT:=Blk.new w1 #[.int .i64 (-1),.slice none 0 0] 281
 have HH:=hid (show Holds w.heap.size (w1.alloc (.cells #[.int .i64 (-1),.slice none 0 0] 281)) w1.heap.size (und (L.take 0) r) from ⟨-1,none,0,0,[],.nil,BT,NMem.nil_,good_nil,by simp [und,T.inord],λ k hk=>by cases hk⟩)
 have HG:=hid (G1.al (.cells #[.int .i64 (-1),.slice none 0 0] 281))
 have HR:=hid (BR.al (.cells #[.int .i64 (-1),.slice none 0 0] 281))
 have hlt:=BR.lt
 have hw:=G1.size
 clear g0 B0 hb1 G1 BR BT
 obtain⟨tb,htb⟩:∃ tb,w1.heap.size=tb:=⟨_,rfl⟩
 have hge:w.heap.size<tb:=by omega
 go_wp2_with fail
 rw [htb] at HH
 clear htb hlt hw
 go_loopw [13] (λ i wr=>∃ k:Nat,k<=n/\i=.int .i64 (k:Int)/\Hid (Holds w.heap.size wr tb (und (L.take k) r))/\Hid (Gr w wr)/\Hid (Blk wr w.heap.size #[.int .i64 0,.slice none 0 0] 281)) (λ i _=>n-(intOf i).toNat)
 case atStart=>exact⟨0,Nat.zero_le _,rfl,HH,HG,HR⟩
 case round =>
  clear HH HG HR
  obtain⟨k,hk,rfl,HH,HG,HR⟩:=hrel
  by_cases hlt:k<n
  . obtain⟨b,off,x,rfl,hbl,hx,hok,d0,d1,d2⟩:=(HM.out.gr HG.out).at_ hlt
    have HX:=hid hx
    have k0:(0:Int)<=(k:Int):=by omega
    have k1:(k:Int)<(n:Int):=by omega
    have hkey:=Tab.key HT.out.2 (List.mem_of_getElem? hx)
    have C1:=hid (λ W=>Root_is x.addr W)
    rw [rf_key hkey,re_key hkey] at C1
    have hak:=hid hkey
    have g1:=hid ((Gr.refl wr).al (.cells #[.int .i64 x.addr,.int .i64 x.cnt,.slice x.A x.n x.c] 91))
    have BX:=Blk.new wr #[.int .i64 x.addr,.int .i64 x.cnt,.slice x.A x.n x.c] 91
    have HBX:=hid BX
    clear hx hok hkey
    go_wp2_with fail
    with_reducible refine (C1.out _).mono ?_
    rintro e w2 ⟨rfl,rfl⟩
    by_cases hr:rt x.addr=r
    . subst hr
      obtain⟨r0,A0,n0,c0,l0,t0,HB0,HN0,HG0,HI0,HA0⟩:=HH.out.gr g1.out
      have hu:Hid (und (L.take (k+1)) (rt x.addr)=und (L.take k) (rt x.addr)++[x.addr]):=hid (by rw [take_snoc HX.out,und_snoc_hit rfl])
      have hnew:x.addr ∉ t0.inord:=by rw [HI0];exact und_new HT.out.2 HX.out
      have h64:l0.length≠64:=by
       have e1:t0.inord.length=l0.length:=by rw [T.inord_len,HG0.2.1]
       have e2:=und_len (L.take k) (rt x.addr)
       rw [<- HI0,List.length_take] at e2
       omega
      have hC:=hid (Put_ok (c:=c0) HN0 HG0 hak.out hnew h64)
      have HI:=hid HI0
      have HBB:=hid HB0
      have G2:=hid (HG.out.trans g1.out)
      have R2:=hid (HR.out.gr g1.out)
      have f0:=(HB0.at_ (k:=0) rfl).1
      have f1:=(HB0.at_ (k:=1) rfl).1
      have htl:=HB0.lt
      have s1:=hnew
      clear C1 HB0 HN0 HG0 HI0 HA0 hnew h64 s1 HH
      have bx0:=(BX.at_ (k:=0) rfl).1
      clear BX
      go_wp2_with fail
      with_reducible refine hC.out.mono ?_
      rintro e w3 ⟨r3,g3,l3,t3,rfl,hm3,hg3,hk3,hb3,hge3⟩
      have BT3:=HBB.out.gr hb3
      obtain⟨p0,z0⟩:=BT3.at_ (k:=0) rfl
      obtain⟨p1,z1⟩:=BT3.at_ (k:=1) rfl
      have hne3:g3≠tb:=by omega
      have hi3:t3.inord=und (L.take (k+1)) (rt x.addr):=by
       refine rising_ext hg3.2.2.2.1.rising (und_rising (HT.out.2.take _) _) λ y=>?_
       rw [hk3 y,hu.out,List.mem_append,List.mem_singleton,HI.out]
       exact⟨λ h=>h.symm,λ h=>h.symm⟩
      have H3:=hid (show Holds w.heap.size ((w3.setCell ⟨tb,0,none⟩ (.int .i64 r3)).setCell ⟨tb,1,none⟩ (.slice (some ⟨g3,0,none⟩) (n0+1) (n0+1))) tb (und (L.take (k+1)) (rt x.addr)) from
       ⟨r3,some ⟨g3,0,none⟩,n0+1,n0+1,l3,t3,(BT3.set 0 (.int .i64 r3)).set 1 (.slice (some ⟨g3,0,none⟩) (n0+1) (n0+1)),hm3.stays (by simp [World.setCell]) (λ k hk _=>by
         cases hk
         exact (Below.heap_setCell _ ⟨tb,1,none⟩ _ g3 hne3).trans (Below.heap_setCell _ ⟨tb,0,none⟩ _ g3 hne3)),hg3,hi3,λ k hk=>by cases hk;exact⟨show w.heap.size<g3 by omega,hne3⟩⟩)
      have G3:=hid (((G2.out.trans hb3).st (p:=⟨tb,0,none⟩) (by show w.heap.size<=tb;omega) (.int .i64 r3)).st (p:=⟨tb,1,none⟩) (by show w.heap.size<=tb;omega) (.slice (some ⟨g3,0,none⟩) (n0+1) (n0+1)))
      have R3:=hid (((R2.out.gr hb3).st (p:=⟨tb,0,none⟩) (by show tb≠w.heap.size;omega) (.int .i64 r3)).st (p:=⟨tb,1,none⟩) (by show tb≠w.heap.size;omega) (.slice (some ⟨g3,0,none⟩) (n0+1) (n0+1)))
      clear hm3 hg3 hk3 hb3 hge3 BT3 hi3 hC HBB G2 R2 f0 f1 bx0
      go_wp2_with fail
      go_roundw
      case rel=>exact⟨k+1,by omega,by go_num,H3,G3,R3⟩
      case measure=>simp [intOf];omega
    . have hne:(rt x.addr==r)=false:=beq_eq_false_iff_ne.2 hr
      have hu:Hid (und (L.take (k+1)) r=und (L.take k) r):=hid (by rw [take_snoc HX.out,und_snoc_miss hr])
      have H2:=hid (HH.out.gr g1.out)
      have G2:=hid (HG.out.trans g1.out)
      have R2:=hid (HR.out.gr g1.out)
      clear BX C1
      go_wp2_with fail
      go_roundw
      case rel=>exact⟨k+1,by omega,by go_num,hid (by rw [hu.out];exact H2.out),G2,R2⟩
      case measure=>simp [intOf];omega
  . obtain rfl:k=n:=by omega
    obtain⟨r0,A0,n0,c0,l0,t0,HB0,HN0,HG0,HI0,HA0⟩:=HH.out
    rw [<- hlen,List.take_length] at HI0
    have f0:=(HB0.at_ (k:=0) rfl).1
    have f1:=(HB0.at_ (k:=1) rfl).1
    have BR:=HR.out
    obtain⟨p0,z0⟩:=BR.at_ (k:=0) rfl
    obtain⟨p1,z1⟩:=BR.at_ (k:=1) rfl
    have HBF:=hid ((BR.set 0 (.int .i64 r0)).set 1 (.slice A0 n0 c0))
    have HGF:=hid ((HG.out.st (p:=⟨w.heap.size,0,none⟩) (Nat.le_refl _) (.int .i64 r0)).st (p:=⟨w.heap.size,1,none⟩) (Nat.le_refl _) (.slice A0 n0 c0))
    have HNF:=hid (show NMem ((wr.setCell ⟨w.heap.size,0,none⟩ (.int .i64 r0)).setCell ⟨w.heap.size,1,none⟩ (.slice A0 n0 c0)) A0 n0 l0 from HN0.stays (by simp [World.setCell]) (λ k hk _=>by
     have hne:=(HA0 k hk).1
     exact (Below.heap_setCell _ ⟨w.heap.size,1,none⟩ _ k (by show k≠w.heap.size;omega)).trans (Below.heap_setCell _ ⟨w.heap.size,0,none⟩ _ k (by show k≠w.heap.size;omega))))
    have HGG:=hid HG0
    have HII:=hid HI0
    clear HN0 HG0 HI0 BR HH HG HB0 HR HA0
    go_wp2_with fail
    have BF:=HBF.out
    have GF:=HGF.out
    have NF:=HNF.out
    clear f0 f1 p0 z0 p1 z1 HBF HGF HNF
    generalize (wr.setCell _ _).setCell _ _=WF at BF GF NF ⊢
    have q0:WF.cell? ⟨w.heap.size,0,none⟩=some (.int .i64 r0):=(BF.at_ (k:=0) rfl).1
    have q1:WF.cell? ⟨w.heap.size,1,none⟩=some (.slice A0 n0 c0):=(BF.at_ (k:=1) rfl).1
    exact bodyPost_ret (v:=.agg #[.int .i64 r0,.slice A0 n0 c0]) (by simp [results,Tryz.results230,go_sem,q0,q1]) rfl ⟨r0,A0,n0,c0,l0,t0,rfl,NF,HGG.out,HII.out,GF⟩
theorem find_at {L:List SV} {a d:Int} {k:Nat} {x:SV} (h:TOk L) (hf:(und L (rt a)).find? (λ q=>decide (a<=q))=some d) (hx:L[k]?=some x) (hd:x.addr=d) (hk:∀ j y,j<k->L[j]?=some y->y.addr≠d/\rt y.addr<=rt a) :
 plc L a=k/\(d=a↔Has L a):=by
 have h1:=List.find?_some hf
 rw [decide_eq_true_eq] at h1
 have hdm:=List.mem_of_find?_eq_some hf
 obtain⟨z,hz,hz1,hz2⟩:=mem_und.1 hdm
 have hfirst:∀ q,q∈und L (rt a)->a<=q->d<=q:=by
  have hr:=und_rising h (rt a)
  intro q hq haq
  obtain⟨u,v,huv,hnone⟩:=List.find?_eq_some_iff_append.1 hf |>.2
  rw [huv] at hq hr
  rcases List.mem_append.1 hq with hq | hq
  . have:=hnone q hq
    simp at this
    omega
  . rcases List.mem_cons.1 hq with e | hq
    . omega
    . unfold Rising at hr
      rw [List.pairwise_append] at hr
      have:=(List.pairwise_cons.1 hr.2.1).1 q hq
      omega
 have hp:plc L a=k:=plc_at h hx (λ hc=>by rw [hd] at hc;unfold Lt at hc;omega) λ p y hp hy=>by
  obtain⟨e1,e2⟩:=hk p y (by omega) hy
  have e3:=h.at_ (show p<k by omega) hy hx
  unfold Lt at e3 ⊢
  rw [hd] at e3
  by_cases hq:rt y.addr=rt a
  . have:y.addr∈und L (rt a):=mem_und.2 ⟨y,List.mem_of_getElem? hy,rfl,hq⟩
    have:=hfirst y.addr this
    omega
  . omega
 refine⟨hp,?_⟩
 rw [has_iff h,hp]
 constructor
 . intro e;exact⟨x,hx,hd.trans e⟩
 . rintro⟨y,hy,e⟩
   rw [hx] at hy;cases hy
   exact hd.symm.trans e
theorem find_far {L:List SV} {a:Int} {k:Nat} {x:SV} (h:TOk L) (hx:L[k]?=some x) (hr:rt a<rt x.addr) (hk:∀ j y,j<k->L[j]?=some y->rt y.addr<=rt a)
 (hn:∀ d,(und L (rt a)).find? (λ q=>decide (a<=q))=some d->∀ j y,j<k->L[j]?=some y->y.addr≠d):plc L a=k/\¬ Has L a:=by
 have hnone:∀ j y,j<k->L[j]?=some y->Lt y.addr a:=by
  intro j y hj hy
  have h1:=hk j y hj hy
  unfold Lt
  by_cases hq:rt y.addr=rt a
  . refine .inr ⟨hq,?_⟩
    apply Classical.byContradiction
    intro hc
    have hm:y.addr∈und L (rt a):=mem_und.2 ⟨y,List.mem_of_getElem? hy,rfl,hq⟩
    cases hf:(und L (rt a)).find? (λ q=>decide (a<=q)) with
    | none =>
     have:=List.find?_eq_none.1 hf y.addr hm
     simp at this
     omega
    | some d =>
     have hdm:=List.mem_of_find?_eq_some hf
     obtain⟨z,hz,hz1,hz2⟩:=mem_und.1 hdm
     obtain⟨i,hi⟩:=List.mem_iff_getElem?.1 hz
     have hik:i<k:=by
      rcases Nat.lt_trichotomy i k with g | g | g
      . exact g
      . subst g;rw [hx] at hi;cases hi;rw [hz1] at hr;omega
      . have:=h.at_ g hx hi
        unfold Lt at this
        rw [hz1] at this
        omega
     exact hn d hf i z hik hi hz1
  . omega
 have hp:plc L a=k:=plc_at h hx (λ hc=>by unfold Lt at hc;omega) λ p y hp hy=>hnone p y (by omega) hy
 refine⟨hp,λ hh=>?_⟩
 obtain⟨y,hy,e⟩:=(has_iff h a).1 hh
 rw [hp,hx] at hy
 cases hy
 rw [e] at hr
 omega
theorem find_end {L:List SV} {a:Int} (h:TOk L) (hk:∀ y∈L,rt y.addr<=rt a)
 (hn:∀ d,(und L (rt a)).find? (λ q=>decide (a<=q))=some d->∀ y∈L,y.addr≠d):plc L a=L.length/\¬ Has L a:=by
 have hnone:∀ y∈L,Lt y.addr a:=by
  intro y hy
  have h1:=hk y hy
  unfold Lt
  by_cases hq:rt y.addr=rt a
  . refine .inr ⟨hq,?_⟩
    apply Classical.byContradiction
    intro hc
    have hm:y.addr∈und L (rt a):=mem_und.2 ⟨y,hy,rfl,hq⟩
    cases hf:(und L (rt a)).find? (λ q=>decide (a<=q)) with
    | none =>
     have:=List.find?_eq_none.1 hf y.addr hm
     simp at this
     omega
    | some d =>
     have hdm:=List.mem_of_find?_eq_some hf
     obtain⟨z,hz,hz1,hz2⟩:=mem_und.1 hdm
     exact hn d hf z hz hz1
  . omega
 refine⟨plc_end h hnone,?_⟩
 rintro⟨y,hy,rfl⟩
 exact (hnone y hy).irrefl
end
end
section
open Go.ChangeShapes Go.WideShapes Go.ChangeAt Go.RowKit
section
variable {w:World} {A:Option Addr} {n c:Nat} {L:List SV}
theorem rfind_is (hm:SMem w A n L) (ht:Tab L) {a:Int} (ha:IsKey a) {v:Bool} (hv:v=true↔Has L a) :
 Calls Tryz.prog 221 #[.slice A n c,.int .i64 a] w λ e w'=>e=.returned (.tuple #[.int .i64 (plc L a:Int),.bool v])/\Gr w w':=by
 have hlen:=hm.1
 have HM:=hid hm
 have HT:=hid ht
 have HV:=hid hv
 have HA:=hid ha
 have hn:n<=64:=by have:=ht.1;omega
 have C1:=hid (λ W=>Root_is a W)
 rw [rf_key ha,re_key ha] at C1
 have CG:=hid (grown_is (c:=c) hm ht (rt a))
 clear hm ht hv ha
 go_enter Tryz.func221,Tryz.ntmps221
 go_wp2_with fail
 with_reducible refine (C1.out _).mono ?_
 rintro e w1 ⟨rfl,hw1⟩
 obtain rfl:w=w1:=hw1.symm
 go_wp2_with fail
 with_reducible refine CG.out.mono ?_
 rintro e w2 ⟨r',A',n',c',l,t,rfl,hN,hG,hI,hb2⟩
 obtain⟨d,e,hR,hE⟩:∃ d e,NextR l r' a d e/\((e=0/\(und L (rt a)).find? (λ q=>decide (a<=q))=some d)\/(e=4/\(und L (rt a)).find? (λ q=>decide (a<=q))=none)):=by
  rw [<- hI]
  cases hf:t.inord.find? (λ q=>decide (a<=q)) with
  | some d=>exact⟨d,0,.inr (.inr ⟨HA.out,t,hG,.inr ⟨hf,rfl⟩⟩),.inl ⟨rfl,rfl⟩⟩
  | none=>exact⟨0,4,.inr (.inr ⟨HA.out,t,hG,.inl ⟨hf,rfl,rfl⟩⟩),.inr ⟨rfl,rfl⟩⟩
 have CN:=hid (Next_is (c:=c') hN hR)
 have HE:=hid hE
 have G2:=hid hb2
 clear hN hG hI hR hE hb2 CG C1
 go_wp2_with fail
 with_reducible refine CN.out.mono ?_
 rintro ee w3 ⟨rfl,hb3⟩
 have G3:=hid (G2.out.trans hb3)
 clear hb3 CN
 go_wp2_with fail
 go_loopw [29] (λ i wr=>∃ k:Nat,k<=n/\i=.int .i64 (k:Int)/\Hid (∀ j y,j<k->L[j]?=some y->rt y.addr<=rt a/\(e=0->y.addr≠d))/\Hid (Gr w wr)) (λ i _=>n-(intOf i).toNat)
 case atStart=>exact⟨0,Nat.zero_le _,rfl,hid (λ j y hj=>absurd hj (by omega)),G3⟩
 case round =>
  clear G3 G2
  obtain⟨k,hk,rfl,HP,HG⟩:=hrel
  by_cases hlt:k<n
  . obtain⟨b,off,x,rfl,hbl,hx,hok,d0,d1,d2⟩:=(HM.out.gr HG.out).at_ hlt
    have HX:=hid hx
    have k0:(0:Int)<=(k:Int):=by omega
    have k1:(k:Int)<(n:Int):=by omega
    have hkey:=Tab.key HT.out.2 (List.mem_of_getElem? hx)
    have C1:=hid (λ W=>Root_is x.addr W)
    rw [rf_key hkey,re_key hkey] at C1
    have G1:=hid (HG.out.al (.cells #[.int .i64 x.addr,.int .i64 x.cnt,.slice x.A x.n x.c] 91))
    clear hx hok hkey
    by_cases hhit:e=0/\x.addr=d
    . obtain⟨rfl,hxd⟩:=hhit
      have hf:=(HE.out.resolve_right (λ h=>absurd h.1 (by decide))).2
      obtain⟨hp,hh⟩:=find_at HT.out.2 hf HX.out hxd (λ j y hj hy=>⟨(HP.out j y hj hy).2 rfl,(HP.out j y hj hy).1⟩)
      have hvd:v=(d==a):=by
       rw [Bool.eq_iff_iff,HV.out,<- hh,beq_iff_eq]
      have HPL:=hid hp
      subst hxd
      clear hp hh hf C1 HV
      subst hvd
      go_wp2_with fail
      go_ret2
      exact⟨by rw [HPL.out];first | done | rfl,G1.out⟩
    . have hP1:∀ y,y=x->(e=0->y.addr≠d):=λ y hy he hc=>hhit ⟨he,hy▸hc⟩
      by_cases hfar:rt a<rt x.addr
      . obtain⟨hp,hh⟩:=find_far HT.out.2 HX.out hfar (λ j y hj hy=>(HP.out j y hj hy).1) (λ d' hd' j y hj hy=>by
         rcases HE.out with ⟨he,h⟩ | ⟨he,h⟩
         . rw [h] at hd';cases hd';exact (HP.out j y hj hy).2 he
         . rw [h] at hd';cases hd')
        have HPL:=hid hp
        obtain rfl:v=false:=by
         cases v
         . rfl
         . exact absurd (HV.out.1 rfl) hh
        clear hp hh HV
        generalize rt x.addr=q at *
        rcases HE.out with ⟨rfl,_⟩ | ⟨rfl,_⟩
        . have hne:(x.addr==d)=false:=beq_eq_false_iff_ne.2 (hP1 x rfl rfl)
          clear hP1 hhit
          go_wp2_with fail
          with_reducible refine (C1.out _).mono ?_
          rintro ee w5 ⟨rfl,rfl⟩
          go_wp2_with fail
          go_ret2
          exact⟨by rw [HPL.out];first | done | rfl,G1.out⟩
        . clear hP1 hhit
          go_wp2_with fail
          with_reducible refine (C1.out _).mono ?_
          rintro ee w5 ⟨rfl,rfl⟩
          go_wp2_with fail
          go_ret2
          exact⟨by rw [HPL.out];first | done | rfl,G1.out⟩
      . have HP':Hid (∀ j y,j<k+1->L[j]?=some y->rt y.addr<=rt a/\(e=0->y.addr≠d)):=hid λ j y hj hy=>by
         by_cases hjk:j<k
         . exact HP.out j y hjk hy
         . obtain rfl:j=k:=by omega
           rw [HX.out] at hy
           cases hy
           exact⟨by omega,hP1 x rfl⟩
        generalize rt x.addr=q at *
        rcases HE.out with ⟨rfl,_⟩ | ⟨rfl,_⟩
        . have hne:(x.addr==d)=false:=beq_eq_false_iff_ne.2 (hP1 x rfl rfl)
          clear hP1 hhit
          go_wp2_with fail
          with_reducible refine (C1.out _).mono ?_
          rintro ee w5 ⟨rfl,rfl⟩
          go_wp2_with fail
          go_roundw
          case rel=>exact⟨k+1,by omega,by go_num,HP',G1⟩
          case measure=>simp [intOf];omega
        . clear hP1 hhit
          go_wp2_with fail
          with_reducible refine (C1.out _).mono ?_
          rintro ee w5 ⟨rfl,rfl⟩
          go_wp2_with fail
          go_roundw
          case rel=>exact⟨k+1,by omega,by go_num,HP',G1⟩
          case measure=>simp [intOf];omega
  . obtain rfl:k=n:=by omega
    obtain⟨hp,hh⟩:=find_end HT.out.2 (λ y hy=>by
     obtain⟨j,hj⟩:=List.mem_iff_getElem?.1 hy
     exact (HP.out j y (by have:=(List.getElem?_eq_some_iff.1 hj).1;omega) hj).1) (λ d' hd' y hy=>by
     obtain⟨j,hj⟩:=List.mem_iff_getElem?.1 hy
     rcases HE.out with ⟨he,h⟩ | ⟨he,h⟩
     . rw [h] at hd';cases hd';exact (HP.out j y (by have:=(List.getElem?_eq_some_iff.1 hj).1;omega) hj).2 he
     . rw [h] at hd';cases hd')
    obtain rfl:v=false:=by
     cases v
     . rfl
     . exact absurd (HV.out.1 rfl) hh
    have HPL:=hid (hp.trans hlen)
    clear hp hh HV
    go_wp2_with fail
    go_ret2
    exact⟨by rw [HPL.out];first | done | rfl,HG.out⟩
end
end
section
open Go.ChangeShapes Go.WideShapes Go.ChangeAt Go.RowKit Go.Shelf
structure Kp3 (B:Nat) (X Y:World):Prop where
 below:Below B X Y
 three:∀ (k:Nat) (cs:Array Value) (t:TypeId),Blk X k cs t->cs.size=3->Blk Y k cs t
theorem Kp3.t {B:Nat} {X Y Z:World} (h:Kp3 B X Y) (k:Kp3 B Y Z):Kp3 B X Z:=⟨h.below.trans k.below,λ i cs t hi hs=>k.three i cs t (h.three i cs t hi hs) hs⟩
theorem Kp3.b {B:Nat} {w:World} (hn:B<=w.heap.size) (W:World) (l:Nat) (o o':Obj) (hl:w.heap.size<=l) (h:W.heap[l]?=some o) (hc:o.isCells=false) (hw:o.isWalk=false):Kp3 B W (W.putObj l o') :=
 ⟨belowK_b hn W l o o' hl h hc hw,λ k cs t hk _=>by
   have hne:k≠l:=λ e=>by
    subst e
    have h1:W.heap[k]?=some (.cells cs t (0,0)):=hk
    rw [h] at h1
    cases h1
    cases hc
   show (W.putObj l o').heap[k]?=_
   rw [World.putObj_heap_other (by omega)]
   exact hk⟩
abbrev SVk (w0:World):={ x:SV // x.ok w0/\x.line.length<=64 }
theorem abides_gr {β:Type} {B:Nat} {J:β->World->Prop} (h:AbidesFrom B J) {s:β} {X Y:World} (hs:J s X) (g:Gr X Y):J s Y :=
 h s X Y none hs ⟨g.os,g.tape,g.output,g.size,λ k hk _=>g.block k hk⟩ (λ r e=>by cases e)
structure Three (w0:World) (LB LS:Nat) (A:Option Addr) (p q n c:Nat) (A2:Option Addr) (s:SV) (W:World):Prop where
 gr:Gr w0 W
 b:Blk W LB #[.slice A p c,.slice (some ⟨LS,0,none⟩) 1 1,.slice A2 (n-q) (c-q)] 26
 s:Blk W LS #[.int .i64 s.addr,.int .i64 s.cnt,.slice s.A s.n s.c] 91
section
variable {w0 W W':World} {LB LS p q n c:Nat} {A A2:Option Addr} {s:SV}
theorem Three.gr' (h:Three w0 LB LS A p q n c A2 s W) (g:Gr W W'):Three w0 LB LS A p q n c A2 s W':=⟨h.gr.trans g,h.b.gr g,h.s.gr g⟩
theorem Three.kp (h:Three w0 LB LS A p q n c A2 s W) (g:Kp3 w0.heap.size W W'):Three w0 LB LS A p q n c A2 s W':=⟨Below.trans h.gr g.below,g.three _ _ _ h.b rfl,g.three _ _ _ h.s rfl⟩
end
theorem sv_one {W w0:World} {s:SV} {LS:Nat} (hg:Gr w0 W) (hb:Blk W LS #[.int .i64 s.addr,.int .i64 s.cnt,.slice s.A s.n s.c] 91) (hs:s.ok w0):SMem W (some ⟨LS,0,none⟩) 1 [s] :=
 ⟨rfl,λ x hx=>by rw [List.mem_singleton] at hx;subst hx;exact hs.gr hg,λ _=>⟨LS,0,rfl,hb.lt,λ j x hj=>by
   match j,hj with
   | 0,hj =>
    simp at hj
    subst hj
    exact⟨(hb.at_ (k:=0) rfl).1,(hb.at_ (k:=1) rfl).1,(hb.at_ (k:=2) rfl).1⟩⟩⟩
theorem three_parts {w0:World} {A A2:Option Addr} {n c p q LB LS:Nat} {L:List SV} {s:SV} (hm:SMem w0 A n L) (hnc:n<=c) (hs:s.ok w0) (hp:p<=n) (hq:q<=n) (hA2:(if c=q then A else A.map (·.add (q*3)))=A2)
 {xs:List (SVk w0)} (hxs:xs.map Subtype.val=L.take p++[s]++L.drop q) :
 ∃ st:Nat->Nat,st 0=0/\st 3=xs.length/\∀ k,k<3->∃ (Ak:Option Addr) (nk ck:Nat) (lk:List SV),(∀ W,Three w0 LB LS A p q n c A2 s W->W.cell? ⟨LB,k,none⟩=some (.slice Ak nk ck)/\LB<W.heap.size/\SMem W Ak nk lk)/\nk<=n+1/\st (k+1)=st k+nk /\
  ∀ j y,lk[j]?=some y->∃ x:SVk w0,xs[st k+j]?=some x/\x.1=y:=by
 have hlen:=hm.1
 have hxl:xs.length=p+1+(n-q):=by
  have:=congrArg List.length hxs
  simp [hlen] at this
  omega
 have get:∀ (i:Nat) (y:SV),(L.take p++[s]++L.drop q)[i]?=some y->∃ x:SVk w0,xs[i]?=some x/\x.1=y:=by
  intro i y hy
  rw [<- hxs,List.getElem?_map,Option.map_eq_some_iff] at hy
  exact hy
 refine⟨λ k=>match k with | 0=>0 | 1=>p | 2=>p+1 | _=>xs.length,rfl,rfl,λ k hk=>?_⟩
 match k,hk with
 | 0,_ =>
  refine⟨A,p,c,L.take p,λ W h=>⟨(h.b.at_ (k:=0) rfl).1,h.b.lt,(hm.gr h.gr).take_ p hp⟩,by omega,(Nat.zero_add p).symm,λ j y hj=>get _ y ?_⟩
  have:=(List.getElem?_eq_some_iff.1 hj).1
  show (L.take p++[s]++L.drop q)[0+j]?=some y
  rw [Nat.zero_add,List.append_assoc,List.getElem?_append_left this]
  exact hj
 | 1,_ =>
  refine⟨some ⟨LS,0,none⟩,1,1,[s],λ W h=>⟨(h.b.at_ (k:=1) rfl).1,h.b.lt,sv_one h.gr h.s hs⟩,by omega,rfl,λ j y hj=>get _ y ?_⟩
  match j,hj with
  | 0,hj =>
   simp at hj
   subst hj
   show (L.take p++[s]++L.drop q)[p+0]?=some s
   rw [List.append_assoc,List.getElem?_append_right (by rw [List.length_take];omega),List.length_take,hlen,Nat.min_eq_left hp,Nat.add_zero,Nat.sub_self]
   rfl
 | 2,_ =>
  refine⟨A2,n-q,c-q,L.drop q,λ W h=>⟨(h.b.at_ (k:=2) rfl).1,h.b.lt,hA2▸(hm.gr h.gr).cut q c hq hnc⟩,by omega,hxl,λ j y hj=>get _ y ?_⟩
  show (L.take p++[s]++L.drop q)[p+1+j]?=some y
  rw [List.getElem?_append_right (by rw [List.length_append,List.length_take];simp;omega),List.length_append,List.length_take,hlen,Nat.min_eq_left hp]
  rw [show p+1+j-(p+[s].length)=j from by simp]
  exact hj
theorem inOrder1_in (w0:World) {A:Option Addr} {n c:Nat} {L:List SV} {s:SV} (hm:SMem w0 A n L) (hnc:n<=c) (hcm:c<=9223372036854775807) (ht:Tab L) (hs:SOk s) (hsok:s.ok w0)
 {v:Bool} (hv:v=true↔Has L s.addr) (q:Nat) (hq:q=if v=true then plc L s.addr+1 else plc L s.addr)
 (xs:List (SVk w0)) (hxs:xs.map Subtype.val=L.take (plc L s.addr)++[s]++L.drop q)
 (m:Nat) (hm1:1<=m) (l tb sb:Nat) (J Jx:List (SVk w0)->World->Prop) (W:World) (hW:Gr w0 W)
 (hJ:AbidesFrom W.heap.size J)
 (hY:∀ pre x W1,J pre W1->pre.length<xs.length->YieldAt Fence.wide (m-1) Tryz.prog l #[.agg #[.int .i64 x.1.addr,.int .i64 x.1.cnt,.slice x.1.A x.1.n x.1.c]] W1 λ e W' =>
   (e=.returned (.bool true)/\J (pre++[x]) W'/\Kp3 w0.heap.size W1 W')\/(e=.returned (.bool false)/\Jx (pre++[x]) W'))
 (hT:Blk W tb #[.slice A n c] 26) (hS:Blk W sb #[.int .i64 s.addr,.int .i64 s.cnt,.slice s.A s.n s.c] 91) (h0:J [] W) :
 CallsIn Fence.wide m Tryz.prog 231 #[.func (.yield l) #[] #[],.pointer (some ⟨tb,0,none⟩),.pointer (some ⟨sb,0,none⟩)] W λ e W'=>(∃ v,e=.returned v) /\
  ((∃ ys,ys=xs/\J ys W')\/(∃ pre,pre <+: xs/\Jx pre W')):=by
 have CF:=hid (rfind_is (c:=c) (hm.gr hW) ht hs.1 hv)
 have hlen:=hm.1
 have hn64:n<=64:=by have:=ht.1;omega
 have hpl:=plc_le L s.addr
 obtain⟨p,hp⟩:∃ p,plc L s.addr=p:=⟨_,rfl⟩
 rw [hp] at hxs CF hpl hq
 have HJ:=hid hJ
 have HY:=hid hY
 have HT:=hid hT
 have HSB:=hid hS
 have t0:=(hT.at_ (k:=0) rfl).1
 have s0:=(hS.at_ (k:=0) rfl).1
 have s1:=(hS.at_ (k:=1) rfl).1
 have s2:=(hS.at_ (k:=2) rfl).1
 have tl:=hT.lt
 have sl:=hS.lt
 clear hY hJ hT hS
 refine callsIn_of_wp Tryz.func231 rfl trivial ?_ rfl
 simp only [Tryz.ntmps231,List.size_toArray,List.length_cons,List.length_nil,Nat.reduceAdd,Nat.reduceSub,Array.replicate_succ,Array.replicate_zero,List.push_toArray,List.append_toArray,List.nil_append,List.cons_append]
 gi_wp2_with fail
 refine⟨trivial,?_⟩
 with_reducible refine (callsIn_wide.2 CF.out).mono ?_
 rintro e w1 ⟨rfl,hb1⟩
 have G1:=hid (hW.trans hb1)
 have HJ0:=hid (abides_gr HJ.out h0 hb1)
 have HT1:=HT.out.gr hb1
 have HS1:=HSB.out.gr hb1
 have t0':=(HT1.at_ (k:=0) rfl).1
 have s0':=(HS1.at_ (k:=0) rfl).1
 have s1':=(HS1.at_ (k:=1) rfl).1
 have s2':=(HS1.at_ (k:=2) rfl).1
 have tl':=HT1.lt
 have sl':=HS1.lt
 have p0:(0:Int)<=(p:Int):=by omega
 have pc:(p:Int)<=(c:Int):=by omega
 have HV:=hid hv
 have HTB:=hid ht
 have HSK:=hid hs
 have HM:=hid hm
 have HSO:=hid hsok
 clear t0 s0 s1 s2 tl sl HT HSB h0 CF HT1 HS1 hv ht hs hm hsok
 cases v with
 | true =>
  simp only [if_true] at hq
  subst hq
  have hpn:p<n:=by
   obtain⟨y,hy,_⟩:=(has_iff HTB.out.2 s.addr).1 (HV.out.1 rfl)
   rw [hp] at hy
   have:=(List.getElem?_eq_some_iff.1 hy).1
   omega
  have pw:IntKind.i64.wrap ((p:Int)+1)=((p+1:Nat):Int):=by rw [wrap_id (by omega) (by omega)];omega
  have q0:(0:Int)<=((p+1:Nat):Int):=by omega
  have qn:((p+1:Nat):Int)<=(n:Int):=by omega
  obtain⟨q,hq⟩:∃ q,p+1=q:=⟨_,rfl⟩
  rw [hq] at hxs pw q0 qn
  have HQ:=hid hq
  clear hq
  gi_wp2_with fail
  refine wpIn_wide.2 ?_
  go_region
  obtain⟨A2,hA2⟩:∃ A2,(if c=q then A else A.map (·.add (q*3)))=A2:=⟨_,rfl⟩
  rw [hA2]
  have HTH:=hid (show Three w0 (w1.heap.size+1) w1.heap.size A p q n c A2 s ((w1.alloc (.cells #[.int .i64 s.addr,.int .i64 s.cnt,.slice s.A s.n s.c] 91)).alloc (.cells #[.slice A p c,.slice (some ⟨w1.heap.size,0,none⟩) 1 1,.slice A2 (n-q) (c-q)] 26)).drew from
   ⟨((G1.out.al _).al _).dr,by simpa using (Blk.new (w1.alloc (.cells #[.int .i64 s.addr,.int .i64 s.cnt,.slice s.A s.n s.c] 91)) #[.slice A p c,.slice (some ⟨w1.heap.size,0,none⟩) 1 1,.slice A2 (n-q) (c-q)] 26).gr (Gr.refl _).dr,((Blk.new w1 #[.int .i64 s.addr,.int .i64 s.cnt,.slice s.A s.n s.c] 91).al _).gr (Gr.refl _).dr⟩)
  have HJ1:=hid (abides_gr HJ.out HJ0.out (((Gr.refl w1).al (.cells #[.int .i64 s.addr,.int .i64 s.cnt,.slice s.A s.n s.c] 91)).al (.cells #[.slice A p c,.slice (some ⟨w1.heap.size,0,none⟩) 1 1,.slice A2 (n-q) (c-q)] 26)).dr)
  obtain⟨st,hst0,hst3,hparts⟩:=three_parts (LB:=w1.heap.size+1) (LS:=w1.heap.size) HM.out hnc HSO.out (by omega) (by have:=HQ.out;omega) hA2 hxs
  have HP:=hid hparts
  have HST0:=hid hst0
  have HST3:=hid hst3
  clear hparts hst0 hst3 hA2 hxs t0' s0' s1' s2' tl' sl' hb1 HV HTB HSK
  generalize ((w1.alloc _).alloc _).drew=w2 at HTH HJ1 ⊢
  gi_wp2_with fail
  gi_loopw [32] (λ i wr=>∃ k:Nat,k<=3/\i=.int .i64 (k:Int)/\Hid (Three w0 (w1.heap.size+1) w1.heap.size A p q n c A2 s wr)/\Hid (J (xs.take (st k)) wr)) (λ i _=>3-(intOf i).toNat)
  case atStart=>exact⟨0,by omega,rfl,HTH,hid (by rw [HST0.out];exact HJ1.out)⟩
  case round =>
   clear HTH HJ1
   obtain⟨k,hk,rfl,HTH,HJK⟩:=hrel
   by_cases hlt:k<3
   . obtain⟨Ak,nk,ck,lk,hcell,hnk,hst,hget⟩:=HP.out k hlt
     have k0:(0:Int)<=(k:Int):=by omega
     have k1:(k:Int)<3:=by omega
     have cLB:=(hcell _ HTH.out).1
     have HC:=hid hcell
     have HGET:=hid hget
     have HST:=hid hst
     clear hcell hget hst
     gi_wp2_with fail
     rename World=>wo
     gi_loopw [38] (λ i wr=>∃ j:Nat,j<=nk/\i=.int .i64 (j:Int)/\Hid (Three w0 (w1.heap.size+1) w1.heap.size A p q n c A2 s wr)/\Hid (J (xs.take (st k+j)) wr)) (λ i _=>nk-(intOf i).toNat)
     case atStart=>exact⟨0,Nat.zero_le _,rfl,HTH,HJK⟩
     case round =>
      clear HTH HJK cLB
      obtain⟨j,hj,rfl,HTH,HJK⟩:=hrel
      by_cases hjn:j<nk
      . obtain⟨b,off,y,rfl,hbl,hy,hok,d0,d1,d2⟩:=(HC.out _ HTH.out).2.2.at_ hjn
        obtain⟨x,hx,rfl⟩:=HGET.out j y hy
        have j0:(0:Int)<=(j:Int):=by omega
        have j1:(j:Int)<(nk:Int):=by omega
        have HX:=hid hx
        have g1:=(Gr.refl wr).al (.cells #[.int .i64 x.1.addr,.int .i64 x.1.cnt,.slice x.1.A x.1.n x.1.c] 91)
        have HT1:=hid (HTH.out.gr' g1)
        obtain⟨fn,tmps,assign,body,hyy,hR⟩:=HY.out (xs.take (st k+j)) x _ (abides_gr HJ.out HJK.out g1) (by have:=(List.getElem?_eq_some_iff.1 hx).1;rw [List.length_take];omega)
        have HRR:=hid hR
        clear hy hok hx g1 hR
        gi_wp2_with fail
        refine HRR.out.mono ?_
        rintro e W3 (⟨rfl,hJ3,hk3⟩ | ⟨rfl,hJx3⟩)
        . have HT3:=hid (HT1.out.kp hk3)
          have HJ3:=hid (show J (xs.take (st k+(j+1))) W3 from by rw [<- Nat.add_assoc,take_snoc HX.out];exact hJ3)
          clear hJ3 hk3 hyy HRR
          gi_wp2_with fail
          go_roundw
          case rel=>exact⟨j+1,by omega,by go_num,HT3,HJ3⟩
          case measure=>simp [intOf];omega
        . have HJX:=hid hJx3
          clear hJx3 hyy HRR
          gi_wp2_with fail
          refine bodyPost_ret (results_none rfl _ _ _) rfl ?_
          exact⟨⟨_,rfl⟩,.inr ⟨_,by rw [<- take_snoc HX.out];exact List.take_prefix _ _,HJX.out⟩⟩
      . obtain rfl:j=nk:=by omega
        have HJ3:=hid (show J (xs.take (st (k+1))) wr from by rw [HST.out];exact HJK.out)
        gi_wp2_with fail
        go_roundw
        case rel=>exact⟨k+1,by omega,by go_num,HTH,HJ3⟩
        case measure=>simp [intOf];omega
   . obtain rfl:k=3:=by omega
     gi_wp2_with fail
     go_end0
     exact⟨⟨_,rfl⟩,.inl ⟨_,by rw [HST3.out,List.take_length],HJK.out⟩⟩
 | false =>
  simp only [Bool.false_eq_true,if_false] at hq
  have q0:(0:Int)<=(q:Int):=by omega
  have qn:(q:Int)<=(n:Int):=by omega
  obtain rfl:p=q:=hq.symm
  gi_wp2_with fail
  refine wpIn_wide.2 ?_
  go_region
  obtain⟨A2,hA2⟩:∃ A2,(if c=p then A else A.map (·.add (p*3)))=A2:=⟨_,rfl⟩
  rw [hA2]
  have HTH:=hid (show Three w0 (w1.heap.size+1) w1.heap.size A p p n c A2 s ((w1.alloc (.cells #[.int .i64 s.addr,.int .i64 s.cnt,.slice s.A s.n s.c] 91)).alloc (.cells #[.slice A p c,.slice (some ⟨w1.heap.size,0,none⟩) 1 1,.slice A2 (n-p) (c-p)] 26)).drew from
   ⟨((G1.out.al _).al _).dr,by simpa using (Blk.new (w1.alloc (.cells #[.int .i64 s.addr,.int .i64 s.cnt,.slice s.A s.n s.c] 91)) #[.slice A p c,.slice (some ⟨w1.heap.size,0,none⟩) 1 1,.slice A2 (n-p) (c-p)] 26).gr (Gr.refl _).dr,((Blk.new w1 #[.int .i64 s.addr,.int .i64 s.cnt,.slice s.A s.n s.c] 91).al _).gr (Gr.refl _).dr⟩)
  have HJ1:=hid (abides_gr HJ.out HJ0.out (((Gr.refl w1).al (.cells #[.int .i64 s.addr,.int .i64 s.cnt,.slice s.A s.n s.c] 91)).al (.cells #[.slice A p c,.slice (some ⟨w1.heap.size,0,none⟩) 1 1,.slice A2 (n-p) (c-p)] 26)).dr)
  obtain⟨st,hst0,hst3,hparts⟩:=three_parts (LB:=w1.heap.size+1) (LS:=w1.heap.size) HM.out hnc HSO.out (by omega) (by omega) hA2 hxs
  have HP:=hid hparts
  have HST0:=hid hst0
  have HST3:=hid hst3
  clear hparts hst0 hst3 hA2 hxs t0' s0' s1' s2' tl' sl' hb1 HV HTB HSK
  generalize ((w1.alloc _).alloc _).drew=w2 at HTH HJ1 ⊢
  gi_wp2_with fail
  gi_loopw [32] (λ i wr=>∃ k:Nat,k<=3/\i=.int .i64 (k:Int)/\Hid (Three w0 (w1.heap.size+1) w1.heap.size A p p n c A2 s wr)/\Hid (J (xs.take (st k)) wr)) (λ i _=>3-(intOf i).toNat)
  case atStart=>exact⟨0,by omega,rfl,HTH,hid (by rw [HST0.out];exact HJ1.out)⟩
  case round =>
   clear HTH HJ1
   obtain⟨k,hk,rfl,HTH,HJK⟩:=hrel
   by_cases hlt:k<3
   . obtain⟨Ak,nk,ck,lk,hcell,hnk,hst,hget⟩:=HP.out k hlt
     have k0:(0:Int)<=(k:Int):=by omega
     have k1:(k:Int)<3:=by omega
     have cLB:=(hcell _ HTH.out).1
     have HC:=hid hcell
     have HGET:=hid hget
     have HST:=hid hst
     clear hcell hget hst
     gi_wp2_with fail
     rename World=>wo
     gi_loopw [38] (λ i wr=>∃ j:Nat,j<=nk/\i=.int .i64 (j:Int)/\Hid (Three w0 (w1.heap.size+1) w1.heap.size A p p n c A2 s wr)/\Hid (J (xs.take (st k+j)) wr)) (λ i _=>nk-(intOf i).toNat)
     case atStart=>exact⟨0,Nat.zero_le _,rfl,HTH,HJK⟩
     case round =>
      clear HTH HJK cLB
      obtain⟨j,hj,rfl,HTH,HJK⟩:=hrel
      by_cases hjn:j<nk
      . obtain⟨b,off,y,rfl,hbl,hy,hok,d0,d1,d2⟩:=(HC.out _ HTH.out).2.2.at_ hjn
        obtain⟨x,hx,rfl⟩:=HGET.out j y hy
        have j0:(0:Int)<=(j:Int):=by omega
        have j1:(j:Int)<(nk:Int):=by omega
        have HX:=hid hx
        have g1:=(Gr.refl wr).al (.cells #[.int .i64 x.1.addr,.int .i64 x.1.cnt,.slice x.1.A x.1.n x.1.c] 91)
        have HT1:=hid (HTH.out.gr' g1)
        obtain⟨fn,tmps,assign,body,hyy,hR⟩:=HY.out (xs.take (st k+j)) x _ (abides_gr HJ.out HJK.out g1) (by have:=(List.getElem?_eq_some_iff.1 hx).1;rw [List.length_take];omega)
        have HRR:=hid hR
        clear hy hok hx g1 hR
        gi_wp2_with fail
        refine HRR.out.mono ?_
        rintro e W3 (⟨rfl,hJ3,hk3⟩ | ⟨rfl,hJx3⟩)
        . have HT3:=hid (HT1.out.kp hk3)
          have HJ3:=hid (show J (xs.take (st k+(j+1))) W3 from by rw [<- Nat.add_assoc,take_snoc HX.out];exact hJ3)
          clear hJ3 hk3 hyy HRR
          gi_wp2_with fail
          go_roundw
          case rel=>exact⟨j+1,by omega,by go_num,HT3,HJ3⟩
          case measure=>simp [intOf];omega
        . have HJX:=hid hJx3
          clear hJx3 hyy HRR
          gi_wp2_with fail
          refine bodyPost_ret (results_none rfl _ _ _) rfl ?_
          exact⟨⟨_,rfl⟩,.inr ⟨_,by rw [<- take_snoc HX.out];exact List.take_prefix _ _,HJX.out⟩⟩
      . obtain rfl:j=nk:=by omega
        have HJ3:=hid (show J (xs.take (st (k+1))) wr from by rw [HST.out];exact HJK.out)
        gi_wp2_with fail
        go_roundw
        case rel=>exact⟨k+1,by omega,by go_num,HTH,HJ3⟩
        case measure=>simp [intOf];omega
   . obtain rfl:k=3:=by omega
     gi_wp2_with fail
     go_end0
     exact⟨⟨_,rfl⟩,.inl ⟨_,by rw [HST3.out,List.take_length],HJK.out⟩⟩
end
section
open Go.ChangeShapes Go.WideShapes Go.ChangeAt Go.RowKit Go.Shelf
theorem imem_kept {W W':World} {row:Option Nat} {A:Option Addr} {n:Nat} {l:List Int} (h:IMem W A n l) (hg:W.grownBy W' row) (hr:∀ k,A.map (·.block)=some k->k<W.heap.size->row≠some k):IMem W' A n l :=
 ⟨h.1,h.2.1,λ hn=>by
   obtain⟨b,off,rfl,hb,hc⟩:=h.2.2 hn
   refine⟨b,off,rfl,Nat.lt_of_lt_of_le hb hg.size,λ j x hj=>?_⟩
   exact (World.cell?_of_block (a:=⟨b,off+j,none⟩) (hg.block b hb (λ e=>hr b rfl hb e.symm))).trans (hc j x hj)⟩
structure SOwn (W:World) (base:Nat) (v:Value) (R:List SV):Prop where
 row:SRow W base v R.length R
 ok:∀ x∈R,x.ok W
 off:∀ x∈R,∀ k,x.A.map (·.block)=some k->base<=k/\k<W.heap.size/\v.ownBlock≠some k
theorem SOwn.nil (W:World) (base:Nat):SOwn W base (.slice none 0 0) []:=⟨World.ownsRow_nil W base _ 3,by simp,by simp⟩
theorem SOwn.block {W:World} {base:Nat} {v:Value} {R:List SV} (h:SOwn W base v R) {g:Nat} (hg:v.ownBlock=some g):base<=g/\∃ cs,W.heap[g]?=some (.cells cs 91 (0,0)):=by
 rcases h.row.2 with ⟨rfl,_⟩ | ⟨g',cap,cur,rfl,hb,hc,_⟩
 . cases hg
 . simp only [Value.ownBlock] at hg
   cases hg
   exact⟨hb,cur,hc⟩
theorem SOwn.kept {W W':World} {base:Nat} {v:Value} {R:List SV} {row:Option Nat} (h:SOwn W base v R) (hg:W.grownBy W' row)
 (hr:∀ r,row=some r->r<base\/W.heap.size<=r\/∃ o:Obj,W.heap[r]?=some o/\o.isCells=false):SOwn W' base v R:=by
 have key:∀ k,base<=k->k<W.heap.size->(∃ v,W.cell? ⟨k,0,none⟩=some v)\/True->True:=λ _ _ _ _=>trivial
 refine⟨h.row.kept hg ?_,λ x hx=>?_,λ x hx k hk=>?_⟩
 . cases hv:v.ownBlock with
   | none=>exact .inl rfl
   | some g =>
    right
    intro e
    obtain⟨h1,cs,h2⟩:=h.block hv
    rcases hr g e.symm with h3 | h3 | ⟨o,h3,h4⟩
    . omega
    . have:=(Array.getElem?_eq_some_iff.1 h2).1;omega
    . rw [h2] at h3;cases h3;cases h4
 . obtain⟨a1,a2,a3,a4⟩:=h.ok x hx
   refine⟨a1,a2,?_,a4⟩
   rcases Nat.eq_zero_or_pos x.n with h0 | h0
   . exact⟨a3.1,a3.2.1,λ hn=>absurd hn (by omega)⟩
   . obtain⟨b,off,he,hb,hc⟩:=a3.2.2 h0
     refine imem_kept a3 hg λ k hk hkl e=>?_
     have hbk:b=k:=by rw [he] at hk;simpa using hk
     subst hbk
     rcases hr b e with h3 | h3 | ⟨o,h3,h4⟩
     . have:=(h.off x hx b hk).1;omega
     . omega
     . have hl:0<x.line.length:=by have:=a3.1;omega
       have hcell:=hc 0 x.line[0] (List.getElem?_eq_getElem hl)
       obtain⟨o',ho',hc'⟩:=cells_of_cell hcell
       rw [show W.heap[b]?=some o' from ho'] at h3
       cases h3
       rw [h4] at hc'
       cases hc'
 . obtain⟨h1,h2,h3⟩:=h.off x hx k hk
   exact⟨h1,Nat.lt_of_lt_of_le h2 hg.size,h3⟩
theorem SOwn.gr {W W':World} {base:Nat} {v:Value} {R:List SV} (h:SOwn W base v R) (g:Gr W W'):SOwn W' base v R :=
 h.kept (row:=none) ⟨g.os,g.tape,g.output,g.size,λ k hk _=>g.block k hk⟩ (λ r e=>by cases e)
theorem SOwn.st {W:World} {base:Nat} {v:Value} {R:List SV} (h:SOwn W base v R) {b:Nat} (hb:b<base) (u:Value):SOwn (W.setCell ⟨b,0,none⟩ u) base v R :=
 h.kept (grownBy_setCell' W b u) (λ r e=>by cases e;exact .inl hb)
theorem SOwn.low {W:World} {base b2:Nat} {v:Value} {R:List SV} (h:SOwn W base v R) (hb:b2<=base):SOwn W b2 v R:=by
 refine⟨⟨h.row.1,?_⟩,h.ok,λ x hx k hk=>?_⟩
 . rcases h.row.2 with h1 | ⟨g,cap,cur,e,h1,h2⟩
   . exact .inl h1
   . exact .inr ⟨g,cap,cur,e,Nat.le_trans hb h1,h2⟩
 . obtain⟨h1,h2⟩:=h.off x hx k hk
   exact⟨Nat.le_trans hb h1,h2⟩
theorem SOwn.mem {W:World} {base:Nat} {v:Value} {R:List SV} (h:SOwn W base v R):∃ B m,v=.slice B R.length m/\SMem W B R.length R/\R.length<=m/\m<=9223372036854775807:=own_smem h.row h.ok
theorem SOwn.step {W W':World} {base:Nat} {v:Value} {R:List SV} {y:SV} {g cap:Nat} (h:SOwn W base v R) (hy:y.ok W) (hyo:∀ k,y.A.map (·.block)=some k->base<=k/\k<W.heap.size/\v.ownBlock≠some k)
 (hrow:SRow W' base (.slice (some ⟨g,0,none⟩) (R.length+1) cap) (R.length+1) (R++[y])) (hg:W.grownBy W' v.ownBlock) (hat:v.ownBlock=some g\/g=W.heap.size) :
 SOwn W' base (.slice (some ⟨g,0,none⟩) (R.length+1) cap) (R++[y]):=by
 have all:∀ x∈R++[y],x.ok W/\∀ k,x.A.map (·.block)=some k->base<=k/\k<W.heap.size/\v.ownBlock≠some k:=by
  intro x hx
  rcases List.mem_append.1 hx with hx | hx
  . exact⟨h.ok x hx,h.off x hx⟩
  . rw [List.mem_singleton] at hx;subst hx;exact⟨hy,hyo⟩
 refine⟨by rw [List.length_append];exact hrow,λ x hx=>?_,λ x hx k hk=>?_⟩
 . obtain⟨⟨a1,a2,a3,a4⟩,ho⟩:=all x hx
   exact⟨a1,a2,imem_kept a3 hg λ k hk _=>(ho k hk).2.2,a4⟩
 . obtain⟨h1,h2,h3⟩:=(all x hx).2 k hk
   refine⟨h1,Nat.lt_of_lt_of_le h2 hg.size,λ e=>?_⟩
   simp only [Value.ownBlock,Option.some.injEq] at e
   rcases hat with e' | e'
   . exact h3 (by rw [e',e])
   . omega
def Appended (w:World) (base:Nat) (v:Value) (R:List SV) (y:SV) (g cap:Nat) (w':World):Prop :=
 SRow w' base (.slice (some ⟨g,0,none⟩) (R.length+1) cap) (R.length+1) (R++[y])/\w.grownBy w' v.ownBlock/\(v.ownBlock=some g\/g=w.heap.size) /\
  (w.grownBy w' none\/∃ g0 cap0,v=.slice (some ⟨g0,0,none⟩) R.length cap0/\R.length+1<=cap0)
theorem run_append_spot {w:World} {base:Nat} {v:Value} {R:List SV} {y:SV} {b c:Nat} {t:TypeId} (h:SRow w base v R.length R) (hb:Blk w b #[.int .i64 y.addr,.int .i64 y.cnt,.slice y.A y.n y.c] t) (hl:R.length<=1000000) (hbase:base<=w.heap.size) (ty:TypeId) :
 ∃ g cap w',(Builtin.append_ #[26,26] ty #[v,.slice (some ⟨b,0,none⟩) 1 c]).run Tryz.prog w=.ok (.slice (some ⟨g,0,none⟩) (R.length+1) cap) w'/\Appended w base v R y g cap w':=by
 obtain⟨i0,hi0,hz0,hz1,hz2⟩:=info_parts infoSpot
 obtain⟨g,cap,w',h1,h2,h3,h4,h5⟩:=run_append_fine (P:=Tryz.prog) w 26 ty base 91 i0 (.agg #[.int .i64 0,.int .i64 0,.slice none 0 0]) 3 40 Tryz.underlying26 hi0 hz0 hz1 hz2 rfl (by decide) v R.length (flatS R) h ⟨b,0,none⟩ 1 c
  (flatS [y]) rfl (λ j u hu=>by
    rw [add_plain,Nat.zero_add]
    match j,hu with
    | 0,hu=>simp [flatS] at hu;subst hu;exact (hb.at_ (k:=0) rfl).1
    | 1,hu=>simp [flatS] at hu;subst hu;exact (hb.at_ (k:=1) rfl).1
    | 2,hu=>simp [flatS] at hu;subst hu;exact (hb.at_ (k:=2) rfl).1) (λ u hu=>by simp [flatS] at hu;rcases hu with rfl | rfl | rfl<;>rfl) (by decide) (by unfold maxLen;omega) (by omega) hbase
 rw [<- flatS_app] at h2
 exact⟨g,cap,w',h1,h2,h3,h4,h5⟩
theorem stepIn_append_spot {l m:Nat} {w:World} {base:Nat} {v:Value} {R:List SV} {y:SV} {b c:Nat} {t:TypeId} {ops:Array Oper} {o:Oper} {a:Act} {K:Act->World->Prop} {Q:Exit->Act->World->Prop} {E:Prop} (hgd:o.guard=none) (s x:Operand)
 (ho:o.op=.call { callee:=.builtin .append,args:=#[s,x],argTypes:=#[26,26] }) (hs:a.eval s=v) (hx:a.eval x=.slice (some ⟨b,0,none⟩) 1 c)
 (h:SRow w base v R.length R) (hb:Blk w b #[.int .i64 y.addr,.int .i64 y.cnt,.slice y.A y.n y.c] t) (hl:R.length<=1000000) (hbase:base<=w.heap.size)
 (hK:∀ g cap w',Appended w base v R y g cap w'->K (a.put o.dst (.slice (some ⟨g,0,none⟩) (R.length+1) cap)) w') :
 if Region.wanted o (yielded ops a.tmps)=true then Oper.wpIn (Fence.wide.inRound l) m Tryz.prog o a w K Q else E:=by
 have hw:Region.wanted o (yielded ops a.tmps)=true:=by simp [Region.wanted,hgd]
 rw [if_pos hw]
 obtain⟨g,cap,w',h1,h2⟩:=run_append_spot h hb hl hbase o.type (c:=c)
 unfold Oper.wpIn
 refine⟨λ _ _=>trivial,?_⟩
 rw [Oper.semAt_plain _ _ _ (by rw [ho];intro c hc';cases hc')]
 simp [execOp,ho,resolve,invoke,builtin,hs,hx,h1,Result.andThen]
 exact hK g cap w' h2
theorem Appended.three {w w':World} {base:Nat} {v:Value} {R:List SV} {y:SV} {g cap:Nat} (h:Appended w base v R y g cap w') (hr:SRow w base v R.length R) (hn:R=[]->v=.slice none 0 0) {k:Nat} {cs:Array Value} {t:TypeId} (hk:Blk w k cs t) (h3:cs.size=3):Blk w' k cs t:=by
 rcases h.2.2.2 with hg | ⟨g0,cap0,rfl,hcap⟩
 . exact hk.gb hg (by simp)
 . refine hk.gb h.2.1 λ e=>?_
   simp only [Value.ownBlock,Option.some.injEq] at e
   subst e
   rcases hr.2 with ⟨hv,_⟩ | ⟨g',cap',cur,hv,_,hc,_,_,hsz,_⟩
   . cases hv
   . cases hv
     rw [show w.heap[g0]?=some (.cells cs t (0,0)) from hk] at hc
     cases hc
     have hR:R≠[]:=λ e=>by have:=hn e;cases this
     have:0<R.length:=List.length_pos_iff.2 hR
     omega
end
end Go.Proofs.YtainfijdhcehlaaGreatDoor
