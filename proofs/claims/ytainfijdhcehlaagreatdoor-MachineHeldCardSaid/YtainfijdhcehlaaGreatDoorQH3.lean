/-
  A part of the proof.
-/
import Derived.Test.YtainfijdhcehlaaGreatDoorQH2
import Derived.IntWalk
import Derived.Shelf.SlGeneric
import Derived.Shelf.SortM.Plain
import Derived.Shelf.SortM.SortNone
import Derived.Ground.SlgmProg
import Derived.Test.YtainfijdhcehlaaGreatDoorProg
import Derived.Deep.RegionHeld3
import Derived.Deep.QuietTactic
import Derived.BigQuiet
import Derived.Outline
import Derived.WalkMore
import Derived.ScopeJumps
import Derived.Deep.LoopGhost
import Derived.Lib.Walk
import Derived.Shelf.Abstract
set_option linter.all false
set_option maxRecDepth 100000
set_option maxHeartbeats 8000000
namespace Go.Proofs.YtainfijdhcehlaaGreatDoor
open Lib (hid)
section
open Go.ChangeShapes Go.WideShapes Go.ChangeAt Go.RowKit
section
variable {w:World} {A:Option Addr} {n c:Nat} {l:List Int} {a q:Int}
theorem own_is' (hm:IMem w A n l) (hn:n<=1000000) :
 Calls Tryz.prog 222 #[.agg #[.int .i64 a,.int .i64 q,.slice A n c]] w λ e w'=>∃ B k,e=.returned (.agg #[.int .i64 a,.int .i64 q,.slice B n k])/\IOwn w.heap.size w' B n k l/\Gr w w':=by
 obtain⟨i0,hi0,hz0,hz1,hz2⟩:=info_parts infoInt
 have HZ:=hid hz0
 have HZ1:=hid hz1
 have HZ2:=hid hz2
 have HI0:=hid hi0
 have g0:=((Gr.refl w).al (.cells #[.int .i64 a,.int .i64 q,.slice A n c] 91)).al (.cells #[.int .i64 0,.int .i64 0,.slice none 0 0] 91)
 have B0:=(Blk.new w #[.int .i64 a,.int .i64 q,.slice A n c] 91).al (.cells #[.int .i64 0,.int .i64 0,.slice none 0 0] 91)
 have B1:=Blk.new (w.alloc (.cells #[.int .i64 a,.int .i64 q,.slice A n c] 91)) #[.int .i64 0,.int .i64 0,.slice none 0 0] 91
 simp only [World.size_alloc] at B1
 have HM:=hid (hm.gr g0)
 clear hz0 hz1 hz2 hi0 hm
 go_enter Tryz.func222,Tryz.ntmps222
 go_wp2_with (at_builtin;refine Mark.stop ?_)
 refine Mark.go ?_
 refine wpList_append_omem _ (Value.int .i64) B64 rfl (.const (.slice none 0 0)) (.tmp 4) 23 rfl (λ _=>rfl) (w.heap.size+1+1) 3 i0 (.int .i64 0) 8 Tryz.underlying23 HI0.out HZ.out HZ1.out HZ2.out rfl none 0 0 [] rfl OMem.nil_ A n c l rfl HM.out (by unfold maxLen;omega) (by omega) (by simp) ?_
 intro C k w1 own1 gb1
 rw [Nat.zero_add]
 rw [Nat.zero_add,List.nil_append] at own1
 have BB:=B0.gb gb1 (by simp)
 have BR:=B1.gb gb1 (by simp)
 have G1:=g0.gb gb1 (by simp)
 obtain⟨x0,_⟩:=BB.at_ (k:=0) rfl
 obtain⟨x1,_⟩:=BB.at_ (k:=1) rfl
 obtain⟨p2,z2⟩:=BB.at_ (k:=2) rfl
 obtain⟨y0,u0⟩:=BR.at_ (k:=0) rfl
 obtain⟨y1,u1⟩:=BR.at_ (k:=1) rfl
 obtain⟨y2,u2⟩:=BR.at_ (k:=2) rfl
 have hlt:=hid BR.lt
 have HBR:=hid ((((BR.st (p:=⟨w.heap.size,2,none⟩) (by simp) (.slice C n k)).set 0 (.int .i64 a)).set 1 (.int .i64 q)).set 2 (.slice C n k))
 have HGW:=hid ((((G1.st (p:=⟨w.heap.size,2,none⟩) (Nat.le_refl _) (.slice C n k)).st (p:=⟨w.heap.size+1,0,none⟩) (by show w.heap.size<=w.heap.size+1;omega) (.int .i64 a)).st (p:=⟨w.heap.size+1,1,none⟩) (by show w.heap.size<=w.heap.size+1;omega) (.int .i64 q)).st (p:=⟨w.heap.size+1,2,none⟩) (by show w.heap.size<=w.heap.size+1;omega) (.slice C n k))
 have HO:=hid (((((own1.st (p:=⟨w.heap.size,2,none⟩) (by show w.heap.size<w.heap.size+1+1;omega) (.slice C n k)).st (p:=⟨w.heap.size+1,0,none⟩) (by show w.heap.size+1<w.heap.size+1+1;omega) (.int .i64 a)).st (p:=⟨w.heap.size+1,1,none⟩) (by show w.heap.size+1<w.heap.size+1+1;omega) (.int .i64 q)).st (p:=⟨w.heap.size+1,2,none⟩) (by show w.heap.size+1<w.heap.size+1+1;omega) (.slice C n k)).low (show w.heap.size<=w.heap.size+1+1 from by omega))
 clear own1 gb1 BB BR G1 B0 B1 g0
 go_wp2_with fail
 have BF:=HBR.out
 have GW:=HGW.out
 have OW:=HO.out
 clear x0 x1 p2 z2 y0 u0 y1 u1 y2 u2 HBR HGW HO
 generalize (((w1.setCell _ _).setCell _ _).setCell _ _).setCell _ _=WF at BF GW OW ⊢
 have q0:WF.cell? ⟨w.heap.size+1,0,none⟩=some (.int .i64 a):=(BF.at_ (k:=0) rfl).1
 have q1:WF.cell? ⟨w.heap.size+1,1,none⟩=some (.int .i64 q):=(BF.at_ (k:=1) rfl).1
 have q2:WF.cell? ⟨w.heap.size+1,2,none⟩=some (.slice C n k):=(BF.at_ (k:=2) rfl).1
 exact bodyPost_ret (v:=.agg #[.int .i64 a,.int .i64 q,.slice C n k]) (by simp [results,Tryz.results222,go_sem,q0,q1,q2]) rfl ⟨C,k,rfl,OW,GW⟩
end
section
variable {w:World} {A:Option Addr} {n c:Nat} {l:List SV}
theorem RRight_is (hm:SMem w A n l) {v:Bool} (hv:v=true↔Tab l) :
 Calls Tryz.prog 92 #[.slice A n c] w λ e w'=>e=.returned (.bool v)/\Gr w w':=by
 have hlen:=hm.1
 have HM:=hid hm
 have HV:=hid hv
 clear hm hv
 by_cases hn:n<=64
 . have h1:¬ (64:Int)<(n:Int):=by omega
   go_enter Tryz.func92,Tryz.ntmps92
   go_wp2_with fail
   go_loopw [10] (λ i wr=>∃ k:Nat,k<=n/\i=.int .i64 (k:Int)/\Hid (TOk (l.take k))/\Hid (Gr w wr)) (λ i _=>n-(intOf i).toNat)
   case atStart=>exact⟨0,Nat.zero_le _,rfl,hid (by simpa using TOk.nil),hid (Gr.refl _)⟩
   case round =>
    obtain⟨k,hk,rfl,HT,HG⟩:=hrel
    by_cases hlt:k<n
    . obtain⟨b,off,x,rfl,hbl,hx,hok,d0,d1,d2⟩:=(HM.out.gr HG.out).at_ hlt
      have HX:=hid hx
      have HS:=hid (TOk.step hx HT.out)
      have k0:(0:Int)<=(k:Int):=by omega
      have k1:(k:Int)<(n:Int):=by omega
      have hlx:=hid hx
      obtain⟨X,hXe⟩:∃ X,wr.alloc (.cells #[.int .i64 x.addr,.int .i64 x.cnt,.slice x.A x.n x.c] 91)=X:=⟨_,rfl⟩
      have gX:Gr wr X:=hXe▸(Gr.refl wr).al _
      have ok1:=hid (hok.gr gX)
      have GX:=hid (HG.out.trans gX)
      have BX:Blk X wr.heap.size #[.int .i64 x.addr,.int .i64 x.cnt,.slice x.A x.n x.c] 91:=hXe▸Blk.new wr _ _
      have e0:X.drew.cell? ⟨wr.heap.size,0,none⟩=some (.int .i64 x.addr):=(BX.at_ (k:=0) rfl).1
      have e1:X.drew.cell? ⟨wr.heap.size,1,none⟩=some (.int .i64 x.cnt):=(BX.at_ (k:=1) rfl).1
      have e2:X.drew.cell? ⟨wr.heap.size,2,none⟩=some (.slice x.A x.n x.c):=(BX.at_ (k:=2) rfl).1
      have e3:wr.heap.size<X.drew.heap.size:=BX.lt
      obtain⟨b1,hb1⟩:=yes_no (SOk x)
      obtain⟨b2,hb2⟩:=yes_no (SNil x)
      have C1:Hid (∀ W,Gr X W->Calls Tryz.prog 123 #[.agg #[.int .i64 x.addr,.int .i64 x.cnt,.slice x.A x.n x.c]] W λ e w'=>e=.returned (.bool b1)/\Gr W w'):=hid λ W g=>rsound_is (ok1.out.gr g) hb1
      have C2:Hid (∀ W,Calls Tryz.prog 124 #[.agg #[.int .i64 x.addr,.int .i64 x.cnt,.slice x.A x.n x.c]] W λ e w'=>e=.returned (.bool b2)/\Gr W w'):=hid λ W=>empty_is ok1.out hb2 W
      have HB1:=hid hb1
      have HB2:=hid hb2
      clear hx hok hb1 hb2
      cases b1 with
      | false =>
       obtain rfl:v=false:=by
        cases v
        . rfl
        . have h1:=(HV.out.1 rfl).2.1 x (List.mem_of_getElem? HX.out)
          exact absurd (HB1.out.2 h1.1) (by simp)
       clear C2 HV
       go_wp2_with fail
       clear hXe
       refine wp_region_held_drew (S:=(λ W=>W.cell? ⟨wr.heap.size,0,none⟩=some (.int .i64 x.addr)/\W.cell? ⟨wr.heap.size,1,none⟩=some (.int .i64 x.cnt)/\W.cell? ⟨wr.heap.size,2,none⟩=some (.slice x.A x.n x.c)/\wr.heap.size<W.heap.size/\Gr X W)) (by kernel_rfl) ⟨e0,e1,e2,e3,(Gr.refl X).dr⟩ (λ hS=>?_)
       refine wG 0 hS ?_
       refine wR1 1 (λ K hK=>?_)
       go_simp;go_at_call 123;with_reducible refine (C1.out _ hS.2.2.2.2).mono ?_;rintro ee w9 ⟨rfl,hb⟩;go_wp2_with fail
       refine hK.out _ _ ⟨(hb.cell (p:=⟨wr.heap.size,0,none⟩) hS.2.2.2.1).trans hS.1,(hb.cell (p:=⟨wr.heap.size,1,none⟩) hS.2.2.2.1).trans hS.2.1,(hb.cell (p:=⟨wr.heap.size,2,none⟩) hS.2.2.2.1).trans hS.2.2.1,Nat.lt_of_lt_of_le hS.2.2.2.1 hb.size,Gr.trans hS.2.2.2.2 hb⟩ (λ hS=>?_)
       clear hK K
       try simp only [pL]
       refine wG 2 hS ?_
       refine wG 3 hS ?_
       refine wP 4 hS ?_
       refine wP 5 hS ?_
       refine wG 6 hS ?_
       refine wG 7 hS ?_
       refine wP 8 hS ?_
       refine wP 9 hS ?_
       refine wP 10 hS ?_
       refine wP 11 hS ?_
       refine wP 12 hS ?_
       refine wP 13 hS ?_
       refine wP 14 hS ?_
       refine wP 15 hS ?_
       refine wP 16 hS ?_
       refine wP 17 hS ?_
       refine wP 18 hS ?_
       refine wP 19 hS ?_
       refine wP 20 hS ?_
       refine wP 21 hS ?_
       refine wG 22 hS ?_
       refine wpAnyH_done (by kernel_rfl) ?_ _
       obtain⟨q0,q1,q2,q3,q4⟩:=hS
       have GF:=hid (GX.out.trans q4)
       clear q0 q1 q2 q3 q4
       go_wp2_with fail
       go_ret
       exact⟨rfl,GF.out⟩
      | true =>
       cases b2 with
       | true =>
        obtain rfl:v=false:=by
         cases v
         . rfl
         . have h1:=(HV.out.1 rfl).2.1 x (List.mem_of_getElem? HX.out)
           exact absurd (HB2.out.1 rfl) h1.2
        clear HV
        go_wp2_with fail
        clear hXe
        refine wp_region_held_drew (S:=(λ W=>W.cell? ⟨wr.heap.size,0,none⟩=some (.int .i64 x.addr)/\W.cell? ⟨wr.heap.size,1,none⟩=some (.int .i64 x.cnt)/\W.cell? ⟨wr.heap.size,2,none⟩=some (.slice x.A x.n x.c)/\wr.heap.size<W.heap.size/\Gr X W)) (by kernel_rfl) ⟨e0,e1,e2,e3,(Gr.refl X).dr⟩ (λ hS=>?_)
        refine wG 0 hS ?_
        refine wR1 1 (λ K hK=>?_)
        go_simp;go_at_call 123;with_reducible refine (C1.out _ hS.2.2.2.2).mono ?_;rintro ee w9 ⟨rfl,hb⟩;go_wp2_with fail
        refine hK.out _ _ ⟨(hb.cell (p:=⟨wr.heap.size,0,none⟩) hS.2.2.2.1).trans hS.1,(hb.cell (p:=⟨wr.heap.size,1,none⟩) hS.2.2.2.1).trans hS.2.1,(hb.cell (p:=⟨wr.heap.size,2,none⟩) hS.2.2.2.1).trans hS.2.2.1,Nat.lt_of_lt_of_le hS.2.2.2.1 hb.size,Gr.trans hS.2.2.2.2 hb⟩ (λ hS=>?_)
        clear hK K
        try simp only [pL]
        refine wG 2 hS ?_
        refine wG 3 hS ?_
        refine wG 4 hS ?_
        refine wR1 5 (λ K hK=>?_)
        go_simp;go_at_call 124;with_reducible refine (C2.out _).mono ?_;rintro ee w9 ⟨rfl,hb⟩;go_wp2_with fail
        refine hK.out _ _ ⟨(hb.cell (p:=⟨wr.heap.size,0,none⟩) hS.2.2.2.1).trans hS.1,(hb.cell (p:=⟨wr.heap.size,1,none⟩) hS.2.2.2.1).trans hS.2.1,(hb.cell (p:=⟨wr.heap.size,2,none⟩) hS.2.2.2.1).trans hS.2.2.1,Nat.lt_of_lt_of_le hS.2.2.2.1 hb.size,Gr.trans hS.2.2.2.2 hb⟩ (λ hS=>?_)
        clear hK K
        try simp only [pL]
        refine wG 6 hS ?_
        refine wG 7 hS ?_
        refine wP 8 hS ?_
        refine wP 9 hS ?_
        refine wP 10 hS ?_
        refine wP 11 hS ?_
        refine wP 12 hS ?_
        refine wP 13 hS ?_
        refine wP 14 hS ?_
        refine wP 15 hS ?_
        refine wP 16 hS ?_
        refine wP 17 hS ?_
        refine wP 18 hS ?_
        refine wP 19 hS ?_
        refine wP 20 hS ?_
        refine wP 21 hS ?_
        refine wG 22 hS ?_
        refine wpAnyH_done (by kernel_rfl) ?_ _
        obtain⟨q0,q1,q2,q3,q4⟩:=hS
        have GF:=hid (GX.out.trans q4)
        clear q0 q1 q2 q3 q4
        go_wp2_with fail
        go_ret
        exact⟨rfl,GF.out⟩
       | false =>
        cases k with
        | zero =>
         simp only [Nat.zero_mul,Nat.add_zero] at d0 d1 d2
         have HT':Hid (TOk (l.take (0+1))):=hid (HS.out.2 ⟨HB1.out.1 rfl,λ h=>absurd (HB2.out.2 h) (by simp),λ p y hp=>absurd hp (by omega)⟩)
         go_wp2_with fail
         clear hXe
         refine wp_region_held_drew (S:=(λ W=>W.cell? ⟨wr.heap.size,0,none⟩=some (.int .i64 x.addr)/\W.cell? ⟨wr.heap.size,1,none⟩=some (.int .i64 x.cnt)/\W.cell? ⟨wr.heap.size,2,none⟩=some (.slice x.A x.n x.c)/\wr.heap.size<W.heap.size/\Gr X W)) (by kernel_rfl) ⟨e0,e1,e2,e3,(Gr.refl X).dr⟩ (λ hS=>?_)
         refine wG 0 hS ?_
         refine wR1 1 (λ K hK=>?_)
         go_simp;go_at_call 123;with_reducible refine (C1.out _ hS.2.2.2.2).mono ?_;rintro ee w9 ⟨rfl,hb⟩;go_wp2_with fail
         refine hK.out _ _ ⟨(hb.cell (p:=⟨wr.heap.size,0,none⟩) hS.2.2.2.1).trans hS.1,(hb.cell (p:=⟨wr.heap.size,1,none⟩) hS.2.2.2.1).trans hS.2.1,(hb.cell (p:=⟨wr.heap.size,2,none⟩) hS.2.2.2.1).trans hS.2.2.1,Nat.lt_of_lt_of_le hS.2.2.2.1 hb.size,Gr.trans hS.2.2.2.2 hb⟩ (λ hS=>?_)
         clear hK K
         try simp only [pL]
         refine wG 2 hS ?_
         refine wG 3 hS ?_
         refine wG 4 hS ?_
         refine wR1 5 (λ K hK=>?_)
         go_simp;go_at_call 124;with_reducible refine (C2.out _).mono ?_;rintro ee w9 ⟨rfl,hb⟩;go_wp2_with fail
         refine hK.out _ _ ⟨(hb.cell (p:=⟨wr.heap.size,0,none⟩) hS.2.2.2.1).trans hS.1,(hb.cell (p:=⟨wr.heap.size,1,none⟩) hS.2.2.2.1).trans hS.2.1,(hb.cell (p:=⟨wr.heap.size,2,none⟩) hS.2.2.2.1).trans hS.2.2.1,Nat.lt_of_lt_of_le hS.2.2.2.1 hb.size,Gr.trans hS.2.2.2.2 hb⟩ (λ hS=>?_)
         clear hK K
         try simp only [pL]
         refine wG 6 hS ?_
         refine wG 7 hS ?_
         refine wG 8 hS ?_
         refine wG 9 hS ?_
         refine wG 10 hS ?_
         refine wP 11 hS ?_
         refine wP 12 hS ?_
         refine wP 13 hS ?_
         refine wP 14 hS ?_
         refine wP 15 hS ?_
         refine wP 16 hS ?_
         refine wP 17 hS ?_
         refine wP 18 hS ?_
         refine wP 19 hS ?_
         refine wP 20 hS ?_
         refine wG 21 hS ?_
         refine wG 22 hS ?_
         refine wpAnyH_done (by kernel_rfl) ?_ _
         obtain⟨q0,q1,q2,q3,q4⟩:=hS
         have GF:=hid (GX.out.trans q4)
         clear q0 q1 q2 q3 q4
         go_wp2_with fail
         go_roundw
         case rel=>exact⟨0+1,by omega,by go_num,HT',GF⟩
         case measure=>simp [intOf];omega
        | succ p =>
         obtain⟨k,hkp⟩:∃ k,p+1=k:=⟨_,rfl⟩
         rw [hkp] at hk HT hlt d0 d1 d2 HX HS k0 k1 hlx ⊢
         obtain⟨b',off',y,hb',_,hy,_,f0,_,_⟩:=(HM.out.gr HG.out).at_ (show p<n by omega)
         cases hb'
         have hw:IntKind.i64.wrap ((k:Int)-1)=(p:Int):=by rw [wrap_id (by omega) (by omega)];omega
         have p0:(0:Int)<=(p:Int):=by omega
         have p1:(p:Int)<(n:Int):=by omega
         have p2:(0:Int)<(k:Int):=by omega
         have f1:X.drew.cell? ⟨b,off+p*3,none⟩=some (.int .i64 y.addr):=(gX.cell (p:=⟨b,off+p*3,none⟩) hbl).trans f0
         have f2:b<X.drew.heap.size:=Nat.lt_of_lt_of_le hbl gX.size
         have hyk:y∈l.take k:=List.mem_iff_getElem?.2 ⟨p,by rw [List.getElem?_take,if_pos (by omega)];exact hy⟩
         obtain⟨b3,hb3⟩:=yes_no (Lt y.addr x.addr)
         have C3:Hid (∀ W,Calls Tryz.prog 125 #[.int .i64 y.addr,.int .i64 x.addr] W λ e w'=>e=.returned (.bool b3)/\w'=W):=hid λ W=>ahead_is (Tab.key HT.out hyk) (HB1.out.1 rfl).1 hb3 W
         have HB3:=hid hb3
         have HY:=hid hy
         clear hy hyk hb3 f0
         cases b3 with
         | true =>
          have HT':Hid (TOk (l.take (k+1))):=hid (HS.out.2 ⟨HB1.out.1 rfl,λ h=>absurd (HB2.out.2 h) (by simp),λ p' y' hp hy'=>by
           obtain rfl:p'=p:=by omega
           rw [HY.out] at hy'
           cases hy'
           exact HB3.out.1 rfl⟩)
          go_wp2_with fail
          clear hXe
          refine wp_region_held_drew (S:=(λ W=>W.cell? ⟨wr.heap.size,0,none⟩=some (.int .i64 x.addr)/\W.cell? ⟨wr.heap.size,1,none⟩=some (.int .i64 x.cnt)/\W.cell? ⟨wr.heap.size,2,none⟩=some (.slice x.A x.n x.c)/\wr.heap.size<W.heap.size/\Gr X W/\W.cell? ⟨b,off+p*3,none⟩=some (.int .i64 y.addr)/\b<W.heap.size)) (by kernel_rfl) ⟨e0,e1,e2,e3,(Gr.refl X).dr,f1,f2⟩ (λ hS=>?_)
          refine wG 0 hS ?_
          refine wR1 1 (λ K hK=>?_)
          go_simp;go_at_call 123;with_reducible refine (C1.out _ hS.2.2.2.2.1).mono ?_;rintro ee w9 ⟨rfl,hb⟩;go_wp2_with fail
          refine hK.out _ _ ⟨(hb.cell (p:=⟨wr.heap.size,0,none⟩) hS.2.2.2.1).trans hS.1,(hb.cell (p:=⟨wr.heap.size,1,none⟩) hS.2.2.2.1).trans hS.2.1,(hb.cell (p:=⟨wr.heap.size,2,none⟩) hS.2.2.2.1).trans hS.2.2.1,Nat.lt_of_lt_of_le hS.2.2.2.1 hb.size,Gr.trans hS.2.2.2.2.1 hb,(hb.cell (p:=⟨b,off+p*3,none⟩) hS.2.2.2.2.2.2).trans hS.2.2.2.2.2.1,Nat.lt_of_lt_of_le hS.2.2.2.2.2.2 hb.size⟩ (λ hS=>?_)
          clear hK K
          try simp only [pL]
          refine wG 2 hS ?_
          refine wG 3 hS ?_
          refine wG 4 hS ?_
          refine wR1 5 (λ K hK=>?_)
          go_simp;go_at_call 124;with_reducible refine (C2.out _).mono ?_;rintro ee w9 ⟨rfl,hb⟩;go_wp2_with fail
          refine hK.out _ _ ⟨(hb.cell (p:=⟨wr.heap.size,0,none⟩) hS.2.2.2.1).trans hS.1,(hb.cell (p:=⟨wr.heap.size,1,none⟩) hS.2.2.2.1).trans hS.2.1,(hb.cell (p:=⟨wr.heap.size,2,none⟩) hS.2.2.2.1).trans hS.2.2.1,Nat.lt_of_lt_of_le hS.2.2.2.1 hb.size,Gr.trans hS.2.2.2.2.1 hb,(hb.cell (p:=⟨b,off+p*3,none⟩) hS.2.2.2.2.2.2).trans hS.2.2.2.2.2.1,Nat.lt_of_lt_of_le hS.2.2.2.2.2.2 hb.size⟩ (λ hS=>?_)
          clear hK K
          try simp only [pL]
          refine wG 6 hS ?_
          refine wG 7 hS ?_
          refine wG 8 hS ?_
          refine wpAnyH_goes 9 (v:=.bool true) rfl rfl (by kernel_rfl) (by kernel_rfl) (by kernel_rfl) (λ _ _ _ h=>h) (by rfl) (λ w9 hw9=>?_) hS ?_
          . (try dsimp only at hw9);go_simp;first | done | omega | (simp [*];done) | (simp;omega)
          try simp only [pL]
          refine wG 10 hS ?_
          refine wG 11 hS ?_
          refine wG 12 hS ?_
          refine wG 13 hS ?_
          refine wG 14 hS ?_
          refine wG 15 hS ?_
          refine wG 16 hS ?_
          refine wG 17 hS ?_
          refine wG 18 hS ?_
          refine wR1 19 (λ K hK=>?_)
          go_simp;go_at_call 125;with_reducible refine (C3.out _).mono ?_;rintro ee w9 ⟨rfl,rfl⟩;go_wp2_with fail
          refine hK.out _ _ hS (λ hS=>?_)
          clear hK K
          try simp only [pL]
          refine wG 20 hS ?_
          refine wG 21 hS ?_
          refine wG 22 hS ?_
          refine wpAnyH_done (by kernel_rfl) ?_ _
          obtain⟨q0,q1,q2,q3,q4,q5,q6⟩:=hS
          have GF:=hid (GX.out.trans q4)
          clear q0 q1 q2 q3 q4 q5 q6
          go_wp2_with fail
          go_roundw
          case rel=>exact⟨k+1,by omega,by go_num,HT',GF⟩
          case measure=>simp [intOf];omega
         | false =>
          obtain rfl:v=false:=by
           cases v
           . rfl
           . exact absurd (HB3.out.2 ((HV.out.1 rfl).2.at_ (show p<k by omega) HY.out HX.out)) (by simp)
          clear HV
          go_wp2_with fail
          clear hXe
          refine wp_region_held_drew (S:=(λ W=>W.cell? ⟨wr.heap.size,0,none⟩=some (.int .i64 x.addr)/\W.cell? ⟨wr.heap.size,1,none⟩=some (.int .i64 x.cnt)/\W.cell? ⟨wr.heap.size,2,none⟩=some (.slice x.A x.n x.c)/\wr.heap.size<W.heap.size/\Gr X W/\W.cell? ⟨b,off+p*3,none⟩=some (.int .i64 y.addr)/\b<W.heap.size)) (by kernel_rfl) ⟨e0,e1,e2,e3,(Gr.refl X).dr,f1,f2⟩ (λ hS=>?_)
          refine wG 0 hS ?_
          refine wR1 1 (λ K hK=>?_)
          go_simp;go_at_call 123;with_reducible refine (C1.out _ hS.2.2.2.2.1).mono ?_;rintro ee w9 ⟨rfl,hb⟩;go_wp2_with fail
          refine hK.out _ _ ⟨(hb.cell (p:=⟨wr.heap.size,0,none⟩) hS.2.2.2.1).trans hS.1,(hb.cell (p:=⟨wr.heap.size,1,none⟩) hS.2.2.2.1).trans hS.2.1,(hb.cell (p:=⟨wr.heap.size,2,none⟩) hS.2.2.2.1).trans hS.2.2.1,Nat.lt_of_lt_of_le hS.2.2.2.1 hb.size,Gr.trans hS.2.2.2.2.1 hb,(hb.cell (p:=⟨b,off+p*3,none⟩) hS.2.2.2.2.2.2).trans hS.2.2.2.2.2.1,Nat.lt_of_lt_of_le hS.2.2.2.2.2.2 hb.size⟩ (λ hS=>?_)
          clear hK K
          try simp only [pL]
          refine wG 2 hS ?_
          refine wG 3 hS ?_
          refine wG 4 hS ?_
          refine wR1 5 (λ K hK=>?_)
          go_simp;go_at_call 124;with_reducible refine (C2.out _).mono ?_;rintro ee w9 ⟨rfl,hb⟩;go_wp2_with fail
          refine hK.out _ _ ⟨(hb.cell (p:=⟨wr.heap.size,0,none⟩) hS.2.2.2.1).trans hS.1,(hb.cell (p:=⟨wr.heap.size,1,none⟩) hS.2.2.2.1).trans hS.2.1,(hb.cell (p:=⟨wr.heap.size,2,none⟩) hS.2.2.2.1).trans hS.2.2.1,Nat.lt_of_lt_of_le hS.2.2.2.1 hb.size,Gr.trans hS.2.2.2.2.1 hb,(hb.cell (p:=⟨b,off+p*3,none⟩) hS.2.2.2.2.2.2).trans hS.2.2.2.2.2.1,Nat.lt_of_lt_of_le hS.2.2.2.2.2.2 hb.size⟩ (λ hS=>?_)
          clear hK K
          try simp only [pL]
          refine wG 6 hS ?_
          refine wG 7 hS ?_
          refine wG 8 hS ?_
          refine wpAnyH_goes 9 (v:=.bool true) rfl rfl (by kernel_rfl) (by kernel_rfl) (by kernel_rfl) (λ _ _ _ h=>h) (by rfl) (λ w9 hw9=>?_) hS ?_
          . (try dsimp only at hw9);go_simp;first | done | omega | (simp [*];done) | (simp;omega)
          try simp only [pL]
          refine wG 10 hS ?_
          refine wG 11 hS ?_
          refine wG 12 hS ?_
          refine wG 13 hS ?_
          refine wG 14 hS ?_
          refine wG 15 hS ?_
          refine wG 16 hS ?_
          refine wG 17 hS ?_
          refine wG 18 hS ?_
          refine wR1 19 (λ K hK=>?_)
          go_simp;go_at_call 125;with_reducible refine (C3.out _).mono ?_;rintro ee w9 ⟨rfl,rfl⟩;go_wp2_with fail
          refine hK.out _ _ hS (λ hS=>?_)
          clear hK K
          try simp only [pL]
          refine wG 20 hS ?_
          refine wG 21 hS ?_
          refine wG 22 hS ?_
          refine wpAnyH_done (by kernel_rfl) ?_ _
          obtain⟨q0,q1,q2,q3,q4,q5,q6⟩:=hS
          have GF:=hid (GX.out.trans q4)
          clear q0 q1 q2 q3 q4 q5 q6
          go_wp2_with fail
          go_ret
          exact⟨rfl,GF.out⟩
    . obtain rfl:k=n:=by omega
      obtain rfl:v=true:=HV.out.2 ⟨by omega,by have:=HT.out;rwa [<- hlen,List.take_length] at this⟩
      clear HV
      have G1:=HG
      go_wp2_with fail
      go_ret
      exact⟨rfl,G1.out⟩
 . obtain rfl:v=false:=by
    cases v
    . rfl
    . have:=(HV.out.1 rfl).1;omega
   have h1:(64:Int)<(n:Int):=by omega
   clear HV
   go_enter Tryz.func92,Tryz.ntmps92
   go_wp2_with fail
   go_ret
   exact⟨rfl,Gr.refl _⟩
end
end
end Go.Proofs.YtainfijdhcehlaaGreatDoor
namespace Go.Proofs
open Go.Shelf
def Tryz.laySort_ren : Go.Shelf.Ren := ⟨fun | 5 => 247 | 8 => 250 | 7 => 249 | 19 => 260 | 20 => 261 | 10 => 251 | 11 => 252 | 12 => 253 | 13 => 254 | 14 => 255 | 15 => 256 | 16 => 257 | 17 => 258 | 18 => 259 | 30 => 262 | 31 => 263 | 32 => 264 | 33 => 265 | 34 => 266 | 35 => 267 | 40 => 268 | n => n, fun | 23 => 23 | 25 => 3 | 3 => 3 | 32 => 144 | 22 => 23 | 0 => 0 | 44 => 169 | 46 => 71 | 4 => 4 | 36 => 306 | 35 => 305 | 41 => 268 | 5 => 5 | 9 => 9 | 53 => 313 | 57 => 240 | 63 => 318 | 64 => 319 | n => n, fun | n => n⟩
theorem Tryz.laySort : Go.Proofs.SlLaysM.n5 Tryz.prog Tryz.laySort_ren := {
  mixed := by kernel_rfl
  f5 := ⟨Tryz.f247.name, by decide, Tryz.func247.trans (congrArg some (by kernel_rfl))⟩
  f7 := ⟨Tryz.f249.name, by decide, Tryz.func249.trans (congrArg some (by kernel_rfl))⟩
  f8 := Tryz.func250.trans (congrArg some (by kernel_rfl))
  f10 := ⟨Tryz.f251.name, by decide, Tryz.func251.trans (congrArg some (by kernel_rfl))⟩
  f11 := ⟨Tryz.f252.name, by decide, Tryz.func252.trans (congrArg some (by kernel_rfl))⟩
  f12 := ⟨Tryz.f253.name, by decide, Tryz.func253.trans (congrArg some (by kernel_rfl))⟩
  f13 := ⟨Tryz.f254.name, by decide, Tryz.func254.trans (congrArg some (by kernel_rfl))⟩
  f14 := ⟨Tryz.f255.name, by decide, Tryz.func255.trans (congrArg some (by kernel_rfl))⟩
  f15 := ⟨Tryz.f256.name, by decide, Tryz.func256.trans (congrArg some (by kernel_rfl))⟩
  f16 := ⟨Tryz.f257.name, by decide, Tryz.func257.trans (congrArg some (by kernel_rfl))⟩
  f17 := ⟨Tryz.f258.name, by decide, Tryz.func258.trans (congrArg some (by kernel_rfl))⟩
  f18 := ⟨Tryz.f259.name, by decide, Tryz.func259.trans (congrArg some (by kernel_rfl))⟩
  f19 := Tryz.func260.trans (congrArg some (by kernel_rfl))
  f20 := Tryz.func261.trans (congrArg some (by kernel_rfl))
  f30 := ⟨Tryz.f262.name, by decide, Tryz.func262.trans (congrArg some (by kernel_rfl))⟩
  f31 := Tryz.func263.trans (congrArg some (by kernel_rfl))
  f32 := Tryz.func264.trans (congrArg some (by kernel_rfl))
  f33 := ⟨Tryz.f265.name, by decide, Tryz.func265.trans (congrArg some (by kernel_rfl))⟩
  f34 := ⟨Tryz.f266.name, by decide, Tryz.func266.trans (congrArg some (by kernel_rfl))⟩
  f35 := ⟨Tryz.f267.name, by decide, Tryz.func267.trans (congrArg some (by kernel_rfl))⟩
  f40 := ⟨Tryz.f268.name, by decide, Tryz.func268.trans (congrArg some (by kernel_rfl))⟩
  t0 := Tryz.underlying0
  a0 := Tryz.isAgg0
  z0 := Tryz.sizeOf0
  v0 := Tryz.zeroValue0
  t3 := Tryz.underlying3
  a3 := Tryz.isAgg3
  z3 := Tryz.sizeOf3
  v3 := Tryz.zeroValue3
  t4 := Tryz.underlying4
  a4 := Tryz.isAgg4
  z4 := Tryz.sizeOf4
  v4 := Tryz.zeroValue4
  t5 := Tryz.underlying5
  a5 := Tryz.isAgg5
  z5 := Tryz.sizeOf5
  v5 := Tryz.zeroValue5
  t9 := Tryz.underlying9
  a9 := Tryz.isAgg9
  z9 := Tryz.sizeOf9
  v9 := Tryz.zeroValue9
  t22 := Tryz.underlying23
  a22 := Tryz.isAgg23
  z22 := Tryz.sizeOf23
  v22 := Tryz.zeroValue23
  t23 := Tryz.underlying23
  a23 := Tryz.isAgg23
  z23 := Tryz.sizeOf23
  v23 := Tryz.zeroValue23
  t25 := Tryz.underlying3
  a25 := Tryz.isAgg3
  z25 := Tryz.sizeOf3
  v25 := Tryz.zeroValue3
  t32 := Tryz.underlying144
  a32 := Tryz.isAgg144
  z32 := Tryz.sizeOf144
  v32 := Tryz.zeroValue144
  t35 := Tryz.underlying305
  a35 := Tryz.isAgg305
  z35 := Tryz.sizeOf305
  v35 := Tryz.zeroValue305
  t36 := Tryz.underlying306
  a36 := Tryz.isAgg306
  z36 := Tryz.sizeOf306
  v36 := Tryz.zeroValue306
  t41 := Tryz.underlying268
  a41 := Tryz.isAgg268
  z41 := Tryz.sizeOf268
  v41 := Tryz.zeroValue268
  t44 := Tryz.underlying169
  a44 := Tryz.isAgg169
  z44 := Tryz.sizeOf169
  v44 := Tryz.zeroValue169
  t46 := Tryz.underlying71
  a46 := Tryz.isAgg71
  z46 := Tryz.sizeOf71
  v46 := Tryz.zeroValue71
  t53 := Tryz.underlying313
  a53 := Tryz.isAgg313
  z53 := Tryz.sizeOf313
  v53 := Tryz.zeroValue313
  t57 := Tryz.underlying240
  a57 := Tryz.isAgg240
  z57 := Tryz.sizeOf240
  v57 := Tryz.zeroValue240
  t63 := Tryz.underlying318
  a63 := Tryz.isAgg318
  z63 := Tryz.sizeOf318
  v63 := Tryz.zeroValue318
  t64 := Tryz.underlying319
  a64 := Tryz.isAgg319
  z64 := Tryz.sizeOf319
  v64 := Tryz.zeroValue319 }
end Go.Proofs
namespace Go.Proofs.YtainfijdhcehlaaGreatDoor
open Lib (hid)
section
open Go.ChangeShapes Go.WideShapes Go.ChangeAt Go.RowKit Go.Shelf
section
variable {w w':World} {base n c b off:Nat} {A:Option Addr} {L R:List Int}
theorem grownBy_put (q:Nat) (R:List Int) (os:Array Obj) (hb:b<w.heap.size):w.grownBy (Sort.grow (Sort.putRow (Value.int .i64) (Sort.ahead w q) b off R.toArray) os) (some b) where
 os:=rfl
 tape:=rfl
 output:=rfl
 size:=by simp [Sort.ahead]
 block:=λ k hk hne=>by
  rw [Sort.heap_grow_old _ _ (by simpa [Sort.ahead] using hk)]
  have:b≠k:=λ e=>hne (by rw [e])
  simp [Sort.putRow,Sort.mapBlock,Array.getElem?_modify,this,Sort.ahead]
theorem OMem.holds (ho:IOwn base w (some ⟨b,off,none⟩) n c L):Sort.Holds (Value.int .i64) w b off L.toArray:=by
 intro j hj
 have hj':j<L.length:=by simpa using hj
 obtain⟨h1,h2,h3,h4⟩:=ho
 have hn:=h1.1
 obtain⟨b',off',e,hlt,hc⟩:=h1.2.2 (by omega)
 cases e
 rcases h4 with ⟨e,_⟩ | ⟨b',off',e,h5,h6,h7⟩
 . cases e
 . cases e
   refine⟨?_,(h7 j (by omega)).2⟩
   rw [hc j L[j] (List.getElem?_eq_getElem hj')]
   simp [hj']
theorem OMem.put (ho:IOwn base w (some ⟨b,off,none⟩) n c L) (q:Nat) (os:Array Obj) (hl:R.length=n) (hR:∀ x∈R,B64 x) :
 IOwn base (Sort.grow (Sort.putRow (Value.int .i64) (Sort.ahead w q) b off R.toArray) os) (some ⟨b,off,none⟩) n c R:=by
 have hh:=ho.holds
 obtain⟨h1,h2,h3,h4⟩:=ho
 rcases h4 with ⟨e,_⟩ | ⟨b',off',e,h5,h6,h7⟩
 . cases e
 . cases e
   have hs:b<(Sort.putRow (Value.int .i64) (Sort.ahead w q) b off R.toArray).heap.size:=by simpa [Sort.ahead] using h6
   have hsz:R.toArray.size=L.toArray.size:=by simp [hl,h1.1]
   have hin:∀ j,j<n->(Sort.putRow (Value.int .i64) (Sort.ahead w q) b off R.toArray).cell? ⟨b,off+j,none⟩=some (.int .i64 R.toArray[j]!):=λ j hj =>
    Sort.cell?_putRow (Value.int .i64) (Sort.ahead w q) b off L.toArray R.toArray hh hsz j (by simpa [hl] using hj)
   refine⟨⟨hl,hR,λ hn=>⟨b,off,rfl,by simp [Sort.ahead];omega,λ j x hx=>?_⟩⟩,h2,h3,.inr ⟨b,off,rfl,h5,by simp [Sort.ahead];omega,λ j hj=>⟨?_,?_⟩⟩⟩
   . have hj:=(List.getElem?_eq_some_iff.1 hx).1
     rw [Sort.cell?_grow _ _ _ hs,hin j (by omega)]
     have:=(List.getElem?_eq_some_iff.1 hx).2
     simp [hj,this]
   . rw [Sort.cell?_grow _ _ _ hs]
     by_cases hjn:j<n
     . rw [hin j hjn];rfl
     . rw [Sort.cell?_putRow_other _ _ _ _ _ _ (.inr (.inr (by simp [hl];omega)))]
       exact (h7 j hj).1
   . rw [Sort.frozen?_grow _ _ _ hs,Sort.frozen?_putRow]
     exact (h7 j hj).2
theorem OMem.take (ho:IOwn base w A n c L) (k:Nat) (hk:k<=n):IOwn base w A k c (L.take k):=⟨ho.1.take_ k hk,by have:=ho.2.1;omega,ho.2.2.1,ho.2.2.2⟩
def srt (L:List Int):List Int:=L.mergeSort (λ x y=>decide (x<=y))
theorem srt_perm (L:List Int):(srt L).Perm L:=List.mergeSort_perm _ _
theorem srt_len (L:List Int):(srt L).length=L.length:=(srt_perm L).length_eq
theorem srt_rising {L:List Int} (h:L.Nodup):Rising (srt L):=by
 have hs:(srt L).Pairwise (λ x y=>decide (x<=y)=true):=List.pairwise_mergeSort (λ a b c h1 h2=>by simp only [decide_eq_true_eq] at *;omega) (λ a b=>by simp only [Bool.or_eq_true,decide_eq_true_eq];omega) L
 have hn:(srt L).Nodup:=(srt_perm L).nodup_iff.2 h
 refine List.Pairwise.imp₂ ?_ hs hn
 intro a b h1 h2
 rw [decide_eq_true_eq] at h1
 omega
theorem Sort_is (ho:IOwn base w A n c L) (hn:n<=1000000) :
 Calls Tryz.prog 247 #[.slice A n c] w λ e w'=>e=.returned (.tuple #[])/\IOwn base w' A n c (srt L)/\w.grownBy w' (A.map (·.block)):=by
 have hlen:=ho.1.1
 by_cases h0:n=0
 . subst h0
   have hL:L=[]:=List.eq_nil_of_length_eq_zero hlen
   subst hL
   refine (AnyM.slices_Sort_int_none Tryz.laySort A c w).mono ?_
   rintro e w' ⟨rfl,rfl⟩
   exact⟨rfl,by simpa [srt] using ho,World.grownBy.refl _ _⟩
 . have ho':=ho
   obtain⟨h1,h2,h3,h4⟩:=ho
   obtain⟨b,off,rfl,hlt,hc⟩:=h1.2.2 (by omega)
   unfold maxLen at h3
   have hcon:=AnyM.slices_Sort_int Tryz.laySort b off c L w ho'.holds hlt (by omega)
   rw [hlen] at hcon
   refine hcon.mono ?_
   rintro e w' ⟨rfl,q,os,rfl⟩
   exact⟨rfl,ho'.put q os ((srt_len L).trans hlen) (λ x hx=>h1.2.1 x ((srt_perm L).mem_iff.1 hx)),grownBy_put q (srt L) os hlt⟩
end
theorem Lay.inord_ids {l:List Nd}:∀ {t:T} {a:Int},Lay l t a->t.inord=t.ids.map λ i=>(l[i]?.getD default).key
 | .nil,_,_=>rfl
 | .node j k L R,a,h=>by
  obtain⟨h1,nd,h2,h3,h4,h5⟩:=h
  simp only [T.inord,T.ids,List.map_append,List.map_cons,h2,Option.getD_some,h3]
  rw [Lay.inord_ids h4,Lay.inord_ids h5]
theorem Good.perm {l:List Nd} {r:Int} {t:T} (h:Good l r t):(l.map Nd.key).Perm t.inord:=by
 have e:l.map Nd.key=(List.range l.length).map λ i=>(l[i]?.getD default).key:=by
  apply List.ext_getElem
  . simp
  . intro i h1 h2
    have:i<l.length:=by simpa using h1
    simp [this]
 rw [e,h.1.inord_ids]
 refine List.Perm.map _ ((List.perm_ext_iff_of_nodup List.nodup_range (h.1.nodup h.2.2.2.1)).2 λ i=>?_)
 rw [List.mem_range]
 refine⟨λ hi=>h.all hi,λ hi=>?_⟩
 obtain⟨nd,e,_⟩:=h.1.key_of i hi
 exact (List.getElem?_eq_some_iff.1 e).1
end
section
open Go.ChangeShapes Go.WideShapes Go.ChangeAt Go.RowKit
def prf (k:Int):Int:=if 0<=k/\k<=4294967295 then pri k else -1
theorem prf_key {k:Int} (h:IsKey k):prf k=pri k:=if_pos h
theorem prf_no {k:Int} (h:¬ IsKey k):prf k=-1:=if_neg h
theorem wrap_u32 (x:Int):IntKind.u32.wrap x=x % 4294967296:=by simp [IntKind.wrap,IntKind.bits,IntKind.signed]
theorem Pri_is (k:Int) (w:World):Calls Tryz.prog 235 #[.int .i64 k] w λ e w'=>e=.returned (.int .i64 (prf k))/\w'=w:=by
 by_cases h:IsKey k
 . rw [prf_key h]
   unfold IsKey at h
   obtain⟨h0,h1⟩:=h
   obtain⟨p,hp⟩:∃ p,p=pri k:=⟨_,rfl⟩
   rw [<- hp]
   have e1:IntKind.u32.wrap k=k:=(wrap_u32 k).trans (by omega)
   have e2:IntKind.u32.wrap (k*2654435761)=p:=(wrap_u32 _).trans (by rw [hp];rfl)
   have hr:0<=p/\p<4294967296:=by rw [hp];exact pri_range k
   have e3:IntKind.i64.wrap p=p:=wrap_id (by omega) (by omega)
   clear hp
   go_enter Tryz.func235,Tryz.ntmps235
   go_wp2_with fail
   go_ret
   exact⟨rfl,rfl⟩
 . rw [prf_no h]
   unfold IsKey at h
   by_cases h0:k<0
   . go_enter Tryz.func235,Tryz.ntmps235
     go_wp2_with fail
     go_ret
     exact⟨rfl,rfl⟩
   . have h1:4294967295<k:=by omega
     go_enter Tryz.func235,Tryz.ntmps235
     go_wp2_with fail
     go_ret
     exact⟨rfl,rfl⟩
end
section
open Go.ChangeShapes Go.WideShapes Go.ChangeAt Go.RowKit
theorem least_ex {p:Nat->Prop} (h:∃ m,p m):∃ m,p m/\∀ k,p k->m<=k:=by
 obtain⟨m,hm⟩:=h
 induction m using Nat.strongRecOn with
 | _ m ih =>
  by_cases h:∃ k,k<m/\p k
  . obtain⟨k,hk,hp⟩:=h
    exact ih k hk hp
  . refine⟨m,hm,λ k hk=>Nat.le_of_not_lt λ hlt=>h ⟨k,hlt,hk⟩⟩
theorem wp_scope_ghost {P:Program} {c rest:Code} {a:Act} {w:World} {Q:Exit->Act->World->Prop} (l:Nat) (J:Nat->Act->World->Prop) (hf:findLabel c l=some rest)
 (first:c.wp P (Exit.jump l (λ a' w'=>∃ m,J m a' w') Q) a w)
 (pass:∀ m a w,J m a w->rest.wp P (Exit.jump l (λ a' w'=>∃ m',m'<m/\J m' a' w') Q) a w):(Code.scope c).wp P Q a w:=by
 classical
 let μ:Act->World->Nat:=λ a w=>if h:∃ m,J m a w then Classical.choose (least_ex h) else 0
 have hμ:∀ a w,(∃ m,J m a w)->J (μ a w) a w/\∀ k,J k a w->μ a w<=k:=λ a w h=>by
  show J (if h:∃ m,J m a w then Classical.choose (least_ex h) else 0) a w/\_
  have:=Classical.choose_spec (least_ex h)
  simp only [μ,dif_pos h]
  exact this
 refine wp_scope_jumps l (λ a' w'=>∃ m,J m a' w') μ hf first λ a w h=>?_
 refine Code.wp_mono (λ e a' w' hq=>?_) (pass (μ a w) a w (hμ a w h).1)
 cases e with
 | goto l' =>
  obtain⟨h1,m',h2,h3⟩:=hq
  exact⟨h1,⟨m',h3⟩,Nat.lt_of_le_of_lt ((hμ a' w' ⟨m',h3⟩).2 m' h3) h2⟩
 | normal=>exact hq
 | exit id=>exact hq
 | ret=>exact hq
 | panic ch=>exact hq
 | outgrown=>exact hq
theorem wp_scope_once {P:Program} {c rest:Code} {a:Act} {w:World} {Q:Exit->Act->World->Prop} (l:Nat) (J:Nat->Act->World->Prop) (hf:findLabel c l=some (.seq .skip rest))
 (pass:∀ m a w,J m a w->rest.wp P (Exit.jump l (λ a' w'=>∃ m',m'<m/\J m' a' w') Q) a w)
 (first:(∀ m a w,J m a w->rest.wp P (Exit.jump l (λ a' w'=>∃ m,J m a' w') Q) a w)->c.wp P (Exit.jump l (λ a' w'=>∃ m,J m a' w') Q) a w):(Code.scope c).wp P Q a w :=
 wp_scope_ghost l J hf (first λ m a w h=>Code.wp_mono (λ e a' w' hq=>by
  cases e with
  | goto l'=>exact⟨hq.1,hq.2.choose,hq.2.choose_spec.2⟩
  | normal=>exact hq
  | exit id=>exact hq
  | ret=>exact hq
  | panic ch=>exact hq
  | outgrown=>exact hq) (pass m a w h)) (λ m a w h=>wp_seq (wp_skip (pass m a w h)))
def side (r:Bool):Nat:=if r then 2 else 1
def run (dir:Int->Option Bool) (upd:Int->Int->Int) (b off:Nat):T->Nat->Nat->Int->(Nat×Nat)×T×Int
 | .nil,pb,po,s=>((pb,po),.nil,s)
 | .node i k L R,pb,po,s=>match dir k with
  | none=>((pb,po),.node i k L R,upd k s)
  | some r=>if r then run dir upd b off R b (off+i*3+2) (upd k s) else run dir upd b off L b (off+i*3+1) (upd k s)
section
variable {dir:Int->Option Bool} {upd:Int->Int->Int} {b off:Nat}
theorem run_stop {i:Nat} {k:Int} {L R:T} {pb po:Nat} {s:Int} (h:dir k=none):run dir upd b off (.node i k L R) pb po s=((pb,po),.node i k L R,upd k s):=by
 simp only [run,h]
theorem run_go {i:Nat} {k:Int} {L R:T} {pb po:Nat} {s:Int} {r:Bool} (h:dir k=some r):run dir upd b off (.node i k L R) pb po s=run dir upd b off (if r then R else L) b (off+i*3+side r) (upd k s):=by
 cases r<;>simp [run,h,side]
theorem run_lay {l:List Nd} {w:World} (hc:∀ i nd,l[i]?=some nd->w.cell? ⟨b,off+i*3+1,none⟩=some (.int .i64 nd.left)/\w.cell? ⟨b,off+i*3+2,none⟩=some (.int .i64 nd.right)) :
 ∀ {t:T} {pb po:Nat} {s a:Int},Lay l t a->w.cell? ⟨pb,po,none⟩=some (.int .i64 a)->∃ v,Lay l (run dir upd b off t pb po s).2.1 v/\w.cell? ⟨(run dir upd b off t pb po s).1.1,(run dir upd b off t pb po s).1.2,none⟩=some (.int .i64 v)
 | .nil,pb,po,s,a,h,hp=>⟨a,h,hp⟩
 | .node i k L R,pb,po,s,a,h,hp=>by
  have h':=h
  obtain⟨h1,nd,h2,h3,h4,h5⟩:=h
  cases hd:dir k with
  | none=>rw [run_stop hd];exact⟨a,h',hp⟩
  | some r =>
   rw [run_go hd]
   cases r with
   | true=>exact run_lay hc h5 (hc i nd h2).2
   | false=>exact run_lay hc h4 (hc i nd h2).1
end
section
variable {g:Nat} {caps:Array Value} {Inv:Int->World->Prop} {dir:Int->Option Bool} {upd:Int->Int->Int} {tb b off n c:Nat} {A:Option Addr} {l:List Nd} {r:Int}
def Further (g:Nat) (caps:Array Value) (Inv:Int->World->Prop) (dir:Int->Option Bool) (upd:Int->Int->Int) (b off:Nat) (l:List Nd):Prop :=
 ∀ (s:Int) (W:World) (i:Nat) (nd:Nd),Inv s W->l[i]?=some nd->Calls Tryz.prog g (#[.pointer (some ⟨b,off+i*3,none⟩)]++caps) W λ e w' =>
  e=.returned (.pointer ((dir nd.key).map λ q=>⟨b,off+i*3+side q,none⟩))/\Inv (upd nd.key s) w'
structure Keeps (Inv:Int->World->Prop) (tb:Nat) (r:Int) (A:Option Addr) (n c:Nat) (l:List Nd):Prop where
 root:∀ s W,Inv s W->W.cell? ⟨tb,0,none⟩=some (.int .i64 r)
 nodes:∀ s W,Inv s W->W.cell? ⟨tb,1,none⟩=some (.slice A n c)
 mem:∀ s W,Inv s W->NMem W A n l
 drew:∀ s W,Inv s W->Inv s W.drew
theorem follow_is (eg:∀ args w,(callFunc g args).run Tryz.prog w=.ok (.enter g args) w) (hK:Keeps Inv tb r A n c l) (hF:Further g caps Inv dir upd b off l) (hA:n=0\/A=some ⟨b,off,none⟩)
 {t:T} (hL:Lay l t r) {s:Int} {w:World} (h0:Inv s w) :
 Calls Tryz.prog 237 #[.pointer (some ⟨tb,0,none⟩),.func (.func g) #[] caps] w λ e w' =>
  e=.returned (.pointer (some ⟨(run dir upd b off t tb 0 s).1.1,(run dir upd b off t tb 0 s).1.2,none⟩))/\Inv (run dir upd b off t tb 0 s).2.2 w':=by
 have KK:=hid hK
 have KF:=hid hF
 have KA:=hid hA
 have KI:=hid h0
 have KL:=hid hL
 obtain⟨R0,hR0⟩:∃ R0,run dir upd b off t tb 0 s=R0:=⟨_,rfl⟩
 rw [hR0]
 have KR:=hid hR0
 clear hK hF hA hR0 hL
 have c0:=KK.out.root s w h0
 have c1:=KK.out.nodes s w h0
 clear h0
 go_enter Tryz.func237,Tryz.ntmps237
 go_wp2_with fail
 refine wp_scope_once 0 (λ m a' w'=>∃ (pb po:Nat) (t':T) (v s':Int) (u6 u7 u8 u9 u10 u11 u12 u13 u14 u15 u16 u17 u18 u19 u20 u21 u22 u23 u24 u25 u26 u27 u28:Value),a'={ tmps:=#[.pointer (some ⟨tb,0,none⟩),.func (.func g) #[] caps,undef,undef,.pointer none,.pointer (some ⟨pb,po,none⟩),u6,u7,u8,u9,u10,u11,u12,u13,u14,u15,u16,u17,u18,u19,u20,u21,u22,u23,u24,u25,u26,u27,u28],defers:=[] } /\
  Hid (Inv s' w')/\Hid (∀ s W,Inv s W->W.cell? ⟨pb,po,none⟩=some (.int .i64 v))/\Hid (Lay l t' v)/\t'.size=m/\Hid (run dir upd b off t' pb po s'=R0)) rfl ?_ ?_
 . rintro m a' w' ⟨pb,po,t',v,s',u6,u7,u8,u9,u10,u11,u12,u13,u14,u15,u16,u17,u18,u19,u20,u21,u22,u23,u24,u25,u26,u27,u28,rfl,HI,HP,HL,hm,HR⟩
   have d0:=HP.out s' w' HI.out
   cases t' with
   | nil =>
    obtain rfl:v=-1:=HL.out
    go_wp2_with fail
    simp only [Exit.jump]
    go_ret
    rw [<- HR.out]
    exact⟨rfl,HI.out⟩
   | node i k L R =>
    obtain⟨hv,nd,hx,rfl,h4,h5⟩:=HL.out
    subst hv
    have HX:=hid hx
    have H4:=hid h4
    have H5:=hid h5
    have ne:((i:Int)==-1)=false:=beq_eq_false_iff_ne.2 (by omega)
    have hi:i<n:=by have:=(List.getElem?_eq_some_iff.1 hx).1;have:=(KK.out.mem s' w' HI.out).1;omega
    obtain rfl:A=some ⟨b,off,none⟩:=by
     rcases KA.out with h | h
     . omega
     . exact h
    have g0:(0:Int)<=(i:Int):=by omega
    have g1:(i:Int)<(n:Int):=by omega
    have d1:=KK.out.nodes s' w' HI.out
    have hC:=λ W h=>KF.out s' W i nd h hx
    clear hx h4 h5 c0 c1 HL
    cases hd:dir nd.key with
    | none =>
     rw [hd] at hC
     simp only [Option.map_none] at hC
     have KC:=hid hC
     have HD:=hid hd
     clear hC hd
     go_wp2_with fail
     go_region_held3 (λ w'=>w'.cell? ⟨tb,1,none⟩=some (.slice (some ⟨b,off,none⟩) n c)/\w'.cell? ⟨pb,po,none⟩=some (.int .i64 (i:Int))) (first | exact⟨d1,d0⟩ | exact⟨KK.out.nodes _ _ hI2,HP.out _ _ hI2⟩)
      (first | (go_at_fn g;(with_reducible refine (KC.out _ (KK.out.drew _ _ HI.out)).mono ?_);rintro e w2 ⟨rfl,hI2⟩))
     go_wp2_with fail
     simp only [Exit.jump]
     go_ret
     rw [<- HR.out,run_stop HD.out]
     exact⟨rfl,hI2⟩
    | some q =>
     rw [hd] at hC
     simp only [Option.map_some] at hC
     have KC:=hid hC
     have HD:=hid hd
     clear hC hd
     go_wp2_with fail
     go_region_held3 (λ w'=>w'.cell? ⟨tb,1,none⟩=some (.slice (some ⟨b,off,none⟩) n c)/\w'.cell? ⟨pb,po,none⟩=some (.int .i64 (i:Int))) (first | exact⟨d1,d0⟩ | exact⟨KK.out.nodes _ _ hI2,HP.out _ _ hI2⟩)
      (first | (go_at_fn g;(with_reducible refine (KC.out _ (KK.out.drew _ _ HI.out)).mono ?_);rintro e w2 ⟨rfl,hI2⟩))
     go_wp2_with fail
     go_step3
     refine⟨rfl,(if q then R else L).size,?_,b,off+i*3+side q,if q then R else L,if q then nd.right else nd.left,upd nd.key s',_,_,_,_,_,_,_,_,_,_,_,_,_,_,_,_,_,_,_,_,_,_,_,rfl,hid hI2,hid (λ s W h=>?_),hid ?_,rfl,hid ?_⟩
     . cases q<;>simp [T.size] at hm ⊢<;>omega
     . have:=(KK.out.mem s W h).cells HX.out
       cases q
       . exact this.2.1
       . exact this.2.2
     . cases q
       . exact H4.out
       . exact H5.out
     . rw [<- HR.out,run_go HD.out]
 . intro hp
   go_wp2_with fail
   rename_i hk
   refine wp_label ?_
   exact hk _ _ (hp _ _ _ ⟨tb,0,t,r,s,_,_,_,_,_,_,_,_,_,_,_,_,_,_,_,_,_,_,_,_,_,_,_,rfl,KI,hid KK.out.root,KL,rfl,KR⟩)
end
end
section
open Go.ChangeShapes Go.WideShapes Go.ChangeAt Go.RowKit
def ins (i:Nat) (x:Int):T->T
 | .nil=>.node i x .nil .nil
 | .node j k L R=>if pri k<pri x then .node i x (.node j k L R) .nil else .node j k L (ins i x R)
def hold (x:Int):T->Option Nat
 | .nil=>none
 | .node j k L R=>if pri k<pri x then none else some ((hold x R).getD j)
def gdir (x k:Int):Option Bool:=if pri k<pri x then none else some true
section
variable {i:Nat} {x:Int} {l:List Nd}
theorem ins_inord:∀ t:T,(ins i x t).inord=t.inord++[x]
 | .nil=>rfl
 | .node j k L R=>by
  unfold ins
  split
  . simp [T.inord]
  . simp [T.inord,ins_inord R]
theorem ins_ids {y:Nat}:∀ {t:T},y∈(ins i x t).ids->y=i\/y∈t.ids
 | .nil,h=>by simp [ins,T.ids] at h;exact .inl h
 | .node j k L R,h=>by
  unfold ins at h
  split at h
  . simp only [T.ids,List.mem_append,List.mem_cons,List.not_mem_nil,or_false] at h ⊢
    rcases h with h | h
    . exact .inr h
    . exact .inl h
  . simp only [T.ids,List.mem_append,List.mem_cons] at h ⊢
    rcases h with h | h | h
    . exact .inr (.inl h)
    . exact .inr (.inr (.inl h))
    . rcases ins_ids h with h | h
      . exact .inl h
      . exact .inr (.inr (.inr h))
theorem ins_nodup:∀ {t:T},t.ids.Nodup->i ∉ t.ids->(ins i x t).ids.Nodup
 | .nil,_,_=>by simp [ins,T.ids]
 | .node j k L R,h,hi=>by
  unfold ins
  simp only [T.ids,List.nodup_append,List.nodup_cons] at h
  simp only [T.ids,List.mem_append,List.mem_cons,not_or] at hi
  obtain⟨h1,⟨h2,h3⟩,h4⟩:=h
  obtain⟨i1,i2,i3⟩:=hi
  split
  . simp only [T.ids,List.nodup_append,List.nodup_cons,List.not_mem_nil,not_false_iff,List.nodup_nil,true_and,List.mem_append,List.mem_cons]
    refine⟨⟨h1,⟨h2,h3⟩,λ a ha b hb=>h4 a ha b (List.mem_cons.2 hb)⟩,λ a ha b hb e=>?_⟩
    have hb':b=i:=hb.resolve_right (λ h=>h)
    subst hb' e
    rcases ha with ha | ha | ha
    . exact i1 ha
    . exact i2 ha
    . exact i3 ha
  . simp only [T.ids,List.nodup_append,List.nodup_cons]
    refine⟨h1,⟨λ hj=>?_,ins_nodup h3 i3⟩,λ a ha b hb e=>?_⟩
    . rcases ins_ids hj with e | e
      . exact i2 e.symm
      . exact h2 e
    . subst e
      rcases List.mem_cons.1 hb with e | hb
      . exact h4 a ha j (by simp) e
      . rcases ins_ids hb with e | e
        . subst e;exact i1 ha
        . exact h4 a ha a (by simp [e]) rfl
theorem ins_hp:∀ {t:T} {w:Int},Hp t w->pri x<w->(∀ y∈t.inord,pri y≠pri x)->Hp (ins i x t) w
 | .nil,_,_,h,_=>⟨h,trivial,trivial⟩
 | .node j k L R,w,hp,h,hn=>by
  obtain⟨p1,p2,p3⟩:=hp
  unfold ins
  split
  . rename_i hlt
    exact⟨h,⟨hlt,p2,p3⟩,trivial⟩
  . have:=hn k (by simp [T.inord])
    exact⟨p1,p2,ins_hp p3 (by omega) λ y hy=>hn y (by simp [T.inord,hy])⟩
theorem Lay.set {j:Nat} {nd:Nd}:∀ {t:T} {a:Int},Lay l t a->j ∉ t.ids->Lay (l.set j nd) t a
 | .nil,_,h,_=>h
 | .node k key L R,a,h,hj=>by
  simp only [T.ids,List.mem_append,List.mem_cons,not_or] at hj
  obtain⟨h1,m,h2,h3,h4,h5⟩:=h
  exact⟨h1,m,by rw [List.getElem?_set_ne (by omega)];exact h2,h3,h4.set hj.1,h5.set hj.2.2⟩
theorem hold_mem:∀ {t:T} {j:Nat},hold x t=some j->j∈t.ids
 | .nil,_,h=>by simp [hold] at h
 | .node k key L R,j,h=>by
  unfold hold at h
  split at h
  . cases h
  . cases hr:hold x R with
    | none=>rw [hr] at h;simp at h;simp [T.ids,h]
    | some j'=>rw [hr] at h;simp at h;subst h;have:=hold_mem hr;simp [T.ids,this]
theorem lay_ins:∀ {t:T} {a:Int},Lay l t a->t.ids.Nodup->i ∉ t.ids->i<l.length ->
 (hold x t=none->Lay (l.set i ⟨x,a,-1⟩) (ins i x t) i) /\
 (∀ j,hold x t=some j->∃ nd,l[j]?=some nd/\Lay ((l.set i ⟨x,nd.right,-1⟩).set j ⟨nd.key,nd.left,i⟩) (ins i x t) a)
 | .nil,a,h,_,_,hi=>by
  refine⟨λ _=>⟨rfl,_,List.getElem?_set_self hi,rfl,?_,rfl⟩,λ j h=>by simp [hold] at h⟩
  exact h
 | .node k key L R,a,h,hd,hn,hi=>by
  have hlay:=h
  obtain⟨h1,m,h2,h3,h4,h5⟩:=h
  have hd0:=hd
  have hn0:=hn
  simp only [T.ids,List.nodup_append,List.nodup_cons] at hd
  simp only [T.ids,List.mem_append,List.mem_cons,not_or] at hn
  obtain⟨d1,⟨d2,d3⟩,d4⟩:=hd
  obtain⟨n1,n2,n3⟩:=hn
  have kL:k ∉ L.ids:=λ hk=>d4 k hk k (by simp) rfl
  unfold hold ins
  by_cases hlt:pri key<pri x
  . simp only [if_pos hlt]
    refine⟨λ _=>⟨rfl,_,List.getElem?_set_self hi,rfl,hlay.set hn0,rfl⟩,λ j h=>by cases h⟩
  . simp only [if_neg hlt]
    obtain⟨g1,g2⟩:=lay_ins h5 d3 n3 hi
    refine⟨λ h=>(by cases h),λ j hj=>?_⟩
    cases hr:hold x R with
    | none =>
     rw [hr] at hj
     simp only [Option.getD_none,Option.some.injEq] at hj
     subst hj
     have hlen:k<(l.set i ⟨x,m.right,-1⟩).length:=by have:=(List.getElem?_eq_some_iff.1 h2).1;simpa using this
     refine⟨m,h2,h1,_,List.getElem?_set_self hlen,h3,(h4.set n1).set kL,(g1 hr).set λ hk=>?_⟩
     rcases ins_ids hk with e | e
     . exact n2 e.symm
     . exact d2 e
    | some j' =>
     rw [hr] at hj
     simp only [Option.getD_some,Option.some.injEq] at hj
     subst hj
     obtain⟨nd,e1,e2⟩:=g2 j' hr
     have hj':=hold_mem hr
     refine⟨nd,e1,h1,m,?_,h3,(h4.set n1).set (λ hk=>d4 j' hk j' (by simp [hj']) rfl),e2⟩
     rw [List.getElem?_set_ne (λ e=>d2 (by rw [<- e];exact hj')),List.getElem?_set_ne (λ e=>n2 e)]
     exact h2
theorem run_grow {b off:Nat}:∀ {t:T} {pb po:Nat} {s:Int},(run (gdir x) (λ _ s=>s) b off t pb po s).1=match hold x t with | none=>(pb,po) | some j=>(b,off+j*3+2)
 | .nil,_,_,_=>rfl
 | .node j k L R,pb,po,s=>by
  unfold hold
  by_cases hlt:pri k<pri x
  . rw [run_stop (show gdir x k=none from if_pos hlt),if_pos hlt]
  . rw [run_go (show gdir x k=some true from if_neg hlt),if_neg hlt,if_pos rfl,run_grow]
    cases hold x R<;>rfl
end
def NV (V:Array Value) (l:List Nd):Prop:=V.size=l.length*3/\∀ j nd,l[j]?=some nd->V[j*3]?=some (.int .i64 nd.key)/\V[j*3+1]?=some (.int .i64 nd.left)/\V[j*3+2]?=some (.int .i64 nd.right)
section
variable {V:Array Value} {l:List Nd} {i j:Nat} {nd:Nd}
theorem NV.made (n:Nat):NV (madeCells (Value.agg #[.int .i64 0,.int .i64 0,.int .i64 0]).cells (n*3)) (List.replicate n ⟨0,0,0⟩):=by
 have key:∀ m,m<n*3->(madeCells (Value.agg #[.int .i64 0,.int .i64 0,.int .i64 0]).cells (n*3))[m]?=some (.int .i64 0):=λ m hm=>by
  have:(Value.agg #[Value.int .i64 0,Value.int .i64 0,Value.int .i64 0]).cells=#[.int .i64 0,.int .i64 0,.int .i64 0]:=rfl
  rw [this]
  unfold madeCells
  rw [Array.getElem?_map,Array.getElem?_range,if_pos hm]
  have h3:m % 3<3:=Nat.mod_lt _ (by decide)
  simp only [Option.map_some]
  show some (#[Value.int .i64 0,Value.int .i64 0,Value.int .i64 0][m % 3]!)=_
  rcases (by omega:m % 3=0\/m % 3=1\/m % 3=2) with h | h | h<;>rw [h]<;>rfl
 refine⟨by rw [size_madeCells,List.length_replicate],λ j nd h=>?_⟩
 obtain⟨h1,h2⟩:=List.getElem?_eq_some_iff.1 h
 rw [List.length_replicate] at h1
 rw [List.getElem_replicate] at h2
 subst h2
 exact⟨key _ (by omega),key _ (by omega),key _ (by omega)⟩
theorem NV.set (h:NV V l) (hi:i<l.length) (k a b:Int):NV (((V.setIfInBounds (i*3) (.int .i64 k)).setIfInBounds (i*3+1) (.int .i64 a)).setIfInBounds (i*3+2) (.int .i64 b)) (l.set i ⟨k,a,b⟩):=by
 have hs:=h.1
 refine⟨by simp [hs],λ j nd hj=>?_⟩
 by_cases e:i=j
 . subst e
   rw [List.getElem?_set_self hi] at hj
   cases hj
   simp [Array.getElem?_setIfInBounds,hs]
   omega
 . rw [List.getElem?_set_ne e] at hj
   obtain⟨a1,a2,a3⟩:=h.2 j nd hj
   simp only [Array.getElem?_setIfInBounds,a1,a2,a3]
   refine⟨?_,?_,?_⟩<;>(repeat' split)<;>first | rfl | omega
theorem NV.right (h:NV V l) (hj:l[j]?=some nd) (v:Int):NV (V.setIfInBounds (j*3+2) (.int .i64 v)) (l.set j ⟨nd.key,nd.left,v⟩):=by
 have hs:=h.1
 have hlt:=(List.getElem?_eq_some_iff.1 hj).1
 refine⟨by simp [hs],λ k m hk=>?_⟩
 by_cases e:j=k
 . subst e
   rw [List.getElem?_set_self hlt] at hk
   cases hk
   obtain⟨a1,a2,a3⟩:=h.2 j nd hj
   simp [Array.getElem?_setIfInBounds,hs,a1,a2]
   omega
 . rw [List.getElem?_set_ne e] at hk
   obtain⟨a1,a2,a3⟩:=h.2 k m hk
   simp only [Array.getElem?_setIfInBounds,a1,a2,a3]
   refine⟨?_,?_,?_⟩<;>(repeat' split)<;>first | rfl | omega
theorem NV.mem {w:World} {g n:Nat} {t:TypeId} (h:NV V l) (hn:l.length=n) (hB:∀ nd∈l,B64 nd.key/\B64 nd.left/\B64 nd.right) (hb:Blk w g V t):NMem w (some ⟨g,0,none⟩) n l :=
 ⟨hn,hB,λ _=>⟨g,0,rfl,hb.lt,λ j nd hj=>by
   obtain⟨a1,a2,a3⟩:=h.2 j nd hj
   simp only [Nat.zero_add]
   exact⟨(hb.at_ a1).1,(hb.at_ a2).1,(hb.at_ a3).1⟩⟩⟩
end
end
end Go.Proofs.YtainfijdhcehlaaGreatDoor
