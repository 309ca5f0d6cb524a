/-
  A part of the proof.
-/
import Derived.Test.YtainfijdhcehlaaGreatDoorQC1
import Derived.IntWalk
import Derived.Shelf.SlGeneric
import Derived.Shelf.SortM.Plain
import Derived.Shelf.SortM.SortNone
import Derived.Ground.SlgmProg
import Derived.Test.YtainfijdhcehlaaGreatDoorProg
import Derived.ScopeJumps
import Derived.Deep.LoopGhost
import Derived.Lib.Walk
import Derived.Shelf.Abstract
import Derived.Laws.Entries
set_option linter.unusedVariables false
set_option linter.unusedSimpArgs false
set_option maxRecDepth 100000
set_option maxHeartbeats 8000000
namespace Go.Proofs.YtainfijdhcehlaaGreatDoor
open Lib (hid)
open Go.Proofs.Tryz
open Go.ChangeAt Go.ChangeShapes Go.RowKit Go.Shelf Go.WideShapes
section
section
variable {w:World} {A:Option Addr} {n c:Nat} {l:List Int} {a q:Int}
theorem own_is' (hm:IMem w A n l) (hn:n<=1000000) :
 Calls prog 222 #[.agg #[.int .i64 a,.int .i64 q,.slice A n c]] w λ e w'=>∃ B k,e=.returned (.agg #[.int .i64 a,.int .i64 q,.slice B n k])/\IOwn w.heap.size w' B n k l/\Gr w w':=by
 obtain⟨i0,hi0,hz0,hz1,hz2⟩:=info_parts infoInt;have HZ:=hid hz0;have HZ1:=hid hz1;have HZ2:=hid hz2;have HI0:=hid hi0;have g0:=((zr w).al (.cells #[.int .i64 a,.int .i64 q,.slice A n c] 91)).al (.cells #[.int .i64 0,.int .i64 0,.slice none 0 0] 91);have B0:=(Blk.new w #[.int .i64 a,.int .i64 q,.slice A n c] 91).al (.cells #[.int .i64 0,.int .i64 0,.slice none 0 0] 91);have B1:=Blk.new (w.alloc (.cells #[.int .i64 a,.int .i64 q,.slice A n c] 91)) #[.int .i64 0,.int .i64 0,.slice none 0 0] 91;simp only [zsA] at B1;have HM:=hid (hm.gr g0);clear hz0 hz1 hz2 hi0 hm;go_enter func222,ntmps222;go_wp2_with (at_builtin;refine Mark.stop ?_);refine Mark.go ?_;refine wpList_append_omem _ (Value.int .i64) B64 rfl (.const (.slice none 0 0)) (.tmp 4) 23 rfl (λ _=>rfl) (w.heap.size+1+1) 3 i0 (.int .i64 0) 8 underlying23 HI0.out HZ.out HZ1.out HZ2.out rfl none 0 0 [] rfl OMem.nil_ A n c l rfl HM.out (by unfold maxLen;omega) (by omega) (by simp) ?_;intro C k w1 own1 gb1;rw [Nat.zero_add];rw [Nat.zero_add,List.nil_append] at own1;have BB:=B0.gb gb1 (by simp);have BR:=B1.gb gb1 (by simp);have G1:=g0.gb gb1 (by simp);obtain⟨x0,_⟩:=BB.at_ (k:=0) rfl;obtain⟨x1,_⟩:=BB.at_ (k:=1) rfl;obtain⟨p2,z2⟩:=BB.at_ (k:=2) rfl;obtain⟨y0,u0⟩:=BR.at_ (k:=0) rfl;obtain⟨y1,u1⟩:=BR.at_ (k:=1) rfl;obtain⟨y2,u2⟩:=BR.at_ (k:=2) rfl;have hlt:=hid BR.lt;have HBR:=hid ((((BR.st (p:=⟨w.heap.size,2,none⟩) (by simp) (.slice C n k)).set 0 (.int .i64 a)).set 1 (.int .i64 q)).set 2 (.slice C n k));have HGW:=hid ((((G1.st (p:=⟨w.heap.size,2,none⟩) (Nat.le_refl _) (.slice C n k)).st (p:=⟨w.heap.size+1,0,none⟩) (by show w.heap.size<=w.heap.size+1;omega) (.int .i64 a)).st (p:=⟨w.heap.size+1,1,none⟩) (by show w.heap.size<=w.heap.size+1;omega) (.int .i64 q)).st (p:=⟨w.heap.size+1,2,none⟩) (by show w.heap.size<=w.heap.size+1;omega) (.slice C n k));have HO:=hid (((((own1.st (p:=⟨w.heap.size,2,none⟩) (by show w.heap.size<w.heap.size+1+1;omega) (.slice C n k)).st (p:=⟨w.heap.size+1,0,none⟩) (by show w.heap.size+1<w.heap.size+1+1;omega) (.int .i64 a)).st (p:=⟨w.heap.size+1,1,none⟩) (by show w.heap.size+1<w.heap.size+1+1;omega) (.int .i64 q)).st (p:=⟨w.heap.size+1,2,none⟩) (by show w.heap.size+1<w.heap.size+1+1;omega) (.slice C n k)).low (show w.heap.size<=w.heap.size+1+1 from by omega));clear own1 gb1 BB BR G1 B0 B1 g0;go_wp2_with fail;have BF:=HBR.out;have GW:=HGW.out;have OW:=HO.out;clear x0 x1 p2 z2 y0 u0 y1 u1 y2 u2 HBR HGW HO;generalize (((w1.setCell _ _).setCell _ _).setCell _ _).setCell _ _=WF at BF GW OW ⊢;have q0:WF.cell? ⟨w.heap.size+1,0,none⟩=some (.int .i64 a):=(BF.at_ (k:=0) rfl).1;have q1:WF.cell? ⟨w.heap.size+1,1,none⟩=some (.int .i64 q):=(BF.at_ (k:=1) rfl).1;have q2:WF.cell? ⟨w.heap.size+1,2,none⟩=some (.slice C n k):=(BF.at_ (k:=2) rfl).1;exact bodyPost_ret (v:=.agg #[.int .i64 a,.int .i64 q,.slice C n k]) (by simp [results,results222,go_sem,q0,q1,q2]) rfl ⟨C,k,rfl,OW,GW⟩
end
section
variable {w:World} {A:Option Addr} {n c:Nat} {l:List SV}
theorem RRight_is (hm:SMem w A n l) {v:Bool} (hv:v=true↔Tab l) :
 Calls prog 92 #[.slice A n c] w λ e w'=>e=.returned (.bool v)/\Gr w w':=by
 have hlen:=hm.1;have HM:=hid hm;have HV:=hid hv;clear hm hv;by_cases hn:n<=64
 . have h1:¬ (64:Int)<(n:Int):=by omega
   go_enter func92,ntmps92;go_wp2_with fail
   go_loopw [10] (λ i wr=>∃ k:Nat,k<=n/\i=.int .i64 (k:Int)/\Hid (TOk (l.take k))/\Hid (Gr w wr)) (λ i _=>n-(intOf i).toNat)
   case atStart=>exact⟨0,Nat.zero_le _,rfl,hid (by simpa using TOk.nil),hid (zr _)⟩
   case round =>
    obtain⟨k,hk,rfl,HT,HG⟩:=hrel;by_cases hlt:k<n
    . obtain⟨b,off,x,rfl,hbl,hx,hok,d0,d1,d2⟩:=(HM.out.gr HG.out).at_ hlt
      have HX:=hid hx;have HS:=hid (TOk.step hx HT.out);have k0:(0:Int)<=(k:Int):=by omega
      have k1:(k:Int)<(n:Int):=by omega
      have hlx:=hid hx;obtain⟨X,hXe⟩:∃ X,wr.alloc (.cells #[.int .i64 x.addr,.int .i64 x.cnt,.slice x.A x.n x.c] 91)=X:=⟨_,rfl⟩;have gX:Gr wr X:=hXe▸(zr wr).al _;have ok1:=hid (hok.gr gX);have GX:=hid (HG.out.trans gX);have BX:Blk X wr.heap.size #[.int .i64 x.addr,.int .i64 x.cnt,.slice x.A x.n x.c] 91:=hXe▸Blk.new wr _ _;have e0:X.drew.cell? ⟨wr.heap.size,0,none⟩=some (.int .i64 x.addr):=(BX.at_ (k:=0) rfl).1;have e1:X.drew.cell? ⟨wr.heap.size,1,none⟩=some (.int .i64 x.cnt):=(BX.at_ (k:=1) rfl).1;have e2:X.drew.cell? ⟨wr.heap.size,2,none⟩=some (.slice x.A x.n x.c):=(BX.at_ (k:=2) rfl).1;have e3:wr.heap.size<X.drew.heap.size:=BX.lt;obtain⟨b1,hb1⟩:=yes_no (SOk x);obtain⟨b2,hb2⟩:=yes_no (SNil x);have C1:Hid (∀ W,Gr X W->Calls prog 123 #[.agg #[.int .i64 x.addr,.int .i64 x.cnt,.slice x.A x.n x.c]] W λ e w'=>e=.returned (.bool b1)/\Gr W w'):=hid λ W g=>rsound_is (ok1.out.gr g) hb1
      have C2:Hid (∀ W,Calls prog 124 #[.agg #[.int .i64 x.addr,.int .i64 x.cnt,.slice x.A x.n x.c]] W λ e w'=>e=.returned (.bool b2)/\Gr W w'):=hid λ W=>empty_is ok1.out hb2 W
      have HB1:=hid hb1;have HB2:=hid hb2;clear hx hok hb1 hb2
      cases b1 with
      | false =>
       obtain rfl:v=false:=by
        cases v
        . rfl
        . have h1:=(HV.out.1 rfl).2.1 x (zmo HX.out)
          exact absurd (HB1.out.2 h1.1) (by simp)
       clear C2 HV;go_wp2_with fail;clear hXe;refine wp_region_held_drew (S:=(λ W=>W.cell? ⟨wr.heap.size,0,none⟩=some (.int .i64 x.addr)/\W.cell? ⟨wr.heap.size,1,none⟩=some (.int .i64 x.cnt)/\W.cell? ⟨wr.heap.size,2,none⟩=some (.slice x.A x.n x.c)/\wr.heap.size<W.heap.size/\Gr X W)) (by kernel_rfl) ⟨e0,e1,e2,e3,(zr X).dr⟩ (λ hS=>?_);refine wG 0 hS ?_;refine wR1 1 (λ K hK=>?_);go_simp;go_at_call 123;refine (C1.out _ hS.2.2.2.2).mono ?_;rintro ee w9 ⟨rfl,hb⟩;go_wp2_with fail;refine hK.out _ _ ⟨(hb.cell (p:=⟨wr.heap.size,0,none⟩) hS.2.2.2.1).trans hS.1,(hb.cell (p:=⟨wr.heap.size,1,none⟩) hS.2.2.2.1).trans hS.2.1,(hb.cell (p:=⟨wr.heap.size,2,none⟩) hS.2.2.2.1).trans hS.2.2.1,zlt hS.2.2.2.1 hb.size,Gr.trans hS.2.2.2.2 hb⟩ (λ hS=>?_);clear hK K
       try simp only [pL]
       refine wG 2 hS ?_;refine wG 3 hS ?_;refine wP 4 hS ?_;refine wP 5 hS ?_;refine wG 6 hS ?_;refine wG 7 hS ?_;refine wP 8 hS ?_;refine wP 9 hS ?_;refine wP 10 hS ?_;refine wP 11 hS ?_;refine wP 12 hS ?_;refine wP 13 hS ?_;refine wP 14 hS ?_;refine wP 15 hS ?_;refine wP 16 hS ?_;refine wP 17 hS ?_;refine wP 18 hS ?_;refine wP 19 hS ?_;refine wP 20 hS ?_;refine wP 21 hS ?_;refine wG 22 hS ?_;refine wpAnyH_done (by kernel_rfl) ?_ _;obtain⟨q0,q1,q2,q3,q4⟩:=hS;have GF:=hid (GX.out.trans q4);clear q0 q1 q2 q3 q4;go_wp2_with fail;go_ret;exact⟨rfl,GF.out⟩
      | true =>
       cases b2 with
       | true =>
        obtain rfl:v=false:=by
         cases v
         . rfl
         . have h1:=(HV.out.1 rfl).2.1 x (zmo HX.out)
           exact absurd (HB2.out.1 rfl) h1.2
        clear HV;go_wp2_with fail;clear hXe;refine wp_region_held_drew (S:=(λ W=>W.cell? ⟨wr.heap.size,0,none⟩=some (.int .i64 x.addr)/\W.cell? ⟨wr.heap.size,1,none⟩=some (.int .i64 x.cnt)/\W.cell? ⟨wr.heap.size,2,none⟩=some (.slice x.A x.n x.c)/\wr.heap.size<W.heap.size/\Gr X W)) (by kernel_rfl) ⟨e0,e1,e2,e3,(zr X).dr⟩ (λ hS=>?_);refine wG 0 hS ?_;refine wR1 1 (λ K hK=>?_);go_simp;go_at_call 123;refine (C1.out _ hS.2.2.2.2).mono ?_;rintro ee w9 ⟨rfl,hb⟩;go_wp2_with fail;refine hK.out _ _ ⟨(hb.cell (p:=⟨wr.heap.size,0,none⟩) hS.2.2.2.1).trans hS.1,(hb.cell (p:=⟨wr.heap.size,1,none⟩) hS.2.2.2.1).trans hS.2.1,(hb.cell (p:=⟨wr.heap.size,2,none⟩) hS.2.2.2.1).trans hS.2.2.1,zlt hS.2.2.2.1 hb.size,Gr.trans hS.2.2.2.2 hb⟩ (λ hS=>?_);clear hK K
        try simp only [pL]
        refine wG 2 hS ?_;refine wG 3 hS ?_;refine wG 4 hS ?_;refine wR1 5 (λ K hK=>?_);go_simp;go_at_call 124;refine (C2.out _).mono ?_;rintro ee w9 ⟨rfl,hb⟩;go_wp2_with fail;refine hK.out _ _ ⟨(hb.cell (p:=⟨wr.heap.size,0,none⟩) hS.2.2.2.1).trans hS.1,(hb.cell (p:=⟨wr.heap.size,1,none⟩) hS.2.2.2.1).trans hS.2.1,(hb.cell (p:=⟨wr.heap.size,2,none⟩) hS.2.2.2.1).trans hS.2.2.1,zlt hS.2.2.2.1 hb.size,Gr.trans hS.2.2.2.2 hb⟩ (λ hS=>?_);clear hK K
        try simp only [pL]
        refine wG 6 hS ?_;refine wG 7 hS ?_;refine wP 8 hS ?_;refine wP 9 hS ?_;refine wP 10 hS ?_;refine wP 11 hS ?_;refine wP 12 hS ?_;refine wP 13 hS ?_;refine wP 14 hS ?_;refine wP 15 hS ?_;refine wP 16 hS ?_;refine wP 17 hS ?_;refine wP 18 hS ?_;refine wP 19 hS ?_;refine wP 20 hS ?_;refine wP 21 hS ?_;refine wG 22 hS ?_;refine wpAnyH_done (by kernel_rfl) ?_ _;obtain⟨q0,q1,q2,q3,q4⟩:=hS;have GF:=hid (GX.out.trans q4);clear q0 q1 q2 q3 q4;go_wp2_with fail;go_ret;exact⟨rfl,GF.out⟩
       | false =>
        cases k with
        | zero =>
         simp only [Nat.zero_mul,Nat.add_zero] at d0 d1 d2;have HT':Hid (TOk (l.take (0+1))):=hid (HS.out.2 ⟨HB1.out.1 rfl,λ h=>absurd (HB2.out.2 h) (by simp),λ p y hp=>absurd hp (by omega)⟩);go_wp2_with fail;clear hXe;refine wp_region_held_drew (S:=(λ W=>W.cell? ⟨wr.heap.size,0,none⟩=some (.int .i64 x.addr)/\W.cell? ⟨wr.heap.size,1,none⟩=some (.int .i64 x.cnt)/\W.cell? ⟨wr.heap.size,2,none⟩=some (.slice x.A x.n x.c)/\wr.heap.size<W.heap.size/\Gr X W)) (by kernel_rfl) ⟨e0,e1,e2,e3,(zr X).dr⟩ (λ hS=>?_);refine wG 0 hS ?_;refine wR1 1 (λ K hK=>?_);go_simp;go_at_call 123;refine (C1.out _ hS.2.2.2.2).mono ?_;rintro ee w9 ⟨rfl,hb⟩;go_wp2_with fail;refine hK.out _ _ ⟨(hb.cell (p:=⟨wr.heap.size,0,none⟩) hS.2.2.2.1).trans hS.1,(hb.cell (p:=⟨wr.heap.size,1,none⟩) hS.2.2.2.1).trans hS.2.1,(hb.cell (p:=⟨wr.heap.size,2,none⟩) hS.2.2.2.1).trans hS.2.2.1,zlt hS.2.2.2.1 hb.size,Gr.trans hS.2.2.2.2 hb⟩ (λ hS=>?_);clear hK K
         try simp only [pL]
         refine wG 2 hS ?_;refine wG 3 hS ?_;refine wG 4 hS ?_;refine wR1 5 (λ K hK=>?_);go_simp;go_at_call 124;refine (C2.out _).mono ?_;rintro ee w9 ⟨rfl,hb⟩;go_wp2_with fail;refine hK.out _ _ ⟨(hb.cell (p:=⟨wr.heap.size,0,none⟩) hS.2.2.2.1).trans hS.1,(hb.cell (p:=⟨wr.heap.size,1,none⟩) hS.2.2.2.1).trans hS.2.1,(hb.cell (p:=⟨wr.heap.size,2,none⟩) hS.2.2.2.1).trans hS.2.2.1,zlt hS.2.2.2.1 hb.size,Gr.trans hS.2.2.2.2 hb⟩ (λ hS=>?_);clear hK K
         try simp only [pL]
         refine wG 6 hS ?_;refine wG 7 hS ?_;refine wG 8 hS ?_;refine wG 9 hS ?_;refine wG 10 hS ?_;refine wP 11 hS ?_;refine wP 12 hS ?_;refine wP 13 hS ?_;refine wP 14 hS ?_;refine wP 15 hS ?_;refine wP 16 hS ?_;refine wP 17 hS ?_;refine wP 18 hS ?_;refine wP 19 hS ?_;refine wP 20 hS ?_;refine wG 21 hS ?_;refine wG 22 hS ?_;refine wpAnyH_done (by kernel_rfl) ?_ _;obtain⟨q0,q1,q2,q3,q4⟩:=hS;have GF:=hid (GX.out.trans q4);clear q0 q1 q2 q3 q4;go_wp2_with fail;go_roundw
         case rel=>exact⟨0+1,by omega,by go_num,HT',GF⟩
         case measure=>simp [intOf];omega
        | succ p =>
         obtain⟨k,hkp⟩:∃ k,p+1=k:=⟨_,rfl⟩;rw [hkp] at hk HT hlt d0 d1 d2 HX HS k0 k1 hlx ⊢;obtain⟨b',off',y,hb',_,hy,_,f0,_,_⟩:=(HM.out.gr HG.out).at_ (show p<n by omega);cases hb';have hw:IntKind.i64.wrap ((k:Int)-1)=(p:Int):=by rw [wrap_id (by omega) (by omega)];omega
         have p0:(0:Int)<=(p:Int):=by omega
         have p1:(p:Int)<(n:Int):=by omega
         have p2:(0:Int)<(k:Int):=by omega
         have f1:X.drew.cell? ⟨b,off+p*3,none⟩=some (.int .i64 y.addr):=(gX.cell (p:=⟨b,off+p*3,none⟩) hbl).trans f0;have f2:b<X.drew.heap.size:=zlt hbl gX.size;have hyk:y∈l.take k:=List.mem_iff_getElem?.2 ⟨p,by rw [List.getElem?_take,if_pos (by omega)];exact hy⟩;obtain⟨b3,hb3⟩:=yes_no (Lt y.addr x.addr);have C3:Hid (∀ W,Calls prog 125 #[.int .i64 y.addr,.int .i64 x.addr] W λ e w'=>e=.returned (.bool b3)/\w'=W):=hid λ W=>ahead_is (Tab.key HT.out hyk) (HB1.out.1 rfl).1 hb3 W
         have HB3:=hid hb3;have HY:=hid hy;clear hy hyk hb3 f0
         cases b3 with
         | true =>
          have HT':Hid (TOk (l.take (k+1))):=hid (HS.out.2 ⟨HB1.out.1 rfl,λ h=>absurd (HB2.out.2 h) (by simp),λ p' y' hp hy'=>by
           obtain rfl:p'=p:=by omega
           rw [HY.out] at hy';cases hy';exact HB3.out.1 rfl⟩)
          go_wp2_with fail;clear hXe;refine wp_region_held_drew (S:=(λ W=>W.cell? ⟨wr.heap.size,0,none⟩=some (.int .i64 x.addr)/\W.cell? ⟨wr.heap.size,1,none⟩=some (.int .i64 x.cnt)/\W.cell? ⟨wr.heap.size,2,none⟩=some (.slice x.A x.n x.c)/\wr.heap.size<W.heap.size/\Gr X W/\W.cell? ⟨b,off+p*3,none⟩=some (.int .i64 y.addr)/\b<W.heap.size)) (by kernel_rfl) ⟨e0,e1,e2,e3,(zr X).dr,f1,f2⟩ (λ hS=>?_);refine wG 0 hS ?_;refine wR1 1 (λ K hK=>?_);go_simp;go_at_call 123;refine (C1.out _ hS.2.2.2.2.1).mono ?_;rintro ee w9 ⟨rfl,hb⟩;go_wp2_with fail;refine hK.out _ _ ⟨(hb.cell (p:=⟨wr.heap.size,0,none⟩) hS.2.2.2.1).trans hS.1,(hb.cell (p:=⟨wr.heap.size,1,none⟩) hS.2.2.2.1).trans hS.2.1,(hb.cell (p:=⟨wr.heap.size,2,none⟩) hS.2.2.2.1).trans hS.2.2.1,zlt hS.2.2.2.1 hb.size,Gr.trans hS.2.2.2.2.1 hb,(hb.cell (p:=⟨b,off+p*3,none⟩) hS.2.2.2.2.2.2).trans hS.2.2.2.2.2.1,zlt hS.2.2.2.2.2.2 hb.size⟩ (λ hS=>?_);clear hK K
          try simp only [pL]
          refine wG 2 hS ?_;refine wG 3 hS ?_;refine wG 4 hS ?_;refine wR1 5 (λ K hK=>?_);go_simp;go_at_call 124;refine (C2.out _).mono ?_;rintro ee w9 ⟨rfl,hb⟩;go_wp2_with fail;refine hK.out _ _ ⟨(hb.cell (p:=⟨wr.heap.size,0,none⟩) hS.2.2.2.1).trans hS.1,(hb.cell (p:=⟨wr.heap.size,1,none⟩) hS.2.2.2.1).trans hS.2.1,(hb.cell (p:=⟨wr.heap.size,2,none⟩) hS.2.2.2.1).trans hS.2.2.1,zlt hS.2.2.2.1 hb.size,Gr.trans hS.2.2.2.2.1 hb,(hb.cell (p:=⟨b,off+p*3,none⟩) hS.2.2.2.2.2.2).trans hS.2.2.2.2.2.1,zlt hS.2.2.2.2.2.2 hb.size⟩ (λ hS=>?_);clear hK K
          try simp only [pL]
          refine wG 6 hS ?_;refine wG 7 hS ?_;refine wG 8 hS ?_;refine wpAnyH_goes 9 (v:=.bool true) rfl rfl (by kernel_rfl) (by kernel_rfl) (by kernel_rfl) (λ _ _ _ h=>h) (by rfl) (λ w9 hw9=>?_) hS ?_
          . (try dsimp only at hw9);go_simp;first | done | omega | (simp [*];done) | (simp;omega)
          try simp only [pL]
          refine wG 10 hS ?_;refine wG 11 hS ?_;refine wG 12 hS ?_;refine wG 13 hS ?_;refine wG 14 hS ?_;refine wG 15 hS ?_;refine wG 16 hS ?_;refine wG 17 hS ?_;refine wG 18 hS ?_;refine wR1 19 (λ K hK=>?_);go_simp;go_at_call 125;refine (C3.out _).mono ?_;rintro ee w9 ⟨rfl,rfl⟩;go_wp2_with fail;refine hK.out _ _ hS (λ hS=>?_);clear hK K
          try simp only [pL]
          refine wG 20 hS ?_;refine wG 21 hS ?_;refine wG 22 hS ?_;refine wpAnyH_done (by kernel_rfl) ?_ _;obtain⟨q0,q1,q2,q3,q4,q5,q6⟩:=hS;have GF:=hid (GX.out.trans q4);clear q0 q1 q2 q3 q4 q5 q6;go_wp2_with fail;go_roundw
          case rel=>exact⟨k+1,by omega,by go_num,HT',GF⟩
          case measure=>simp [intOf];omega
         | false =>
          obtain rfl:v=false:=by
           cases v
           . rfl
           . exact absurd (HB3.out.2 ((HV.out.1 rfl).2.at_ (show p<k by omega) HY.out HX.out)) (by simp)
          clear HV;go_wp2_with fail;clear hXe;refine wp_region_held_drew (S:=(λ W=>W.cell? ⟨wr.heap.size,0,none⟩=some (.int .i64 x.addr)/\W.cell? ⟨wr.heap.size,1,none⟩=some (.int .i64 x.cnt)/\W.cell? ⟨wr.heap.size,2,none⟩=some (.slice x.A x.n x.c)/\wr.heap.size<W.heap.size/\Gr X W/\W.cell? ⟨b,off+p*3,none⟩=some (.int .i64 y.addr)/\b<W.heap.size)) (by kernel_rfl) ⟨e0,e1,e2,e3,(zr X).dr,f1,f2⟩ (λ hS=>?_);refine wG 0 hS ?_;refine wR1 1 (λ K hK=>?_);go_simp;go_at_call 123;refine (C1.out _ hS.2.2.2.2.1).mono ?_;rintro ee w9 ⟨rfl,hb⟩;go_wp2_with fail;refine hK.out _ _ ⟨(hb.cell (p:=⟨wr.heap.size,0,none⟩) hS.2.2.2.1).trans hS.1,(hb.cell (p:=⟨wr.heap.size,1,none⟩) hS.2.2.2.1).trans hS.2.1,(hb.cell (p:=⟨wr.heap.size,2,none⟩) hS.2.2.2.1).trans hS.2.2.1,zlt hS.2.2.2.1 hb.size,Gr.trans hS.2.2.2.2.1 hb,(hb.cell (p:=⟨b,off+p*3,none⟩) hS.2.2.2.2.2.2).trans hS.2.2.2.2.2.1,zlt hS.2.2.2.2.2.2 hb.size⟩ (λ hS=>?_);clear hK K
          try simp only [pL]
          refine wG 2 hS ?_;refine wG 3 hS ?_;refine wG 4 hS ?_;refine wR1 5 (λ K hK=>?_);go_simp;go_at_call 124;refine (C2.out _).mono ?_;rintro ee w9 ⟨rfl,hb⟩;go_wp2_with fail;refine hK.out _ _ ⟨(hb.cell (p:=⟨wr.heap.size,0,none⟩) hS.2.2.2.1).trans hS.1,(hb.cell (p:=⟨wr.heap.size,1,none⟩) hS.2.2.2.1).trans hS.2.1,(hb.cell (p:=⟨wr.heap.size,2,none⟩) hS.2.2.2.1).trans hS.2.2.1,zlt hS.2.2.2.1 hb.size,Gr.trans hS.2.2.2.2.1 hb,(hb.cell (p:=⟨b,off+p*3,none⟩) hS.2.2.2.2.2.2).trans hS.2.2.2.2.2.1,zlt hS.2.2.2.2.2.2 hb.size⟩ (λ hS=>?_);clear hK K
          try simp only [pL]
          refine wG 6 hS ?_;refine wG 7 hS ?_;refine wG 8 hS ?_;refine wpAnyH_goes 9 (v:=.bool true) rfl rfl (by kernel_rfl) (by kernel_rfl) (by kernel_rfl) (λ _ _ _ h=>h) (by rfl) (λ w9 hw9=>?_) hS ?_
          . (try dsimp only at hw9);go_simp;first | done | omega | (simp [*];done) | (simp;omega)
          try simp only [pL]
          refine wG 10 hS ?_;refine wG 11 hS ?_;refine wG 12 hS ?_;refine wG 13 hS ?_;refine wG 14 hS ?_;refine wG 15 hS ?_;refine wG 16 hS ?_;refine wG 17 hS ?_;refine wG 18 hS ?_;refine wR1 19 (λ K hK=>?_);go_simp;go_at_call 125;refine (C3.out _).mono ?_;rintro ee w9 ⟨rfl,rfl⟩;go_wp2_with fail;refine hK.out _ _ hS (λ hS=>?_);clear hK K
          try simp only [pL]
          refine wG 20 hS ?_;refine wG 21 hS ?_;refine wG 22 hS ?_;refine wpAnyH_done (by kernel_rfl) ?_ _;obtain⟨q0,q1,q2,q3,q4,q5,q6⟩:=hS;have GF:=hid (GX.out.trans q4);clear q0 q1 q2 q3 q4 q5 q6;go_wp2_with fail;go_ret;exact⟨rfl,GF.out⟩
    . obtain rfl:k=n:=by omega
      obtain rfl:v=true:=HV.out.2 ⟨by omega,by have:=HT.out;rwa [<- hlen,List.take_length] at this⟩;clear HV;have G1:=HG;go_wp2_with fail;go_ret;exact⟨rfl,G1.out⟩
 . obtain rfl:v=false:=by
    cases v
    . rfl
    . have:=(HV.out.1 rfl).1;omega
   have h1:(64:Int)<(n:Int):=by omega
   clear HV;go_enter func92,ntmps92;go_wp2_with fail;go_ret;exact⟨rfl,zr _⟩
end
end
end Go.Proofs.YtainfijdhcehlaaGreatDoor
namespace Go.Proofs
open Go.Shelf
def Tryz.laySort_ren : Go.Shelf.Ren := ⟨fun | 5 => 247 | 8 => 250 | 7 => 249 | 19 => 260 | 20 => 261 | 10 => 251 | 11 => 252 | 12 => 253 | 13 => 254 | 14 => 255 | 15 => 256 | 16 => 257 | 17 => 258 | 18 => 259 | 30 => 262 | 31 => 263 | 32 => 264 | 33 => 265 | 34 => 266 | 35 => 267 | 40 => 268 | n => n, fun | 23 => 23 | 25 => 3 | 3 => 3 | 32 => 144 | 22 => 23 | 0 => 0 | 44 => 169 | 46 => 71 | 4 => 4 | 36 => 306 | 35 => 305 | 41 => 268 | 5 => 5 | 9 => 9 | 53 => 313 | 57 => 240 | 63 => 318 | 64 => 319 | n => n, fun | n => n⟩
theorem Tryz.laySort : Go.Proofs.SlLaysM.n5 Tryz.prog Tryz.laySort_ren := {
  mixed := by kernel_rfl
  f5 := ⟨Tryz.f247.name, by decide, Tryz.func247.trans (congrArg some (by kernel_rfl))⟩
  f7 := ⟨Tryz.f249.name, by decide, Tryz.func249.trans (congrArg some (by kernel_rfl))⟩
  f8 := Tryz.func250.trans (congrArg some (by kernel_rfl))
  f10 := ⟨Tryz.f251.name, by decide, Tryz.func251.trans (congrArg some (by kernel_rfl))⟩
  f11 := ⟨Tryz.f252.name, by decide, Tryz.func252.trans (congrArg some (by kernel_rfl))⟩
  f12 := ⟨Tryz.f253.name, by decide, Tryz.func253.trans (congrArg some (by kernel_rfl))⟩
  f13 := ⟨Tryz.f254.name, by decide, Tryz.func254.trans (congrArg some (by kernel_rfl))⟩
  f14 := ⟨Tryz.f255.name, by decide, Tryz.func255.trans (congrArg some (by kernel_rfl))⟩
  f15 := ⟨Tryz.f256.name, by decide, Tryz.func256.trans (congrArg some (by kernel_rfl))⟩
  f16 := ⟨Tryz.f257.name, by decide, Tryz.func257.trans (congrArg some (by kernel_rfl))⟩
  f17 := ⟨Tryz.f258.name, by decide, Tryz.func258.trans (congrArg some (by kernel_rfl))⟩
  f18 := ⟨Tryz.f259.name, by decide, Tryz.func259.trans (congrArg some (by kernel_rfl))⟩
  f19 := Tryz.func260.trans (congrArg some (by kernel_rfl))
  f20 := Tryz.func261.trans (congrArg some (by kernel_rfl))
  f30 := ⟨Tryz.f262.name, by decide, Tryz.func262.trans (congrArg some (by kernel_rfl))⟩
  f31 := Tryz.func263.trans (congrArg some (by kernel_rfl))
  f32 := Tryz.func264.trans (congrArg some (by kernel_rfl))
  f33 := ⟨Tryz.f265.name, by decide, Tryz.func265.trans (congrArg some (by kernel_rfl))⟩
  f34 := ⟨Tryz.f266.name, by decide, Tryz.func266.trans (congrArg some (by kernel_rfl))⟩
  f35 := ⟨Tryz.f267.name, by decide, Tryz.func267.trans (congrArg some (by kernel_rfl))⟩
  f40 := ⟨Tryz.f268.name, by decide, Tryz.func268.trans (congrArg some (by kernel_rfl))⟩
  t0 := Tryz.underlying0
  a0 := Tryz.isAgg0
  z0 := Tryz.sizeOf0
  v0 := Tryz.zeroValue0
  t3 := Tryz.underlying3
  a3 := Tryz.isAgg3
  z3 := Tryz.sizeOf3
  v3 := Tryz.zeroValue3
  t4 := Tryz.underlying4
  a4 := Tryz.isAgg4
  z4 := Tryz.sizeOf4
  v4 := Tryz.zeroValue4
  t5 := Tryz.underlying5
  a5 := Tryz.isAgg5
  z5 := Tryz.sizeOf5
  v5 := Tryz.zeroValue5
  t9 := Tryz.underlying9
  a9 := Tryz.isAgg9
  z9 := Tryz.sizeOf9
  v9 := Tryz.zeroValue9
  t22 := Tryz.underlying23
  a22 := Tryz.isAgg23
  z22 := Tryz.sizeOf23
  v22 := Tryz.zeroValue23
  t23 := Tryz.underlying23
  a23 := Tryz.isAgg23
  z23 := Tryz.sizeOf23
  v23 := Tryz.zeroValue23
  t25 := Tryz.underlying3
  a25 := Tryz.isAgg3
  z25 := Tryz.sizeOf3
  v25 := Tryz.zeroValue3
  t32 := Tryz.underlying144
  a32 := Tryz.isAgg144
  z32 := Tryz.sizeOf144
  v32 := Tryz.zeroValue144
  t35 := Tryz.underlying305
  a35 := Tryz.isAgg305
  z35 := Tryz.sizeOf305
  v35 := Tryz.zeroValue305
  t36 := Tryz.underlying306
  a36 := Tryz.isAgg306
  z36 := Tryz.sizeOf306
  v36 := Tryz.zeroValue306
  t41 := Tryz.underlying268
  a41 := Tryz.isAgg268
  z41 := Tryz.sizeOf268
  v41 := Tryz.zeroValue268
  t44 := Tryz.underlying169
  a44 := Tryz.isAgg169
  z44 := Tryz.sizeOf169
  v44 := Tryz.zeroValue169
  t46 := Tryz.underlying71
  a46 := Tryz.isAgg71
  z46 := Tryz.sizeOf71
  v46 := Tryz.zeroValue71
  t53 := Tryz.underlying313
  a53 := Tryz.isAgg313
  z53 := Tryz.sizeOf313
  v53 := Tryz.zeroValue313
  t57 := Tryz.underlying240
  a57 := Tryz.isAgg240
  z57 := Tryz.sizeOf240
  v57 := Tryz.zeroValue240
  t63 := Tryz.underlying318
  a63 := Tryz.isAgg318
  z63 := Tryz.sizeOf318
  v63 := Tryz.zeroValue318
  t64 := Tryz.underlying319
  a64 := Tryz.isAgg319
  z64 := Tryz.sizeOf319
  v64 := Tryz.zeroValue319 }
end Go.Proofs
namespace Go.Proofs.YtainfijdhcehlaaGreatDoor
open Lib (hid)
open Go.Proofs.Tryz
open Go.ChangeAt Go.ChangeShapes Go.RowKit Go.Shelf Go.WideShapes
section
section
variable {w w':World} {base n c b off:Nat} {A:Option Addr} {L R:List Int}
theorem grownBy_put (q:Nat) (R:List Int) (os:Array Obj) (hb:b<w.heap.size):w.grownBy (Sort.grow (Sort.putRow (Value.int .i64) (Sort.ahead w q) b off R.toArray) os) (some b) where
 os:=rfl
 tape:=rfl
 output:=rfl
 size:=by simp [Sort.ahead]
 block:=λ k hk hne=>by
  rw [Sort.heap_grow_old _ _ (by simpa [Sort.ahead] using hk)];have:b≠k:=λ e=>hne (by rw [e])
  simp [Sort.putRow,Sort.mapBlock,Array.getElem?_modify,this,Sort.ahead]
theorem OMem.holds (ho:IOwn base w (some ⟨b,off,none⟩) n c L):Sort.Holds (Value.int .i64) w b off L.toArray:=by
 intro j hj;have hj':j<L.length:=by simpa using hj
 obtain⟨h1,h2,h3,h4⟩:=ho;have hn:=h1.1;obtain⟨b',off',e,hlt,hc⟩:=h1.2.2 (by omega);cases e;rcases h4 with ⟨e,_⟩ | ⟨b',off',e,h5,h6,h7⟩
 . cases e
 . cases e
   refine⟨?_,(h7 j (by omega)).2⟩;rw [hc j L[j] (zge hj')];simp [hj']
theorem OMem.put (ho:IOwn base w (some ⟨b,off,none⟩) n c L) (q:Nat) (os:Array Obj) (hl:R.length=n) (hR:∀ x∈R,B64 x) :
 IOwn base (Sort.grow (Sort.putRow (Value.int .i64) (Sort.ahead w q) b off R.toArray) os) (some ⟨b,off,none⟩) n c R:=by
 have hh:=ho.holds;obtain⟨h1,h2,h3,h4⟩:=ho;rcases h4 with ⟨e,_⟩ | ⟨b',off',e,h5,h6,h7⟩
 . cases e
 . cases e
   have hs:b<(Sort.putRow (Value.int .i64) (Sort.ahead w q) b off R.toArray).heap.size:=by simpa [Sort.ahead] using h6
   have hsz:R.toArray.size=L.toArray.size:=by simp [hl,h1.1]
   have hin:∀ j,j<n->(Sort.putRow (Value.int .i64) (Sort.ahead w q) b off R.toArray).cell? ⟨b,off+j,none⟩=some (.int .i64 R.toArray[j]!):=λ j hj =>
    Sort.cell?_putRow (Value.int .i64) (Sort.ahead w q) b off L.toArray R.toArray hh hsz j (by simpa [hl] using hj)
   refine⟨⟨hl,hR,λ hn=>⟨b,off,rfl,by simp [Sort.ahead];omega,λ j x hx=>?_⟩⟩,h2,h3,.inr ⟨b,off,rfl,h5,by simp [Sort.ahead];omega,λ j hj=>⟨?_,?_⟩⟩⟩
   . have hj:=(zgl hx)
     rw [Sort.cell?_grow _ _ _ hs,hin j (by omega)];have:=(List.getElem?_eq_some_iff.1 hx).2;simp [hj,this]
   . rw [Sort.cell?_grow _ _ _ hs]
     by_cases hjn:j<n
     . rw [hin j hjn];rfl
     . rw [Sort.cell?_putRow_other _ _ _ _ _ _ (.inr (.inr (by simp [hl];omega)))]
       exact (h7 j hj).1
   . rw [Sort.frozen?_grow _ _ _ hs,Sort.frozen?_putRow]
     exact (h7 j hj).2
theorem OMem.take (ho:IOwn base w A n c L) (k:Nat) (hk:k<=n):IOwn base w A k c (L.take k):=⟨ho.1.take_ k hk,by have:=ho.2.1;omega,ho.2.2.1,ho.2.2.2⟩
def srt (L:List Int):List Int:=L.mergeSort (λ x y=>decide (x<=y))
theorem srt_perm (L:List Int):(srt L).Perm L:=List.mergeSort_perm _ _
theorem srt_len (L:List Int):(srt L).length=L.length:=(srt_perm L).length_eq
theorem srt_rising {L:List Int} (h:L.Nodup):Rising (srt L):=by
 have hs:(srt L).Pairwise (λ x y=>decide (x<=y)=true):=List.pairwise_mergeSort (λ a b c h1 h2=>by simp only [decide_eq_true_eq] at *;omega) (λ a b=>by simp only [Bool.or_eq_true,decide_eq_true_eq];omega) L;have hn:(srt L).Nodup:=(srt_perm L).nodup_iff.2 h;refine List.Pairwise.imp₂ ?_ hs hn;intro a b h1 h2;rw [decide_eq_true_eq] at h1;omega
theorem Sort_is (ho:IOwn base w A n c L) (hn:n<=1000000) :
 Calls prog 247 #[.slice A n c] w λ e w'=>e=.returned (.tuple #[])/\IOwn base w' A n c (srt L)/\w.grownBy w' (A.map (·.block)):=by
 have hlen:=ho.1.1;by_cases h0:n=0
 . subst h0
   have hL:L=[]:=zen hlen;subst hL;refine (AnyM.slices_Sort_int_none Tryz.laySort A c w).mono ?_;rintro e w' ⟨rfl,rfl⟩;exact⟨rfl,by simpa [srt] using ho,World.grownBy.refl _ _⟩
 . have ho':=ho
   obtain⟨h1,h2,h3,h4⟩:=ho;obtain⟨b,off,rfl,hlt,hc⟩:=h1.2.2 (by omega);unfold maxLen at h3;have hcon:=AnyM.slices_Sort_int Tryz.laySort b off c L w ho'.holds hlt (by omega);rw [hlen] at hcon;refine hcon.mono ?_;rintro e w' ⟨rfl,q,os,rfl⟩;exact⟨rfl,ho'.put q os ((srt_len L).trans hlen) (λ x hx=>h1.2.1 x ((srt_perm L).mem_iff.1 hx)),grownBy_put q (srt L) os hlt⟩
end
theorem Lay.inord_ids {l:List Nd}:∀ {t:T} {a:Int},Lay l t a->t.inord=t.ids.map λ i=>(l[i]?.getD default).key
 | .nil,_,_=>rfl
 | .node j k L R,a,h=>by
  obtain⟨h1,nd,h2,h3,h4,h5⟩:=h;simp only [T.inord,T.ids,List.map_append,List.map_cons,h2,Option.getD_some,h3];rw [Lay.inord_ids h4,Lay.inord_ids h5]
theorem Good.perm {l:List Nd} {r:Int} {t:T} (h:Good l r t):(l.map Nd.key).Perm t.inord:=by
 have e:l.map Nd.key=(List.range l.length).map λ i=>(l[i]?.getD default).key:=by
  apply List.ext_getElem
  . simp
  . intro i h1 h2
    have:i<l.length:=by simpa using h1
    simp [this]
 rw [e,h.1.inord_ids];refine List.Perm.map _ ((List.perm_ext_iff_of_nodup List.nodup_range (h.1.nodup h.2.2.2.1)).2 λ i=>?_);rw [List.mem_range];refine⟨λ hi=>h.all hi,λ hi=>?_⟩;obtain⟨nd,e,_⟩:=h.1.key_of i hi;exact (zgl e)
end
def prf (k:Int):Int:=if 0<=k/\k<=4294967295 then pri k else -1
theorem prf_key {k:Int} (h:IsKey k):prf k=pri k:=if_pos h
theorem prf_no {k:Int} (h:¬ IsKey k):prf k=-1:=if_neg h
theorem wrap_u32 (x:Int):IntKind.u32.wrap x=x % 4294967296:=by simp [IntKind.wrap,IntKind.bits,IntKind.signed]
theorem Pri_is (k:Int) (w:World):Calls prog 235 #[.int .i64 k] w λ e w'=>e=.returned (.int .i64 (prf k))/\w'=w:=by
 by_cases h:IsKey k
 . rw [prf_key h]
   unfold IsKey at h;obtain⟨h0,h1⟩:=h;obtain⟨p,hp⟩:∃ p,p=pri k:=⟨_,rfl⟩;rw [<- hp];have e1:IntKind.u32.wrap k=k:=(wrap_u32 k).trans (by omega);have e2:IntKind.u32.wrap (k*2654435761)=p:=(wrap_u32 _).trans (by rw [hp];rfl);have hr:0<=p/\p<4294967296:=by rw [hp];exact pri_range k
   have e3:IntKind.i64.wrap p=p:=wrap_id (by omega) (by omega);clear hp;go_enter func235,ntmps235;go_wp2_with fail;go_ret;exact⟨rfl,rfl⟩
 . rw [prf_no h]
   unfold IsKey at h;by_cases h0:k<0
   . go_enter func235,ntmps235
     go_wp2_with fail;go_ret;exact⟨rfl,rfl⟩
   . have h1:4294967295<k:=by omega
     go_enter func235,ntmps235;go_wp2_with fail;go_ret;exact⟨rfl,rfl⟩
section
theorem least_ex {p:Nat->Prop} (h:∃ m,p m):∃ m,p m/\∀ k,p k->m<=k:=by
 obtain⟨m,hm⟩:=h
 induction m using Nat.strongRecOn with
 | _ m ih =>
  by_cases h:∃ k,k<m/\p k
  . obtain⟨k,hk,hp⟩:=h
    exact ih k hk hp
  . refine⟨m,hm,λ k hk=>Nat.le_of_not_lt λ hlt=>h ⟨k,hlt,hk⟩⟩
theorem wp_scope_ghost {P:Program} {c rest:Code} {a:Act} {w:World} {Q:Exit->Act->World->Prop} (l:Nat) (J:Nat->Act->World->Prop) (hf:findLabel c l=some rest)
 (first:c.wp P (Exit.jump l (λ a' w'=>∃ m,J m a' w') Q) a w)
 (pass:∀ m a w,J m a w->rest.wp P (Exit.jump l (λ a' w'=>∃ m',m'<m/\J m' a' w') Q) a w):(Code.scope c).wp P Q a w:=by
 classical
 let μ:Act->World->Nat:=λ a w=>if h:∃ m,J m a w then Classical.choose (least_ex h) else 0
 have hμ:∀ a w,(∃ m,J m a w)->J (μ a w) a w/\∀ k,J k a w->μ a w<=k:=λ a w h=>by
  show J (if h:∃ m,J m a w then Classical.choose (least_ex h) else 0) a w/\_;have:=Classical.choose_spec (least_ex h);simp only [μ,dif_pos h];exact this
 refine wp_scope_jumps l (λ a' w'=>∃ m,J m a' w') μ hf first λ a w h=>?_
 refine Code.wp_mono (λ e a' w' hq=>?_) (pass (μ a w) a w (hμ a w h).1)
 cases e with
 | goto l' =>
  obtain⟨h1,m',h2,h3⟩:=hq;exact⟨h1,⟨m',h3⟩,Nat.lt_of_le_of_lt ((hμ a' w' ⟨m',h3⟩).2 m' h3) h2⟩
 | normal=>exact hq
 | exit id=>exact hq
 | ret=>exact hq
 | panic ch=>exact hq
 | outgrown=>exact hq
theorem wp_scope_once {P:Program} {c rest:Code} {a:Act} {w:World} {Q:Exit->Act->World->Prop} (l:Nat) (J:Nat->Act->World->Prop) (hf:findLabel c l=some (.seq .skip rest))
 (pass:∀ m a w,J m a w->rest.wp P (Exit.jump l (λ a' w'=>∃ m',m'<m/\J m' a' w') Q) a w)
 (first:(∀ m a w,J m a w->rest.wp P (Exit.jump l (λ a' w'=>∃ m,J m a' w') Q) a w)->c.wp P (Exit.jump l (λ a' w'=>∃ m,J m a' w') Q) a w):(Code.scope c).wp P Q a w :=
 wp_scope_ghost l J hf (first λ m a w h=>Code.wp_mono (λ e a' w' hq=>by
  cases e with
  | goto l'=>exact⟨hq.1,hq.2.choose,hq.2.choose_spec.2⟩
  | normal=>exact hq
  | exit id=>exact hq
  | ret=>exact hq
  | panic ch=>exact hq
  | outgrown=>exact hq) (pass m a w h)) (λ m a w h=>wp_seq (wp_skip (pass m a w h)))
def side (r:Bool):Nat:=if r then 2 else 1
def run (dir:Int->Option Bool) (upd:Int->Int->Int) (b off:Nat):T->Nat->Nat->Int->(Nat×Nat)×T×Int
 | .nil,pb,po,s=>((pb,po),.nil,s)
 | .node i k L R,pb,po,s=>match dir k with
  | none=>((pb,po),.node i k L R,upd k s)
  | some r=>if r then run dir upd b off R b (off+i*3+2) (upd k s) else run dir upd b off L b (off+i*3+1) (upd k s)
section
variable {dir:Int->Option Bool} {upd:Int->Int->Int} {b off:Nat}
theorem run_stop {i:Nat} {k:Int} {L R:T} {pb po:Nat} {s:Int} (h:dir k=none):run dir upd b off (.node i k L R) pb po s=((pb,po),.node i k L R,upd k s):=by
 simp only [run,h]
theorem run_go {i:Nat} {k:Int} {L R:T} {pb po:Nat} {s:Int} {r:Bool} (h:dir k=some r):run dir upd b off (.node i k L R) pb po s=run dir upd b off (if r then R else L) b (off+i*3+side r) (upd k s):=by
 cases r<;>simp [run,h,side]
theorem run_lay {l:List Nd} {w:World} (hc:∀ i nd,l[i]?=some nd->w.cell? ⟨b,off+i*3+1,none⟩=some (.int .i64 nd.left)/\w.cell? ⟨b,off+i*3+2,none⟩=some (.int .i64 nd.right)) :
 ∀ {t:T} {pb po:Nat} {s a:Int},Lay l t a->w.cell? ⟨pb,po,none⟩=some (.int .i64 a)->∃ v,Lay l (run dir upd b off t pb po s).2.1 v/\w.cell? ⟨(run dir upd b off t pb po s).1.1,(run dir upd b off t pb po s).1.2,none⟩=some (.int .i64 v)
 | .nil,pb,po,s,a,h,hp=>⟨a,h,hp⟩
 | .node i k L R,pb,po,s,a,h,hp=>by
  have h':=h;obtain⟨h1,nd,h2,h3,h4,h5⟩:=h
  cases hd:dir k with
  | none=>rw [run_stop hd];exact⟨a,h',hp⟩
  | some r =>
   rw [run_go hd]
   cases r with
   | true=>exact run_lay hc h5 (hc i nd h2).2
   | false=>exact run_lay hc h4 (hc i nd h2).1
end
section
variable {g:Nat} {caps:Array Value} {Inv:Int->World->Prop} {dir:Int->Option Bool} {upd:Int->Int->Int} {tb b off n c:Nat} {A:Option Addr} {l:List Nd} {r:Int}
def Further (g:Nat) (caps:Array Value) (Inv:Int->World->Prop) (dir:Int->Option Bool) (upd:Int->Int->Int) (b off:Nat) (l:List Nd):Prop :=
 ∀ (s:Int) (W:World) (i:Nat) (nd:Nd),Inv s W->l[i]?=some nd->Calls prog g (#[.pointer (some ⟨b,off+i*3,none⟩)]++caps) W λ e w' =>
  e=.returned (.pointer ((dir nd.key).map λ q=>⟨b,off+i*3+side q,none⟩))/\Inv (upd nd.key s) w'
structure Keeps (Inv:Int->World->Prop) (tb:Nat) (r:Int) (A:Option Addr) (n c:Nat) (l:List Nd):Prop where
 root:∀ s W,Inv s W->W.cell? ⟨tb,0,none⟩=some (.int .i64 r)
 nodes:∀ s W,Inv s W->W.cell? ⟨tb,1,none⟩=some (.slice A n c)
 mem:∀ s W,Inv s W->NMem W A n l
 drew:∀ s W,Inv s W->Inv s W.drew
theorem follow_is (eg:∀ args w,(callFunc g args).run prog w=.ok (.enter g args) w) (hK:Keeps Inv tb r A n c l) (hF:Further g caps Inv dir upd b off l) (hA:n=0\/A=some ⟨b,off,none⟩)
 {t:T} (hL:Lay l t r) {s:Int} {w:World} (h0:Inv s w) :
 Calls prog 237 #[.pointer (some ⟨tb,0,none⟩),.func (.func g) #[] caps] w λ e w' =>
  e=.returned (.pointer (some ⟨(run dir upd b off t tb 0 s).1.1,(run dir upd b off t tb 0 s).1.2,none⟩))/\Inv (run dir upd b off t tb 0 s).2.2 w':=by
 have KK:=hid hK;have KF:=hid hF;have KA:=hid hA;have KI:=hid h0;have KL:=hid hL;obtain⟨R0,hR0⟩:∃ R0,run dir upd b off t tb 0 s=R0:=⟨_,rfl⟩;rw [hR0];have KR:=hid hR0;clear hK hF hA hR0 hL;have c0:=KK.out.root s w h0;have c1:=KK.out.nodes s w h0;clear h0;go_enter func237,ntmps237;go_wp2_with fail;refine wp_scope_once 0 (λ m a' w'=>∃ (pb po:Nat) (t':T) (v s':Int) (u6 u7 u8 u9 u10 u11 u12 u13 u14 u15 u16 u17 u18 u19 u20 u21 u22 u23 u24 u25 u26 u27 u28:Value),a'={ tmps:=#[.pointer (some ⟨tb,0,none⟩),.func (.func g) #[] caps,undef,undef,.pointer none,.pointer (some ⟨pb,po,none⟩),u6,u7,u8,u9,u10,u11,u12,u13,u14,u15,u16,u17,u18,u19,u20,u21,u22,u23,u24,u25,u26,u27,u28],defers:=[] } /\
  Hid (Inv s' w')/\Hid (∀ s W,Inv s W->W.cell? ⟨pb,po,none⟩=some (.int .i64 v))/\Hid (Lay l t' v)/\t'.size=m/\Hid (run dir upd b off t' pb po s'=R0)) rfl ?_ ?_
 . rintro m a' w' ⟨pb,po,t',v,s',u6,u7,u8,u9,u10,u11,u12,u13,u14,u15,u16,u17,u18,u19,u20,u21,u22,u23,u24,u25,u26,u27,u28,rfl,HI,HP,HL,hm,HR⟩
   have d0:=HP.out s' w' HI.out
   cases t' with
   | nil =>
    obtain rfl:v=-1:=HL.out;go_wp2_with fail;simp only [Exit.jump];go_ret;rw [<- HR.out];exact⟨rfl,HI.out⟩
   | node i k L R =>
    obtain⟨hv,nd,hx,rfl,h4,h5⟩:=HL.out;subst hv;have HX:=hid hx;have H4:=hid h4;have H5:=hid h5;have ne:((i:Int)==-1)=false:=beq_eq_false_iff_ne.2 (by omega);have hi:i<n:=by have:=(zgl hx);have:=(KK.out.mem s' w' HI.out).1;omega
    obtain rfl:A=some ⟨b,off,none⟩:=by
     rcases KA.out with h | h
     . omega
     . exact h
    have g0:(0:Int)<=(i:Int):=by omega
    have g1:(i:Int)<(n:Int):=by omega
    have d1:=KK.out.nodes s' w' HI.out;have hC:=λ W h=>KF.out s' W i nd h hx
    clear hx h4 h5 c0 c1 HL
    cases hd:dir nd.key with
    | none =>
     rw [hd] at hC;simp only [Option.map_none] at hC;have KC:=hid hC;have HD:=hid hd;clear hC hd;go_wp2_with fail
     go_region_held3 (λ w'=>w'.cell? ⟨tb,1,none⟩=some (.slice (some ⟨b,off,none⟩) n c)/\w'.cell? ⟨pb,po,none⟩=some (.int .i64 (i:Int))) (first | exact⟨d1,d0⟩ | exact⟨KK.out.nodes _ _ hI2,HP.out _ _ hI2⟩)
      (first | (go_at_fn g;(refine (KC.out _ (KK.out.drew _ _ HI.out)).mono ?_);rintro e w2 ⟨rfl,hI2⟩))
     go_wp2_with fail;simp only [Exit.jump];go_ret;rw [<- HR.out,run_stop HD.out];exact⟨rfl,hI2⟩
    | some q =>
     rw [hd] at hC;simp only [Option.map_some] at hC;have KC:=hid hC;have HD:=hid hd;clear hC hd;go_wp2_with fail
     go_region_held3 (λ w'=>w'.cell? ⟨tb,1,none⟩=some (.slice (some ⟨b,off,none⟩) n c)/\w'.cell? ⟨pb,po,none⟩=some (.int .i64 (i:Int))) (first | exact⟨d1,d0⟩ | exact⟨KK.out.nodes _ _ hI2,HP.out _ _ hI2⟩)
      (first | (go_at_fn g;(refine (KC.out _ (KK.out.drew _ _ HI.out)).mono ?_);rintro e w2 ⟨rfl,hI2⟩))
     go_wp2_with fail
     go_step3
     refine⟨rfl,(if q then R else L).size,?_,b,off+i*3+side q,if q then R else L,if q then nd.right else nd.left,upd nd.key s',_,_,_,_,_,_,_,_,_,_,_,_,_,_,_,_,_,_,_,_,_,_,_,rfl,hid hI2,hid (λ s W h=>?_),hid ?_,rfl,hid ?_⟩
     . cases q<;>simp [T.size] at hm ⊢<;>omega
     . have:=(KK.out.mem s W h).cells HX.out
       cases q
       . exact this.2.1
       . exact this.2.2
     . cases q
       . exact H4.out
       . exact H5.out
     . rw [<- HR.out,run_go HD.out]
 . intro hp
   go_wp2_with fail;rename_i hk;refine wp_label ?_;exact hk _ _ (hp _ _ _ ⟨tb,0,t,r,s,_,_,_,_,_,_,_,_,_,_,_,_,_,_,_,_,_,_,_,_,_,_,_,rfl,KI,hid KK.out.root,KL,rfl,KR⟩)
end
end
section
def ins (i:Nat) (x:Int):T->T
 | .nil=>.node i x .nil .nil
 | .node j k L R=>if pri k<pri x then .node i x (.node j k L R) .nil else .node j k L (ins i x R)
def hold (x:Int):T->Option Nat
 | .nil=>none
 | .node j k L R=>if pri k<pri x then none else some ((hold x R).getD j)
def gdir (x k:Int):Option Bool:=if pri k<pri x then none else some true
section
variable {i:Nat} {x:Int} {l:List Nd}
theorem ins_inord:∀ t:T,(ins i x t).inord=t.inord++[x]
 | .nil=>rfl
 | .node j k L R=>by
  unfold ins
  split
  . simp [T.inord]
  . simp [T.inord,ins_inord R]
theorem ins_ids {y:Nat}:∀ {t:T},y∈(ins i x t).ids->y=i\/y∈t.ids
 | .nil,h=>by simp [ins,T.ids] at h;exact .inl h
 | .node j k L R,h=>by
  unfold ins at h
  split at h
  . simp only [T.ids,List.mem_append,List.mem_cons,List.not_mem_nil,or_false] at h ⊢
    rcases h with h | h
    . exact .inr h
    . exact .inl h
  . simp only [T.ids,List.mem_append,List.mem_cons] at h ⊢
    rcases h with h | h | h
    . exact .inr (.inl h)
    . exact .inr (.inr (.inl h))
    . rcases ins_ids h with h | h
      . exact .inl h
      . exact .inr (.inr (.inr h))
theorem ins_nodup:∀ {t:T},t.ids.Nodup->i ∉ t.ids->(ins i x t).ids.Nodup
 | .nil,_,_=>by simp [ins,T.ids]
 | .node j k L R,h,hi=>by
  unfold ins;simp only [T.ids,List.nodup_append,List.nodup_cons] at h;simp only [T.ids,List.mem_append,List.mem_cons,not_or] at hi;obtain⟨h1,⟨h2,h3⟩,h4⟩:=h;obtain⟨i1,i2,i3⟩:=hi
  split
  . simp only [T.ids,List.nodup_append,List.nodup_cons,List.not_mem_nil,not_false_iff,List.nodup_nil,true_and,List.mem_append,List.mem_cons]
    refine⟨⟨h1,⟨h2,h3⟩,λ a ha b hb=>h4 a ha b (List.mem_cons.2 hb)⟩,λ a ha b hb e=>?_⟩;have hb':b=i:=hb.resolve_right (λ h=>h);subst hb' e;rcases ha with ha | ha | ha
    . exact i1 ha
    . exact i2 ha
    . exact i3 ha
  . simp only [T.ids,List.nodup_append,List.nodup_cons]
    refine⟨h1,⟨λ hj=>?_,ins_nodup h3 i3⟩,λ a ha b hb e=>?_⟩
    . rcases ins_ids hj with e | e
      . exact i2 e.symm
      . exact h2 e
    . subst e
      rcases List.mem_cons.1 hb with e | hb
      . exact h4 a ha j (by simp) e
      . rcases ins_ids hb with e | e
        . subst e;exact i1 ha
        . exact h4 a ha a (by simp [e]) rfl
theorem ins_hp:∀ {t:T} {w:Int},Hp t w->pri x<w->(∀ y∈t.inord,pri y≠pri x)->Hp (ins i x t) w
 | .nil,_,_,h,_=>⟨h,trivial,trivial⟩
 | .node j k L R,w,hp,h,hn=>by
  obtain⟨p1,p2,p3⟩:=hp;unfold ins
  split
  . rename_i hlt
    exact⟨h,⟨hlt,p2,p3⟩,trivial⟩
  . have:=hn k (by simp [T.inord])
    exact⟨p1,p2,ins_hp p3 (by omega) λ y hy=>hn y (by simp [T.inord,hy])⟩
theorem Lay.set {j:Nat} {nd:Nd}:∀ {t:T} {a:Int},Lay l t a->j ∉ t.ids->Lay (l.set j nd) t a
 | .nil,_,h,_=>h
 | .node k key L R,a,h,hj=>by
  simp only [T.ids,List.mem_append,List.mem_cons,not_or] at hj;obtain⟨h1,m,h2,h3,h4,h5⟩:=h;exact⟨h1,m,by rw [zsn (by omega)];exact h2,h3,h4.set hj.1,h5.set hj.2.2⟩
theorem hold_mem:∀ {t:T} {j:Nat},hold x t=some j->j∈t.ids
 | .nil,_,h=>by simp [hold] at h
 | .node k key L R,j,h=>by
  unfold hold at h
  split at h
  . cases h
  . cases hr:hold x R with
    | none=>rw [hr] at h;simp at h;simp [T.ids,h]
    | some j'=>rw [hr] at h;simp at h;subst h;have:=hold_mem hr;simp [T.ids,this]
theorem lay_ins:∀ {t:T} {a:Int},Lay l t a->t.ids.Nodup->i ∉ t.ids->i<l.length ->
 (hold x t=none->Lay (l.set i ⟨x,a,-1⟩) (ins i x t) i) /\
 (∀ j,hold x t=some j->∃ nd,l[j]?=some nd/\Lay ((l.set i ⟨x,nd.right,-1⟩).set j ⟨nd.key,nd.left,i⟩) (ins i x t) a)
 | .nil,a,h,_,_,hi=>by
  refine⟨λ _=>⟨rfl,_,zss hi,rfl,?_,rfl⟩,λ j h=>by simp [hold] at h⟩;exact h
 | .node k key L R,a,h,hd,hn,hi=>by
  have hlay:=h;obtain⟨h1,m,h2,h3,h4,h5⟩:=h;have hd0:=hd;have hn0:=hn;simp only [T.ids,List.nodup_append,List.nodup_cons] at hd;simp only [T.ids,List.mem_append,List.mem_cons,not_or] at hn;obtain⟨d1,⟨d2,d3⟩,d4⟩:=hd;obtain⟨n1,n2,n3⟩:=hn;have kL:k ∉ L.ids:=λ hk=>d4 k hk k (by simp) rfl
  unfold hold ins;by_cases hlt:pri key<pri x
  . simp only [if_pos hlt]
    refine⟨λ _=>⟨rfl,_,zss hi,rfl,hlay.set hn0,rfl⟩,λ j h=>by cases h⟩
  . simp only [if_neg hlt]
    obtain⟨g1,g2⟩:=lay_ins h5 d3 n3 hi;refine⟨λ h=>(by cases h),λ j hj=>?_⟩
    cases hr:hold x R with
    | none =>
     rw [hr] at hj;simp only [Option.getD_none,Option.some.injEq] at hj;subst hj;have hlen:k<(l.set i ⟨x,m.right,-1⟩).length:=by have:=(zgl h2);simpa using this
     refine⟨m,h2,h1,_,zss hlen,h3,(h4.set n1).set kL,(g1 hr).set λ hk=>?_⟩;rcases ins_ids hk with e | e
     . exact n2 e.symm
     . exact d2 e
    | some j' =>
     rw [hr] at hj;simp only [Option.getD_some,Option.some.injEq] at hj;subst hj;obtain⟨nd,e1,e2⟩:=g2 j' hr;have hj':=hold_mem hr;refine⟨nd,e1,h1,m,?_,h3,(h4.set n1).set (λ hk=>d4 j' hk j' (by simp [hj']) rfl),e2⟩;rw [zsn (λ e=>d2 (by rw [<- e];exact hj')),zsn (λ e=>n2 e)];exact h2
theorem run_grow {b off:Nat}:∀ {t:T} {pb po:Nat} {s:Int},(run (gdir x) (λ _ s=>s) b off t pb po s).1=match hold x t with | none=>(pb,po) | some j=>(b,off+j*3+2)
 | .nil,_,_,_=>rfl
 | .node j k L R,pb,po,s=>by
  unfold hold;by_cases hlt:pri k<pri x
  . rw [run_stop (show gdir x k=none from if_pos hlt),if_pos hlt]
  . rw [run_go (show gdir x k=some true from if_neg hlt),if_neg hlt,if_pos rfl,run_grow]
    cases hold x R<;>rfl
end
def NV (V:Array Value) (l:List Nd):Prop:=V.size=l.length*3/\∀ j nd,l[j]?=some nd->V[j*3]?=some (.int .i64 nd.key)/\V[j*3+1]?=some (.int .i64 nd.left)/\V[j*3+2]?=some (.int .i64 nd.right)
section
variable {V:Array Value} {l:List Nd} {i j:Nat} {nd:Nd}
theorem NV.made (n:Nat):NV (madeCells (Value.agg #[.int .i64 0,.int .i64 0,.int .i64 0]).cells (n*3)) (List.replicate n ⟨0,0,0⟩):=by
 have key:∀ m,m<n*3->(madeCells (Value.agg #[.int .i64 0,.int .i64 0,.int .i64 0]).cells (n*3))[m]?=some (.int .i64 0):=λ m hm=>by
  have:(Value.agg #[Value.int .i64 0,Value.int .i64 0,Value.int .i64 0]).cells=#[.int .i64 0,.int .i64 0,.int .i64 0]:=rfl;rw [this];unfold madeCells;rw [Array.getElem?_map,Array.getElem?_range,if_pos hm];have h3:m % 3<3:=Nat.mod_lt _ (by decide);simp only [Option.map_some];show some (#[Value.int .i64 0,Value.int .i64 0,Value.int .i64 0][m % 3]!)=_;rcases (by omega:m % 3=0\/m % 3=1\/m % 3=2) with h | h | h<;>rw [h]<;>rfl
 refine⟨by rw [size_madeCells,List.length_replicate],λ j nd h=>?_⟩;obtain⟨h1,h2⟩:=List.getElem?_eq_some_iff.1 h;rw [List.length_replicate] at h1;rw [List.getElem_replicate] at h2;subst h2;exact⟨key _ (by omega),key _ (by omega),key _ (by omega)⟩
theorem NV.set (h:NV V l) (hi:i<l.length) (k a b:Int):NV (((V.setIfInBounds (i*3) (.int .i64 k)).setIfInBounds (i*3+1) (.int .i64 a)).setIfInBounds (i*3+2) (.int .i64 b)) (l.set i ⟨k,a,b⟩):=by
 have hs:=h.1;refine⟨by simp [hs],λ j nd hj=>?_⟩;by_cases e:i=j
 . subst e
   rw [zss hi] at hj;cases hj;simp [Array.getElem?_setIfInBounds,hs];omega
 . rw [zsn e] at hj
   obtain⟨a1,a2,a3⟩:=h.2 j nd hj;simp only [Array.getElem?_setIfInBounds,a1,a2,a3];refine⟨?_,?_,?_⟩<;>(repeat' split)<;>first | rfl | omega
theorem NV.right (h:NV V l) (hj:l[j]?=some nd) (v:Int):NV (V.setIfInBounds (j*3+2) (.int .i64 v)) (l.set j ⟨nd.key,nd.left,v⟩):=by
 have hs:=h.1;have hlt:=(zgl hj);refine⟨by simp [hs],λ k m hk=>?_⟩;by_cases e:j=k
 . subst e
   rw [zss hlt] at hk;cases hk;obtain⟨a1,a2,a3⟩:=h.2 j nd hj;simp [Array.getElem?_setIfInBounds,hs,a1,a2];omega
 . rw [zsn e] at hk
   obtain⟨a1,a2,a3⟩:=h.2 k m hk;simp only [Array.getElem?_setIfInBounds,a1,a2,a3];refine⟨?_,?_,?_⟩<;>(repeat' split)<;>first | rfl | omega
theorem NV.mem {w:World} {g n:Nat} {t:TypeId} (h:NV V l) (hn:l.length=n) (hB:∀ nd∈l,B64 nd.key/\B64 nd.left/\B64 nd.right) (hb:Blk w g V t):NMem w (some ⟨g,0,none⟩) n l :=
 ⟨hn,hB,λ _=>⟨g,0,rfl,hb.lt,λ j nd hj=>by
   obtain⟨a1,a2,a3⟩:=h.2 j nd hj;simp only [Nat.zero_add];exact⟨(hb.at_ a1).1,(hb.at_ a2).1,(hb.at_ a3).1⟩⟩⟩
end
end
section
def SF (s:Nat):Value:=.func (.func 242) #[] #[.pointer (some ⟨s,0,none⟩),.pointer (some ⟨s+1,0,none⟩),.pointer (some ⟨s+2,0,none⟩)]
structure RW (w0:World) (r:Int) (A:Option Addr) (n c:Nat) (k:Int) (W:World):Prop where
 gr:Gr w0 W
 b0:Blk W w0.heap.size #[.int .i64 r,.slice A n c] 281
 b1:Blk W (w0.heap.size+1) #[.int .i64 k] 3
 b2:Blk W (w0.heap.size+2) #[SF w0.heap.size] 298
section
variable {w0 W W':World} {r:Int} {A:Option Addr} {n c:Nat} {k:Int} {l:List Nd}
theorem RW.dr (h:RW w0 r A n c k W):RW w0 r A n c k W.drew:=⟨h.gr.dr,h.b0,h.b1,h.b2⟩
theorem RW.drN (h:RW w0 r A n c k W) (m:Nat):RW w0 r A n c k (W.drewN m):=⟨h.gr.drN m,h.b0,h.b1,h.b2⟩
theorem RW.come (h:RW w0 r A n c k W) (j:Int):RW w0 r A n c j (W.setCell ⟨w0.heap.size+1,0,none⟩ (.int .i64 j)) :=
 ⟨h.gr.st (by show w0.heap.size<=w0.heap.size+1;omega) _,h.b0.st (by show w0.heap.size+1≠w0.heap.size;omega) _,by simpa using h.b1.set 0 (.int .i64 j),h.b2.st (by show w0.heap.size+1≠w0.heap.size+2;omega) _⟩
def Loads (s i b off:Nat) (n c:Nat) (nd:Nd) (W:World):Prop :=
 W.cell? ⟨s,1,none⟩=some (.slice (some ⟨b,off,none⟩) n c)/\W.cell? ⟨s+2,0,none⟩=some (.func (.func 242) #[] #[.pointer (some ⟨s,0,none⟩),.pointer (some ⟨s+1,0,none⟩),.pointer (some ⟨s+2,0,none⟩)]) /\
  W.cell? ⟨b,off+i*3,none⟩=some (.int .i64 nd.key)/\W.cell? ⟨b,off+i*3+1,none⟩=some (.int .i64 nd.left)/\W.cell? ⟨b,off+i*3+2,none⟩=some (.int .i64 nd.right)
theorem RW.loads {b off i:Nat} {nd:Nd} (hR:RW w0 r (some ⟨b,off,none⟩) n c k W) (hm:NMem w0 (some ⟨b,off,none⟩) n l) (hx:l[i]?=some nd):Loads w0.heap.size i b off n c nd W:=by
 have hi:i<n:=by have:=(zgl hx);have:=hm.1;omega
 obtain⟨b',off',nd',e,hbl,hx',i0,i1,i2,d0,d1,d2⟩:=(hm.gr hR.gr).at_ hi;cases e;rw [hx] at hx';cases hx';exact⟨(hR.b0.at_ (k:=1) rfl).1,(hR.b2.at_ (k:=0) rfl).1,d0,d1,d2⟩
theorem sound_is (hm:NMem w0 A n l) (hn:n<=64) {a lo hi w:Int} {b:Bool} {q:Nat} (hs:Snd l a lo hi w b q):∀ (W:World) (k:Int),RW w0 r A n c k W->0<=k->k+q<=1000->-1<=lo->hi<=4294967296 ->
 Calls prog 242 #[.int .i64 a,.int .i64 lo,.int .i64 hi,.int .i64 w,.pointer (some ⟨w0.heap.size,0,none⟩),.pointer (some ⟨w0.heap.size+1,0,none⟩),.pointer (some ⟨w0.heap.size+2,0,none⟩)] W
  λ e w'=>e=.returned (.bool b)/\RW w0 r A n c (k+q) w':=by
 have hlen:=hm.1
 induction hs with
 | nil lo hi w =>
  intro W k hR hk hq hlo hhi;have HR:=hid hR;clear hm hR;go_enter func242,ntmps242;go_wp2_with fail;go_ret;exact⟨rfl,by simpa using HR.out⟩
 | out a lo hi w h1 h2 =>
  intro W k hR hk hq hlo hhi;have c1:=(hR.b0.at_ (k:=1) rfl).1;have HR:=hid hR;have ne:(a==-1)=false:=beq_eq_false_iff_ne.2 h1;rw [hlen] at h2;clear hm hR;by_cases h3:a<0
  . go_enter func242,ntmps242
    go_wp2_with fail;go_ret;exact⟨rfl,by simpa using HR.out⟩
  . have h4:(n:Int)<=a:=by omega
    clear h2;go_enter func242,ntmps242;go_wp2_with fail;go_ret;exact⟨rfl,by simpa using HR.out⟩
 | no i nd lo hi w hx hno =>
  intro W k hR hk hq hlo hhi;have c1:=(hR.b0.at_ (k:=1) rfl).1;have hi1:i<n:=by have:=(zgl hx);omega
  obtain⟨b,off,nd',rfl,hbl,hx',i0,i1,i2,d0,d1,d2⟩:=(hm.gr hR.gr).at_ hi1;rw [hx] at hx';cases hx';obtain⟨x,y,z⟩:=nd;have HR:=hid hR;have g0:¬ ((i:Int)<0):=by omega
  have g1:(i:Int)<(n:Int):=by omega
  have g2:((i:Int)==-1)=false:=beq_eq_false_iff_ne.2 (by omega);obtain⟨p,hp⟩:∃ p,prf x=p:=⟨_,rfl⟩;have hC:=λ W=>Pri_is x W
  rw [hp] at hC;have hno:x<=lo\/(¬ x<=lo/\hi<=x)\/(¬ x<=lo/\¬ hi<=x/\w<=p):=by
   dsimp only at hno;have hpk:0<=x->x<=4294967295->p=pri x:=λ h h'=>by rw [<- hp];exact prf_key ⟨h,h'⟩
   by_cases e1:x<=lo
   . exact .inl e1
   . by_cases e2:hi<=x
     . exact .inr (.inl ⟨e1,e2⟩)
     . refine .inr (.inr ⟨e1,e2,?_⟩)
       rw [hpk (by omega) (by omega)];omega
  have kC:=hid hC;clear hm hR hx hC hp;dsimp only at *;rcases hno with h | ⟨h,h'⟩ | ⟨h,h',h''⟩
  all_goals (
   go_enter func242,ntmps242;go_wp2_with fail
   go_quiet ((go_at_call 235;with_reducible exact Calls.quiet_of_same (kC.out _)))
   go_wp2_with fail;go_ret;exact⟨rfl,by simpa using HR.out.drN _⟩)
 | left i nd lo hi w q hx h1 h2 h3 hs ih =>
  intro W k hR hk hq hlo hhi;obtain⟨x,y,z⟩:=nd;dsimp only at *;have hIK:IsKey x:=by unfold IsKey;omega
  have c1:=(hR.b0.at_ (k:=1) rfl).1;obtain⟨c2,c3⟩:=hR.b1.at_ (k:=0) rfl;have hi1:i<n:=by have:=(zgl hx);omega
  obtain⟨bb,off,nd',rfl,hbl,hx',i0,i1,i2,d0,d1,d2⟩:=(hm.gr hR.gr).at_ hi1;rw [hx] at hx';cases hx';dsimp only at *;have g0:¬ ((i:Int)<0):=by omega
  have g1:(i:Int)<(n:Int):=by omega
  have g2:((i:Int)==-1)=false:=beq_eq_false_iff_ne.2 (by omega);have g3:¬ x<=lo:=by omega
  have g4:¬ hi<=x:=by omega
  have g5:¬ w<=pri x:=by omega
  have hC:=λ W=>Pri_is x W
  rw [prf_key hIK] at hC;generalize pri x=p at *;have kC:=hid hC;have HI:=hid ih;have HR:=hid hR;have HM:=hid hm;have e1:IntKind.i64.wrap (k+1)=k+1:=IntWalk.i64_in _ (by omega);have EQ:=hid (show k+((q+1:Nat):Int)=k+1+(q:Int) from by omega);have b1:=hid (show 0<=k+1 from by omega);have b2:=hid (show k+1+(q:Int)<=1000 from by omega);have b3:=hid hlo;have b4:=hid (show x<=4294967296 from by omega);have HX:=hid hx;clear hm hR hx hC ih hs hq hk h1 h2 h3 hIK;go_enter func242,ntmps242;go_wp2_with fail
  go_quiet ((go_at_call 235;with_reducible exact Calls.quiet_of_same (kC.out _)))
  clear d0;go_wp2_with fail;have R1:=(HR.out.drN nq).come (k+1);clear c1 c2 c3 d1 d2 hbl;generalize (W.drewN nq).setCell _ _=W1 at R1 ⊢;refine wp_region_held_drew (S:=λ w'=>w'.cell? ⟨w0.heap.size,1,none⟩=some (.slice (some ⟨bb,off,none⟩) n c)/\w'.cell? ⟨w0.heap.size+2,0,none⟩=some (.func (.func 242) #[] #[.pointer (some ⟨w0.heap.size,0,none⟩),.pointer (some ⟨w0.heap.size+1,0,none⟩),.pointer (some ⟨w0.heap.size+2,0,none⟩)]) /\
   w'.cell? ⟨bb,off+i*3,none⟩=some (.int .i64 x)/\w'.cell? ⟨bb,off+i*3+1,none⟩=some (.int .i64 y)/\w'.cell? ⟨bb,off+i*3+2,none⟩=some (.int .i64 z)) (by kernel_rfl) (R1.dr.loads HM.out HX.out) (λ hHeld=>?_)
  refine wpAnyH_take (i:=0) (oi:=⟨some 53,_,_,_,_,_⟩) (v:=?_) rfl (by kernel_rfl) (by kernel_rfl) (by kernel_rfl) (λ _ _ _ h=>h) (Or.inl ⟨by rfl,?_⟩) (by assumption) ?_;rotate_left 1
  . (intro w hSw;(try dsimp only at hSw);go_simp;(try with_reducible rfl))
  try simp only [pL]
  refine wpAnyH_take (i:=1) (oi:=⟨some 54,_,_,_,_,_⟩) (v:=?_) rfl (by kernel_rfl) (by kernel_rfl) (by kernel_rfl) (λ _ _ _ h=>h) (Or.inl ⟨by rfl,?_⟩) (by assumption) ?_;rotate_left 1
  . (intro w hSw;(try dsimp only at hSw);go_simp;(try with_reducible rfl))
  try simp only [pL]
  refine wpAnyH_take (i:=2) (oi:=⟨some 55,_,_,_,_,_⟩) (v:=?_) rfl (by kernel_rfl) (by kernel_rfl) (by kernel_rfl) (λ _ _ _ h=>h) (Or.inl ⟨by rfl,?_⟩) (by assumption) ?_;rotate_left 1
  . (intro w hSw;(try dsimp only at hSw);go_simp;(try with_reducible rfl))
  try simp only [pL]
  refine wpAnyH_take (i:=3) (oi:=⟨some 56,_,_,_,_,_⟩) (v:=?_) rfl (by kernel_rfl) (by kernel_rfl) (by kernel_rfl) (λ _ _ _ h=>h) (Or.inl ⟨by rfl,?_⟩) (by assumption) ?_;rotate_left 1
  . (intro w hSw;(try dsimp only at hSw);go_simp;(try with_reducible rfl))
  try simp only [pL]
  refine wpAnyH_take (i:=4) (oi:=⟨some 57,_,_,_,_,_⟩) (v:=?_) rfl (by kernel_rfl) (by kernel_rfl) (by kernel_rfl) (λ _ _ _ h=>h) (Or.inl ⟨by rfl,?_⟩) (by assumption) ?_;rotate_left 1
  . (intro w hSw;(try dsimp only at hSw);go_simp;(try with_reducible rfl))
  try simp only [pL]
  refine wpAnyH_take (i:=5) (oi:=⟨some 58,_,_,_,_,_⟩) (v:=?_) rfl (by kernel_rfl) (by kernel_rfl) (by kernel_rfl) (λ _ _ _ h=>h) (Or.inl ⟨by rfl,?_⟩) (by assumption) ?_;rotate_left 1
  . (intro w hSw;(try dsimp only at hSw);go_simp;(try with_reducible rfl))
  try simp only [pL]
  refine wpAnyH_take (i:=6) (oi:=⟨some 59,_,_,_,_,_⟩) (v:=?_) rfl (by kernel_rfl) (by kernel_rfl) (by kernel_rfl) (λ _ _ _ h=>h) (Or.inl ⟨by rfl,?_⟩) (by assumption) ?_;rotate_left 1
  . (intro w hSw;(try dsimp only at hSw);go_simp;(try with_reducible rfl))
  try simp only [pL]
  refine wpAnyH_take (i:=7) (oi:=⟨some 60,_,_,_,_,_⟩) (v:=?_) rfl (by kernel_rfl) (by kernel_rfl) (by kernel_rfl) (λ _ _ _ h=>h) (Or.inl ⟨by rfl,?_⟩) (by assumption) ?_;rotate_left 1
  . (intro w hSw;(try dsimp only at hSw);go_simp;(try with_reducible rfl))
  try simp only [pL]
  refine wpAnyH_take (i:=8) (oi:=⟨some 61,_,_,_,_,_⟩) (v:=?_) rfl (by kernel_rfl) (by kernel_rfl) (by kernel_rfl) (λ _ _ _ h=>h) (Or.inl ⟨by rfl,?_⟩) (by assumption) ?_;rotate_left 1
  . (intro w hSw;(try dsimp only at hSw);go_simp;(try with_reducible rfl))
  try simp only [pL]
  refine wpAnyH_take (i:=9) (oi:=⟨some 62,_,_,_,_,_⟩) (v:=?_) rfl (by kernel_rfl) (by kernel_rfl) (by kernel_rfl) (λ _ _ _ h=>h) (Or.inl ⟨by rfl,?_⟩) (by assumption) ?_;rotate_left 1
  . (intro w hSw;(try dsimp only at hSw);go_simp;(try with_reducible rfl))
  try simp only [pL]
  refine wpAnyH_ready (rs:=[10]) (by kernel_rfl) (by simp) ?_;refine AllReadyH.cons (o:=⟨some 63,_,_,_,_,_⟩) rfl (λ K hK=>?_) AllReadyH.nil;go_simp;go_at_call 242;refine (HI.out _ _ R1.dr b1.out b2.out b3.out b4.out).mono ?_;rintro e w2 ⟨rfl,hb2⟩;go_wp2_with fail;refine hK.out _ _ (hb2.loads HM.out HX.out) (λ hHeld2=>?_);clear hK K hHeld
  try simp only [pL]
  refine wpAnyH_take (i:=11) (oi:=⟨some 64,_,_,_,_,_⟩) (v:=?_) rfl (by kernel_rfl) (by kernel_rfl) (by kernel_rfl) (λ _ _ _ h=>h) (Or.inl ⟨by rfl,?_⟩) (by assumption) ?_;rotate_left 1
  . (intro w hSw;(try dsimp only at hSw);go_simp;(try with_reducible rfl))
  try simp only [pL]
  refine wP 12 (by assumption) ?_;refine wP 13 (by assumption) ?_;refine wP 14 (by assumption) ?_;refine wP 15 (by assumption) ?_;refine wP 16 (by assumption) ?_;refine wP 17 (by assumption) ?_;refine wP 18 (by assumption) ?_;refine wP 19 (by assumption) ?_;refine wP 20 (by assumption) ?_;refine wP 21 (by assumption) ?_;refine wP 22 (by assumption) ?_;refine wpAnyH_take (i:=23) (oi:=⟨some 76,_,_,_,_,_⟩) (v:=?_) rfl (by kernel_rfl) (by kernel_rfl) (by kernel_rfl) (λ _ _ _ h=>h) (Or.inl ⟨by rfl,?_⟩) (by assumption) ?_;rotate_left 1
  . (intro w hSw;(try dsimp only at hSw);go_simp;(try with_reducible rfl))
  try simp only [pL]
  refine wpAnyH_take (i:=24) (oi:=⟨some 11,_,_,_,_,_⟩) (v:=?_) rfl (by kernel_rfl) (by kernel_rfl) (by kernel_rfl) (λ _ _ _ h=>h) (Or.inl ⟨by rfl,?_⟩) (by assumption) ?_;rotate_left 1
  . (intro w hSw;(try dsimp only at hSw);go_simp;(try with_reducible rfl))
  try simp only [pL]
  refine wpAnyH_done (by kernel_rfl) ?_ _;go_wp2_with fail;go_ret;rw [EQ.out];exact⟨rfl,hb2⟩
 | both i nd lo hi w b q u hx h1 h2 h3 hs hs' ih ih' =>
  intro W k hR hk hq hlo hhi;obtain⟨x,y,z⟩:=nd;dsimp only at *;have hIK:IsKey x:=by unfold IsKey;omega
  have c1:=(hR.b0.at_ (k:=1) rfl).1;obtain⟨c2,c3⟩:=hR.b1.at_ (k:=0) rfl;have hi1:i<n:=by have:=(zgl hx);omega
  obtain⟨bb,off,nd',rfl,hbl,hx',i0,i1,i2,d0,d1,d2⟩:=(hm.gr hR.gr).at_ hi1;rw [hx] at hx';cases hx';dsimp only at *;have g0:¬ ((i:Int)<0):=by omega
  have g1:(i:Int)<(n:Int):=by omega
  have g2:((i:Int)==-1)=false:=beq_eq_false_iff_ne.2 (by omega);have g3:¬ x<=lo:=by omega
  have g4:¬ hi<=x:=by omega
  have g5:¬ w<=pri x:=by omega
  have hC:=λ W=>Pri_is x W
  rw [prf_key hIK] at hC;generalize pri x=p at *;have kC:=hid hC;have HI:=hid ih;have HI2:=hid ih';have HR:=hid hR;have HM:=hid hm;have e1:IntKind.i64.wrap (k+1)=k+1:=IntWalk.i64_in _ (by omega);have EQ:=hid (show k+((q+u+1:Nat):Int)=k+1+(q:Int)+(u:Int) from by omega);have b1:=hid (show 0<=k+1 from by omega);have b2:=hid (show k+1+(q:Int)<=1000 from by omega);have b3:=hid hlo;have b5:=hid (show 0<=k+1+(q:Int) from by omega);have b6:=hid (show k+1+(q:Int)+(u:Int)<=1000 from by omega);have b7:=hid (show -1<=x from by omega);have b8:=hid hhi;have b4:=hid (show x<=4294967296 from by omega);have HX:=hid hx;clear hm hR hx hC ih ih' hs hs' hq hk h1 h2 h3 hIK;go_enter func242,ntmps242;go_wp2_with fail
  go_quiet ((go_at_call 235;with_reducible exact Calls.quiet_of_same (kC.out _)))
  clear d0;go_wp2_with fail;have R1:=(HR.out.drN nq).come (k+1);clear c1 c2 c3 d1 d2 hbl;generalize (W.drewN nq).setCell _ _=W1 at R1 ⊢;refine wp_region_held_drew (S:=λ w'=>w'.cell? ⟨w0.heap.size,1,none⟩=some (.slice (some ⟨bb,off,none⟩) n c)/\w'.cell? ⟨w0.heap.size+2,0,none⟩=some (.func (.func 242) #[] #[.pointer (some ⟨w0.heap.size,0,none⟩),.pointer (some ⟨w0.heap.size+1,0,none⟩),.pointer (some ⟨w0.heap.size+2,0,none⟩)]) /\
   w'.cell? ⟨bb,off+i*3,none⟩=some (.int .i64 x)/\w'.cell? ⟨bb,off+i*3+1,none⟩=some (.int .i64 y)/\w'.cell? ⟨bb,off+i*3+2,none⟩=some (.int .i64 z)) (by kernel_rfl) (R1.dr.loads HM.out HX.out) (λ hHeld=>?_)
  refine wpAnyH_take (i:=0) (oi:=⟨some 53,_,_,_,_,_⟩) (v:=?_) rfl (by kernel_rfl) (by kernel_rfl) (by kernel_rfl) (λ _ _ _ h=>h) (Or.inl ⟨by rfl,?_⟩) (by assumption) ?_;rotate_left 1
  . (intro w hSw;(try dsimp only at hSw);go_simp;(try with_reducible rfl))
  try simp only [pL]
  refine wpAnyH_take (i:=1) (oi:=⟨some 54,_,_,_,_,_⟩) (v:=?_) rfl (by kernel_rfl) (by kernel_rfl) (by kernel_rfl) (λ _ _ _ h=>h) (Or.inl ⟨by rfl,?_⟩) (by assumption) ?_;rotate_left 1
  . (intro w hSw;(try dsimp only at hSw);go_simp;(try with_reducible rfl))
  try simp only [pL]
  refine wpAnyH_take (i:=2) (oi:=⟨some 55,_,_,_,_,_⟩) (v:=?_) rfl (by kernel_rfl) (by kernel_rfl) (by kernel_rfl) (λ _ _ _ h=>h) (Or.inl ⟨by rfl,?_⟩) (by assumption) ?_;rotate_left 1
  . (intro w hSw;(try dsimp only at hSw);go_simp;(try with_reducible rfl))
  try simp only [pL]
  refine wpAnyH_take (i:=3) (oi:=⟨some 56,_,_,_,_,_⟩) (v:=?_) rfl (by kernel_rfl) (by kernel_rfl) (by kernel_rfl) (λ _ _ _ h=>h) (Or.inl ⟨by rfl,?_⟩) (by assumption) ?_;rotate_left 1
  . (intro w hSw;(try dsimp only at hSw);go_simp;(try with_reducible rfl))
  try simp only [pL]
  refine wpAnyH_take (i:=4) (oi:=⟨some 57,_,_,_,_,_⟩) (v:=?_) rfl (by kernel_rfl) (by kernel_rfl) (by kernel_rfl) (λ _ _ _ h=>h) (Or.inl ⟨by rfl,?_⟩) (by assumption) ?_;rotate_left 1
  . (intro w hSw;(try dsimp only at hSw);go_simp;(try with_reducible rfl))
  try simp only [pL]
  refine wpAnyH_take (i:=5) (oi:=⟨some 58,_,_,_,_,_⟩) (v:=?_) rfl (by kernel_rfl) (by kernel_rfl) (by kernel_rfl) (λ _ _ _ h=>h) (Or.inl ⟨by rfl,?_⟩) (by assumption) ?_;rotate_left 1
  . (intro w hSw;(try dsimp only at hSw);go_simp;(try with_reducible rfl))
  try simp only [pL]
  refine wpAnyH_take (i:=6) (oi:=⟨some 59,_,_,_,_,_⟩) (v:=?_) rfl (by kernel_rfl) (by kernel_rfl) (by kernel_rfl) (λ _ _ _ h=>h) (Or.inl ⟨by rfl,?_⟩) (by assumption) ?_;rotate_left 1
  . (intro w hSw;(try dsimp only at hSw);go_simp;(try with_reducible rfl))
  try simp only [pL]
  refine wpAnyH_take (i:=7) (oi:=⟨some 60,_,_,_,_,_⟩) (v:=?_) rfl (by kernel_rfl) (by kernel_rfl) (by kernel_rfl) (λ _ _ _ h=>h) (Or.inl ⟨by rfl,?_⟩) (by assumption) ?_;rotate_left 1
  . (intro w hSw;(try dsimp only at hSw);go_simp;(try with_reducible rfl))
  try simp only [pL]
  refine wpAnyH_take (i:=8) (oi:=⟨some 61,_,_,_,_,_⟩) (v:=?_) rfl (by kernel_rfl) (by kernel_rfl) (by kernel_rfl) (λ _ _ _ h=>h) (Or.inl ⟨by rfl,?_⟩) (by assumption) ?_;rotate_left 1
  . (intro w hSw;(try dsimp only at hSw);go_simp;(try with_reducible rfl))
  try simp only [pL]
  refine wpAnyH_take (i:=9) (oi:=⟨some 62,_,_,_,_,_⟩) (v:=?_) rfl (by kernel_rfl) (by kernel_rfl) (by kernel_rfl) (λ _ _ _ h=>h) (Or.inl ⟨by rfl,?_⟩) (by assumption) ?_;rotate_left 1
  . (intro w hSw;(try dsimp only at hSw);go_simp;(try with_reducible rfl))
  try simp only [pL]
  refine wpAnyH_ready (rs:=[10]) (by kernel_rfl) (by simp) ?_;refine AllReadyH.cons (o:=⟨some 63,_,_,_,_,_⟩) rfl (λ K hK=>?_) AllReadyH.nil;go_simp;go_at_call 242;refine (HI.out _ _ R1.dr b1.out b2.out b3.out b4.out).mono ?_;rintro e w2 ⟨rfl,hb2⟩;go_wp2_with fail;refine hK.out _ _ (hb2.loads HM.out HX.out) (λ hHeld2=>?_);clear hK K hHeld
  try simp only [pL]
  refine wpAnyH_take (i:=11) (oi:=⟨some 64,_,_,_,_,_⟩) (v:=?_) rfl (by kernel_rfl) (by kernel_rfl) (by kernel_rfl) (λ _ _ _ h=>h) (Or.inl ⟨by rfl,?_⟩) (by assumption) ?_;rotate_left 1
  . (intro w hSw;(try dsimp only at hSw);go_simp;(try with_reducible rfl))
  try simp only [pL]
  refine wpAnyH_take (i:=12) (oi:=⟨some 65,_,_,_,_,_⟩) (v:=?_) rfl (by kernel_rfl) (by kernel_rfl) (by kernel_rfl) (λ _ _ _ h=>h) (Or.inl ⟨by rfl,?_⟩) (by assumption) ?_;rotate_left 1
  . (intro w hSw;(try dsimp only at hSw);go_simp;(try with_reducible rfl))
  try simp only [pL]
  refine wpAnyH_take (i:=13) (oi:=⟨some 66,_,_,_,_,_⟩) (v:=?_) rfl (by kernel_rfl) (by kernel_rfl) (by kernel_rfl) (λ _ _ _ h=>h) (Or.inl ⟨by rfl,?_⟩) (by assumption) ?_;rotate_left 1
  . (intro w hSw;(try dsimp only at hSw);go_simp;(try with_reducible rfl))
  try simp only [pL]
  refine wpAnyH_take (i:=14) (oi:=⟨some 67,_,_,_,_,_⟩) (v:=?_) rfl (by kernel_rfl) (by kernel_rfl) (by kernel_rfl) (λ _ _ _ h=>h) (Or.inl ⟨by rfl,?_⟩) (by assumption) ?_;rotate_left 1
  . (intro w hSw;(try dsimp only at hSw);go_simp;(try with_reducible rfl))
  try simp only [pL]
  refine wpAnyH_take (i:=15) (oi:=⟨some 68,_,_,_,_,_⟩) (v:=?_) rfl (by kernel_rfl) (by kernel_rfl) (by kernel_rfl) (λ _ _ _ h=>h) (Or.inl ⟨by rfl,?_⟩) (by assumption) ?_;rotate_left 1
  . (intro w hSw;(try dsimp only at hSw);go_simp;(try with_reducible rfl))
  try simp only [pL]
  refine wpAnyH_take (i:=16) (oi:=⟨some 69,_,_,_,_,_⟩) (v:=?_) rfl (by kernel_rfl) (by kernel_rfl) (by kernel_rfl) (λ _ _ _ h=>h) (Or.inl ⟨by rfl,?_⟩) (by assumption) ?_;rotate_left 1
  . (intro w hSw;(try dsimp only at hSw);go_simp;(try with_reducible rfl))
  try simp only [pL]
  refine wpAnyH_take (i:=17) (oi:=⟨some 70,_,_,_,_,_⟩) (v:=?_) rfl (by kernel_rfl) (by kernel_rfl) (by kernel_rfl) (λ _ _ _ h=>h) (Or.inl ⟨by rfl,?_⟩) (by assumption) ?_;rotate_left 1
  . (intro w hSw;(try dsimp only at hSw);go_simp;(try with_reducible rfl))
  try simp only [pL]
  refine wpAnyH_take (i:=18) (oi:=⟨some 71,_,_,_,_,_⟩) (v:=?_) rfl (by kernel_rfl) (by kernel_rfl) (by kernel_rfl) (λ _ _ _ h=>h) (Or.inl ⟨by rfl,?_⟩) (by assumption) ?_;rotate_left 1
  . (intro w hSw;(try dsimp only at hSw);go_simp;(try with_reducible rfl))
  try simp only [pL]
  refine wpAnyH_take (i:=19) (oi:=⟨some 72,_,_,_,_,_⟩) (v:=?_) rfl (by kernel_rfl) (by kernel_rfl) (by kernel_rfl) (λ _ _ _ h=>h) (Or.inl ⟨by rfl,?_⟩) (by assumption) ?_;rotate_left 1
  . (intro w hSw;(try dsimp only at hSw);go_simp;(try with_reducible rfl))
  try simp only [pL]
  refine wpAnyH_take (i:=20) (oi:=⟨some 73,_,_,_,_,_⟩) (v:=?_) rfl (by kernel_rfl) (by kernel_rfl) (by kernel_rfl) (λ _ _ _ h=>h) (Or.inl ⟨by rfl,?_⟩) (by assumption) ?_;rotate_left 1
  . (intro w hSw;(try dsimp only at hSw);go_simp;(try with_reducible rfl))
  try simp only [pL]
  refine wpAnyH_take (i:=21) (oi:=⟨some 74,_,_,_,_,_⟩) (v:=?_) rfl (by kernel_rfl) (by kernel_rfl) (by kernel_rfl) (λ _ _ _ h=>h) (Or.inl ⟨by rfl,?_⟩) (by assumption) ?_;rotate_left 1
  . (intro w hSw;(try dsimp only at hSw);go_simp;(try with_reducible rfl))
  try simp only [pL]
  refine wpAnyH_ready (rs:=[22]) (by kernel_rfl) (by simp) ?_;refine AllReadyH.cons (o:=⟨some 75,_,_,_,_,_⟩) rfl (λ K hK=>?_) AllReadyH.nil;go_simp;go_at_call 242;refine (HI2.out _ _ hb2 b5.out b6.out b7.out b8.out).mono ?_;rintro e w3 ⟨rfl,hb3⟩;go_wp2_with fail;refine hK.out _ _ (hb3.loads HM.out HX.out) (λ hHeld3=>?_);clear hK K hHeld2
  try simp only [pL]
  refine wpAnyH_take (i:=23) (oi:=⟨some 76,_,_,_,_,_⟩) (v:=?_) rfl (by kernel_rfl) (by kernel_rfl) (by kernel_rfl) (λ _ _ _ h=>h) (Or.inl ⟨by rfl,?_⟩) (by assumption) ?_;rotate_left 1
  . (intro w hSw;(try dsimp only at hSw);go_simp;(try with_reducible rfl))
  try simp only [pL]
  refine wpAnyH_take (i:=24) (oi:=⟨some 11,_,_,_,_,_⟩) (v:=?_) rfl (by kernel_rfl) (by kernel_rfl) (by kernel_rfl) (λ _ _ _ h=>h) (Or.inl ⟨by rfl,?_⟩) (by assumption) ?_;rotate_left 1
  . (intro w hSw;(try dsimp only at hSw);go_simp;(try with_reducible rfl))
  try simp only [pL]
  refine wpAnyH_done (by kernel_rfl) ?_ _;go_wp2_with fail;go_ret;rw [EQ.out];exact⟨rfl,hb3⟩
end
end
theorem run_store_fn (a:Addr) (fn:Fn) (x y:Array Value) (m:Mode) (w:World):(store a (.func fn x y) m).run prog w=stored prog w a (.func fn x y) m:=run_store prog w a _ m rfl
theorem Right_is {w:World} {r:Int} {A:Option Addr} {n c:Nat} {l:List Nd} (hm:NMem w A n l) {v:Bool} (hv:v=true↔∃ t,Good l r t) :
 Calls prog 236 #[.agg #[.int .i64 r,.slice A n c]] w λ e w'=>e=.returned (.bool v)/\Gr w w':=by
 have hlen:=hm.1;by_cases hn:n<=64
 . obtain⟨b,q,hs,hq,hg⟩:=right_ex (r:=r) (show l.length<=64 from by omega)
   have hvb:v=(b&&decide (q=n)):=by
    have h:v=true↔(b&&decide (q=n))=true:=by rw [hv,<- hg,hlen,Bool.and_eq_true,decide_eq_true_eq]
    exact Bool.eq_iff_iff.2 h
   clear hv hg;have h1:¬ (64:Int)<(n:Int):=by omega
   have hS:∀ W,RW w r A n c 0 W->Calls prog 242 #[.int .i64 r,.int .i64 (-1),.int .i64 4294967296,.int .i64 4294967296,.pointer (some ⟨w.heap.size,0,none⟩),.pointer (some ⟨w.heap.size+1,0,none⟩),.pointer (some ⟨w.heap.size+1+1,0,none⟩)] W
    λ e w'=>e=.returned (.bool b)/\RW w r A n c (0+q) w':=λ W hR=>sound_is hm hn hs W 0 hR (by omega) (by omega) (by omega) (by omega) (c:=c)
   have stf:=run_store_fn;have KS:=hid hS;clear hS hs;go_enter func236,ntmps236;go_wp2_with fail;with_reducible refine (KS.out _ ?_).mono ?_
   . refine⟨(((zr w).al _).al _).al _,((Blk.new w _ _).al _).al _,?_,?_⟩
     . simpa [SF] using (Blk.new (w.alloc (.cells #[.int .i64 r,.slice A n c] 281)) #[.int .i64 0] 3).al (.cells #[SF w.heap.size] 298)
     . simpa [SF] using Blk.new ((w.alloc (.cells #[.int .i64 r,.slice A n c] 281)).alloc (.cells #[.int .i64 0] 3)) #[SF w.heap.size] 298
   rintro e w2 ⟨rfl,hR⟩;rw [Int.zero_add] at hR;have f0:=(hR.b0.at_ (k:=1) rfl).1;have f1:=(hR.b1.at_ (k:=0) rfl).1;have HG:=hid hR.gr;clear hR KS stf hq
   cases b with
   | false =>
    have hv2:v=false:=hvb;clear hvb;subst hv2;go_wp2_with fail;go_ret;exact⟨rfl,HG.out⟩
   | true =>
    by_cases hqn:q=n
    . subst hqn
      have hv2:v=true:=by rw [hvb,decide_eq_true rfl];rfl
      clear hvb;subst hv2;go_wp2_with fail;go_ret;exact⟨rfl,HG.out⟩
    . have ne:((q:Int)==(n:Int))=false:=beq_eq_false_iff_ne.2 (by omega)
      have hv2:v=false:=by rw [hvb,decide_eq_false hqn];rfl
      clear hvb hqn;subst hv2;go_wp2_with fail;go_ret;exact⟨rfl,HG.out⟩
 . obtain rfl:v=false:=by
    cases v
    . rfl
    . obtain⟨t,ht⟩:=hv.1 rfl
      have:=ht.2.2.1;omega
   have h1:(64:Int)<(n:Int):=by omega
   clear hv;go_enter func236,ntmps236;go_wp2_with fail;go_ret;exact⟨rfl,(zr _).al _⟩
section
section
variable {w:World} {r:Int} {A:Option Addr} {n c:Nat} {l:List Nd}
theorem map_take_more {k:Nat} {nd:Nd} (h:l[k]?=some nd):(l.take (k+1)).map Nd.key=(l.take k).map Nd.key++[nd.key]:=by
 rw [List.take_add_one,h];simp
theorem keysFn_is (hm:NMem w A n l) (hn:n<=1000000):Calls prog 245 #[.agg #[.int .i64 r,.slice A n c]] w λ e w'=>∃ C k,e=.returned (.slice C n k)/\IOwn w.heap.size w' C n k (l.map Nd.key)/\Gr w w':=by
 obtain⟨i0,hi0,hz0,hz1,hz2⟩:=info_parts infoInt;have HZ:=hid hz0;have HZ1:=hid hz1;have HZ2:=hid hz2;have HI0:=hid hi0;have HM:=hid hm;clear hz0 hz1 hz2 hi0 hm;have g0:=(zr w).al (.cells #[.int .i64 r,.slice A n c] 281);go_enter func245,ntmps245;go_wp2_with fail
 go_loopw [3,9] (λ L i wr=>∃ (k:Nat) (C:Option Addr) (d:Nat),k<=n/\i=.int .i64 (k:Int)/\L=.slice C k d/\Hid (IOwn w.heap.size wr C k d ((l.take k).map Nd.key))/\Hid (Gr w wr)) (λ _ i _=>n-(intOf i).toNat)
 case atStart=>exact⟨0,_,0,Nat.zero_le _,rfl,rfl,hid (by simpa using OMem.nil_),hid g0⟩
 case round =>
  clear g0;obtain⟨k,C,d,hk,rfl,rfl,HO,HG⟩:=hrel;by_cases hlt:k<n
  . obtain⟨b,off,nd,rfl,hbl,hx,i0',i1,i2,d0,d1,d2⟩:=(HM.out.gr HG.out).at_ hlt
    have HX:=hid (map_take_more hx);obtain⟨y,p,q⟩:=nd;have HI:=hid i0';dsimp only at d0 d1 d2;clear hx i0' i1 i2;go_wp2_with (at_builtin;refine Mark.stop ?_);refine Mark.go ?_;refine wpList_append_omem _ (Value.int .i64) B64 rfl (.tmp 13) (.tmp 16) 23 rfl (λ _=>rfl) w.heap.size 3 i0 (.int .i64 0) 8 underlying23 HI0.out HZ.out HZ1.out HZ2.out rfl C k d _ rfl (HO.out.gr (((zr _).al _).al _)) _ 1 1 [y] rfl (emem_one' _ y HI.out _ (by simp)) (by unfold maxLen;omega) (by omega) ((HG.out.al _).al _).size ?_;intro C3 k3 w3 own3 gb3;have G3:=hid (((HG.out.al (.cells #[.int .i64 y,.int .i64 p,.int .i64 q] 292)).al (.cells #[.int .i64 y] 3)).gb gb3 (λ k hk=>(HO.out.lt k hk).1));clear gb3;go_wp2_with fail;go_roundw
    case rel=>exact⟨k+1,C3,k3,by omega,by go_num,rfl,hid (by rw [HX.out];exact own3),G3⟩
    case measure=>simp [intOf];omega
  . obtain rfl:k=n:=by omega
    have own:=HO.out;rw [<- HM.out.1,List.take_length] at own;go_wp2_with fail;go_ret;exact⟨C,d,rfl,HM.out.1▸own,HG.out⟩
def KeysR (l:List Nd) (r:Int) (R:List Int) (e:Int):Prop:=((¬ ∃ t,Good l r t)/\R=[]/\e=1)\/∃ t,Good l r t/\R=t.inord/\e=0
theorem KeysR.len {R:List Int} {e:Int} (h:KeysR l r R e):R.length<=64:=by
 rcases h with ⟨_,rfl,_⟩ | ⟨t,ht,rfl,_⟩
 . simp
 . rw [T.inord_len,ht.2.1];exact ht.2.2.1
end
end
section
open Go.RowKit
theorem run_makeN {P:Program} (t e:TypeId) (i:TypeInfo) (z:Value) (ht:P.underlying t=some (.slice e)) (hi:P.info? e=some i) (hz:i.zero=some z)
 (n:Nat) (hb:i.bytes*n<=281474976710656) (h63:n<=9223372036854775807) (w:World) :
 (Instr.makeSlice t (.int .i64 (n:Int)) (.int .i64 (n:Int))).run P w=.ok (.slice (some ⟨w.heap.size,0,none⟩) n n) (w.alloc (.cells (madeCells z.cells (n*i.size)) e)):=by
 simpa using run_make (P:=P) w t e i z ht hi hz .i64 .i64 n n (by omega) (by omega) (by rw [<- Int.natCast_mul];omega) (by omega)
theorem run_copyN {P:Program} (w:World) (dT sT ty elem:TypeId) (size:Nat) (g m dCap:Nat) (a:Addr) (sCap:Nat) (cur:Array Value) (t:TypeId) (cs:List Value)
 (hu:P.underlying dT=some (.slice elem)) (hs:(P.info? elem).map (·.size)=some size)
 (hg:w.heap[g]?=some (.cells cur t (0,0))) (hn:cs.length=m*size)
 (hsrc:∀ j v,cs[j]?=some v->w.cell? (a.add j)=some v) (hfit:cs.length=cur.size) (h1:∀ v∈cs,v.oneCell'=true) :
 (Builtin.copy_ #[dT,sT] ty #[.slice (some ⟨g,0,none⟩) m dCap,.slice (some a) m sCap]).run P w=.ok (goInt m) (w.setRow g cs.toArray):=by
 have hl:=run_loadCells_list (P:=P) w a cs hsrc;have hst:=run_storeCells_at P g 0 t cs 0 cur w hg (by simp;omega) h1;have hd:cur.toList.drop (0+0+cs.length)=[]:=List.drop_of_length_le (by simp;omega);rw [hd] at hst;simp only [Nat.add_zero,List.take_zero,List.nil_append,List.append_nil] at hst
 cases hq:P.info? elem with
 | none=>simp [hq] at hs
 | some i =>
  have hi:i.size=size:=by simpa [hq] using hs
  simp [Builtin.copy_,run_underlying hu,Builtin.lenOf,Builtin.firstCells,sizeOf,typeInfo,hq,hi,<- hn,hl,hst]
theorem wpList_copyN {P:Program} {w:World} {ops:Array Oper} {rest:List Oper} {o:Oper} {a:Act} {Q:Exit->Act->World->Prop} (hgd:o.guard=none) (d s:Operand) (dT sT:TypeId)
 (ho:o.op=.call { callee:=.builtin .copy,args:=#[d,s],argTypes:=#[dT,sT] }) (elem:TypeId) (size:Nat) (hu:P.underlying dT=some (.slice elem)) (hsz:(P.info? elem).map (·.size)=some size)
 (g m dCap:Nat) (b off:Nat) (sCap:Nat) (hd:a.eval d=.slice (some ⟨g,0,none⟩) m dCap) (hs:a.eval s=.slice (some ⟨b,off,none⟩) m sCap)
 (cur:Array Value) (t:TypeId) (hg:w.heap[g]?=some (.cells cur t (0,0))) (cs:List Value) (hn:cs.length=m*size)
 (hsrc:∀ j v,cs[j]?=some v->w.cell? ⟨b,off+j,none⟩=some v) (hfit:cs.length=cur.size) (h1:∀ v∈cs,v.oneCell'=true)
 (h:∀ w',Hid (w'.heap[g]?=some (.cells cs.toArray t (0,0)))->Below g w w'->w'.heap.size=w.heap.size->wpList P ops Q rest (a.put o.dst (goInt m)) w'):wpList P ops Q (o::rest) a w:=by
 refine wpList_plain hgd λ K hK=>?_
 have hadd:∀ j,(⟨b,off,none⟩:Addr).add j=⟨b,off+j,none⟩:=λ j=>by unfold Addr.add;split<;>simp_all
 have hrun:=run_copyN (P:=P) w dT sT o.type elem size g m dCap ⟨b,off,none⟩ sCap cur t cs hu hsz hg hn (λ j v hv=>by rw [hadd];exact hsrc j v hv) hfit h1;unfold Oper.wp;simp [execOp,ho,resolve,invoke,builtin,hd,hs,hrun,Result.andThen];exact hK _ _ (h _ (hid (setRow_heap w g _ _ t _ hg)) (below_setRow (Below.refl _ _) (Nat.le_refl _) _) (by simp [World.setRow]))
end
section
section
variable {W1 W:World} {r:Int} {A:Option Addr} {n c tb kb b off:Nat} {x:Int} {l:List Nd}
def Drawn (W1:World) (_:Int) (W:World):Prop:=∃ q,W=W1.drewN q
theorem Drawn.self (W1:World) (s:Int):Drawn W1 s W1:=⟨0,rfl⟩
theorem grow_further (hm:∀ (i:Nat) (nd:Nd),l[i]?=some nd->W1.cell? ⟨b,off+i*3,none⟩=some (.int .i64 nd.key)) (hK:∀ (i:Nat) (nd:Nd),l[i]?=some nd->IsKey nd.key) (hx:IsKey x) (hk:W1.cell? ⟨kb,0,none⟩=some (.int .i64 x)) :
 Further 248 #[.pointer (some ⟨kb,0,none⟩)] (Drawn W1) (gdir x) (λ _ s=>s) b off l:=by
 rintro s W i nd ⟨q,rfl⟩ hi;have c0:(W1.drewN q).cell? ⟨b,off+i*3,none⟩=some (.int .i64 nd.key):=hm i nd hi;have c1:(W1.drewN q).cell? ⟨kb,0,none⟩=some (.int .i64 x):=hk;have hC:=λ W=>Pri_is nd.key W
 have hC2:=λ W=>Pri_is x W
 rw [prf_key (hK i nd hi)] at hC;rw [prf_key hx] at hC2;have HD:Hid (∀ m,Drawn W1 s ((W1.drewN q).drewN m)):=hid λ m=>⟨q+m,by simp [World.drewN,Nat.add_assoc]⟩
 clear hm hK hk hx hi;generalize W1.drewN q=V at *;obtain⟨y,p,u⟩:=nd;dsimp only at *;unfold gdir;obtain⟨py,hpy⟩:∃ py,pri y=py:=⟨_,rfl⟩;obtain⟨px,hpx⟩:∃ px,pri x=px:=⟨_,rfl⟩;rw [hpy] at hC ⊢;rw [hpx] at hC2 ⊢;have K1:=hid hC;have K2:=hid hC2;clear hC hC2 hpy hpx;show Calls prog 248 #[.pointer (some ⟨b,off+i*3,none⟩),.pointer (some ⟨kb,0,none⟩)] V _;by_cases hlt:py<px
 . rw [if_pos hlt]
   go_enter func248,ntmps248;go_wp2_with fail
   go_quiet ((go_at_call 235;first | (with_reducible exact Calls.quiet_of_same (K1.out _)) | (with_reducible exact Calls.quiet_of_same (K2.out _))))
   go_wp2_with fail;go_ret;exact⟨rfl,HD.out _⟩
 . rw [if_neg hlt]
   go_enter func248,ntmps248;go_wp2_with fail
   go_quiet ((go_at_call 235;first | (with_reducible exact Calls.quiet_of_same (K1.out _)) | (with_reducible exact Calls.quiet_of_same (K2.out _))))
   go_wp2_with fail;go_ret;exact⟨rfl,HD.out _⟩
theorem New_is (w:World):Calls prog 239 #[] w λ e w'=>e=.returned (.agg #[.int .i64 (-1),.slice none 0 0])/\Gr w w':=by
 have B0:=Blk.new w #[.int .i64 0,.slice none 0 0] 281;go_enter func239,ntmps239;go_wp2_with fail;exact bodyPost_ret (v:=.agg #[.int .i64 (-1),.slice none 0 0]) (by simp [results,results239,go_sem]) rfl ⟨rfl,(zr w).al _⟩
structure GS (w1:World) (R:List Int) (n tb nb:Nat) (k:Nat) (root:Int) (l:List Nd) (t:T) (V:Array Value) (wr:World):Prop where
 gr:Gr w1 wr
 b0:Blk wr tb #[.int .i64 root,.slice (some ⟨nb,0,none⟩) n n] 281
 b1:Blk wr nb V 292
 nv:NV V l
 ge:w1.heap.size<=tb/\w1.heap.size<=nb/\tb≠nb
 len:l.length=n
 bnd:∀ nd∈l,IsKey nd.key/\B64 nd.left/\B64 nd.right
 lay:Lay l t root
 nod:t.ids.Nodup
 ids:∀ i∈t.ids,i<k
 ord:t.inord=R.take k
 hp:Hp t 4294967296
theorem GS.gr' {w1 wr wr':World} {R:List Int} {n tb nb k:Nat} {root:Int} {l:List Nd} {t:T} {V:Array Value} (S:GS w1 R n tb nb k root l t V wr) (g:Gr wr wr'):GS w1 R n tb nb k root l t V wr' :=
 ⟨S.gr.trans g,S.b0.gr g,S.b1.gr g,S.nv,S.ge,S.len,S.bnd,S.lay,S.nod,S.ids,S.ord,S.hp⟩
section
variable {w1 W:World} {n tb nb k:Nat} {R:List Int} {root x:Int} {l:List Nd} {t:T} {V:Array Value}
def V3 (V:Array Value) (k:Nat) (x v:Int):Array Value:=((V.setIfInBounds (k*3) (.int .i64 x)).setIfInBounds (k*3+1) (.int .i64 v)).setIfInBounds (k*3+2) (.int .i64 (-1))
def W4 (W:World) (nb k:Nat) (x v:Int):World:=(((W.setCell ⟨nb,k*3,none⟩ (.int .i64 x)).setCell ⟨nb,k*3+1,none⟩ (.int .i64 v)).setCell ⟨nb,k*3+2,none⟩ (.int .i64 (-1))).drew
theorem GS.w4 (S:GS w1 R n tb nb k root l t V W) (v:Int):Gr w1 (W4 W nb k x v)/\Blk (W4 W nb k x v) tb #[.int .i64 root,.slice (some ⟨nb,0,none⟩) n n] 281/\Blk (W4 W nb k x v) nb (V3 V k x v) 292:=by
 obtain⟨e1,e2,e3⟩:=S.ge;refine⟨(((S.gr.st e2 _).st e2 _).st e2 _).dr,?_,?_⟩
 . exact (((S.b0.st (p:=⟨nb,_,none⟩) (λ e=>e3 e.symm) _).st (p:=⟨nb,_,none⟩) (λ e=>e3 e.symm) _).st (p:=⟨nb,_,none⟩) (λ e=>e3 e.symm) _)
 . exact ((S.b1.set _ _).set _ _).set _ _
theorem GS.rest (S:GS w1 R n tb nb k root l t V W) (hR:Rising R) (hK:∀ x∈R,IsKey x) (hx:R[k]?=some x) :
 k ∉ t.ids/\(ins k x t).ids.Nodup/\(∀ i∈(ins k x t).ids,i<k+1)/\(ins k x t).inord=R.take (k+1)/\Hp (ins k x t) 4294967296:=by
 have hk:k ∉ t.ids:=λ h=>by have:=S.ids k h;omega
 have hxk:=hK x (zmo hx);refine⟨hk,ins_nodup S.nod hk,λ i hi=>?_,?_,ins_hp S.hp (pri_range x).2 λ y hy e=>?_⟩
 . rcases ins_ids hi with rfl | h
   . omega
   . have:=S.ids i h;omega
 . rw [ins_inord,S.ord,List.take_add_one,hx];rfl
 . rw [S.ord] at hy
   have hy':=List.mem_of_mem_take hy;have:=pri_inj (hK y hy') hxk e;subst this;obtain⟨i,hi,hiy⟩:=List.mem_take_iff_getElem.1 hy;obtain⟨h1,h2⟩:=List.getElem?_eq_some_iff.1 hx;have:=List.pairwise_iff_getElem.1 hR i k (by omega) h1 (by omega);omega
theorem GS.root64 (S:GS w1 R n tb nb k root l t V W) (hn:n<=64):B64 root:=by
 have:=S.len;unfold B64;by_cases h:root=-1
 . omega
 . have:=S.lay.bad h;omega
theorem GS.nohold (S:GS w1 R n tb nb k root l t V W) (hn:n<=64) (hk:k<n) (hR:Rising R) (hK:∀ x∈R,IsKey x) (hx:R[k]?=some x) (hh:hold x t=none) :
 GS w1 R n tb nb (k+1) k (l.set k ⟨x,root,-1⟩) (ins k x t) (V3 V k x root) ((W4 W nb k x root).setCell ⟨tb,0,none⟩ (.int .i64 k)):=by
 obtain⟨g,c0,c1⟩:=S.w4 (x:=x) root;obtain⟨r1,r2,r3,r4,r5⟩:=S.rest hR hK hx;have hl:=S.len;refine⟨g.st S.ge.1 _,by simpa using c0.set 0 (.int .i64 k),c1.st S.ge.2.2 _,S.nv.set (by omega) _ _ _,S.ge,by simpa using hl,λ nd h=>?_,(lay_ins S.lay S.nod r1 (by omega)).1 hh,r2,r3,r4,r5⟩;rcases List.mem_or_eq_of_mem_set h with h | rfl
 . exact S.bnd nd h
 . exact⟨hK x (zmo hx),S.root64 hn,(show B64 (-1) from ⟨by decide,by decide⟩)⟩
theorem GS.held {j:Nat} {nd:Nd} (S:GS w1 R n tb nb k root l t V W) (hn:n<=64) (hk:k<n) (hR:Rising R) (hK:∀ x∈R,IsKey x) (hx:R[k]?=some x) (hh:hold x t=some j) (hj:l[j]?=some nd) :
 GS w1 R n tb nb (k+1) root ((l.set k ⟨x,nd.right,-1⟩).set j ⟨nd.key,nd.left,k⟩) (ins k x t) ((V3 V k x nd.right).setIfInBounds (j*3+2) (.int .i64 k)) ((W4 W nb k x nd.right).setCell ⟨nb,j*3+2,none⟩ (.int .i64 k)):=by
 obtain⟨g,c0,c1⟩:=S.w4 (x:=x) nd.right;obtain⟨r1,r2,r3,r4,r5⟩:=S.rest hR hK hx;have hl:=S.len;have hjk:k≠j:=λ e=>by have:=S.ids j (hold_mem hh);omega
 have hj':(l.set k ⟨x,nd.right,-1⟩)[j]?=some nd:=by rw [zsn hjk];exact hj
 obtain⟨nd',e1,hlay⟩:=(lay_ins S.lay S.nod r1 (by omega)).2 j hh;rw [hj] at e1;cases e1;have hb:=S.bnd nd (zmo hj);refine⟨g.st S.ge.2.1 _,c0.st (λ e=>S.ge.2.2 e.symm) _,c1.set _ _,(S.nv.set (by omega) _ _ _).right hj' k,S.ge,by simpa using hl,λ m h=>?_,hlay,r2,r3,r4,r5⟩;rcases List.mem_or_eq_of_mem_set h with h | rfl
 . rcases List.mem_or_eq_of_mem_set h with h | rfl
   . exact S.bnd m h
   . exact⟨hK x (zmo hx),hb.2.2,(show B64 (-1) from ⟨by decide,by decide⟩)⟩
 . refine⟨hb.1,hb.2.1,?_⟩
   show B64 (k:Int);unfold B64;omega
end
theorem infoNode:(prog.info? 292).map (λ i=>(i.zero,i.size,i.bytes))=some (some (.agg #[.int .i64 0,.int .i64 0,.int .i64 0]),3,24):=by kernel_rfl
section
variable {w0 w w1 wr:World} {C:Option Addr} {base n c tb nb k:Nat} {L R:List Int} {root:Int} {l:List Nd} {t:T} {V:Array Value}
theorem grow_way {x:Int} (S:GS w1 R n tb nb k root l t V wr) (hx:IsKey x) :
 Calls prog 237 #[.pointer (some ⟨tb,0,none⟩),.func (.func 248) #[] #[.pointer (some ⟨wr.heap.size,0,none⟩)]] (wr.alloc (.cells #[.int .i64 x] 3)) λ e w' =>
  e=.returned (.pointer (some ⟨(match hold x t with | none=>(tb,0) | some j=>(nb,0+j*3+2)).1,(match hold x t with | none=>(tb,0) | some j=>(nb,0+j*3+2)).2,none⟩))/\Drawn (wr.alloc (.cells #[.int .i64 x] 3)) 0 w':=by
 have hm:NMem (wr.alloc (.cells #[.int .i64 x] 3)) (some ⟨nb,0,none⟩) n l:=S.nv.mem S.len (λ nd h=>by
  obtain⟨h1,h2,h3⟩:=S.bnd nd h;exact⟨by unfold IsKey at h1;unfold B64;omega,h2,h3⟩) (S.b1.al _)
 have hKp:Keeps (Drawn (wr.alloc (.cells #[.int .i64 x] 3))) tb root (some ⟨nb,0,none⟩) n n l:=by
  refine⟨?_,?_,?_,?_⟩
  . rintro s W ⟨q,rfl⟩;exact ((S.b0.al _).at_ (k:=0) rfl).1
  . rintro s W ⟨q,rfl⟩;exact ((S.b0.al _).at_ (k:=1) rfl).1
  . rintro s W ⟨q,rfl⟩;exact hm.gr ((zr _).drN q)
  . rintro s W ⟨q,rfl⟩;exact⟨q+1,rfl⟩
 have hF:=follow_is (enters_of func248 (by kernel_rfl) rfl) hKp
  (grow_further (λ i nd h=>(hm.cells h).1) (λ i nd h=>(S.bnd nd (zmo h)).1) hx ((Blk.new wr #[.int .i64 x] 3).at_ (k:=0) rfl).1) (.inr rfl) S.lay (Drawn.self _ 0)
 rw [run_grow] at hF;exact hF.mono λ e w' h=>⟨h.1,h.2⟩
theorem grow_is (ho:IOwn base w C n c L) (hn:n<=64) (hL:L.Nodup) (hK:∀ x∈L,IsKey x) (hbase:w0.heap.size<=base) (hg:Gr w0 w) :
 Calls prog 244 #[.slice C n c] w λ e w'=>∃ r g l t,e=.returned (.agg #[.int .i64 r,.slice (some ⟨g,0,none⟩) n n])/\NMem w' (some ⟨g,0,none⟩) n l/\Good l r t/\t.inord=srt L/\Gr w0 w'/\w0.heap.size<=g:=by
 have hlen:=ho.1.1;have g0:=(zr w).al (.cells #[.int .i64 0,.slice none 0 0] 281);have B0:=Blk.new w #[.int .i64 0,.slice none 0 0] 281;have hS:=hid (Sort_is (ho.gr g0) (by omega));have hRr:=srt_rising hL;have hRl:=srt_len L;have hRk:∀ x∈srt L,IsKey x:=λ x hx=>hK x ((srt_perm L).mem_iff.1 hx)
 rw [hlen] at hRl;have hN:=λ W=>New_is W
 have KN:=hid hN;obtain⟨i0,hj,hz0,hz1,hz2⟩:=info_parts infoNode;have hmk:=λ W=>run_makeN (P:=prog) 279 292 i0 _ underlying279 hj hz0 n (by rw [hz2];omega) (by omega) W
 rw [hz1] at hmk;obtain⟨M,hM⟩:∃ M,madeCells (Value.agg #[.int .i64 0,.int .i64 0,.int .i64 0]).cells (n*3)=M:=⟨_,rfl⟩;have hNV:=NV.made n;rw [hM] at hmk hNV;obtain⟨R,hR⟩:∃ R,srt L=R:=⟨_,rfl⟩;rw [hR] at hS hRr hRl hRk ⊢;have HNV:=hid hNV;have HRr:=hid hRr;have HRk:=hid hRk;have HO:=hid ho;have HG:=hid hg;clear hM hNV hRr hRk hR hz0 hz1 hz2 hj hN hg ho hL hK;go_enter func244,ntmps244;go_wp2_with fail;refine hS.out.mono ?_;rintro e w1 ⟨rfl,own1,gb1⟩;have G1:=hid ((HG.out.trans g0).gb gb1 (λ k hk=>by have:=(HO.out.lt k hk).1;omega));have B1:Blk w1 w.heap.size #[.int .i64 0,.slice none 0 0] 281:=B0.gb gb1 (λ e=>by have:=(HO.out.lt _ e).2;omega);have M1:=hid own1.mem;clear own1 gb1 B0 hS g0;go_wp2_with fail;refine (KN.out _).mono ?_;rintro e w2 ⟨rfl,hb2⟩;go_wp2_with fail;have M2:=hid (M1.out.gr hb2);have B2:=hid (B1.gr hb2);have G2:=hid (G1.out.trans hb2);clear M1 B1 G1 hb2 hmk KN;have S0:GS w2 R n w2.heap.size (w2.heap.size+1) 0 (-1) (List.replicate n ⟨0,0,0⟩) .nil M ((w2.alloc (.cells #[.int .i64 (-1),.slice (some ⟨w2.heap.size+1,0,none⟩) n n] 281)).alloc (.cells M 292)):=by
  refine⟨((zr w2).al _).al _,(Blk.new w2 _ _).al _,?_,HNV.out,⟨Nat.le_refl _,by omega,by omega⟩,by simp,λ nd h=>?_,rfl,by simp [T.ids],λ i h=>by simp [T.ids] at h,by simp [T.inord],trivial⟩
  . simpa using Blk.new (w2.alloc (.cells #[.int .i64 (-1),.slice (some ⟨w2.heap.size+1,0,none⟩) n n] 281)) M 292
  . obtain⟨_,rfl⟩:=List.mem_replicate.1 h
    exact⟨⟨by decide,by decide⟩,⟨by decide,by decide⟩,⟨by decide,by decide⟩⟩
 have HS0:=hid S0;clear S0 HNV;generalize w2.heap.size=tb at *
 go_loopw [16] (λ i wr=>∃ (k:Nat) (root:Int) (l:List Nd) (t:T) (V:Array Value),k<=n/\i=.int .i64 (k:Int)/\Hid (GS w2 R n tb (tb+1) k root l t V wr)) (λ i _=>n-(intOf i).toNat)
 case atStart=>exact⟨0,_,_,_,_,Nat.zero_le _,rfl,HS0⟩
 case round =>
  clear HS0;obtain⟨k,root,l,t,V,hk,rfl,HS⟩:=hrel;by_cases hlt:k<n
  . obtain⟨b,off,x,rfl,hbl,hx,hix,cx⟩:=(M2.out.gr HS.out.gr).at_ hlt
    have HX:=hid hx;have hKx:=HRk.out x (zmo hx);have hW:=hid (grow_way HS.out hKx);have HIX:=hid hix;have HKX:=hid hKx;clear hx hix hKx
    cases hh:hold x t with
    | none =>
     rw [hh] at hW;have HH:=hid hh;clear hh;go_wp2_with fail;refine hW.out.mono ?_;rintro e w3 ⟨rfl,q,rfl⟩;have S3:=HS.out.gr' (((zr wr).al (.cells #[.int .i64 x] 3)).drN q);have K3:Blk ((wr.alloc (.cells #[.int .i64 x] 3)).drewN q) wr.heap.size #[.int .i64 x] 3:=Blk.new _ _ _;have f0:=(K3.at_ (k:=0) rfl).1;have f1:=(S3.b0.at_ (k:=0) rfl).1;have f2:=(S3.b0.at_ (k:=1) rfl).1;obtain⟨nd0,hl⟩:∃ nd,l[k]?=some nd:=⟨_,zge (by rw [HS.out.len];exact hlt)⟩;obtain⟨v0,v1,v2⟩:=S3.nv.2 k _ hl;obtain⟨c0,z0⟩:=S3.b1.at_ v0;obtain⟨c1,z1⟩:=S3.b1.at_ v1;obtain⟨c2,z2⟩:=S3.b1.at_ v2;obtain⟨f3,z3⟩:=S3.b0.at_ (k:=0) rfl;have H3:=hid S3;clear v0 v1 v2 hl K3 S3 hW cx;generalize (wr.alloc (.cells #[.int .i64 x] 3)).drewN q=W3 at *;generalize wr.heap.size=gk at *;go_wp2_with fail
     go_region
     obtain⟨_,k0,k1⟩:=H3.out.w4 (x:=x) root;have HN:=hid (H3.out.nohold hn hlt HRr.out HRk.out HX.out HH.out);obtain⟨f1,z1⟩:=k0.at_ (k:=0) rfl;unfold W4 at f1 z1;clear f0 f2 c0 c1 c2 f3 z3 k0 k1;go_wp2_with fail;go_roundw
     case rel=>exact⟨k+1,_,_,_,_,by omega,by go_num,HN⟩
     case measure=>simp [intOf];omega
    | some j =>
     rw [hh] at hW;have HH:=hid hh;clear hh;go_wp2_with fail;refine hW.out.mono ?_;rintro e w3 ⟨rfl,q,rfl⟩;obtain⟨ndj,hj⟩:∃ nd,l[j]?=some nd:=by
      have:=(HS.out.lay.key_of j (hold_mem HH.out));exact⟨_,this.choose_spec.1⟩
     have HJ:=hid hj;have S3:=HS.out.gr' (((zr wr).al (.cells #[.int .i64 x] 3)).drN q);have K3:Blk ((wr.alloc (.cells #[.int .i64 x] 3)).drewN q) wr.heap.size #[.int .i64 x] 3:=Blk.new _ _ _;have f0:=(K3.at_ (k:=0) rfl).1;have f1:=(S3.b0.at_ (k:=0) rfl).1;have f2:=(S3.b0.at_ (k:=1) rfl).1;obtain⟨nd0,hl⟩:∃ nd,l[k]?=some nd:=⟨_,zge (by rw [HS.out.len];exact hlt)⟩;obtain⟨v0,v1,v2⟩:=S3.nv.2 k _ hl;obtain⟨c0,z0⟩:=S3.b1.at_ v0;obtain⟨c1,z1⟩:=S3.b1.at_ v1;obtain⟨c2,z2⟩:=S3.b1.at_ v2;obtain⟨f3,z3⟩:=S3.b1.at_ (S3.nv.2 j _ hj).2.2;have H3:=hid S3;clear v0 v1 v2 hl hj K3 S3 hW cx;generalize (wr.alloc (.cells #[.int .i64 x] 3)).drewN q=W3 at *;generalize wr.heap.size=gk at *;go_wp2_with fail
     go_region
     obtain⟨_,k0,k1⟩:=H3.out.w4 (x:=x) ndj.right;have HN:=hid (H3.out.held hn hlt HRr.out HRk.out HX.out HH.out HJ.out);have hjk:j<k:=HS.out.ids j (hold_mem HH.out);have hv:(V3 V k x ndj.right)[j*3+2]?=some (.int .i64 ndj.right):=by
      have:=((H3.out.nv.set (i:=k) (by rw [H3.out.len];exact hlt) x ndj.right (-1)).2 j ndj (by rw [zsn (by omega)];exact HJ.out)).2.2;exact this
     obtain⟨f1,z1⟩:=k1.at_ hv;unfold W4 at f1 z1;clear f0 f2 c0 c1 c2 f3 z3 k0 k1 hv hjk;go_wp2_with fail;go_roundw
     case rel=>exact⟨k+1,_,_,_,_,by omega,by go_num,HN⟩
     case measure=>simp [intOf];omega
  . obtain rfl:k=n:=by omega
    have hS:=HS.out;have f0:=(hS.b0.at_ (k:=0) rfl).1;have f1:=(hS.b0.at_ (k:=1) rfl).1;have hB:=B2.out.gr hS.gr;obtain⟨p0,z0⟩:=hB.at_ (k:=0) rfl;obtain⟨p1,z1⟩:=hB.at_ (k:=1) rfl;have hor:t.inord=R:=by rw [hS.ord,<- hRl,List.take_length]
    have hgood:Good l root t:=by
     refine⟨hS.lay,by rw [<- T.inord_len,hor,hS.len,hRl],by rw [hS.len];exact hn,bst_of (hor▸HRr.out) λ x hx=>?_,hS.hp⟩;have:=HRk.out x (hor▸hx);unfold IsKey at this;omega
    have hlt2:=B2.out.lt;have hge:=hS.ge.1;have BF:=(hB.set 0 (.int .i64 root)).set 1 (.slice (some ⟨tb+1,0,none⟩) k k);have BN:=(hS.b1.st (p:=⟨w.heap.size,0,none⟩) (by show w.heap.size≠tb+1;omega) (.int .i64 root)).st (p:=⟨w.heap.size,1,none⟩) (by show w.heap.size≠tb+1;omega) (.slice (some ⟨tb+1,0,none⟩) k k);have GN:=((G2.out.trans hS.gr).st (p:=⟨w.heap.size,0,none⟩) HG.out.size (.int .i64 root)).st (p:=⟨w.heap.size,1,none⟩) HG.out.size (.slice (some ⟨tb+1,0,none⟩) k k);have HN:=hid (λ (W:World) (h:Blk W (tb+1) V 292)=>hS.nv.mem hS.len (λ nd h=>by
     obtain⟨h1,h2,h3⟩:=hS.bnd nd h;exact⟨by unfold IsKey at h1;unfold B64;omega,h2,h3⟩) h)
    have HB:=hid (And.intro hgood (And.intro hor (show w0.heap.size<=tb+1 from by have:=G2.out.size;omega)));have HBB:=hid (And.intro BF (And.intro BN GN));clear hS hB hor hgood BF BN GN hlt2 hge;go_wp2_with fail;obtain⟨BF,BN,GN⟩:=HBB.out;clear f0 f1 p0 p1 z0 z1 HBB;generalize (wr.setCell _ _).setCell _ _=WF at BF BN GN ⊢;have q0:WF.cell? ⟨w.heap.size,0,none⟩=some (.int .i64 root):=(BF.at_ (k:=0) rfl).1;have q1:WF.cell? ⟨w.heap.size,1,none⟩=some (.slice (some ⟨tb+1,0,none⟩) k k):=(BF.at_ (k:=1) rfl).1;exact bodyPost_ret (v:=.agg #[.int .i64 root,.slice (some ⟨tb+1,0,none⟩) k k]) (by simp [results,results244,go_sem,q0,q1]) rfl ⟨root,tb+1,l,t,rfl,HN.out _ BN,HB.out.1,HB.out.2.1,GN,HB.out.2.2⟩
end
end
end
section
structure FW (w0:World) (r:Int) (A:Option Addr) (n c tb kb sb:Nat) (x v:Int) (W:World):Prop where
 gr:Gr w0 W
 b0:Blk W tb #[.int .i64 r,.slice A n c] 281
 b1:Blk W kb #[.int .i64 x] 3
 b2:Blk W sb #[.int .i64 v] 3
 n0:sb≠tb
 n1:sb≠kb
 ge:w0.heap.size<=sb
section
variable {w0 W:World} {r:Int} {A:Option Addr} {n c tb kb sb:Nat} {x v:Int} {l:List Nd}
theorem FW.drew (h:FW w0 r A n c tb kb sb x v W):FW w0 r A n c tb kb sb x v W.drew:=⟨h.gr.dr,h.b0,h.b1,h.b2,h.n0,h.n1,h.ge⟩
theorem FW.drN (h:FW w0 r A n c tb kb sb x v W) (m:Nat):FW w0 r A n c tb kb sb x v (W.drewN m):=⟨h.gr.drN m,h.b0,h.b1,h.b2,h.n0,h.n1,h.ge⟩
theorem FW.set (h:FW w0 r A n c tb kb sb x v W) (u:Int):FW w0 r A n c tb kb sb x u (W.setCell ⟨sb,0,none⟩ (.int .i64 u)) :=
 ⟨h.gr.st h.ge _,h.b0.st h.n0 _,h.b1.st h.n1 _,by simpa using h.b2.set 0 (.int .i64 u),h.n0,h.n1,h.ge⟩
theorem fw_keeps (hm:NMem w0 A n l):Keeps (FW w0 r A n c tb kb sb x) tb r A n c l where
 root:=λ s W h=>(h.b0.at_ (k:=0) rfl).1
 nodes:=λ s W h=>(h.b0.at_ (k:=1) rfl).1
 mem:=λ s W h=>hm.gr h.gr
 drew:=λ s W h=>h.drew
def fdir (x k:Int):Option Bool:=if x=k then none else if x<k then some false else some true
def fupd (x k s:Int):Int:=if x=k then s else IntKind.i64.wrap (s+1)
def ndir (x k:Int):Option Bool:=if k<x then some true else some false
def nupd (x k s:Int):Int:=if k<x then s else k
theorem find_further {b off:Nat} (hm:NMem w0 (some ⟨b,off,none⟩) n l):Further 246 #[.pointer (some ⟨kb,0,none⟩),.pointer (some ⟨sb,0,none⟩)] (FW w0 r (some ⟨b,off,none⟩) n c tb kb sb x) (fdir x) (fupd x) b off l:=by
 intro s W i nd hW hx;have c0:=(hm.gr hW.gr).cells hx;obtain⟨c0,c1,c2⟩:=c0;have k0:=(hW.b1.at_ (k:=0) rfl).1;obtain⟨k1,k2⟩:=hW.b2.at_ (k:=0) rfl;have HW:=hid hW;have HM:=hid hm;have HX:=hid hx;clear hm hx hW;obtain⟨y,p,q⟩:=nd;dsimp only at *;show Calls prog 246 #[.pointer (some ⟨b,off+i*3,none⟩),.pointer (some ⟨kb,0,none⟩),.pointer (some ⟨sb,0,none⟩)] W _;by_cases he:x=y
 . subst he
   rw [show fdir x x=none from if_pos rfl,show fupd x x s=s from if_pos rfl];go_enter func246,ntmps246;go_wp2_with fail
   go_quiet (fail)
   go_wp2_with fail;go_ret;exact⟨rfl,HW.out.drN _⟩
 . have ne:(x==y)=false:=beq_eq_false_iff_ne.2 he
   by_cases hlt:x<y
   . rw [show fdir x y=some false from (if_neg he).trans (if_pos hlt),show fupd x y s=IntKind.i64.wrap (s+1) from if_neg he]
     obtain⟨u,hu⟩:∃ u,IntKind.i64.wrap (s+1)=u:=⟨_,rfl⟩;rw [hu];go_enter func246,ntmps246;go_wp2_with fail
     go_quiet (fail)
     go_wp2_with fail;have W3:=(HW.out.drN nq).set u;clear c0 c1 c2 k0 k1 k2 hu;generalize (W.drewN nq).setCell _ _=V at W3 ⊢;have c0:=((HM.out.gr W3.gr).cells HX.out).1;have k0:=(W3.b1.at_ (k:=0) rfl).1;have H3:=hid W3;clear W3;dsimp only at c0
     go_quiet (fail)
     go_wp2_with fail;go_ret;exact⟨rfl,H3.out.drN _⟩
   . rw [show fdir x y=some true from (if_neg he).trans (if_neg hlt),show fupd x y s=IntKind.i64.wrap (s+1) from if_neg he]
     obtain⟨u,hu⟩:∃ u,IntKind.i64.wrap (s+1)=u:=⟨_,rfl⟩;rw [hu];go_enter func246,ntmps246;go_wp2_with fail
     go_quiet (fail)
     go_wp2_with fail;have W3:=(HW.out.drN nq).set u;clear c0 c1 c2 k0 k1 k2 hu;generalize (W.drewN nq).setCell _ _=V at W3 ⊢;have c0:=((HM.out.gr W3.gr).cells HX.out).1;have k0:=(W3.b1.at_ (k:=0) rfl).1;have H3:=hid W3;clear W3;dsimp only at c0
     go_quiet (fail)
     go_wp2_with fail;go_ret;exact⟨rfl,H3.out.drN _⟩
theorem next_further {b off:Nat} (hm:NMem w0 (some ⟨b,off,none⟩) n l):Further 238 #[.pointer (some ⟨kb,0,none⟩),.pointer (some ⟨sb,0,none⟩)] (FW w0 r (some ⟨b,off,none⟩) n c tb kb sb x) (ndir x) (nupd x) b off l:=by
 intro s W i nd hW hx;have c0:=(hm.gr hW.gr).cells hx;obtain⟨c0,c1,c2⟩:=c0;have k0:=(hW.b1.at_ (k:=0) rfl).1;obtain⟨k1,k2⟩:=hW.b2.at_ (k:=0) rfl;have HW:=hid hW;clear hm hx hW;obtain⟨y,p,q⟩:=nd;dsimp only at *;show Calls prog 238 #[.pointer (some ⟨b,off+i*3,none⟩),.pointer (some ⟨kb,0,none⟩),.pointer (some ⟨sb,0,none⟩)] W _;by_cases hlt:y<x
 . rw [show ndir x y=some true from if_pos hlt,show nupd x y s=s from if_pos hlt]
   go_enter func238,ntmps238;go_wp2_with fail
   go_quiet (fail)
   go_wp2_with fail;go_ret;exact⟨rfl,HW.out.drN _⟩
 . rw [show ndir x y=some false from if_neg hlt,show nupd x y s=y from if_neg hlt]
   go_enter func238,ntmps238;go_wp2_with fail
   go_quiet (fail)
   go_wp2_with fail;go_ret;exact⟨rfl,(HW.out.drN _).set y⟩
theorem run_find {b off:Nat}:∀ {t:T} {lo hi:Int} {pb po:Nat} {s:Int},Bst t lo hi->0<=s->s+t.size<=100000 ->
 (x ∉ t.inord->(run (fdir x) (fupd x) b off t pb po s).2.1=.nil)/\(x∈t.inord->(run (fdir x) (fupd x) b off t pb po s).2.1≠.nil/\(run (fdir x) (fupd x) b off t pb po s).2.2=s+dpt t x)
 | .nil,_,_,_,_,s,_,_,_=>⟨λ _=>rfl,λ h=>by simp [T.inord] at h⟩
 | .node i k L R,lo,hi,pb,po,s,hb,h0,h1=>by
  obtain⟨b1,b2,b3,b4⟩:=hb;unfold T.size at h1;by_cases he:x=k
  . subst he
    rw [run_stop (show fdir x x=none from if_pos rfl),show fupd x x s=s from if_pos rfl];exact⟨λ h=>absurd (by simp [T.inord]) h,λ _=>⟨by simp,by simp [dpt]⟩⟩
  . have hw:fupd x k s=s+1:=(if_neg he).trans (wrap_id (by omega) (by omega))
    by_cases hlt:x<k
    . rw [run_go (show fdir x k=some false from (if_neg he).trans (if_pos hlt)),hw]
      obtain⟨g1,g2⟩:=@run_find b off L lo k b (off+i*3+side false) (s+1) b3 (by omega) (by omega);have hm:x∈(T.node i k L R).inord↔x∈L.inord:=by
       simp only [T.inord,List.mem_append,List.mem_cons];refine⟨λ h=>?_,λ h=>.inl h⟩;rcases h with h | h | h
       . exact h
       . exact absurd h he
       . have:=(b4.mem h).1;omega
      refine⟨λ h=>g1 (λ h'=>h (hm.2 h')),λ h=>⟨(g2 (hm.1 h)).1,(g2 (hm.1 h)).2.trans ?_⟩⟩;rw [dpt,if_neg he,if_pos hlt];omega
    . rw [run_go (show fdir x k=some true from (if_neg he).trans (if_neg hlt)),hw]
      obtain⟨g1,g2⟩:=@run_find b off R k hi b (off+i*3+side true) (s+1) b4 (by omega) (by omega);have hm:x∈(T.node i k L R).inord↔x∈R.inord:=by
       simp only [T.inord,List.mem_append,List.mem_cons];refine⟨λ h=>?_,λ h=>.inr (.inr h)⟩;rcases h with h | h | h
       . have:=(b3.mem h).2;omega
       . exact absurd h he
       . exact h
      refine⟨λ h=>g1 (λ h'=>h (hm.2 h')),λ h=>⟨(g2 (hm.1 h)).1,(g2 (hm.1 h)).2.trans ?_⟩⟩;rw [dpt,if_neg he,if_neg hlt];omega
theorem run_next {b off:Nat}:∀ {t:T} {pb po:Nat} {s:Int},(run (ndir x) (nupd x) b off t pb po s).2.2=nx t x s
 | .nil,_,_,_=>rfl
 | .node i k L R,pb,po,s=>by
  by_cases hlt:k<x
  . rw [run_go (show ndir x k=some true from if_pos hlt),show nupd x k s=s from if_pos hlt,nx,if_pos hlt]
    exact run_next
  . rw [run_go (show ndir x k=some false from if_neg hlt),show nupd x k s=k from if_neg hlt,nx,if_neg hlt]
    exact run_next
end
end
end Go.Proofs.YtainfijdhcehlaaGreatDoor
