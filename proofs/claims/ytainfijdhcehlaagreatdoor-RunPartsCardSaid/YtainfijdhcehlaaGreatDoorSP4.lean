/-
  RunParts: for every list of programs, every list of ints and every int, a script in two parts plays as at once, and one that is too long is refused: the law answers true, as long as the array give.states holds what the program's text lays there (the card's listed variable, tied).
-/
import Derived.Test.YtainfijdhcehlaaGreatDoorSP3
import Derived.Test.YtainfijdhcehlaaGreatDoorCards
import Derived.Test.YtainfijdhcehlaaGreatDoorTie
set_option linter.unusedVariables false
set_option linter.unusedSimpArgs false
set_option maxRecDepth 100000
set_option maxHeartbeats 8000000
namespace Go.Proofs.YtainfijdhcehlaaGreatDoor
open Lib (hid)
open Go.Proofs.Tryz
open Go.ChangeAt Go.ChangeShapes Go.Joins Go.RowKit Go.WideShapes
section
namespace P17
open P16
open P12 (PV PMem POwn pl fewP)
theorem rem_at (κ:Int) {N:Nat} (hN:N<=600):∃ K:Nat,K<=N/\(wrap64 (wrap64 (κ.tmod ((N:Int)+1)+(N:Int))+1)).tmod ((N:Int)+1)=(K:Int):=by
 have h1:κ.tmod ((N:Int)+1)<(N:Int)+1:=Int.tmod_lt_of_pos κ (by omega);have h2:-((N:Int)+1)<κ.tmod ((N:Int)+1):=by
  have:=Int.tmod_lt_of_pos (-κ) (show (0:Int)<(N:Int)+1 by omega);rw [Int.neg_tmod] at this;omega
 generalize κ.tmod ((N:Int)+1)=t at *;have e1:wrap64 (t+(N:Int))=t+(N:Int):=by unfold wrap64;omega
 rw [e1];have e2:wrap64 (t+(N:Int)+1)=t+(N:Int)+1:=by unfold wrap64;omega
 rw [e2,Int.tmod_eq_emod_of_nonneg (by omega)];have h3:=Int.emod_nonneg (t+(N:Int)+1) (show (N:Int)+1≠0 by omega);have h4:=Int.emod_lt_of_pos (t+(N:Int)+1) (show (0:Int)<(N:Int)+1 by omega);exact⟨((t+(N:Int)+1) % ((N:Int)+1)).toNat,by omega,by omega⟩
section
variable {w:World} {A B:Option Addr} {n c m d:Nat} {R:List PV} {L:List Int} {κ:Int}
theorem RunParts_walk (hM:Mach) (hg:P15.Glob w) (hc:n<=c) (hn:n<=9223372036854775807) (hm:PMem w A n R) (hd:m<=d) (hmm:m<=9223372036854775807) (hL:IMem w B m L) (hκ:B64 κ) :
 Calls prog 9 #[.slice A n c,.slice B m d,.int .i64 κ] w λ e w'=>e=.returned (.bool true)/\Gr w w':=by
 obtain⟨N,a5,b5,n5,k5,-⟩:=least m 600;have b5:min (m:Int) 600=(N:Int):=b5;have a5:(if (600:Int)<(m:Int) then (600:Int) else (m:Int))=(N:Int):=a5;have p5:(0:Int)<=(N:Int):=by omega
 have m5:(N:Int)<=(d:Int):=by omega
 have HL:=hid (hL.take_ N n5);have HM:=hid hm;clear hL hm;go_enter func9,ntmps9;go_upto_region 1 with fail;refine wp_region_held_drew (S:=(λ _=>True)) (by kernel_rfl) trivial (λ hS=>?_);have G1:=hid (zr w).dr;generalize w.drew=V at G1 ⊢;refine wG 0 hS ?_;refine wG 2 hS ?_;refine wG 3 hS ?_;refine wG 4 hS ?_;refine wG 5 hS ?_;refine wG 6 hS ?_;refine wR1 1 (λ K hK=>?_);go_simp;go_at_call 25;refine (few17_is (HM.out.gr G1.out) hc hn).mono ?_;rintro ee w1 ⟨⟨B',m',d',R',rfl,-,hpl,hm10,hown⟩,g1⟩;go_wp2_with fail;refine hK.out _ _ trivial (λ hS=>?_);clear hK K
 try simp only [pL]
 refine wG 7 hS ?_;refine wG 8 hS ?_;refine wpAnyH_done (by kernel_rfl) ?_ _;have G2:=hid (G1.out.trans g1);have HP:=hid hown.mem;have HLN:=hid (show L.take N=(L.take N) from rfl);obtain⟨l,hl⟩:∃ l,l=L.take N:=⟨_,rfl⟩;rw [<- hl] at HL;have hlN:l.length=N:=HL.out.1;clear HLN hl hown g1 G1 hpl;have cP:=hid (Play_is (c:=d) (d:=d') hM (hg.gr G2.out) HP.out (by omega) (HL.out.gr G2.out));go_wp2_with fail;refine cP.out.mono ?_;rintro e w2 ⟨⟨s,ψ,A1,n1,c1,H1,x1,rfl,hR1,hO1,hH1,hn1⟩,g2⟩;have G3:=hid ((G2.out.trans g2).al (.cells s.a 29));rcases hR1 with ⟨q,_⟩ | ⟨_,hr,rfl,rfl,rfl⟩ | ⟨_,hr,hGW,rfl⟩
 . omega
 . obtain rfl:0=n1:=hn1
   have cA:=hid (alive17_is (w:=w2.alloc (.cells s.a 29)) hM (hg.gr G3.out));clear hO1 hH1 cP g2;go_wp2_with fail;refine cA.out.mono ?_;rintro e w9 ⟨rfl,g9⟩;go_wp2_with fail;go_ret;exact⟨rfl,G3.out.trans g9⟩
 . have HR:=hid hr
   have HGW:=hid hGW;have HN1:=hid hn1;have BK:=Blk.new w2 s.a 29;have WK:=hid ((hO1.sub (S':=λ k=>(k<w1.heap.size\/(Value.slice A1 n1 c1).ownBlock=some k)\/w2.heap.size<=k) (λ k h1 h2=>h2.resolve_right (by omega))).gr ((zr w2).al (.cells s.a 29)));have HK:=hid (own_off hH1 (Off.gr (S:=λ _=>False) ((zr w2).al (.cells s.a 29))) (λ _ _ h=>h));have hlt1:=λ k=>hH1.lt k
   have X3:=hid (g2.al (.cells s.a 29));have k2:=g2.size;obtain⟨J,hJ,eJ⟩:=rem_at κ k5;have J0:(0:Int)<=(J:Int):=by omega
   have J1:(J:Int)<=(N:Int):=by omega
   have J2:(J:Int)<=(d:Int):=by omega
   clear cP hr hGW hO1 hH1 hn1 g2;go_upto_region 6 with fail;clear eJ;generalize w2.alloc (.cells s.a 29)=V2 at BK WK HK G3 X3 ⊢;have HP3:=hid (HP.out.gr X3.out);have cP:=hid (Play_is (c:=d) (d:=d') hM (hg.gr G3.out) HP3.out (show m'<=9223372036854775807 by omega) ((HL.out.take_ J hJ).gr G3.out));go_wp2_with fail;refine cP.out.mono ?_;rintro e w3 ⟨⟨s2,ψ2,A2,n2,c2,F,x2,rfl,hR2,hO2,hF,hn2⟩,g3⟩;have hlK:(l.take J).length=J:=by rw [List.length_take];omega
   obtain⟨hGF,rfl⟩:GoW (newW (pl R')) ((l.take J).map P13.rd) ψ2 F/\x2=0:=by
    rcases hR2 with ⟨q,_⟩ | ⟨_,q,_⟩ | ⟨_,_,q,q2⟩
    . omega
    . rw [HR.out] at q;cases q
    . exact⟨q,q2⟩
   have HGF:=hid hGF;have HF2:=hid (GoW.fine (Fine.new HR.out) hGF (λ p hp=>by obtain⟨x,_,rfl⟩:=List.mem_map.1 hp;exact P13.rd_ok x));have HN2:=hid hn2;have a2:=(zr w3).al (.cells s2.a 29);have BA:=hid (Blk.new w3 s2.a 29);have WA:=hid (hO2.is.gr a2);have HF:=hid (own_off hF (Off.gr (S:=λ _=>False) a2) (λ _ _ h=>h));have BK3:=hid ((BK.gr g3).gr a2);have WK3:=hid ((WK.out.gr g3).gr a2);have HK3:=hid (own_off HK.out (Off.gr (S:=λ _=>False) (g3.trans a2)) (λ _ _ h=>h));have G4:=hid ((G3.out.trans g3).trans a2);have X4:=hid ((X3.out.trans g3).trans a2);have k3:=g3.size;have hlt0:w2.heap.size<V2.heap.size:=BK.lt;have hlt2:=λ k=>hF.lt k
   clear cP hR2 hO2 hF hn2 hGF g3 a2 BK WK HK G3 X3 HP3;go_upto_region 7 with fail;generalize w3.alloc (.cells s2.a 29)=V3 at BA WA HF BK3 WK3 HK3 G4 X4 ⊢;generalize w3.heap.size=gA at BA k3 hlt2 ⊢;obtain⟨BJ,hBJ⟩:∃ X,(if d=J then B else B.map (·.add J))=X:=⟨_,rfl⟩;have HIM:=hid (show IMem w BJ (N-J) (l.drop J) from by
    rw [<- hBJ];have h:=imem_cut HL.out (show N<=d by omega) hJ;have e:(d-J=0)=(d=J):=propext ⟨λ h=>by omega,λ h=>by omega⟩;simpa only [e] using h)
   have cG:=λ W (g:Gr V3 W)=>hid (Go_is (c:=d-J) hM (hg.gr (G4.out.trans g)) (WA.out.gr g) (HIM.out.gr (G4.out.trans g)))
   have hr2:RightW ψ2:=HF2.out.right;have HR2:=hid hr2;clear hr2
   go_cut [13,14,15] (λ t13 t14 t15 wx=>∃ (g3:Nat) (s3:WR) (ψ3:Wv) (A3:Option Addr) (n3 c3:Nat) (R3:List Hp),t13=.pointer (some ⟨g3,0,none⟩)/\t14=.slice A3 n3 c3/\t15=.int .i64 0/\Hid (GoW ψ2 ((l.drop J).map P13.rd) ψ3 R3) /\
    Hid (Blk wx g3 s3.a 29)/\Hid (WOff (λ k=>(Value.slice A3 n3 c3).ownBlock=some k) wx s3 ψ3)/\Hid (HOwn wx V3.heap.size (.slice A3 n3 c3) R3)/\Hid (R3.length=n3)/\Hid (Gr V3 wx)/\V3.heap.size<=g3/\Hid (∀ k,(Value.slice A3 n3 c3).ownBlock=some k->k≠g3))
   case first =>
    as_aux_lemma =>
     have J3:(J:Int)<=(d:Int):=J2;obtain⟨a0,a1,a2,a3,a4,a5⟩:=at6 BA.out;have ltA:=BA.out.lt;refine wp_region_held_drew (S:=(λ w'=>w'.cell? ⟨gA,0,none⟩=some (.int .i64 s2.now)/\w'.cell? ⟨gA,1,none⟩=some (.slice s2.p.A s2.p.n s2.p.c)/\w'.cell? ⟨gA,2,none⟩=some (.slice s2.c.A s2.c.n s2.c.c)/\w'.cell? ⟨gA,3,none⟩=some (.slice s2.m.A s2.m.n s2.m.c)/\w'.cell? ⟨gA,4,none⟩=some (.slice s2.t.A s2.t.n s2.t.c)/\w'.cell? ⟨gA,5,none⟩=some (.int .i64 s2.stop))) (by kernel_rfl) ⟨a0,a1,a2,a3,a4,a5⟩ (λ hS=>?_);refine wG 0 hS ?_;refine wG 1 hS ?_;refine wG 2 hS ?_;refine wG 3 hS ?_;refine wR2 4 9 (λ K hK=>?_) (λ K hK=>?_)
     . skip
       go_simp;go_at_call 28;refine (cG _ (zr V3).dr).out.mono ?_;rintro ee w4 ⟨⟨s3,ψ3,A3,n3,c3,R3,x3,rfl,hR3,hO3,hH3,hn3⟩,g4⟩;obtain⟨hGW3,rfl⟩:GoW ψ2 ((l.drop J).map P13.rd) ψ3 R3/\x3=0:=by
        rcases hR3 with ⟨q,_⟩ | ⟨_,q,_⟩ | ⟨_,_,q,q2⟩
        . rw [List.length_drop] at q;omega
        . exact absurd HR2.out q
        . exact⟨q,q2⟩
       have HGW3:=hid hGW3;have HN3:=hid hn3;have HO3:=hid hO3;have HH3:=hid hH3;clear hR3 hGW3 hn3 hO3 hH3;go_wp2_with fail;have B4:=BA.out.gr ((zr V3).dr.trans g4);refine hK.out _ _ ⟨(B4.at_ (k:=0) (v:=.int .i64 s2.now) rfl).1,(B4.at_ (k:=1) (v:=.slice s2.p.A s2.p.n s2.p.c) rfl).1,(B4.at_ (k:=2) (v:=.slice s2.c.A s2.c.n s2.c.c) rfl).1,(B4.at_ (k:=3) (v:=.slice s2.m.A s2.m.n s2.m.c) rfl).1,(B4.at_ (k:=4) (v:=.slice s2.t.A s2.t.n s2.t.c) rfl).1,(B4.at_ (k:=5) (v:=.int .i64 s2.stop) rfl).1⟩ (λ hS=>?_);clear hK K
       try simp only [pL]
       refine wG 5 hS ?_;refine wG 6 hS ?_;refine wG 7 hS ?_;refine wG 8 hS ?_;refine wR1 9 (λ K hK=>?_);go_simp;have B5:=B4.al (.cells #[.int .i64 0,.slice none 0 0,.slice none 0 0,.slice none 0 0,.slice none 0 0,.int .i64 0] 29);refine hK.out _ _ ⟨(B5.at_ (k:=0) (v:=.int .i64 s2.now) rfl).1,(B5.at_ (k:=1) (v:=.slice s2.p.A s2.p.n s2.p.c) rfl).1,(B5.at_ (k:=2) (v:=.slice s2.c.A s2.c.n s2.c.c) rfl).1,(B5.at_ (k:=3) (v:=.slice s2.m.A s2.m.n s2.m.c) rfl).1,(B5.at_ (k:=4) (v:=.slice s2.t.A s2.t.n s2.t.c) rfl).1,(B5.at_ (k:=5) (v:=.int .i64 s2.stop) rfl).1⟩ (λ hS=>?_);clear hK K
       try simp only [pL]
       refine wR1 10 (λ K hK=>?_);go_simp;have B6:=BA.out.gr (((zr V3).dr.trans g4).al (.cells s3.a 29));refine hK.out _ _ ⟨(B6.at_ (k:=0) (v:=.int .i64 s2.now) rfl).1,(B6.at_ (k:=1) (v:=.slice s2.p.A s2.p.n s2.p.c) rfl).1,(B6.at_ (k:=2) (v:=.slice s2.c.A s2.c.n s2.c.c) rfl).1,(B6.at_ (k:=3) (v:=.slice s2.m.A s2.m.n s2.m.c) rfl).1,(B6.at_ (k:=4) (v:=.slice s2.t.A s2.t.n s2.t.c) rfl).1,(B6.at_ (k:=5) (v:=.int .i64 s2.stop) rfl).1⟩ (λ hS=>?_);clear hK K
       try simp only [pL]
       refine wG 11 hS ?_;refine wG 12 hS ?_;refine wpAnyH_done (by kernel_rfl) ?_ _;have hlt3:=λ k=>HH3.out.lt k
       have a4:=(zr w4).al (.cells s3.a 29);have B5:=hid (Blk.new w4 s3.a 29);have W5:=hid ((HO3.out.sub (S':=λ k=>(Value.slice A3 n3 c3).ownBlock=some k) (λ k _ h=>.inr h)).gr a4);have H5:=hid (own_off HH3.out (Off.gr (S:=λ _=>False) a4) (λ _ _ h=>h));have G5:=hid (((zr V3).dr.trans g4).al (.cells s3.a 29));have hge:V3.heap.size<=w4.heap.size:=g4.size;have HNE:=hid (show ∀ k,(Value.slice A3 n3 c3).ownBlock=some k->k≠w4.heap.size from λ k hk=>by have:=(hlt3 k hk).2;omega);clear hlt3 a4 hS B6;go_wp2_with fail;go_meet;exact⟨w4.heap.size,s3,ψ3,A3,n3,c3,R3,rfl,rfl,rfl,HGW3,B5,W5,H5,HN3,G5,hge,HNE⟩
     . skip
       go_simp;have B4:=BA.out.gr (((zr V3).al (.cells #[.int .i64 0,.slice none 0 0,.slice none 0 0,.slice none 0 0,.slice none 0 0,.int .i64 0] 29)).dr);refine hK.out _ _ ⟨(B4.at_ (k:=0) (v:=.int .i64 s2.now) rfl).1,(B4.at_ (k:=1) (v:=.slice s2.p.A s2.p.n s2.p.c) rfl).1,(B4.at_ (k:=2) (v:=.slice s2.c.A s2.c.n s2.c.c) rfl).1,(B4.at_ (k:=3) (v:=.slice s2.m.A s2.m.n s2.m.c) rfl).1,(B4.at_ (k:=4) (v:=.slice s2.t.A s2.t.n s2.t.c) rfl).1,(B4.at_ (k:=5) (v:=.int .i64 s2.stop) rfl).1⟩ (λ hS=>?_);clear hK K
       try simp only [pL]
       refine wR1 4 (λ K hK=>?_);go_simp;go_at_call 28;with_reducible refine (cG _ (((zr V3).al (.cells #[.int .i64 0,.slice none 0 0,.slice none 0 0,.slice none 0 0,.slice none 0 0,.int .i64 0] 29)).dr)).out.mono ?_
       rintro ee w4 ⟨⟨s3,ψ3,A3,n3,c3,R3,x3,rfl,hR3,hO3,hH3,hn3⟩,g4⟩;obtain⟨hGW3,rfl⟩:GoW ψ2 ((l.drop J).map P13.rd) ψ3 R3/\x3=0:=by
        rcases hR3 with ⟨q,_⟩ | ⟨_,q,_⟩ | ⟨_,_,q,q2⟩
        . rw [List.length_drop] at q;omega
        . exact absurd HR2.out q
        . exact⟨q,q2⟩
       have HGW3:=hid hGW3;have HN3:=hid hn3;have HO3:=hid hO3;have HH3:=hid hH3;clear hR3 hGW3 hn3 hO3 hH3;go_wp2_with fail;have B4:=BA.out.gr ((((zr V3).al (.cells #[.int .i64 0,.slice none 0 0,.slice none 0 0,.slice none 0 0,.slice none 0 0,.int .i64 0] 29)).dr).trans g4);refine hK.out _ _ ⟨(B4.at_ (k:=0) (v:=.int .i64 s2.now) rfl).1,(B4.at_ (k:=1) (v:=.slice s2.p.A s2.p.n s2.p.c) rfl).1,(B4.at_ (k:=2) (v:=.slice s2.c.A s2.c.n s2.c.c) rfl).1,(B4.at_ (k:=3) (v:=.slice s2.m.A s2.m.n s2.m.c) rfl).1,(B4.at_ (k:=4) (v:=.slice s2.t.A s2.t.n s2.t.c) rfl).1,(B4.at_ (k:=5) (v:=.int .i64 s2.stop) rfl).1⟩ (λ hS=>?_);clear hK K
       try simp only [pL]
       refine wG 5 hS ?_;refine wG 6 hS ?_;refine wG 7 hS ?_;refine wG 8 hS ?_;refine wR1 10 (λ K hK=>?_);have BZ:=(Blk.new V3 #[.int .i64 0,.slice none 0 0,.slice none 0 0,.slice none 0 0,.slice none 0 0,.int .i64 0] 29).gr ((zr _).dr.trans g4);have ltz:=BZ.lt;obtain⟨⟨z0,zz0⟩,⟨z1,zz1⟩,⟨z2,zz2⟩,⟨z3,zz3⟩,⟨z4,zz4⟩,⟨z5,zz5⟩⟩:=at6z BZ;go_simp;clear z0 zz0 z1 zz1 z2 zz2 z3 zz3 z4 zz4 z5 zz5 ltz;have B6:=blk_off B4 (off6 (S:=λ k=>k=V3.heap.size) rfl (.int .i64 s3.now) (.slice s3.p.A s3.p.n s3.p.c) (.slice s3.c.A s3.c.n s3.c.c) (.slice s3.m.A s3.m.n s3.m.c) (.slice s3.t.A s3.t.n s3.t.c) (.int .i64 s3.stop)) (λ e=>by have:=ltA;omega);refine hK.out _ _ ⟨(B6.at_ (k:=0) (v:=.int .i64 s2.now) rfl).1,(B6.at_ (k:=1) (v:=.slice s2.p.A s2.p.n s2.p.c) rfl).1,(B6.at_ (k:=2) (v:=.slice s2.c.A s2.c.n s2.c.c) rfl).1,(B6.at_ (k:=3) (v:=.slice s2.m.A s2.m.n s2.m.c) rfl).1,(B6.at_ (k:=4) (v:=.slice s2.t.A s2.t.n s2.t.c) rfl).1,(B6.at_ (k:=5) (v:=.int .i64 s2.stop) rfl).1⟩ (λ hS=>?_);clear hK K
       try simp only [pL]
       refine wG 11 hS ?_;refine wG 12 hS ?_;refine wpAnyH_done (by kernel_rfl) ?_ _;have hlt3:=λ k=>HH3.out.lt k
       have hsz:V3.heap.size+1<=w4.heap.size:=by have:=g4.size;simpa using this
       have o6:Off (λ k=>k=V3.heap.size) w4 ((((((w4.setCell ⟨V3.heap.size,0,none⟩ (.int .i64 s3.now)).setCell ⟨V3.heap.size,1,none⟩ (.slice s3.p.A s3.p.n s3.p.c)).setCell ⟨V3.heap.size,2,none⟩ (.slice s3.c.A s3.c.n s3.c.c)).setCell ⟨V3.heap.size,3,none⟩ (.slice s3.m.A s3.m.n s3.m.c)).setCell ⟨V3.heap.size,4,none⟩ (.slice s3.t.A s3.t.n s3.t.c)).setCell ⟨V3.heap.size,5,none⟩ (.int .i64 s3.stop)):=off6 (S:=λ k=>k=V3.heap.size) rfl (.int .i64 s3.now) (.slice s3.p.A s3.p.n s3.p.c) (.slice s3.c.A s3.c.n s3.c.c) (.slice s3.m.A s3.m.n s3.m.c) (.slice s3.t.A s3.t.n s3.t.c) (.int .i64 s3.stop);have B5:=hid (put6_blk BZ rfl (.int .i64 s3.now) (.slice s3.p.A s3.p.n s3.p.c) (.slice s3.c.A s3.c.n s3.c.c) (.slice s3.m.A s3.m.n s3.m.c) (.slice s3.t.A s3.t.n s3.t.c) (.int .i64 s3.stop));have W5:=hid ((HO3.out.to (o6.mono (λ k _ e=>.inl (by rw [e];simp)))).sub (S':=λ k=>(Value.slice A3 n3 c3).ownBlock=some k) (λ k _ h=>.inr h));have hne:=λ k (hk:(Value.slice A3 n3 c3).ownBlock=some k) (e:k=V3.heap.size)=>(show False by have h1:=(hlt3 k hk).1;simp at h1;omega)
       have H5:=hid (own_low (own_off HH3.out o6 hne) (b2:=V3.heap.size) (by simp));have G5:=hid (put6_gr (x0:=.int .i64 s3.now) (x1:=.slice s3.p.A s3.p.n s3.p.c) (x2:=.slice s3.c.A s3.c.n s3.c.c) (x3:=.slice s3.m.A s3.m.n s3.m.c) (x4:=.slice s3.t.A s3.t.n s3.t.c) (x5:=.int .i64 s3.stop) (b:=V3.heap.size) ((((zr V3).al (.cells #[.int .i64 0,.slice none 0 0,.slice none 0 0,.slice none 0 0,.slice none 0 0,.int .i64 0] 29)).dr).trans g4) (Nat.le_refl _));have hge:V3.heap.size<=V3.heap.size:=Nat.le_refl _;have HNE:=hid (show ∀ k,(Value.slice A3 n3 c3).ownBlock=some k->k≠V3.heap.size from hne);clear hlt3 hsz o6 hne hS B6 BZ;generalize (((((w4.setCell ⟨V3.heap.size,0,none⟩ (.int .i64 s3.now)).setCell ⟨V3.heap.size,1,none⟩ (.slice s3.p.A s3.p.n s3.p.c)).setCell ⟨V3.heap.size,2,none⟩ (.slice s3.c.A s3.c.n s3.c.c)).setCell ⟨V3.heap.size,3,none⟩ (.slice s3.m.A s3.m.n s3.m.c)).setCell ⟨V3.heap.size,4,none⟩ (.slice s3.t.A s3.t.n s3.t.c)).setCell ⟨V3.heap.size,5,none⟩ (.int .i64 s3.stop)=V6 at B5 W5 H5 G5 ⊢;go_wp2_with fail;go_meet;exact⟨V3.heap.size,s3,ψ3,A3,n3,c3,R3,rfl,rfl,rfl,HGW3,B5,W5,H5,HN3,G5,hge,HNE⟩
   obtain⟨g3,s3,ψ3,A3,n3,c3,R3,rfl,rfl,rfl,HGW3,HB3,HW3,HH3,HN3,HG3,hge,HNE⟩:=hcut;have hltA:gA<V3.heap.size:=BA.out.lt;have hltK:w2.heap.size<V3.heap.size:=BK3.out.lt;have BKx:=hid (BK3.out.gr HG3.out);have WKx:=hid (WK3.out.gr HG3.out);have HKx:=hid (own_off HK3.out (Off.gr (S:=λ _=>False) HG3.out) (λ _ _ h=>h));have HFx:=hid (own_off HF.out (Off.gr (S:=λ _=>False) HG3.out) (λ _ _ h=>h));have Xx:=hid (X4.out.trans HG3.out);have HR0:=hid (Rest.of_own HH3.out HN3.out);have hrow:∀ k,(Value.slice A3 n3 c3).ownBlock=some k->V3.heap.size<=k:=λ k hk=>(HH3.out.lt k hk).1
   have HPL:=hid (GoW.places HGW3.out);have HNL:=hid HN3.out;have hn600:n3<=600:=by have h1:=GoW.few HGW3.out;have h2:=HN3.out;rw [List.length_map,List.length_drop] at h1;omega
   clear hBJ HIM cG BA WA BK3 WK3 HK3 HF HH3 X4 HG3 HF2 HN2 HR2;have J3:(J:Int)<=600:=by omega
   go_wp2_with fail
   go_loopw [82] (λ i wr=>∃ j:Nat,j<=n3/\i=.int .i64 (j:Int)/\Hid (Rest wr V3.heap.size A3 n3 (later J (R3.take j)++R3.drop j))/\Hid (Off (λ k=>(Value.slice A3 n3 c3).ownBlock=some k) wc wr)/\Hid (Gr w1 wr)) (λ i _=>n3-(intOf i).toNat)
   case atStart=>exact⟨0,Nat.zero_le _,rfl,hid (by rw [List.take_zero,List.drop_zero];exact HR0.out),hid Off.refl,Xx⟩
   case round =>
    obtain⟨j,hj,rfl,HR,HO,HGX⟩:=hrel;by_cases hjn:j<n3
    . obtain⟨x,hx⟩:∃ x,R3[j]?=some x:=⟨_,zge (by rw [HNL.out];exact hjn)⟩
      obtain⟨p1,p2⟩:=HPL.out x (zmo hx);rw [List.length_map,List.length_drop] at p2;obtain⟨-,h0 | ⟨g,rfl,hbg,ho⟩⟩:=HR.out
      . omega
      have k0:(0:Int)<=(j:Int):=by omega
      have k1:(j:Int)<(n3:Int):=by omega
      have hlt:=ho.lt;have a1:=ho.at_ (later_at (k:=J) hx) (j:=0) (v:=.int .i64 x.1) rfl;rw [show (0+j*5+0)=j*5 from by omega] at a1;obtain⟨a1,a2⟩:=a1;have ho2:=ho.put hpV_len (later_at (k:=J) hx) (j:=0) (show 0<5 by decide) (y:=(x.1+(J:Int),x.2)) (v:=.int .i64 (x.1+(J:Int))) rfl;rw [later_set hx,show (0+j*5+0)=j*5 from by omega] at ho2;have HO2:=hid ho2;have HOf:=hid (HO.out.trans (Off.st (S:=λ k=>(Value.slice (some ⟨g,0,none⟩) n3 c3).ownBlock=some k) (p:=⟨g,j*5,none⟩) rfl (.int .i64 (x.1+(J:Int)))));have HGf:=hid (HGX.out.st (p:=⟨g,j*5,none⟩) (show w1.heap.size<=g by omega) (.int .i64 (x.1+(J:Int))));have HRL:=hid HR.out.1;obtain⟨xa,xr⟩:=x;dsimp only at *;clear ho ho2 hx HO HGX;go_wp2_with fail;go_roundw
      case rel=>exact⟨j+1,by omega,by go_num,hid ⟨by rw [List.length_append,later_len,List.length_take,List.length_drop,HNL.out];omega,.inr ⟨g,rfl,hbg,HO2.out⟩⟩,HOf,HGf⟩
      case measure=>simp [intOf];omega
    . obtain rfl:j=n3:=by omega
      have HM4:=hid (show HMem wr A3 j (later J R3) from by
       have h:=HR.out.hmem;rw [List.take_of_length_le (by rw [HNL.out];exact Nat.le_refl _),List.drop_of_length_le (by rw [HNL.out];exact Nat.le_refl _),List.append_nil] at h;exact h)
      have BK4:=hid (blk_off BKx.out HO.out (λ h=>by have:=hrow _ h;omega));have WK4:=hid ((WKx.out.to (HO.out.mono (λ k _ h=>.inr (by have:=hrow k h;omega)))).is);have HK4:=hid (own_off HKx.out HO.out (λ k hk h=>by have:=hrow k h;have:=(hlt1 k hk).2;omega));have HF4:=hid (own_off HFx.out HO.out (λ k hk h=>by have:=hrow k h;have:=(hlt2 k hk).2;omega));have HB4:=hid (blk_off HB3.out HO.out (λ h=>HNE.out _ h rfl));have W4:=hid ((HW3.out.to HO.out).is);have G4w:=hid (G2.out.trans HGX.out);have HP4:=hid (HP.out.gr HGX.out);clear HR HO BKx WKx HKx HFx HB3 HW3 HR0 HNE HPL;obtain⟨MM,LL,hLL,hmk,hmi⟩:=too_many;have HLL:=hid hLL;have HMI:=hid hmi;clear hLL hmi;go_upto_region 13 with fail
      go_cut [19] (λ t wx=>t=.int .i64 2/\Hid (Gr wr wx))
      case first =>
       obtain⟨a0,a1,a2,a3,a4,a5⟩:=at6 BK4.out;refine wp_region_held_drew (S:=(λ w'=>w'.cell? ⟨w2.heap.size,0,none⟩=some (.int .i64 s.now)/\w'.cell? ⟨w2.heap.size,1,none⟩=some (.slice s.p.A s.p.n s.p.c)/\w'.cell? ⟨w2.heap.size,2,none⟩=some (.slice s.c.A s.c.n s.c.c)/\w'.cell? ⟨w2.heap.size,3,none⟩=some (.slice s.m.A s.m.n s.m.c)/\w'.cell? ⟨w2.heap.size,4,none⟩=some (.slice s.t.A s.t.n s.t.c)/\w'.cell? ⟨w2.heap.size,5,none⟩=some (.int .i64 s.stop))) (by kernel_rfl) ⟨a0,a1,a2,a3,a4,a5⟩ (λ hS=>?_);refine wG 0 hS ?_;refine wR2 1 7 (λ K hK=>?_) (λ K hK=>?_)
       . skip
         go_simp;have B7:=BK4.out.gr ((zr wr).al (.cells MM 3)).dr;refine hK.out _ _ ⟨(B7.at_ (k:=0) (v:=.int .i64 s.now) rfl).1,(B7.at_ (k:=1) (v:=.slice s.p.A s.p.n s.p.c) rfl).1,(B7.at_ (k:=2) (v:=.slice s.c.A s.c.n s.c.c) rfl).1,(B7.at_ (k:=3) (v:=.slice s.m.A s.m.n s.m.c) rfl).1,(B7.at_ (k:=4) (v:=.slice s.t.A s.t.n s.t.c) rfl).1,(B7.at_ (k:=5) (v:=.int .i64 s.stop) rfl).1⟩ (λ hS=>?_);clear hK K
         try simp only [pL]
         refine wR2 2 7 (λ K hK=>?_) (λ K hK=>?_)
         . skip
           have cZ:=hid (Go_is (c:=20001) hM (hg.gr (G4w.out.trans ((zr wr).al (.cells MM 3)).dr)) (WK4.out.gr ((zr wr).al (.cells MM 3)).dr) ((HMI.out wr _ rfl).gr (zr _).dr));go_simp;go_at_call 28;refine cZ.out.mono ?_;rintro ee w5 ⟨⟨s5,ψ5,A5,n5,c5,R5,x5,rfl,hR5,-,-,-⟩,g5⟩;obtain rfl:x5=2:=by
            rcases hR5 with ⟨_,_,_,q⟩ | ⟨q,_⟩ | ⟨q,_⟩
            . exact q
            . have:=HLL.out;omega
            . have:=HLL.out;omega
           clear hR5 cZ;have gz:=g5;replace g5:=((zr wr).al (.cells MM 3)).dr.trans g5;go_wp2_with fail;have B7:=BK4.out.gr g5;refine hK.out _ _ ⟨(B7.at_ (k:=0) (v:=.int .i64 s.now) rfl).1,(B7.at_ (k:=1) (v:=.slice s.p.A s.p.n s.p.c) rfl).1,(B7.at_ (k:=2) (v:=.slice s.c.A s.c.n s.c.c) rfl).1,(B7.at_ (k:=3) (v:=.slice s.m.A s.m.n s.m.c) rfl).1,(B7.at_ (k:=4) (v:=.slice s.t.A s.t.n s.t.c) rfl).1,(B7.at_ (k:=5) (v:=.int .i64 s.stop) rfl).1⟩ (λ hS=>?_);clear hK K
           try simp only [pL]
           refine wG 3 hS ?_;refine wG 4 hS ?_;refine wG 5 hS ?_;refine wG 6 hS ?_;refine wR1 7 (λ K hK=>?_);go_simp;have B7:=BK4.out.gr (g5.al (.cells #[.int .i64 0,.slice none 0 0,.slice none 0 0,.slice none 0 0,.slice none 0 0,.int .i64 0] 29));refine hK.out _ _ ⟨(B7.at_ (k:=0) (v:=.int .i64 s.now) rfl).1,(B7.at_ (k:=1) (v:=.slice s.p.A s.p.n s.p.c) rfl).1,(B7.at_ (k:=2) (v:=.slice s.c.A s.c.n s.c.c) rfl).1,(B7.at_ (k:=3) (v:=.slice s.m.A s.m.n s.m.c) rfl).1,(B7.at_ (k:=4) (v:=.slice s.t.A s.t.n s.t.c) rfl).1,(B7.at_ (k:=5) (v:=.int .i64 s.stop) rfl).1⟩ (λ hS=>?_);clear hK K
           try simp only [pL]
           refine wR1 8 (λ K hK=>?_);go_simp;have B8:=BK4.out.gr (g5.al (.cells s5.a 29));refine hK.out _ _ ⟨(B8.at_ (k:=0) (v:=.int .i64 s.now) rfl).1,(B8.at_ (k:=1) (v:=.slice s.p.A s.p.n s.p.c) rfl).1,(B8.at_ (k:=2) (v:=.slice s.c.A s.c.n s.c.c) rfl).1,(B8.at_ (k:=3) (v:=.slice s.m.A s.m.n s.m.c) rfl).1,(B8.at_ (k:=4) (v:=.slice s.t.A s.t.n s.t.c) rfl).1,(B8.at_ (k:=5) (v:=.int .i64 s.stop) rfl).1⟩ (λ hS=>?_);clear hK K
           try simp only [pL]
           refine wG 9 hS ?_;refine wG 10 hS ?_;refine wpAnyH_done (by kernel_rfl) ?_ _;have HG5:=hid (g5.al (.cells s5.a 29));clear hS B8;go_wp2_with fail;go_meet;exact⟨rfl,HG5⟩
         . skip
           go_simp;have B7:=BK4.out.gr (((zr wr).al (.cells MM 3)).al (.cells #[.int .i64 0,.slice none 0 0,.slice none 0 0,.slice none 0 0,.slice none 0 0,.int .i64 0] 29)).dr;refine hK.out _ _ ⟨(B7.at_ (k:=0) (v:=.int .i64 s.now) rfl).1,(B7.at_ (k:=1) (v:=.slice s.p.A s.p.n s.p.c) rfl).1,(B7.at_ (k:=2) (v:=.slice s.c.A s.c.n s.c.c) rfl).1,(B7.at_ (k:=3) (v:=.slice s.m.A s.m.n s.m.c) rfl).1,(B7.at_ (k:=4) (v:=.slice s.t.A s.t.n s.t.c) rfl).1,(B7.at_ (k:=5) (v:=.int .i64 s.stop) rfl).1⟩ (λ hS=>?_);clear hK K
           try simp only [pL]
           refine wR1 2 (λ K hK=>?_);have cZ:=hid (Go_is (c:=20001) hM (hg.gr (G4w.out.trans (((zr wr).al (.cells MM 3)).al (.cells #[.int .i64 0,.slice none 0 0,.slice none 0 0,.slice none 0 0,.slice none 0 0,.int .i64 0] 29)).dr)) (WK4.out.gr (((zr wr).al (.cells MM 3)).al (.cells #[.int .i64 0,.slice none 0 0,.slice none 0 0,.slice none 0 0,.slice none 0 0,.int .i64 0] 29)).dr) (((HMI.out wr _ rfl).gr ((zr _).al (.cells #[.int .i64 0,.slice none 0 0,.slice none 0 0,.slice none 0 0,.slice none 0 0,.int .i64 0] 29))).gr (zr _).dr));go_simp;go_at_call 28;refine cZ.out.mono ?_;rintro ee w5 ⟨⟨s5,ψ5,A5,n5,c5,R5,x5,rfl,hR5,-,-,-⟩,g5⟩;obtain rfl:x5=2:=by
            rcases hR5 with ⟨_,_,_,q⟩ | ⟨q,_⟩ | ⟨q,_⟩
            . exact q
            . have:=HLL.out;omega
            . have:=HLL.out;omega
           clear hR5 cZ;have gz:=g5;replace g5:=(((zr wr).al (.cells MM 3)).al (.cells #[.int .i64 0,.slice none 0 0,.slice none 0 0,.slice none 0 0,.slice none 0 0,.int .i64 0] 29)).dr.trans g5;go_wp2_with fail;have B7:=BK4.out.gr g5;refine hK.out _ _ ⟨(B7.at_ (k:=0) (v:=.int .i64 s.now) rfl).1,(B7.at_ (k:=1) (v:=.slice s.p.A s.p.n s.p.c) rfl).1,(B7.at_ (k:=2) (v:=.slice s.c.A s.c.n s.c.c) rfl).1,(B7.at_ (k:=3) (v:=.slice s.m.A s.m.n s.m.c) rfl).1,(B7.at_ (k:=4) (v:=.slice s.t.A s.t.n s.t.c) rfl).1,(B7.at_ (k:=5) (v:=.int .i64 s.stop) rfl).1⟩ (λ hS=>?_);clear hK K
           try simp only [pL]
           refine wG 3 hS ?_;refine wG 4 hS ?_;refine wG 5 hS ?_;refine wG 6 hS ?_;refine wR1 8 (λ K hK=>?_);have BZ:=(Blk.new (wr.alloc (.cells MM 3)) #[.int .i64 0,.slice none 0 0,.slice none 0 0,.slice none 0 0,.slice none 0 0,.int .i64 0] 29).gr ((zr _).dr.trans gz);rw [zsA] at BZ;have ltz:=BZ.lt;obtain⟨⟨z0,zz0⟩,⟨z1,zz1⟩,⟨z2,zz2⟩,⟨z3,zz3⟩,⟨z4,zz4⟩,⟨z5,zz5⟩⟩:=at6z BZ;go_simp;clear z0 zz0 z1 zz1 z2 zz2 z3 zz3 z4 zz4 z5 zz5 ltz;have B8:=blk_off (BK4.out.gr g5) (off6 (S:=λ k=>k=(wr.heap.size+1)) rfl (.int .i64 s5.now) (.slice s5.p.A s5.p.n s5.p.c) (.slice s5.c.A s5.c.n s5.c.c) (.slice s5.m.A s5.m.n s5.m.c) (.slice s5.t.A s5.t.n s5.t.c) (.int .i64 s5.stop)) (λ e=>by have:=BK4.out.lt;omega);refine hK.out _ _ ⟨(B8.at_ (k:=0) (v:=.int .i64 s.now) rfl).1,(B8.at_ (k:=1) (v:=.slice s.p.A s.p.n s.p.c) rfl).1,(B8.at_ (k:=2) (v:=.slice s.c.A s.c.n s.c.c) rfl).1,(B8.at_ (k:=3) (v:=.slice s.m.A s.m.n s.m.c) rfl).1,(B8.at_ (k:=4) (v:=.slice s.t.A s.t.n s.t.c) rfl).1,(B8.at_ (k:=5) (v:=.int .i64 s.stop) rfl).1⟩ (λ hS=>?_);clear hK K
           try simp only [pL]
           refine wG 9 hS ?_;refine wG 10 hS ?_;refine wpAnyH_done (by kernel_rfl) ?_ _;have HG5:=hid (put6_gr (x0:=.int .i64 s5.now) (x1:=.slice s5.p.A s5.p.n s5.p.c) (x2:=.slice s5.c.A s5.c.n s5.c.c) (x3:=.slice s5.m.A s5.m.n s5.m.c) (x4:=.slice s5.t.A s5.t.n s5.t.c) (x5:=.int .i64 s5.stop) (b:=wr.heap.size+1) g5 (by omega));clear hS B8;go_wp2_with fail;go_meet;exact⟨rfl,HG5⟩
       . skip
         go_simp;have B7:=BK4.out.gr ((zr wr).al (.cells #[.int .i64 0,.slice none 0 0,.slice none 0 0,.slice none 0 0,.slice none 0 0,.int .i64 0] 29)).dr;refine hK.out _ _ ⟨(B7.at_ (k:=0) (v:=.int .i64 s.now) rfl).1,(B7.at_ (k:=1) (v:=.slice s.p.A s.p.n s.p.c) rfl).1,(B7.at_ (k:=2) (v:=.slice s.c.A s.c.n s.c.c) rfl).1,(B7.at_ (k:=3) (v:=.slice s.m.A s.m.n s.m.c) rfl).1,(B7.at_ (k:=4) (v:=.slice s.t.A s.t.n s.t.c) rfl).1,(B7.at_ (k:=5) (v:=.int .i64 s.stop) rfl).1⟩ (λ hS=>?_);clear hK K
         try simp only [pL]
         refine wR1 1 (λ K hK=>?_);go_simp;have B7:=BK4.out.gr (((zr wr).al (.cells #[.int .i64 0,.slice none 0 0,.slice none 0 0,.slice none 0 0,.slice none 0 0,.int .i64 0] 29)).al (.cells MM 3)).dr;refine hK.out _ _ ⟨(B7.at_ (k:=0) (v:=.int .i64 s.now) rfl).1,(B7.at_ (k:=1) (v:=.slice s.p.A s.p.n s.p.c) rfl).1,(B7.at_ (k:=2) (v:=.slice s.c.A s.c.n s.c.c) rfl).1,(B7.at_ (k:=3) (v:=.slice s.m.A s.m.n s.m.c) rfl).1,(B7.at_ (k:=4) (v:=.slice s.t.A s.t.n s.t.c) rfl).1,(B7.at_ (k:=5) (v:=.int .i64 s.stop) rfl).1⟩ (λ hS=>?_);clear hK K
         try simp only [pL]
         refine wR1 2 (λ K hK=>?_);have cZ:=hid (Go_is (c:=20001) hM (hg.gr (G4w.out.trans (((zr wr).al (.cells #[.int .i64 0,.slice none 0 0,.slice none 0 0,.slice none 0 0,.slice none 0 0,.int .i64 0] 29)).al (.cells MM 3)).dr)) (WK4.out.gr (((zr wr).al (.cells #[.int .i64 0,.slice none 0 0,.slice none 0 0,.slice none 0 0,.slice none 0 0,.int .i64 0] 29)).al (.cells MM 3)).dr) ((HMI.out (wr.alloc (.cells #[.int .i64 0,.slice none 0 0,.slice none 0 0,.slice none 0 0,.slice none 0 0,.int .i64 0] 29)) _ (zsA _ _)).gr (zr _).dr));go_simp;go_at_call 28;refine cZ.out.mono ?_;rintro ee w5 ⟨⟨s5,ψ5,A5,n5,c5,R5,x5,rfl,hR5,-,-,-⟩,g5⟩;obtain rfl:x5=2:=by
          rcases hR5 with ⟨_,_,_,q⟩ | ⟨q,_⟩ | ⟨q,_⟩
          . exact q
          . have:=HLL.out;omega
          . have:=HLL.out;omega
         clear hR5 cZ;have gz:=g5;replace g5:=(((zr wr).al (.cells #[.int .i64 0,.slice none 0 0,.slice none 0 0,.slice none 0 0,.slice none 0 0,.int .i64 0] 29)).al (.cells MM 3)).dr.trans g5;go_wp2_with fail;have B7:=BK4.out.gr g5;refine hK.out _ _ ⟨(B7.at_ (k:=0) (v:=.int .i64 s.now) rfl).1,(B7.at_ (k:=1) (v:=.slice s.p.A s.p.n s.p.c) rfl).1,(B7.at_ (k:=2) (v:=.slice s.c.A s.c.n s.c.c) rfl).1,(B7.at_ (k:=3) (v:=.slice s.m.A s.m.n s.m.c) rfl).1,(B7.at_ (k:=4) (v:=.slice s.t.A s.t.n s.t.c) rfl).1,(B7.at_ (k:=5) (v:=.int .i64 s.stop) rfl).1⟩ (λ hS=>?_);clear hK K
         try simp only [pL]
         refine wG 3 hS ?_;refine wG 4 hS ?_;refine wG 5 hS ?_;refine wG 6 hS ?_;refine wR1 8 (λ K hK=>?_);have BZ:=(Blk.new wr #[.int .i64 0,.slice none 0 0,.slice none 0 0,.slice none 0 0,.slice none 0 0,.int .i64 0] 29).gr (((zr _).al (.cells MM 3)).dr.trans gz);have ltz:=BZ.lt;obtain⟨⟨z0,zz0⟩,⟨z1,zz1⟩,⟨z2,zz2⟩,⟨z3,zz3⟩,⟨z4,zz4⟩,⟨z5,zz5⟩⟩:=at6z BZ;go_simp;clear z0 zz0 z1 zz1 z2 zz2 z3 zz3 z4 zz4 z5 zz5 ltz;have B8:=blk_off (BK4.out.gr g5) (off6 (S:=λ k=>k=wr.heap.size) rfl (.int .i64 s5.now) (.slice s5.p.A s5.p.n s5.p.c) (.slice s5.c.A s5.c.n s5.c.c) (.slice s5.m.A s5.m.n s5.m.c) (.slice s5.t.A s5.t.n s5.t.c) (.int .i64 s5.stop)) (λ e=>by have:=BK4.out.lt;omega);refine hK.out _ _ ⟨(B8.at_ (k:=0) (v:=.int .i64 s.now) rfl).1,(B8.at_ (k:=1) (v:=.slice s.p.A s.p.n s.p.c) rfl).1,(B8.at_ (k:=2) (v:=.slice s.c.A s.c.n s.c.c) rfl).1,(B8.at_ (k:=3) (v:=.slice s.m.A s.m.n s.m.c) rfl).1,(B8.at_ (k:=4) (v:=.slice s.t.A s.t.n s.t.c) rfl).1,(B8.at_ (k:=5) (v:=.int .i64 s.stop) rfl).1⟩ (λ hS=>?_);clear hK K
         try simp only [pL]
         refine wG 9 hS ?_;refine wG 10 hS ?_;refine wpAnyH_done (by kernel_rfl) ?_ _;have HG5:=hid (put6_gr (x0:=.int .i64 s5.now) (x1:=.slice s5.p.A s5.p.n s5.p.c) (x2:=.slice s5.c.A s5.c.n s5.c.c) (x3:=.slice s5.m.A s5.m.n s5.m.c) (x4:=.slice s5.t.A s5.t.n s5.t.c) (x5:=.int .i64 s5.stop) (b:=wr.heap.size) g5 (by omega));clear hS B8;go_wp2_with fail;go_meet;exact⟨rfl,HG5⟩
      obtain⟨rfl,HG5⟩:=hcut;have BK5:=hid (BK4.out.gr HG5.out);have WK5:=hid (WK4.out.gr HG5.out);have HM5:=hid (HM4.out.gr HG5.out);have HK5:=hid (own_off HK4.out (Off.gr (S:=λ _=>False) HG5.out) (λ _ _ h=>h));have HF5:=hid (own_off HF4.out (Off.gr (S:=λ _=>False) HG5.out) (λ _ _ h=>h));have HB5:=hid (HB4.out.gr HG5.out);have W5:=hid (W4.out.gr HG5.out);have G5:=hid (G4w.out.trans HG5.out);have HP5:=hid (HP4.out.gr HG5.out);clear BK4 WK4 HM4 HK4 HF4 HB4 W4 G4w HP4 HG5;have cP2:=hid (Play_is (c:=20001) (d:=d') hM (hg.gr (G5.out.al (.cells MM 3))) (HP5.out.gr ((zr wc).al (.cells MM 3))) (show m'<=9223372036854775807 by omega) (HMI.out wc _ rfl));go_wp2_with fail;refine cP2.out.mono ?_;rintro ee w6 ⟨⟨s6,ψ6,A6,n6,c6,H6,x6,rfl,hR6,-,-,-⟩,g6⟩;obtain rfl:x6=2:=by
       rcases hR6 with ⟨_,_,_,q⟩ | ⟨q,_⟩ | ⟨q,_⟩
       . exact q
       . have:=HLL.out;omega
       . have:=HLL.out;omega
      have g7:=(((zr wc).al (.cells MM 3)).trans g6).al (.cells s6.a 29);clear hR6 cP2 g6 hmk;go_upto_region 15 with fail;generalize w6.alloc (.cells s6.a 29)=V7 at g7 ⊢;have BK7:=hid (BK5.out.gr g7);have WK7:=hid (WK5.out.gr g7);have HM7:=hid (HM5.out.gr g7);have HK7:=hid (own_off HK5.out (Off.gr (S:=λ _=>False) g7) (λ _ _ h=>h));have HF7:=hid (own_off HF5.out (Off.gr (S:=λ _=>False) g7) (λ _ _ h=>h));have HB7:=hid (HB5.out.gr g7);have W7:=hid (W5.out.gr g7);have G7:=hid (G5.out.trans g7);clear BK5 WK5 HM5 HK5 HF5 HB5 W5 G5 HP5 g7;have cA:=hid (alive17_is (w:=V7) hM (hg.gr G7.out));go_wp2_with fail;refine cA.out.mono ?_;rintro ee w8 ⟨rfl,g8⟩;have e0:List.map P13.rd l=List.map P13.rd (l.take J)++List.map P13.rd (l.drop J):=by rw [<- List.map_append,List.take_append_drop]
      have hjoin:=HGF.out.join HGW3.out;rw [<- e0,List.length_map,hlK] at hjoin;obtain⟨e1,e2⟩:=GoW.one HGW.out hjoin;have E1:=hid e1;have E2:=hid e2;have hFl:=GoW.few HGF.out;rw [List.length_map,hlK] at hFl;have HFL:=hid hFl;clear e0 hjoin e1 e2 hFl;have BK8:=BK7.out.gr g8;have HB8:=HB7.out.gr g8;have cE:=hid (rWSame_is (WK7.out.gr g8) (W7.out.gr g8) (v:=true) (by simp [E1.out]));have HM8:=hid (HM7.out.gr g8);have HK8:=hid (own_off HK7.out (Off.gr (S:=λ _=>False) g8) (λ _ _ h=>h));have HF8:=hid (own_off HF7.out (Off.gr (S:=λ _=>False) g8) (λ _ _ h=>h));have G8:=hid (G7.out.trans g8);have ltk:=BK8.lt;have ltb:=HB8.lt;obtain⟨b0,b1,b2,b3,b4,b5⟩:=at6 BK8;obtain⟨d0,d1,d2,d3,d4,d5⟩:=at6 HB8;clear BK8 HB8 BK7 HB7 WK7 W7 HM7 HK7 HF7 G7 g8 cA;go_wp2_with fail;refine cE.out.mono ?_;rintro ee w9 ⟨rfl,g9⟩;have HM9:=hid (HM8.out.gr g9);have HK9:=hid (own_off HK8.out (Off.gr (S:=λ _=>False) g9) (λ _ _ h=>h));have HF9:=hid (own_off HF8.out (Off.gr (S:=λ _=>False) g9) (λ _ _ h=>h));have G9:=hid (G8.out.trans g9);have HBS:=hid (show V2.heap.size<=w9.heap.size from by have:=g9.size;omega);clear b0 b1 b2 b3 b4 b5 d0 d1 d2 d3 d4 d5 ltk ltb cE HM8 HK8 HF8 G8 g9;go_wp2_with (at_builtin;refine wpList_append_hmW (by rfl) (.tmp 133) (.tmp 134) rfl rfl rfl HF9.out HM9.out (by have:=HFL.out;omega) HBS.out ?_);intro v' w10 hO hgr;obtain⟨A',c',rfl⟩:=hown_slice hO;have hlen:(F++later J R3).length=n1:=by rw [<- E2.out];exact HN1.out
      rw [<- E2.out] at hO;have hS2:HMem w10 A' n1 H1:=by
       have h:=hown_is hO rfl;rw [HN1.out] at h;exact h
      have hS1:=hown_is (World.ownsRow.kept HK9.out hgr (by
       cases hq:(Value.slice A1 n1 c1).ownBlock with
       | none=>exact .inl rfl
       | some z =>
        refine .inr λ e=>?_
        have h1:=(hlt1 z hq).2;have h2:=(hlt2 z e.symm).1;omega)) HN1.out
      have hn16:n1<=600:=by have h1:=GoW.few HGW.out;have h2:=HN1.out;rw [List.length_map] at h1;omega
      have G10:=hid (G9.out.gb hgr (λ z hz=>by have h1:=(hlt2 z hz).1;have h2:=G2.out.size;omega));have cS:=hid (rSame17_is (c:=c1) (d:=c') hS1 hS2 (by omega));rw [hlen];clear hO hgr hS1 hS2 hlen;go_wp2_with fail;refine cS.out.mono ?_;rintro ee w11 ⟨rfl,g11⟩;have G11:=hid (G10.out.trans g11);clear g11 cS;go_wp2_with fail;go_ret;exact⟨rfl,G11.out⟩
end
end P17
end
section
namespace P15
def laidL : List (String × DataW Unit) := [("deadbolt/give.states", Rows.laid_deadbolt_give_states)]
theorem laidL_shaped (os:Os) (args:Array Value):((World.laidAll prog os laidL).forCall (λ _ _=>0) ⟨#[],args,[]⟩).Shaped prog :=
 World.shaped_of_ZipB (by kernel_rfl) (by kernel_rfl)
theorem laidL_met (os:Os) (args:Array Value):laidMetH prog laidL ((World.laidAll prog os laidL).forCall (λ _ _=>0) ⟨#[],args,[]⟩).memory:=by
 rw [MakeChecks.laidMetH_plain _ _ _ (by kernel_rfl)];exact laidMet_laidAll _ (by kernel_rfl) (by kernel_rfl)
section
variable {W:World}
theorem metL (h:laidMetH prog laidL W):laidMet prog laidL W:=by
 rwa [MakeChecks.laidMetH_plain _ _ _ (by kernel_rfl)] at h
theorem states_of {rest : List (String × DataW Unit)} (h : laidMet prog (("deadbolt/give.states", Rows.laid_deadbolt_give_states) :: rest) W) : Glob W := by
 obtain ⟨ps, ⟨g, t, cs, fuel, p, q, hg, ht, hv, hd, _, _⟩, _⟩ := h;obtain rfl := Option.some.inj ((show prog.globalNamed "deadbolt/give.states" = some 0 by kernel_rfl).symm.trans hg)
 obtain rfl:=Option.some.inj ((show (prog.globals[0]?).map (·.type)=some 263 by kernel_rfl).symm.trans ht);obtain⟨xs,m,_,ex,hcl,hl,hel⟩:=DataW.trod_array underlying263 hd;have c1:prog.cellsOf 3=1:=by kernel_rfl
 have c8:prog.cellsOf 263=8:=by kernel_rfl
 rw [c8] at hcl;rw [c1] at hel;have e3:xs.map (·.1)=[.lit (.int .i64 0),.lit (.int .i64 3),.lit (.int .i64 1),.lit (.int .i64 3),.lit (.int .i64 2),.lit (.int .i64 3),.lit (.int .i64 2),.lit (.int .i64 3)]:=(DataW.agg.inj (Prod.mk.inj ex).1).symm;have each:∀ i (z:Int),i<8->(xs.map (·.1))[i]?=some (.lit (.int .i64 z))->cs.toList[i]?=some (.int .i64 z):=by
  intro i z hi hb;have hE:=hel i hi;rw [zge (by omega)] at hE;obtain⟨s,e1,e2,_⟩:=DataW.trod_int underlying3 hE;rw [List.getElem?_map,zge (by omega:i<xs.length),e2] at hb;simp only [Option.map_some,Option.some.injEq,DataW.lit.injEq,Lit.int.injEq,true_and] at hb;rw [<- hb];have h0:((cs.toList.drop (i*1)).take 1)[0]?=some (.int .i64 s):=by rw [e1];rfl
  simpa using h0
 unfold Glob;rw [hv];refine congrArg some (Array.ext' (List.ext_getElem? λ i=>?_))
 match i with
 | 0=>exact each 0 _ (by omega) (by rw [e3];rfl)
 | 1=>exact each 1 _ (by omega) (by rw [e3];rfl)
 | 2=>exact each 2 _ (by omega) (by rw [e3];rfl)
 | 3=>exact each 3 _ (by omega) (by rw [e3];rfl)
 | 4=>exact each 4 _ (by omega) (by rw [e3];rfl)
 | 5=>exact each 5 _ (by omega) (by rw [e3];rfl)
 | 6=>exact each 6 _ (by omega) (by rw [e3];rfl)
 | 7=>exact each 7 _ (by omega) (by rw [e3];rfl)
 | n+8 =>
  rw [List.getElem?_eq_none (by omega),List.getElem?_eq_none (by simp)]
theorem globL (h:laidMetH prog laidL W) (hs:W.ShapedOpen prog):Glob W:=states_of (metL h)
end
end P15
end
namespace P16
abbrev laidL:=P15.laidL
theorem laidL_shaped (os:Os) (args:Array Value):((World.laidAll prog os laidL).forCall (λ _ _=>0) ⟨#[],args,[]⟩).Shaped prog:=P15.laidL_shaped os args
theorem laidL_met (os:Os) (args:Array Value):laidMetH prog laidL ((World.laidAll prog os laidL).forCall (λ _ _=>0) ⟨#[],args,[]⟩).memory:=P15.laidL_met os args
theorem globL {W:World} (h:laidMetH prog laidL W) (hs:W.ShapedOpen prog):P15.Glob W:=P15.globL h hs
end P16
theorem RunParts_lifted (os:Os) (started:os.Started) (H:Type) (enc:TypeId×Value->H) :
 ReturnsInHanded {} Tryz.checked os 9 .any (λ w args=>(Rows.runPartsSpec.pre enc prog Tryz.f9 Rows.runPartsRow.domain false w args/\laidMetH prog P16.laidL w)/\sizedMet enc prog Tryz.f9 (OpenSpec.ofChange Rows.runPartsSpec) false w args)
  (Rows.runPartsSpec.post enc prog Tryz.f9 false true false false):=by
 refine LW.returns_laid_shaped (C:=Tryz.checked) (X:=λ w _=>laidMetH prog P16.laidL w) (λ _ _ _ hh h=>laidMetH.of_heap hh h) own started (by kernel_rfl) func9
  (ChangeSpec.witness_shaped (enc:=enc) (C:=Tryz.checked) (os:=os) (X:=λ w _=>laidMetH prog P16.laidL w) false (World.laidAll prog os P16.laidL) #[.slice none 0 0,.slice none 0 0,.int .i64 0] 8 (World.laidAll_os _ _ _) (P16.laidL_shaped os _) (by kernel_rfl) (by kernel_rfl) (by kernel_rfl) (P16.laidL_met os _)) ?_
 intro W base args ds gs before hval0 hW hL hS;have hval:∀ (j:Nat) t v,Tryz.f9.params[j]?=some t->args[j]?=some v->Value.okWide prog W .any base t v:=hval0;have hW':=hW;obtain⟨p,q,hA0,hV,rfl,hfz,hnd⟩:=hW;have hA:DataW.TrodAll enc prog W 0 (λ _=>true) true Tryz.f9.params.toList args.toList ds p:=hA0;rw [Tryz.params9] at hA hval;have hK:=hA;obtain⟨v0,vs0,d0,ds0,p0,q0,hargs,rfl,hp,h0,r0⟩:=trodAll_cons hA;obtain⟨v1,vs1,d1,ds1,p1,q1,rfl,rfl,rfl,h1,r1⟩:=trodAll_cons r0;obtain⟨v2,vs2,d2,ds2,p2,q2,rfl,rfl,rfl,h2,r2⟩:=trodAll_cons r1;obtain⟨rfl,rfl,rfl⟩:=trodAll_nil r2;obtain rfl:args=#[v0,v1,v2]:=by cases args;simp_all
 obtain⟨rfl,rfl⟩:=trodVars_none hV;obtain⟨A0,n0,c0,R0,rfl,hc0,hn0,hm0⟩:=P12.open_acts2 (hval 0 22 v0 rfl rfl) h0;obtain⟨A1,n1,c1,l1,rfl,hc1,hn1,hm1⟩:=open_ints (hval 1 23 v1 rfl rfl) h1;obtain⟨a2,rfl,rfl,rfl,w2⟩:=open_int underlying3 (hval 2 3 v2 rfl rfl) h2;clear hA0 hval0;refine (P17.RunParts_walk P16.mach (P16.globL hL hS) hc0 hn0 hm0 hc1 hn1 hm1 (wfb w2)).mono λ e W' ⟨he,hg⟩=>?_
 subst he;exact⟨_,rfl,post_below (pa:=p) (pv:=[]) hW' (λ _ _ _=>(trodAll_cons_mk (shut_bool underlying4 _) trodAll_mk0))
  (λ sp hs=>trodAll_stays laidOut hg sp (by kernel_rfl) hK (λ x hx=>hW'.lt x (List.mem_append_left _ hx)) (λ x hx=>hs x (List.mem_append_left _ hx))) (λ _ _=>rfl) rfl
  hg (ok_one (by kernel_rfl) rfl (okWide_bool_mk underlying4 _))⟩
theorem RunParts_closed:joinedFacts Tryz.pinned.checked.prog 9 Tryz.f9 Rows.runPartsSpec Rows.runPartsRow=true:=by kernel_rfl
theorem RunParts_over:Rows.runPartsRow.holds Tryz.pinned (OpenSpec.ofChange Rows.runPartsSpec) :=
 OpenClaim.holds_of_wide 9 Tryz.f9 rfl rfl rfl rfl rfl rfl rfl ⟨rfl,rfl,rfl,rfl,rfl⟩ rfl rfl rfl rfl rfl (by kernel_rfl) func9 RunParts_closed
  (of_decide_eq_true (by kernel_rfl)) (by unfold Func.isWrapper;first | (rw [if_pos (by decide +kernel)];kernel_rfl) | (rw [if_neg (by decide +kernel)];exact⟨rfl,rfl⟩))
  (λ os started H enc _=>RunParts_lifted os started H enc)
theorem RunParts_card:Rows.RunPartsCardSaid :=
 Claim7.holds_tied_plain_at .later [] [.data] true _ true
  RunParts_over (λ _ h=>by cases h) (by kernel_rfl) (λ _ h=>by cases h) runParts_row_tie rfl ⟨rfl,rfl⟩ (by kernel_rfl) rfl
  (λ f fn hf hfn=>by
    obtain rfl : f = 9 := Option.some.inj ((show prog.funcNamed "deadbolt/deadboltlaw17.RunParts" = some 9 by kernel_rfl).symm.trans hf) |>.symm
    obtain rfl:fn=Tryz.f9:=(Option.some.inj (func9.symm.trans hfn)).symm;exact⟨by kernel_rfl,λ j t ht=>by
     rw [Tryz.params9] at ht;have hm:t∈[22,23,3]:=by
      have:=Array.mem_of_getElem? ht;simpa using this
     have hall:([22,23,3]:List TypeId).all (λ t=>prog.wantsStandIn t==false)=true:=by kernel_rfl
     have hw:=List.all_eq_true.1 hall t hm;exact beq_iff_eq.1 hw⟩)
  (by kernel_rfl)
#print axioms RunParts_card
end Go.Proofs.YtainfijdhcehlaaGreatDoor
