/-
  A part of the proof.
-/
import Derived.Test.YtainfijdhcehlaaGreatDoorRR5
import Derived.Deep.DeepCutAuto
set_option linter.unusedVariables false
set_option linter.unusedSimpArgs false
set_option maxRecDepth 100000
set_option maxHeartbeats 8000000
namespace Go.Proofs.YtainfijdhcehlaaGreatDoor
open Lib (hid)
section
open Go.ChangeShapes Go.WideShapes Go.ChangeAt Go.RowKit Go.Shelf
namespace P17
open P16
open P12 (badAt badAt_is ret_bool)
def okC (a:Cl):Bool:=a.gst==2
theorem undone_is {a:Cl} {B:Bool} (hf:okC a=B) (W:World) :
 Calls Tryz.prog 54 #[.agg #[.int .i64 a.gst,.bool a.permit,.int .i64 a.act,.int .i64 a.pc,.int .i64 a.worked,.int .i64 a.ticket,.bool a.first,.bool a.told,.int .i64 a.since,.bool a.st,.bool a.aw,.int .i64 a.rounds,.int .i64 a.old]] W λ e w'=>e=.returned (.bool (!B))/\Gr W w':=by
 have hb:(a.gst != 2)=!B:=by rw [<- hf];rfl
 go_enter Tryz.func54,Tryz.ntmps54;go_wp2_with fail;go_ret;exact⟨rfl,(Gr.refl W).al _⟩
theorem IndexFuncC_ok (A:Option Addr) (n c:Nat) (l:List Cl) (w:World) (hm:CMem w A n l) (hn:n<=9223372036854775807) :
 Calls Tryz.prog 80 #[.slice A n c,.func (.func 54) #[] #[]] w λ e w'=>e=.returned (.int .i64 (badAt okC l 0))/\Gr w w':=by
 go_enter Tryz.func80,Tryz.ntmps80;go_wp2_with fail
 go_loopw [8] (λ i wr=>∃ k:Nat,k<=n/\i=.int .i64 k/\Hid (badAt okC (l.drop k) k=badAt okC l 0)/\Gr w wr) (λ i _=>n-(intOf i).toNat)
 case atStart=>exact⟨0,Nat.zero_le _,rfl,hid rfl,Gr.refl _⟩
 case round =>
  obtain⟨k,hk,rfl,HB,hg⟩:=hrel;by_cases hlt:k<n
  . obtain⟨b,off,x,rfl,hbl,hx,-,c0,c1,c2,c3,c4,c5,c6,c7,c8,c9,c10,c11,c12⟩:=CMem.cells (RMem.gr hm hg) hlt
    have hd:l.drop k=x::l.drop (k+1):=by
     obtain⟨hl,rfl⟩:=List.getElem?_eq_some_iff.1 hx;exact List.drop_eq_getElem_cons hl
    cases hf:okC x
    . have hr:badAt okC l 0=(k:Int):=by rw [<- HB.out,hd];simp [badAt,hf]
      have HR:=hid hr;have cc:=λ w=>hid (undone_is hf w)
      clear hr hd hf hx HB hm;go_wp2_with fail;with_reducible refine (cc _).out.mono ?_
      rintro e w1 ⟨rfl,hb1⟩;go_wp2_with fail;go_ret;rw [HR.out];exact⟨rfl,hg.trans hb1⟩
    . have hr:Hid (badAt okC (l.drop (k+1)) (k+1)=badAt okC l 0):=hid (by rw [<- HB.out,hd];simp [badAt,hf])
      have cc:=λ w=>hid (undone_is hf w)
      clear hd hf hx HB hm;go_wp2_with fail;with_reducible refine (cc _).out.mono ?_
      rintro e w1 ⟨rfl,hb1⟩;go_wp2_with fail;go_roundw
      case rel=>exact⟨k+1,by omega,by go_num,hr,hg.trans hb1⟩
      case measure=>simp [intOf];omega
  . obtain rfl:k=n:=by omega
    have hr:badAt okC l 0=-1:=by rw [<- HB.out,List.drop_of_length_le (by have:=RMem.len hm;omega)];rfl
    have HR:=hid hr;clear hr HB hm;go_wp2_with fail;go_ret;rw [HR.out];exact⟨rfl,hg⟩
theorem ContainsFuncC_ok (A:Option Addr) (n c:Nat) (l:List Cl) (w:World) (hm:CMem w A n l) (hn:n<=9223372036854775807) :
 Calls Tryz.prog 53 #[.slice A n c,.func (.func 54) #[] #[]] w λ e w'=>e=.returned (.bool (!l.all okC))/\Gr w w':=by
 have cc:=λ w hm=>hid (IndexFuncC_ok A n c l w hm hn)
 have HB:=hid (badAt_is okC l 0);generalize badAt okC l 0=r at *;go_enter Tryz.func53,Tryz.ntmps53;go_wp2_with fail;with_reducible refine (cc _ hm).out.mono ?_
 rintro e w1 ⟨rfl,hb1⟩;go_wp2_with fail;go_ret;exact⟨ret_bool HB.out,hb1⟩
theorem Done_is {w:World} {r:WR} {ω:Wv} {v:Bool} (h:WIs w r ω) (hv:v=true↔RightW ω) :
 Calls Tryz.prog 32 #[r.v] w λ e w'=>e=.returned (.tuple #[.bool (v&&ω.cl.all okC),.int .i64 (if v=true then 0 else 1)])/\Gr w w':=by
 have cR:=λ W (g:Gr w W)=>hid (P16.Right_is (W:=W) (h.gr g) (v:=v) hv)
 have cC:=λ W (g:Gr w W)=>hid (ContainsFuncC_ok r.c.A r.c.n r.c.c ω.cl W (h.c.gr g) h.oc.lt)
 clear hv;have BW:=Blk.new w r.a 29;have G0:=hid ((Gr.refl w).al (.cells r.a 29));go_enter Tryz.func32,Tryz.ntmps32;go_upto_region 1 with fail;generalize w.alloc (.cells r.a 29)=V at BW G0 ⊢;have ltw:=BW.lt;obtain⟨b0,bz0⟩:=BW.at_ (k:=0) (v:=.int .i64 r.now) rfl;obtain⟨b1,bz1⟩:=BW.at_ (k:=1) (v:=.slice r.p.A r.p.n r.p.c) rfl;obtain⟨b2,bz2⟩:=BW.at_ (k:=2) (v:=.slice r.c.A r.c.n r.c.c) rfl;obtain⟨b3,bz3⟩:=BW.at_ (k:=3) (v:=.slice r.m.A r.m.n r.m.c) rfl;obtain⟨b4,bz4⟩:=BW.at_ (k:=4) (v:=.slice r.t.A r.t.n r.t.c) rfl;obtain⟨b5,bz5⟩:=BW.at_ (k:=5) (v:=.int .i64 r.stop) rfl;replace cR:=cR V G0.out;go_wp2_with fail;with_reducible refine cR.out.mono ?_
 rintro e w1 ⟨rfl,g1⟩;replace BW:=BW.gr g1;have G1:=hid (G0.out.trans g1);clear b0 bz0 b1 bz1 b2 bz2 b3 bz3 b4 bz4 b5 bz5 ltw cR g1;have ltw:=BW.lt;obtain⟨b2,bz2⟩:=BW.at_ (k:=2) (v:=.slice r.c.A r.c.n r.c.c) rfl;replace cC:=cC w1 G1.out
 cases v with
 | false =>
  clear cC;go_wp2_with fail;go_ret2;exact⟨rfl,G1.out⟩
 | true =>
  go_wp2_with fail;with_reducible refine cC.out.mono ?_
  rintro e w2 ⟨rfl,g2⟩;go_wp2_with fail;go_ret2;exact⟨by simp,G1.out.trans g2⟩
end P17
end
section
open Go.ChangeShapes Go.WideShapes Go.ChangeAt Go.RowKit
namespace P17
open P16
open P12 (PV PMem POwn pl fewP cutV cutV_ok take_snoc pmem_one wpList_append_progs Ac)
section
theorem few17_is {w:World} {A:Option Addr} {n c:Nat} {L:List PV} (hm:PMem w A n L) (hc:n<=c) (hn:n<=9223372036854775807) :
 Calls Tryz.prog 25 #[.slice A n c] w λ e w'=>(∃ B m d R,e=.returned (.slice B m d)/\R=(L.take 10).map cutV/\pl R=fewP (pl L)/\m<=10/\POwn w' w.heap.size 0 B m d R)/\Gr w w':=by
 have hlen:=hm.len;obtain⟨N,hN⟩:∃ N:Nat,(if (10:Int)<(n:Int) then (10:Int) else (n:Int))=(N:Int)/\N<=n/\N<=10/\L.take 10=L.take N:=by
  by_cases h:10<n
  . exact⟨10,by rw [if_pos (by omega)];rfl,by omega,by omega,rfl⟩
  . exact⟨n,by rw [if_neg (by omega)],by omega,by omega,by rw [List.take_of_length_le (by omega),List.take_of_length_le (by omega)]⟩
 obtain⟨hN,hNn,hN10,htk⟩:=hN;have hNm:min (n:Int) 10=(N:Int):=by rw [<- hN];split<;>omega
 have HM:=hid hm;have HTK:=hid htk;have h0:(0:Int)<=(N:Int):=by omega
 have h1:(N:Int)<=(c:Int):=by omega
 clear hm htk;go_enter Tryz.func25,Tryz.ntmps25;go_wp2_with fail
 go_loopw [3,12] (λ O i wr=>∃ (k:Nat) (B:Option Addr) (d:Nat),k<=N/\i=.int .i64 (k:Int)/\O=.slice B k d/\Hid (POwn wr w.heap.size 0 B k d ((L.take k).map cutV))/\Hid (Gr w wr)) (λ _ i _=>N-(intOf i).toNat)
 case atStart=>exact⟨0,none,0,Nat.zero_le _,rfl,rfl,hid POwn.nil,hid (Gr.refl _)⟩
 case round =>
  obtain⟨k,B,d,hk,rfl,rfl,HR,HG⟩:=hrel;by_cases hlt:k<N
  . obtain⟨b,off,x,rfl,hbl,hx,hok,d0⟩:=(HM.out.gr HG.out).at_ (show k<n by omega)
    have hxold:x.ok w:=HM.out.2 x (List.mem_of_getElem? hx);have HX:=hid (show (L.take (k+1)).map cutV=(L.take k).map cutV++[cutV x] from by rw [take_snoc hx,List.map_append];rfl);have k0:(0:Int)<=(k:Int):=by omega
    have k1:(k:Int)<(N:Int):=by omega
    obtain⟨q,hq⟩:∃ q,(if 70<x.n then 70 else x.n)=q:=⟨_,rfl⟩;have hqi:(if (70:Int)<(x.n:Int) then (70:Int) else (x.n:Int))=(q:Int):=by rw [<- hq];split<;>split<;>omega
    have hqm:min (x.n:Int) 70=(q:Int):=by rw [<- hqi];split<;>omega
    have q0:(0:Int)<=(q:Int):=by omega
    have q1:(q:Int)<=(x.c:Int):=by have:=hok.2.1;rw [<- hq];split<;>omega
    have hcv:cutV x=⟨x.A,q,x.c,x.l.take 70⟩:=by unfold cutV;rw [hq]
    have g1:=(Gr.refl wr).al (.cells #[.slice x.A q x.c] 64);have hcok:(cutV x).ok (wr.alloc (.cells #[.slice x.A q x.c] 64)):=(cutV_ok hok).gr g1;have HPM:=hid (pmem_one (x:=cutV x) (by rw [hcv];exact Blk.new wr #[.slice x.A q x.c] 64) hcok);have HOW:=hid (HR.out.gr g1);have hlate:=HR.out.late;have hws:=HG.out.size;have HOFF:Hid (∀ z∈[cutV x],0<z.n->∀ j,z.A.map (·.block)=some j->0<=j/\j<(wr.alloc (.cells #[.slice x.A q x.c] 64)).heap.size/\B.map (·.block)≠some j):=hid λ z hz hz0 j hj=>by
     rw [List.mem_singleton] at hz;subst hz;obtain⟨b',off',e,hb',_⟩:=(cutV_ok hxold).1.2.2 hz0;rw [e] at hj;simp at hj;refine⟨Nat.zero_le _,by rw [World.size_alloc];omega,λ e2=>?_⟩;have:=hlate _ e2;omega
    have HG2:=hid (HG.out.trans g1);have hbase:w.heap.size<=(wr.alloc (.cells #[.slice x.A q x.c] 64)).heap.size:=HG2.out.size;have HLT:=hid hlate;clear hx hok g1 hcok hcv hq hxold hlate;go_wp2_with (at_builtin;refine Mark.stop ?_);refine Mark.go ?_;refine wpList_append_progs (news:=[cutV x]) rfl (.tmp 16) (.tmp 22) rfl rfl rfl HOW.out HPM.out HOFF.out (by omega) hbase ?_;intro A' c' w3 hG;have HP3:=hG.1;rw [<- HX.out] at HP3;have HP3:=hid HP3;have HG3:=hid (HG2.out.gb hG.2 (λ j e=>HLT.out j e));clear hG;go_wp2_with fail;go_roundw
    case rel=>exact⟨k+1,A',c',by omega,by go_num,rfl,HP3,HG3⟩
    case measure=>simp [intOf];omega
  . obtain rfl:k=N:=by omega
    have HF:=hid (show pl ((L.take k).map cutV)=fewP (pl L) from by
     unfold pl fewP;rw [<- List.map_take,HTK.out,List.map_map,List.map_map];rfl)
    go_wp2_with fail;go_ret;exact⟨⟨B,k,d,_,rfl,by rw [HTK.out],HF.out,hN10,HR.out⟩,HG.out⟩
section
variable {w:World} {r:WR} {ω:Wv}
theorem cut17_is {w0:World} (h0:WIs w0 r ω) (g0:Gr w0 w):Calls Tryz.prog 33 #[r.v] w λ e w'=>(∃ s:WR,e=.returned s.v/\WTwo w0 w.heap.size w' s (cutW ω))/\Gr w w':=by
 have h:=h0.gr g0;obtain⟨R,hR0,eR⟩:=h0.p;obtain⟨T,hT0,eT⟩:=h0.t;have hR:=hR0.gr g0;have hT:=hT0.gr g0;have cF:=λ W (g:Gr w W)=>hid (few17_is (c:=r.p.c) (hR.gr g) h.op.1 h.op.lt)
 obtain⟨N2,a2,b2,n2,k2,t2⟩:=least r.c.n 12;obtain⟨N3,a3,b3,n3,k3,t3⟩:=least r.m.n 6;obtain⟨N4,a4,b4,n4,k4,t4⟩:=least r.t.n 8;have b2:min (r.c.n:Int) 12=(N2:Int):=b2;have b3:min (r.m.n:Int) 6=(N3:Int):=b3;have b4:min (r.t.n:Int) 8=(N4:Int):=b4;have a2:(if (12:Int)<(r.c.n:Int) then (12:Int) else (r.c.n:Int))=(N2:Int):=a2;have a3:(if (6:Int)<(r.m.n:Int) then (6:Int) else (r.m.n:Int))=(N3:Int):=a3;have a4:(if (8:Int)<(r.t.n:Int) then (8:Int) else (r.t.n:Int))=(N4:Int):=a4;have HC:=hid (show CMem w0 r.c.A N2 (ω.cl.take 12) from by rw [t2 _ h.c.len];exact h0.c.take_ N2 n2);have HM:=hid (show T3Mem w0 r.m.A N3 (ω.mx.take 6) from by rw [t3 _ h.m.len];exact h0.m.take_ N3 n3);have HT:=hid hT;have HR:=hid hR0;have HT0:=hid hT0;have HTK:=hid (t4 T hT.1);have o2:=h.oc;have o3:=h.om;have o4:=h.ot;have HO:=hid h;unfold Sl.ok at o2 o3 o4;obtain⟨now,⟨A1,n1,c1⟩,⟨A2,n2',c2⟩,⟨A3,n3',c3⟩,⟨A4,n4',c4⟩,stop⟩:=r;dsimp only at *;have z0:(0:Int)<=(0:Int):=by omega
 have p2:(0:Int)<=(N2:Int):=by omega
 have p3:(0:Int)<=(N3:Int):=by omega
 have p4:(0:Int)<=(N4:Int):=by omega
 have m2:(N2:Int)<=(c2:Int):=by omega
 have m3:(N3:Int)<=(c3:Int):=by omega
 have m4:(N4:Int)<=(c4:Int):=by omega
 have EP:=hid eR;have ET:=hid eT;clear h h0 g0 hR hT hR0 hT0 t2 t3 t4 eR eT;go_enter Tryz.func33,Tryz.ntmps33;go_wp2_with fail;with_reducible refine (cF _ (((Gr.refl w).al _).al _)).out.mono ?_
 rintro e w1 ⟨⟨B,m,d,R',rfl,eR',hR',hm10,hown⟩,g1⟩;have K0:=(Blk.new w #[.int .i64 now,.slice A1 n1 c1,.slice A2 n2' c2,.slice A3 n3' c3,.slice A4 n4' c4,.int .i64 stop] 29).al (.cells #[.int .i64 0,.slice none 0 0,.slice none 0 0,.slice none 0 0,.slice none 0 0,.int .i64 0] 29) |>.gr g1
 have K1:=Blk.new (w.alloc (.cells #[.int .i64 now,.slice A1 n1 c1,.slice A2 n2' c2,.slice A3 n3' c3,.slice A4 n4' c4,.int .i64 stop] 29)) #[.int .i64 0,.slice none 0 0,.slice none 0 0,.slice none 0 0,.slice none 0 0,.int .i64 0] 29 |>.gr g1
 rw [World.size_alloc] at K1;have G1:=((((Gr.refl w).al (.cells #[.int .i64 now,.slice A1 n1 c1,.slice A2 n2' c2,.slice A3 n3' c3,.slice A4 n4' c4,.int .i64 stop] 29)).al (.cells #[.int .i64 0,.slice none 0 0,.slice none 0 0,.slice none 0 0,.slice none 0 0,.int .i64 0] 29)).trans g1);have lt0:=K0.lt;obtain⟨q0,y0⟩:=K0.at_ (k:=0) (v:=.int .i64 now) rfl;obtain⟨q1,y1⟩:=K0.at_ (k:=1) (v:=.slice A1 n1 c1) rfl;obtain⟨q2,y2⟩:=K0.at_ (k:=2) (v:=.slice A2 n2' c2) rfl;obtain⟨q3,y3⟩:=K0.at_ (k:=3) (v:=.slice A3 n3' c3) rfl;obtain⟨q4,y4⟩:=K0.at_ (k:=4) (v:=.slice A4 n4' c4) rfl;obtain⟨q5,y5⟩:=K0.at_ (k:=5) (v:=.int .i64 stop) rfl;have L0:=hid (((K0.set 1 (.slice B m d)).set 2 (.slice A2 N2 c2)).set 3 (.slice A3 N3 c3));have L1:=hid (((K1.st (p:=⟨w.heap.size,1,none⟩) (by simp) (.slice B m d)).st (p:=⟨w.heap.size,2,none⟩) (by simp) (.slice A2 N2 c2)).st (p:=⟨w.heap.size,3,none⟩) (by simp) (.slice A3 N3 c3));have LG:=hid (((G1.st (p:=⟨w.heap.size,1,none⟩) (Nat.le_refl _) (.slice B m d)).st (p:=⟨w.heap.size,2,none⟩) (Nat.le_refl _) (.slice A2 N2 c2)).st (p:=⟨w.heap.size,3,none⟩) (Nat.le_refl _) (.slice A3 N3 c3));have hbs:w.heap.size<((w.alloc (.cells #[.int .i64 now,.slice A1 n1 c1,.slice A2 n2' c2,.slice A3 n3' c3,.slice A4 n4' c4,.int .i64 stop] 29)).alloc (.cells #[.int .i64 0,.slice none 0 0,.slice none 0 0,.slice none 0 0,.slice none 0 0,.int .i64 0] 29)).heap.size:=by rw [World.size_alloc,World.size_alloc];omega
 have RO:=hid (((hown.row.st (p:=⟨w.heap.size,1,none⟩) hbs (.slice B m d)).st (p:=⟨w.heap.size,2,none⟩) hbs (.slice A2 N2 c2)).st (p:=⟨w.heap.size,3,none⟩) hbs (.slice A3 N3 c3));have ROK:=hid (show ∀ x∈R',x.ok w0 from λ x hx=>by
  rw [eR'] at hx;obtain⟨y,hy,rfl⟩:=List.mem_map.1 hx;exact P12.cutV_ok (HR.out.2 y (List.mem_of_mem_take hy)))
 have EP2:=hid hR';clear g1 K0 K1 cF hown hR' eR' hbs;go_upto_region 5 with fail;clear q0 q1 q2 q3 q4 q5 y0 y1 y2 y3 y4 y5 lt0 a2 b2 a3 b3;generalize ((w1.setCell ⟨w.heap.size,1,none⟩ (.slice B m d)).setCell ⟨w.heap.size,2,none⟩ (.slice A2 N2 c2)).setCell ⟨w.heap.size,3,none⟩ (.slice A3 N3 c3)=W2 at L0 L1 LG RO ⊢;have lt0:=L0.out.lt;obtain⟨q4,y4⟩:=L0.out.at_ (k:=4) (v:=.slice A4 n4' c4) rfl;go_wp2_with fail;clear q4 y4 a4 b4 z0 p2 p3 p4 m2 m3 m4
 go_loopw [3,34] (λ O i wr=>∃ k:Nat,k<=N4/\i=.int .i64 (k:Int)/\Hid (SRow wr W2.heap.size O ((T.take k).map cutT).length ((T.take k).map cutT))/\Hid (Gr W2 wr)) (λ _ i _=>N4-(intOf i).toNat)
 case atStart=>exact⟨0,Nat.zero_le _,rfl,hid (World.ownsRow_nil W2 W2.heap.size 91 3),hid (Gr.refl _)⟩
 case round =>
  obtain⟨k,hk,rfl,HS,HG⟩:=hrel;by_cases hlt:k<N4
  . obtain⟨b,off,x,rfl,hbl,hx,hok,d0,d1,d2⟩:=((HT.out.gr LG.out).gr HG.out).at_ (show k<n4' by omega)
    have HX:=hid (show (T.take (k+1)).map cutT=(T.take k).map cutT++[cutT x] from by rw [P12.take_snoc hx,List.map_append];rfl);have k0:(0:Int)<=(k:Int):=by omega
    have k1:(k:Int)<(N4:Int):=by omega
    obtain⟨q,a5,b5,n5,k5,t5⟩:=least x.n 12;have b5:min (x.n:Int) 12=(q:Int):=b5;have a5:(if (12:Int)<(x.n:Int) then (12:Int) else (x.n:Int))=(q:Int):=a5;have hqx:x.n<=x.c:=hok.2.2.2.1;have q0:(0:Int)<=(q:Int):=by omega
    have q1:(q:Int)<=(x.c:Int):=by omega
    have hcv:cutT x=⟨x.addr,x.cnt,x.A,q,x.c,x.line.take 12⟩:=by unfold cutT;congr 1;split<;>omega
    have hl:((T.take k).map cutT).length<=1000000:=by rw [List.length_map,List.length_take];omega
    have HCV:=hid hcv;clear hx hok hcv t5;go_wp2_with (at_builtin;refine Mark.stop ?_);have g3:=hid (((Gr.refl wr).al (.cells #[.int .i64 x.addr,.int .i64 x.cnt,.slice x.A q x.c] 91)).al (.cells #[.int .i64 x.addr,.int .i64 x.cnt,.slice x.A q x.c] 91));have HR2:=hid (srow_gr2 HS.out g3.out);have hws:=HG.out.size;refine Mark.go ?_;refine wpList_append_spot (y:=cutT x) rfl (.tmp 46) (.tmp 48) rfl rfl rfl HR2.out (by rw [HCV.out];have:=Blk.new (wr.alloc (.cells #[.int .i64 x.addr,.int .i64 x.cnt,.slice x.A q x.c] 91)) #[.int .i64 x.addr,.int .i64 x.cnt,.slice x.A q x.c] 91;rw [World.size_alloc] at this;exact this) hl (by rw [World.size_alloc,World.size_alloc];omega) ?_;intro g cap w3 hA;have HG3:=hid (hA.gr HR2.out (HG.out.trans g3.out) (Nat.le_refl _));have HR3:=hid hA.row;rw [<- HX.out,show ((T.take k).map cutT).length=min k T.length from by rw [List.length_map,List.length_take]] at HR3;clear hA HR2;go_wp2_with fail;go_roundw
    case rel=>exact⟨k+1,by omega,by go_num,HR3,HG3⟩
    case measure=>simp [intOf];omega
  . obtain rfl:k=N4:=by omega
    have hS:=HS.out;rw [<- HTK.out] at hS;have hlen:((T.take 8).map cutT).length=k:=by rw [HTK.out,List.length_map,List.length_take,HT.out.1];omega
    rw [hlen] at hS;obtain⟨g,m4,rfl,hmem,hle,hmx⟩:=own_smem hS (λ y hy=>by
     obtain⟨x,hx,rfl⟩:=List.mem_map.1 hy;exact (cutT.ok (HT.out.2.1 x (List.mem_of_mem_take hx))).gr (LG.out.trans HG.out))
    have HSR:=hid hS;have K0:=L0.out.gr HG.out;have K1:=L1.out.gr HG.out;have lt1:=K1.lt;have ltw:=L1.out.lt;have lt2:=K0.lt;obtain⟨q0,y0⟩:=K0.at_ (k:=0) (v:=.int .i64 now) rfl;obtain⟨q1,y1⟩:=K0.at_ (k:=1) (v:=.slice B m d) rfl;obtain⟨q2,y2⟩:=K0.at_ (k:=2) (v:=.slice A2 N2 c2) rfl;obtain⟨q3,y3⟩:=K0.at_ (k:=3) (v:=.slice A3 N3 c3) rfl;obtain⟨q4,y4⟩:=K0.at_ (k:=4) (v:=.slice A4 n4' c4) rfl;obtain⟨q5,y5⟩:=K0.at_ (k:=5) (v:=.int .i64 stop) rfl;obtain⟨v0,x0⟩:=K1.at_ (k:=0) (v:=.int .i64 0) rfl;obtain⟨v1,x1⟩:=K1.at_ (k:=1) (v:=.slice none 0 0) rfl;obtain⟨v2,x2⟩:=K1.at_ (k:=2) (v:=.slice none 0 0) rfl;obtain⟨v3,x3⟩:=K1.at_ (k:=3) (v:=.slice none 0 0) rfl;obtain⟨v4,x4⟩:=K1.at_ (k:=4) (v:=.slice none 0 0) rfl;obtain⟨v5,x5⟩:=K1.at_ (k:=5) (v:=.int .i64 0) rfl;have WF:=hid (put6_blk (K1.st (p:=⟨w.heap.size,4,none⟩) (by simp) (.slice g k m4)) rfl (.int .i64 now) (.slice B m d) (.slice A2 N2 c2) (.slice A3 N3 c3) (.slice g k m4) (.int .i64 stop));have GF:=hid (put6_gr (x0:=.int .i64 now) (x1:=.slice B m d) (x2:=.slice A2 N2 c2) (x3:=.slice A3 N3 c3) (x4:=.slice g k m4) (x5:=.int .i64 stop) (b:=w.heap.size+1) ((LG.out.trans HG.out).st (p:=⟨w.heap.size,4,none⟩) (Nat.le_refl _) (.slice g k m4)) (Nat.le_succ _));have SF:=hid (put6_srow (x0:=.int .i64 now) (x1:=.slice B m d) (x2:=.slice A2 N2 c2) (x3:=.slice A3 N3 c3) (x4:=.slice g k m4) (x5:=.int .i64 stop) (b:=w.heap.size+1) (srow_cell hS (b:=w.heap.size) (o:=4) (by omega) (.slice g k m4)) (by omega));have RF:=hid (put6_omem (x0:=.int .i64 now) (x1:=.slice B m d) (x2:=.slice A2 N2 c2) (x3:=.slice A3 N3 c3) (x4:=.slice g k m4) (x5:=.int .i64 stop) (b:=w.heap.size+1) ((RO.out.gr HG.out).st (p:=⟨w.heap.size,4,none⟩) (by rw [World.size_alloc,World.size_alloc];show w.heap.size<_;omega) (.slice g k m4)) (by rw [World.size_alloc,World.size_alloc];omega));clear hmem hmx K0 K1 HS hS lt0;go_wp2_with fail;clear q0 q1 q2 q3 q4 q5 y0 y1 y2 y3 y4 y5 v0 v1 v2 v3 v4 v5 x0 x1 x2 x3 x4 x5 lt1 ltw lt2;generalize ((((((wr.setCell ⟨w.heap.size,4,none⟩ (.slice g k m4)).setCell ⟨w.heap.size+1,0,none⟩ (.int .i64 now)).setCell ⟨w.heap.size+1,1,none⟩ (.slice B m d)).setCell ⟨w.heap.size+1,2,none⟩ (.slice A2 N2 c2)).setCell ⟨w.heap.size+1,3,none⟩ (.slice A3 N3 c3)).setCell ⟨w.heap.size+1,4,none⟩ (.slice g k m4)).setCell ⟨w.heap.size+1,5,none⟩ (.int .i64 stop)=Wf at WF GF SF RF ⊢;have F0:=(WF.out.at_ (k:=0) (v:=.int .i64 now) rfl).1;have F1:=(WF.out.at_ (k:=1) (v:=.slice B m d) rfl).1;have F2:=(WF.out.at_ (k:=2) (v:=.slice A2 N2 c2) rfl).1;have F3:=(WF.out.at_ (k:=3) (v:=.slice A3 N3 c3) rfl).1;have F4:=(WF.out.at_ (k:=4) (v:=.slice g k m4) rfl).1;have F5:=(WF.out.at_ (k:=5) (v:=.int .i64 stop) rfl).1;have HW:=HO.out;exact bodyPost_ret (v:=WR.v ⟨now,⟨B,m,d⟩,⟨A2,N2,c2⟩,⟨A3,N3,c3⟩,⟨g,k,m4⟩,stop⟩) (by simp [results,Tryz.results33,go_sem,F0,F1,F2,F3,F4,F5]) rfl
     ⟨⟨⟨now,⟨B,m,d⟩,⟨A2,N2,c2⟩,⟨A3,N3,c3⟩,⟨g,k,m4⟩,stop⟩,rfl,λ W' gW fW=>by
       have SF':=srow_from SF.out fW (by have:=LG.out.size;omega);have RF':=omem_from RF.out fW (by rw [World.size_alloc,World.size_alloc];omega);obtain⟨g',m4',eg,hmem',hle',hmx'⟩:=own_smem SF' (λ y hy=>by
        obtain⟨x,hx,rfl⟩:=List.mem_map.1 hy;exact (cutT.ok (HT0.out.2.1 x (List.mem_of_mem_take hx))).gr gW)
       cases eg;exact⟨HW.now,HW.stop,HW.bn,HW.bs,
        ⟨R',⟨RF'.mem,λ x hx=>(ROK.out x hx).gr gW⟩,by rw [EP2.out,EP.out];rfl⟩,HC.out.gr gW,HM.out.gr gW,
        ⟨(T.take 8).map cutT,hmem',by
          show _=(ω.tb.take 8).map cutSp;rw [<- ET.out,<- List.map_take,List.map_map,List.map_map];rfl⟩,⟨RF.out.2.1,RF.out.2.2.1⟩,⟨by show N2<=c2;omega,o2.2⟩,⟨by show N3<=c3;omega,o3.2⟩,⟨hle',hmx'⟩⟩⟩,GF.out⟩
end
end
end P17
end
section
open Go.ChangeShapes Go.WideShapes Go.ChangeAt Go.RowKit
namespace P17
open P16
theorem wis_now {W:World} {s:WR} {τ:Wv} (h:WIs W s τ) {t:Int} (ht:B64 t):WIs W { s with now:=t } { τ with now:=t }:=⟨rfl,h.stop,ht,h.bs,h.p,h.c,h.m,h.t,h.op,h.oc,h.om,h.ot⟩
theorem dv_wrap (v:Int):wrap64 ((IntKind.u64.wrap v).tmod 1000000)=v % 18446744073709551616 % 1000000:=by
 have e:IntKind.u64.wrap v=v % 18446744073709551616:=rfl;rw [e,Int.tmod_eq_emod_of_nonneg (by omega)];unfold wrap64;omega
section
variable {w:World} {r:WR} {ω:Wv} {A:Option Addr} {n c:Nat} {L:List Int}
theorem RunStill_walk (hM:Mach) (hg:P15.Glob w) (h:WIs w r ω) (hc:n<=c) (hn:n<=9223372036854775807) (hL:IMem w A n L) :
 Calls Tryz.prog 11 #[r.v,.slice A n c] w λ e w'=>e=.returned (.bool true)/\Gr w w':=by
 obtain⟨N,a5,b5,n5,k5,-⟩:=least n 100;have b5:min (n:Int) 100=(N:Int):=b5;have a5:(if (100:Int)<(n:Int) then (100:Int) else (n:Int))=(N:Int):=a5;have p5:(0:Int)<=(N:Int):=by omega
 have m5:(N:Int)<=(c:Int):=by omega
 have HL:=hid hL;have hL2:=hid (hL.take_ N n5);clear hL;have B1:=Blk.new w r.a 29;have G1:=hid ((Gr.refl w).al (.cells r.a 29));go_enter Tryz.func11,Tryz.ntmps11;go_upto_region 1 with fail;generalize w.alloc (.cells r.a 29)=V1 at B1 G1 ⊢;refine wp_region_held_drew (S:=(λ _=>True)) (by kernel_rfl) trivial (λ hS=>?_);have B2:=B1.gr (Gr.refl V1).dr;have G2:=hid (G1.out.trans (Gr.refl V1).dr);clear B1 G1;generalize V1.drew=V at B2 G2 ⊢;have lt1:=B2.lt;have lt1':=lt1;have B1:=B2;obtain⟨b0,bz0⟩:=B1.at_ (k:=0) (v:=.int .i64 r.now) rfl;obtain⟨b1,bz1⟩:=B1.at_ (k:=1) (v:=.slice r.p.A r.p.n r.p.c) rfl;obtain⟨b2,bz2⟩:=B1.at_ (k:=2) (v:=.slice r.c.A r.c.n r.c.c) rfl;obtain⟨b3,bz3⟩:=B1.at_ (k:=3) (v:=.slice r.m.A r.m.n r.m.c) rfl;obtain⟨b4,bz4⟩:=B1.at_ (k:=4) (v:=.slice r.t.A r.t.n r.t.c) rfl;obtain⟨b5,bz5⟩:=B1.at_ (k:=5) (v:=.int .i64 r.stop) rfl;refine wG 2 hS ?_;refine wG 3 hS ?_;refine wG 4 hS ?_;refine wG 5 hS ?_;refine wG 6 hS ?_;refine wR1 0 (λ K hK=>?_);go_simp;refine hK.out _ _ trivial (λ hS=>?_);clear hK K
 try simp only [pL]
 refine wR1 1 (λ K hK=>?_);go_simp;go_at_call 33;with_reducible refine (cut17_is h G2.out).mono ?_;rintro ee w2 ⟨⟨s,rfl,hW⟩,g2⟩;go_wp2_with fail;have B3:=B2.gr g2;have lt2:=B3.lt;clear b0 bz0 b1 bz1 b2 bz2 b3 bz3 b4 bz4 b5 bz5 lt1 B1;obtain⟨b0,bz0⟩:=B3.at_ (k:=0) (v:=.int .i64 r.now) rfl;obtain⟨b1,bz1⟩:=B3.at_ (k:=1) (v:=.slice r.p.A r.p.n r.p.c) rfl;obtain⟨b2,bz2⟩:=B3.at_ (k:=2) (v:=.slice r.c.A r.c.n r.c.c) rfl;obtain⟨b3,bz3⟩:=B3.at_ (k:=3) (v:=.slice r.m.A r.m.n r.m.c) rfl;obtain⟨b4,bz4⟩:=B3.at_ (k:=4) (v:=.slice r.t.A r.t.n r.t.c) rfl;obtain⟨b5,bz5⟩:=B3.at_ (k:=5) (v:=.int .i64 r.stop) rfl;refine hK.out _ _ trivial (λ hS=>?_);clear hK K
 try simp only [pL]
 refine wR1 7 (λ K hK=>?_);go_simp;refine hK.out _ _ trivial (λ hS=>?_);clear hK K
 try simp only [pL]
 refine wG 8 hS ?_;refine wpAnyH_done (by kernel_rfl) ?_ _;have B4:=put6_blk B3 rfl (.int .i64 s.now) (.slice s.p.A s.p.n s.p.c) (.slice s.c.A s.c.n s.c.c) (.slice s.m.A s.m.n s.m.c) (.slice s.t.A s.t.n s.t.c) (.int .i64 s.stop);have G4:=hid (put6_gr (x0:=.int .i64 s.now) (x1:=.slice s.p.A s.p.n s.p.c) (x2:=.slice s.c.A s.c.n s.c.c) (x3:=.slice s.m.A s.m.n s.m.c) (x4:=.slice s.t.A s.t.n s.t.c) (x5:=.int .i64 s.stop) (b:=w.heap.size) (G2.out.trans g2) (Nat.le_refl _));have W4:=hid ((hW.to (FromB.put6 (b:=w.heap.size) lt1' (.int .i64 s.now) (.slice s.p.A s.p.n s.p.c) (.slice s.c.A s.c.n s.c.c) (.slice s.m.A s.m.n s.m.c) (.slice s.t.A s.t.n s.t.c) (.int .i64 s.stop))).is G4.out);clear b0 bz0 b1 bz1 b2 bz2 b3 bz3 b4 bz4 b5 bz5 lt2 B3 B2 hW G2 g2;generalize (((((w2.setCell ⟨w.heap.size,0,none⟩ (.int .i64 s.now)).setCell ⟨w.heap.size,1,none⟩ (.slice s.p.A s.p.n s.p.c)).setCell ⟨w.heap.size,2,none⟩ (.slice s.c.A s.c.n s.c.c)).setCell ⟨w.heap.size,3,none⟩ (.slice s.m.A s.m.n s.m.c)).setCell ⟨w.heap.size,4,none⟩ (.slice s.t.A s.t.n s.t.c)).setCell ⟨w.heap.size,5,none⟩ (.int .i64 s.stop)=V4 at B4 G4 W4 ⊢;go_upto_region 5 with fail;obtain⟨K,hK4⟩:∃ K,K=V4.heap.size:=⟨_,rfl⟩;have HK:=hid (show w.heap.size<K by rw [hK4];exact B4.lt);have HK4:=hid hK4;clear hK4 lt1';have HIi:=P13.info_parts (a:=(some (.int .i64 0),1,8)) (t:=3) (by kernel_rfl);obtain⟨ii,hii,hz0,hs0,hb0⟩:=HIi;have Hii:=hid hii;have Hz:=hid hz0;have Hs:=hid hs0;have Hb:=hid hb0;clear hii hz0 hs0 hb0
 go_loopw [5,6,28] (λ tv sv i wr=>∃ j:Nat,j<=N/\i=.int .i64 (j:Int)/\sv=.int .i64 (dsum (L.take j))/\Hid (wr.ownsRow K 3 1 tv (j*3) ((dts (L.take j)).map (.int .i64 ·)))/\Hid (Gr V4 wr)) (λ _ _ i _=>N-(intOf i).toNat)
 case atStart=>exact⟨0,Nat.zero_le _,rfl,rfl,hid (World.ownsRow_nil _ _ _ _),hid (Gr.refl _)⟩
 case round =>
  obtain⟨j,hj,rfl,rfl,HO,GW⟩:=hrel;by_cases hjn:j<N
  . have j0:(0:Int)<=(j:Int):=by omega
    have j1:(j:Int)<(N:Int):=by omega
    obtain⟨b,off,x,rfl,hb,hx,hbx,e0⟩:=(HL.out.gr (G4.out.trans GW.out)).at_ (show j<n by omega);have HT:=hid (show L.take (j+1)=L.take j++[x] by rw [List.take_add_one,hx];rfl);obtain⟨q,hq⟩:∃ q,wrap64 ((IntKind.u64.wrap x).tmod 1000000)=q:=⟨_,rfl⟩;have hq2:q=x % 18446744073709551616 % 1000000:=by rw [<- hq];exact dv_wrap x
    have HD:=hid (show dv x=1+q by unfold dv;rw [hq2]);have q0:0<=q:=by rw [hq2];omega
    have q1:q<1000000:=by rw [hq2];omega
    have sb:=dsum_b (L.take j);have hl3:(L.take j).length=j:=by rw [List.length_take];have:=HL.out.1;omega
    rw [hl3] at sb;have kw:K<=wr.heap.size:=by rw [HK4.out];exact GW.out.size
    have hown:=HO.out;clear hx hq2 hl3;go_wp2_with (at_builtin;refine wpList_append_own _ rfl (.tmp 37) (.tmp 40) 23 rfl K 3 ii (.int .i64 0) 1 8 Tryz.underlying23 Hii.out Hz.out Hs.out Hb.out rfl (by decide) _ _ _ rfl (hown.alloc _) ⟨wr.heap.size,0,none⟩ 3 3 [.int .i64 (-(1+q)),.int .i64 9,.int .i64 15] rfl rfl (World.news_of_block (cs:=#[.int .i64 (-(1+q)),.int .i64 9,.int .i64 15]) (t:=3) (fr:=(0,0)) (Blk.new wr _ _)) ?c2 ?c3 ?c4 ?c5 ?_)
    case c2=>simp [Value.oneCell']
    case c3=>unfold maxLen;omega
    case c4=>omega
    case c5=>first | omega | (simp only [World.size_alloc];omega)
    intro v' w7 hown' hgrow _;have e1:dts (L.take (j+1))=dts (L.take j)++[-(1+q),9,15]:=by rw [HT.out,dts_snoc,HD.out]
    have es:dsum (L.take (j+1))=dsum (L.take j)+(1+q):=by rw [HT.out,dsum_snoc,HD.out]
    have hI2:w7.ownsRow K 3 1 v' ((j+1)*3) ((dts (L.take (j+1))).map (.int .i64 ·)):=by
     rw [e1,List.map_append,show (j+1)*3=j*3+3 by omega];exact hown'
    have hR:=λ k=>hown.lt k
    have G2':Gr V4 w7:=(GW.out.al _).gb hgrow (λ k hk=>by have:=(hR k hk).1;have:=HK4.out;omega);clear hown' hgrow hown hR e0 hb;go_wp2_with fail;go_roundw
    case rel=>exact⟨j+1,by omega,by go_num,by rw [es],hid hI2,hid G2'⟩
    case measure=>simp [intOf];omega
  . have hjN:j=N:=by omega
    subst hjN;have hdl:(dts (L.take j)).length=j*3:=by rw [dts_len,List.length_take];have:=HL.out.1;omega
    obtain⟨B,m,hB,hm,hm1,hm2⟩:=own_emem (enc:=Value.int .i64) (ok:=B64) hdl dts_b HO.out;subst hB;have BW:=B4.gr GW.out;have G5:=hid (G4.out.trans GW.out);have W5:=hid (W4.out.gr GW.out);have LK:=hid (hL2.out.gr G5.out);have X5:=hid GW.out;have ltw:=BW.lt;obtain⟨b0,bz0⟩:=BW.at_ (k:=0) (v:=.int .i64 s.now) rfl;obtain⟨b1,bz1⟩:=BW.at_ (k:=1) (v:=.slice s.p.A s.p.n s.p.c) rfl;obtain⟨b2,bz2⟩:=BW.at_ (k:=2) (v:=.slice s.c.A s.c.n s.c.c) rfl;obtain⟨b3,bz3⟩:=BW.at_ (k:=3) (v:=.slice s.m.A s.m.n s.m.c) rfl;obtain⟨b4,bz4⟩:=BW.at_ (k:=4) (v:=.slice s.t.A s.t.n s.t.c) rfl;obtain⟨b5,bz5⟩:=BW.at_ (k:=5) (v:=.int .i64 s.stop) rfl;have cG:=hid (Go_is (c:=m) hM (hg.gr G5.out) W5.out hm);clear HO GW;go_wp2_with fail;with_reducible refine cG.out.mono ?_
    rintro e w5 ⟨⟨s1,ψ1,A1',n1',c1',H1,x1,rfl,hR1,hO1,hH1,hn1⟩,g5⟩;clear cG b0 bz0 b1 bz1 b2 bz2 b3 bz3 b4 bz4 b5 bz5 ltw;by_cases hr:RightW (cutW ω)
    . obtain⟨hGW,rfl⟩:GoW (cutW ω) ((dts (L.take j)).map P13.rd) ψ1 H1/\x1=0:=by
       rcases hR1 with ⟨q,_⟩ | ⟨_,q,_⟩ | ⟨_,_,q,q2⟩
       . rw [hdl] at q;omega
       . exact absurd hr q
       . exact⟨q,q2⟩
      obtain⟨rfl,e1,r1,pt0,t1⟩:=ticks_go hr hGW (dts_rd _);rw [dts_tot] at t1;obtain rfl:0=n1':=hn1;have HR:=hid hr;have HE1:=hid e1;have HT1:=hid t1;have sb:=dsum_b (L.take j);have HSB:=hid (show 0<=dsum (L.take j)/\dsum (L.take j)<=100000000 by
       have:(L.take j).length=j:=by rw [List.length_take];have:=HL.out.1;omega
       rw [this] at sb;omega)
      have BN:=Blk.new w5 s1.a 29;have BW5:=(BW.gr g5).al (.cells s1.a 29);have G6:=hid ((G5.out.trans g5).al (.cells s1.a 29));have W6:=hid ((W5.out.gr g5).gr ((Gr.refl w5).al (.cells s1.a 29)));have WN:=hid ((hO1.sub (S':=λ k=>w5.heap.size<=k) (λ k h1 h2=>by omega)).gr ((Gr.refl w5).al (.cells s1.a 29)));have X6:=hid ((X5.out.trans g5).al (.cells s1.a 29));have xge:V4.heap.size<=w5.heap.size:=(X5.out.trans g5).size;have gwn:w.heap.size<w5.heap.size:=by have:=G5.out.size;have:=g5.size;have:=BW.lt;omega
      clear hO1 hH1 hR1 BW hGW e1 r1 pt0 t1 sb hr;go_upto_region 14 with fail;generalize w5.alloc (.cells s1.a 29)=V6 at BN BW5 G6 W6 WN X6 ⊢;generalize w5.heap.size=gN at BN gwn WN xge ⊢;have ltn:=BN.lt;have ltw:=BW5.lt;obtain⟨b0,bz0⟩:=BN.at_ (k:=0) (v:=.int .i64 s1.now) rfl;obtain⟨d0,dz0⟩:=BW5.at_ (k:=0) (v:=.int .i64 s.now) rfl;have hne:gN≠w.heap.size:=by omega
      have BN7:=hid (show Blk (V6.setCell ⟨gN,0,none⟩ (.int .i64 s.now)) gN #[.int .i64 s.now,.slice s1.p.A s1.p.n s1.p.c,.slice s1.c.A s1.c.n s1.c.c,.slice s1.m.A s1.m.n s1.m.c,.slice s1.t.A s1.t.n s1.t.c,.int .i64 s1.stop] 29 from by have:=BN.set 0 (.int .i64 s.now);simpa using this);have BW7:=hid (BW5.st (p:=⟨gN,0,none⟩) hne (.int .i64 s.now));have O7:Off (λ k=>gN<=k) V6 (V6.setCell ⟨gN,0,none⟩ (.int .i64 s.now)):=Off.st (S:=λ k=>gN<=k) (p:=⟨gN,0,none⟩) (Nat.le_refl _) _;have sn:s.now=(cutW ω).now:=W6.out.now;have WN7:=hid (wis_now ((WN.out.to O7).is) (show B64 (cutW ω).now from W6.out.bn));have X7:=hid (X6.out.st (p:=⟨gN,0,none⟩) xge (.int .i64 s.now));have W7:=hid (W4.out.gr X7.out);have G7:=hid (G6.out.st (p:=⟨gN,0,none⟩) (show w.heap.size<=gN by omega) (.int .i64 s.now));have HS1:=hid (show s1.now=ψ1.now from WN.out.is.now);have HSN:=hid sn;have HST:=hid (show s.stop=(cutW ω).stop from W6.out.stop);have cE:=hid (rWSame_is WN7.out W7.out (v:=true) (by
       have:=HE1.out;rw [this];simp))
      rw [<- sn] at cE;clear O7 sn W6 X6;go_upto_region 16 with fail;clear b0 bz0 d0 dz0 ltn ltw BN BW5;generalize V6.setCell ⟨gN,0,none⟩ (.int .i64 s.now)=V7 at BN7 BW7 WN7 X7 W7 G7 cE ⊢;have ltn:=BN7.out.lt;have ltw:=BW7.out.lt;have bn7:=BN7.out;have bw7:=BW7.out;obtain⟨b0,-⟩:=bn7.at_ (k:=0) (v:=.int .i64 s.now) rfl;obtain⟨b1,-⟩:=bn7.at_ (k:=1) (v:=.slice s1.p.A s1.p.n s1.p.c) rfl;obtain⟨b2,-⟩:=bn7.at_ (k:=2) (v:=.slice s1.c.A s1.c.n s1.c.c) rfl;obtain⟨b3,-⟩:=bn7.at_ (k:=3) (v:=.slice s1.m.A s1.m.n s1.m.c) rfl;obtain⟨b4,-⟩:=bn7.at_ (k:=4) (v:=.slice s1.t.A s1.t.n s1.t.c) rfl;obtain⟨b5,-⟩:=bn7.at_ (k:=5) (v:=.int .i64 s1.stop) rfl;obtain⟨d0,-⟩:=bw7.at_ (k:=0) (v:=.int .i64 s.now) rfl;obtain⟨d1,-⟩:=bw7.at_ (k:=1) (v:=.slice s.p.A s.p.n s.p.c) rfl;obtain⟨d2,-⟩:=bw7.at_ (k:=2) (v:=.slice s.c.A s.c.n s.c.c) rfl;obtain⟨d3,-⟩:=bw7.at_ (k:=3) (v:=.slice s.m.A s.m.n s.m.c) rfl;obtain⟨d4,-⟩:=bw7.at_ (k:=4) (v:=.slice s.t.A s.t.n s.t.c) rfl;obtain⟨d5,-⟩:=bw7.at_ (k:=5) (v:=.int .i64 s.stop) rfl;clear bn7 bw7
      go_cut [96] (λ t wx=>t=.bool false/\Hid (Gr V7 wx))
      case first =>
       go_wp2_with fail;with_reducible refine cE.out.mono ?_
       rintro e w8 ⟨rfl,g8⟩;have bw8:=BW7.out.gr g8;have HG8:=hid g8;clear b0 b1 b2 b3 b4 b5 d0 d1 d2 d3 d4 d5 ltn ltw cE;obtain⟨d0,-⟩:=bw8.at_ (k:=0) (v:=.int .i64 s.now) rfl;obtain⟨d5,-⟩:=bw8.at_ (k:=5) (v:=.int .i64 s.stop) rfl;have ltw:=bw8.lt;clear bw8 g8;by_cases h0:s.stop=0
       . by_cases h1:s.now<2305843009213693952
         . have hr:=HR.out.now
           have h2:s1.now=s.now+dsum (L.take j):=by
            rw [HS1.out,HSN.out];exact HT1.out (HST.out.symm.trans h0) (by have:=HSB.out;have:=HSN.out;omega)
           have hsb:=HSB.out;have hsn:=HSN.out;have e3:(s1.now != s.now+dsum (L.take j))=false:=by rw [h2];simp
           have e4:wrap64 (s.now+dsum (L.take j))=s.now+dsum (L.take j):=by unfold wrap64;omega
           clear h2 hsn;go_wp2_with fail;go_meet;exact⟨rfl,HG8⟩
         . go_wp2_with fail
           go_meet;exact⟨rfl,HG8⟩
       . have h0b:(s.stop==0)=false:=by simpa using h0
         go_wp2_with fail;go_meet;exact⟨rfl,HG8⟩
      obtain⟨rfl,hG⟩:=hcut;have hg':=hG.out;have X8:=hid (X7.out.trans hg');have G8:=hid (G7.out.trans hg');have BW8:=hid (BW7.out.gr hg');have W8:=hid (W4.out.gr X8.out);clear hg' hG b0 b1 b2 b3 b4 b5 d0 d1 d2 d3 d4 d5 ltn ltw cE BN7 BW7 WN7 X7 W7 G7 WN;have bw8:=BW8.out;have ltw:=bw8.lt;obtain⟨d0,-⟩:=bw8.at_ (k:=0) (v:=.int .i64 s.now) rfl;obtain⟨d1,-⟩:=bw8.at_ (k:=1) (v:=.slice s.p.A s.p.n s.p.c) rfl;obtain⟨d2,-⟩:=bw8.at_ (k:=2) (v:=.slice s.c.A s.c.n s.c.c) rfl;obtain⟨d3,-⟩:=bw8.at_ (k:=3) (v:=.slice s.m.A s.m.n s.m.c) rfl;obtain⟨d4,-⟩:=bw8.at_ (k:=4) (v:=.slice s.t.A s.t.n s.t.c) rfl;obtain⟨d5,-⟩:=bw8.at_ (k:=5) (v:=.int .i64 s.stop) rfl;clear bw8;have cD:=hid (Done_is W8.out (v:=true) (by simp [HR.out]));simp only [Bool.true_and,if_true] at cD;go_wp2_with fail;with_reducible refine cD.out.mono ?_
      rintro e w9 ⟨rfl,g9⟩;have X9:=hid (X8.out.trans g9);have G9:=hid (G8.out.trans g9);have BW9:=hid (BW8.out.gr g9);have W9:=hid (W4.out.gr X9.out);clear d0 d1 d2 d3 d4 d5 ltw cD g9 BW8 W8 X8 G8;have bw9:=BW9.out;have ltw:=bw9.lt;obtain⟨d0,-⟩:=bw9.at_ (k:=0) (v:=.int .i64 s.now) rfl;obtain⟨d1,-⟩:=bw9.at_ (k:=1) (v:=.slice s.p.A s.p.n s.p.c) rfl;obtain⟨d2,-⟩:=bw9.at_ (k:=2) (v:=.slice s.c.A s.c.n s.c.c) rfl;obtain⟨d3,-⟩:=bw9.at_ (k:=3) (v:=.slice s.m.A s.m.n s.m.c) rfl;obtain⟨d4,-⟩:=bw9.at_ (k:=4) (v:=.slice s.t.A s.t.n s.t.c) rfl;obtain⟨d5,-⟩:=bw9.at_ (k:=5) (v:=.int .i64 s.stop) rfl;clear bw9;obtain⟨dd,hdd⟩:∃ b,(cutW ω).cl.all okC=b:=⟨_,rfl⟩;rw [hdd];have cG:=hid (Go_is (c:=c) hM (hg.gr G9.out) W9.out (hL2.out.gr G9.out));go_wp2_with fail;with_reducible refine cG.out.mono ?_
      rintro e wa ⟨⟨s2,ψ2,A2',n2',c2',H2,x2,rfl,hR2,hO2,hH2,hn2⟩,ga⟩;have hll:(L.take j).length=j:=by rw [List.length_take];have:=HL.out.1;omega
      obtain⟨hGW,rfl⟩:GoW (cutW ω) ((L.take j).map P13.rd) ψ2 H2/\x2=0:=by
       rcases hR2 with ⟨q,_⟩ | ⟨_,q,_⟩ | ⟨_,_,q,q2⟩
       . rw [hll] at q;omega
       . exact absurd HR.out q
       . exact⟨q,q2⟩
      have HGW:=hid hGW;have Hn2:=hid hn2;have BN:=Blk.new wa s2.a 29;have BW5:=(BW9.out.gr ga).al (.cells s2.a 29);have G6:=hid ((G9.out.trans ga).al (.cells s2.a 29));have WN:=hid ((hO2.is).gr ((Gr.refl wa).al (.cells s2.a 29)));have X6:=hid ((X9.out.trans ga).al (.cells s2.a 29));have xge:V4.heap.size<=wa.heap.size:=(X9.out.trans ga).size;have gwn:w.heap.size<wa.heap.size:=by have:=BW9.out.lt;have:=ga.size;omega
      have WNo:=hid ((hO2.sub (S':=λ k=>wa.heap.size<=k) (λ k h1 h2=>by omega)).gr ((Gr.refl wa).al (.cells s2.a 29)));clear hO2 hH2 hR2 hGW hn2 hll d0 d1 d2 d3 d4 d5 ltw cG ga BW9 W9 X9 G9;go_upto_region 20 with fail;generalize wa.alloc (.cells s2.a 29)=V6 at BN BW5 G6 WN X6 WNo ⊢;generalize wa.heap.size=gM at BN gwn xge WNo ⊢;have ltn:=BN.lt;have ltw:=BW5.lt;obtain⟨b0,bz0⟩:=BN.at_ (k:=0) (v:=.int .i64 s2.now) rfl;obtain⟨d0,dz0⟩:=BW5.at_ (k:=0) (v:=.int .i64 s.now) rfl;have hne:gM≠w.heap.size:=by omega
      have BN7:=hid (show Blk (V6.setCell ⟨gM,0,none⟩ (.int .i64 s.now)) gM #[.int .i64 s.now,.slice s2.p.A s2.p.n s2.p.c,.slice s2.c.A s2.c.n s2.c.c,.slice s2.m.A s2.m.n s2.m.c,.slice s2.t.A s2.t.n s2.t.c,.int .i64 s2.stop] 29 from by have:=BN.set 0 (.int .i64 s.now);simpa using this);have BW7:=hid (BW5.st (p:=⟨gM,0,none⟩) hne (.int .i64 s.now));have O7:Off (λ k=>gM<=k) V6 (V6.setCell ⟨gM,0,none⟩ (.int .i64 s.now)):=Off.st (S:=λ k=>gM<=k) (p:=⟨gM,0,none⟩) (Nat.le_refl _) _;have X7:=hid (X6.out.st (p:=⟨gM,0,none⟩) xge (.int .i64 s.now));have W7:=hid (W4.out.gr X7.out);have WN7:=hid (wis_now ((WNo.out.to O7).is) (show B64 (cutW ω).now from W7.out.bn));have G7:=hid (G6.out.st (p:=⟨gM,0,none⟩) (show w.heap.size<=gM by omega) (.int .i64 s.now));clear O7 X6;go_upto_region 21 with fail;clear b0 bz0 d0 dz0 ltn ltw BN BW5;generalize V6.setCell ⟨gM,0,none⟩ (.int .i64 s.now)=V7 at BN7 BW7 WN7 X7 W7 G7 ⊢;have cA:=hid (alive17_is (w:=V7) hM (hg.gr G7.out))
      cases dd with
      | false =>
       go_wp2_with fail;with_reducible refine cA.out.mono ?_
       rintro e wb ⟨rfl,gb⟩;have GB:=hid (G7.out.trans gb);clear gb;go_wp2_with fail;go_ret;exact⟨rfl,GB.out⟩
      | true =>
       have hd2:∀ c∈(cutW ω).cl,c.gst=2:=λ c hc=>by
        have:=List.all_eq_true.1 hdd c hc;unfold okC at this;exact eq_of_beq this
       obtain⟨rfl,e2,r2⟩:=done_go HR.out hd2 HGW.out;obtain rfl:0=n2':=Hn2.out;have HE2:=hid e2;clear e2 r2 hdd hd2;go_wp2_with fail;with_reducible refine cA.out.mono ?_
       rintro e wb ⟨rfl,gb⟩;have WNb:=hid (WN7.out.gr gb);have Wb:=hid (W7.out.gr gb);have GB:=hid (G7.out.trans gb);have bn7:=BN7.out.gr gb;have bw7:=BW7.out.gr gb;have cE:=hid (rWSame_is WNb.out Wb.out (v:=true) (by
        have:=HE2.out;rw [this];simp))
       rw [<- HSN.out] at cE;have ltn:=bn7.lt;have ltw:=bw7.lt;obtain⟨b0,-⟩:=bn7.at_ (k:=0) (v:=.int .i64 s.now) rfl;obtain⟨b1,-⟩:=bn7.at_ (k:=1) (v:=.slice s2.p.A s2.p.n s2.p.c) rfl;obtain⟨b2,-⟩:=bn7.at_ (k:=2) (v:=.slice s2.c.A s2.c.n s2.c.c) rfl;obtain⟨b3,-⟩:=bn7.at_ (k:=3) (v:=.slice s2.m.A s2.m.n s2.m.c) rfl;obtain⟨b4,-⟩:=bn7.at_ (k:=4) (v:=.slice s2.t.A s2.t.n s2.t.c) rfl;obtain⟨b5,-⟩:=bn7.at_ (k:=5) (v:=.int .i64 s2.stop) rfl;obtain⟨d0,-⟩:=bw7.at_ (k:=0) (v:=.int .i64 s.now) rfl;obtain⟨d1,-⟩:=bw7.at_ (k:=1) (v:=.slice s.p.A s.p.n s.p.c) rfl;obtain⟨d2,-⟩:=bw7.at_ (k:=2) (v:=.slice s.c.A s.c.n s.c.c) rfl;obtain⟨d3,-⟩:=bw7.at_ (k:=3) (v:=.slice s.m.A s.m.n s.m.c) rfl;obtain⟨d4,-⟩:=bw7.at_ (k:=4) (v:=.slice s.t.A s.t.n s.t.c) rfl;obtain⟨d5,-⟩:=bw7.at_ (k:=5) (v:=.int .i64 s.stop) rfl;clear bn7 bw7 gb;go_wp2_with fail;with_reducible refine cE.out.mono ?_
       rintro e wc ⟨rfl,gc⟩;have GC:=hid (GB.out.trans gc);clear gc b0 b1 b2 b3 b4 b5 d0 d1 d2 d3 d4 d5 ltn ltw;go_wp2_with fail;go_ret;exact⟨rfl,GC.out⟩
    . obtain⟨rfl,rfl⟩:H1=[]/\x1=1:=by
       rcases hR1 with ⟨q,_⟩ | ⟨_,_,_,q,q2⟩ | ⟨_,q,_⟩
       . rw [hdl] at q;omega
       . exact⟨q,q2⟩
       . exact absurd q hr
      obtain rfl:0=n1':=hn1;have G6:=hid ((G5.out.trans g5).al (.cells s1.a 29));have cA:=hid (alive17_is (w:=w5.alloc (.cells s1.a 29)) hM (hg.gr G6.out));clear hO1 hH1 hR1 BW;go_wp2_with fail;with_reducible refine cA.out.mono ?_
      rintro e w9 ⟨rfl,g9⟩;go_wp2_with fail;go_ret;exact⟨rfl,G6.out.trans g9⟩
end
end P17
end
section
open Go.ChangeShapes Go.WideShapes Go.ChangeAt Go.RowKit Go.Joins
namespace P15
def laidL : List (String × DataW Unit) := [("deadbolt/give.states", Rows.laid_deadbolt_give_states)]
theorem laidL_shaped (os:Os) (args:Array Value):((World.laidAll Tryz.prog os laidL).forCall (λ _ _=>0) ⟨#[],args,[]⟩).Shaped Tryz.prog :=
 World.shaped_of_ZipB (by kernel_rfl) (by kernel_rfl)
theorem laidL_met (os:Os) (args:Array Value):laidMetH Tryz.prog laidL ((World.laidAll Tryz.prog os laidL).forCall (λ _ _=>0) ⟨#[],args,[]⟩).memory:=by
 rw [MakeChecks.laidMetH_plain _ _ _ (by kernel_rfl)];exact laidMet_laidAll _ (by kernel_rfl) (by kernel_rfl)
section
variable {W:World}
theorem metL (h:laidMetH Tryz.prog laidL W):laidMet Tryz.prog laidL W:=by
 rwa [MakeChecks.laidMetH_plain _ _ _ (by kernel_rfl)] at h
theorem states_of {rest : List (String × DataW Unit)} (h : laidMet Tryz.prog (("deadbolt/give.states", Rows.laid_deadbolt_give_states) :: rest) W) : Glob W := by
 obtain ⟨ps, ⟨g, t, cs, fuel, p, q, hg, ht, hv, hd, _, _⟩, _⟩ := h;obtain rfl := Option.some.inj ((show Tryz.prog.globalNamed "deadbolt/give.states" = some 0 by kernel_rfl).symm.trans hg)
 obtain rfl:=Option.some.inj ((show (Tryz.prog.globals[0]?).map (·.type)=some 263 by kernel_rfl).symm.trans ht);obtain⟨xs,m,_,ex,hcl,hl,hel⟩:=DataW.trod_array Tryz.underlying263 hd;have c1:Tryz.prog.cellsOf 3=1:=by kernel_rfl
 have c8:Tryz.prog.cellsOf 263=8:=by kernel_rfl
 rw [c8] at hcl;rw [c1] at hel;have e3:xs.map (·.1)=[.lit (.int .i64 0),.lit (.int .i64 3),.lit (.int .i64 1),.lit (.int .i64 3),.lit (.int .i64 2),.lit (.int .i64 3),.lit (.int .i64 2),.lit (.int .i64 3)]:=(DataW.agg.inj (Prod.mk.inj ex).1).symm;have each:∀ i (z:Int),i<8->(xs.map (·.1))[i]?=some (.lit (.int .i64 z))->cs.toList[i]?=some (.int .i64 z):=by
  intro i z hi hb;have hE:=hel i hi;rw [List.getElem?_eq_getElem (by omega)] at hE;obtain⟨s,e1,e2,_⟩:=DataW.trod_int Tryz.underlying3 hE;rw [List.getElem?_map,List.getElem?_eq_getElem (by omega:i<xs.length),e2] at hb;simp only [Option.map_some,Option.some.injEq,DataW.lit.injEq,Lit.int.injEq,true_and] at hb;rw [<- hb];have h0:((cs.toList.drop (i*1)).take 1)[0]?=some (.int .i64 s):=by rw [e1];rfl
  simpa using h0
 unfold Glob;rw [hv];refine congrArg some (Array.ext' (List.ext_getElem? λ i=>?_))
 match i with
 | 0=>exact each 0 _ (by omega) (by rw [e3];rfl)
 | 1=>exact each 1 _ (by omega) (by rw [e3];rfl)
 | 2=>exact each 2 _ (by omega) (by rw [e3];rfl)
 | 3=>exact each 3 _ (by omega) (by rw [e3];rfl)
 | 4=>exact each 4 _ (by omega) (by rw [e3];rfl)
 | 5=>exact each 5 _ (by omega) (by rw [e3];rfl)
 | 6=>exact each 6 _ (by omega) (by rw [e3];rfl)
 | 7=>exact each 7 _ (by omega) (by rw [e3];rfl)
 | n+8 =>
  rw [List.getElem?_eq_none (by omega),List.getElem?_eq_none (by simp)]
theorem globL (h:laidMetH Tryz.prog laidL W) (hs:W.ShapedOpen Tryz.prog):Glob W:=states_of (metL h)
end
end P15
end
section
open Go.ChangeShapes Go.WideShapes Go.ChangeAt Go.RowKit Go.Joins
namespace P16
abbrev laidL:=P15.laidL
theorem laidL_shaped (os:Os) (args:Array Value):((World.laidAll Tryz.prog os laidL).forCall (λ _ _=>0) ⟨#[],args,[]⟩).Shaped Tryz.prog:=P15.laidL_shaped os args
theorem laidL_met (os:Os) (args:Array Value):laidMetH Tryz.prog laidL ((World.laidAll Tryz.prog os laidL).forCall (λ _ _=>0) ⟨#[],args,[]⟩).memory:=P15.laidL_met os args
theorem globL {W:World} (h:laidMetH Tryz.prog laidL W) (hs:W.ShapedOpen Tryz.prog):P15.Glob W:=P15.globL h hs
end P16
end
end Go.Proofs.YtainfijdhcehlaaGreatDoor
