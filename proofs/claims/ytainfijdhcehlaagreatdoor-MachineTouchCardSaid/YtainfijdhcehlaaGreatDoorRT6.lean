/-
  A part of the proof.
-/
import Derived.Test.YtainfijdhcehlaaGreatDoorRT5
set_option linter.unusedVariables false
set_option linter.unusedSimpArgs false
set_option maxRecDepth 100000
set_option maxHeartbeats 8000000
namespace Go.Proofs.YtainfijdhcehlaaGreatDoor
open Lib (hid)
section
open Go.ChangeShapes Go.WideShapes Go.ChangeAt Go.RowKit
namespace P16
open P12 (PV PMem POwn fewP)
def cutT (x:SV):SV:=⟨x.addr,x.cnt,x.A,if 12<x.n then 12 else x.n,x.c,x.line.take 12⟩
theorem cutT.ok {w:World} {x:SV} (h:x.ok w):(cutT x).ok w:=by
 have hl:=h.len
 refine⟨h.1,h.2.1,?_,?_,h.2.2.2.2⟩
 . show IMem w x.A (if 12<x.n then 12 else x.n) (x.line.take 12)
   by_cases h70:12<x.n
   . rw [if_pos h70];exact h.2.2.1.take_ 12 (by omega)
   . rw [if_neg h70,List.take_of_length_le (by omega)];exact h.2.2.1
 . show (if 12<x.n then 12 else x.n)<=x.c
   have:=h.2.2.2.1
   split<;>omega
def cutSp (x:Sp):Sp:=(x.1,x.2.1,x.2.2.take 12)
def cutW (ω:Wv):Wv:={ ω with progs:=fewP ω.progs,cl:=ω.cl.take 12,mx:=ω.mx.take 6,tb:=(ω.tb.take 8).map cutSp }
theorem least (n K:Nat):∃ N:Nat,(if (K:Int)<(n:Int) then (K:Int) else (n:Int))=(N:Int)/\min (n:Int) (K:Int)=(N:Int)/\N<=n/\N<=K/\∀ {α:Type} (l:List α),l.length=n->l.take K=l.take N:=by
 by_cases h:K<n
 . exact⟨K,by rw [if_pos (by omega)],by omega,by omega,by omega,λ l _=>rfl⟩
 . exact⟨n,by rw [if_neg (by omega)],by omega,by omega,by omega,λ l hl=>by rw [List.take_of_length_le (by omega),List.take_of_length_le (by omega)]⟩
def WTwo (w0:World) (B:Nat) (W:World) (r:WR) (ω:Wv):Prop:=∀ W',Gr w0 W'->FromB B W W'->WIs W' r ω
section
variable {w0 W W':World} {B base n c:Nat} {r:WR} {ω:Wv}
theorem WTwo.is (h:WTwo w0 B W r ω) (g:Gr w0 W):WIs W r ω:=h W g FromB.refl
theorem WTwo.to (h:WTwo w0 B W r ω) (g:FromB B W W'):WTwo w0 B W' r ω:=λ _ g' k=>h _ g' (g.trans k)
theorem WTwo.gr (h:WTwo w0 B W r ω) (g:Gr W W'):WTwo w0 B W' r ω:=h.to (FromB.gr g)
theorem srow_from {v:Value} {l:List SV} (h:SRow W base v n l) (hf:FromB B W W') (hb:B<=base):SRow W' base v n l:=by
 obtain⟨h1,h2⟩:=h
 refine⟨h1,?_⟩
 rcases h2 with q | ⟨g,cap,cur,e1,e2,e3,e4⟩
 . exact .inl q
 . exact .inr ⟨g,cap,cur,e1,e2,(hf.2 g (by omega) (Array.getElem?_eq_some_iff.1 e3).1).trans e3,e4⟩
theorem omem_from {α:Type} {en:α->Value} {ok:α->Prop} {A:Option Addr} {l:List α} (h:OMem en ok base W A n c l) (hf:FromB B W W') (hb:B<=base):OMem en ok base W' A n c l :=
 h.same hf.1 λ k h1 h2=>hf.2 k (Nat.le_trans hb h1) h2
end
section
variable {W:World} {b:Nat} {x0 x1 x2 x3 x4 x5:Value}
theorem put6_srow {base n:Nat} {v:Value} {l:List SV} (h:SRow W base v n l) (hb:b<base):SRow ((((((W.setCell ⟨b,0,none⟩ x0).setCell ⟨b,1,none⟩ x1).setCell ⟨b,2,none⟩ x2).setCell ⟨b,3,none⟩ x3).setCell ⟨b,4,none⟩ x4).setCell ⟨b,5,none⟩ x5) base v n l :=
 srow_cell (srow_cell (srow_cell (srow_cell (srow_cell (srow_cell h hb x0) hb x1) hb x2) hb x3) hb x4) hb x5
theorem put6_omem {α:Type} {en:α->Value} {ok:α->Prop} {base n c:Nat} {A:Option Addr} {l:List α} (h:OMem en ok base W A n c l) (hb:b<base):OMem en ok base ((((((W.setCell ⟨b,0,none⟩ x0).setCell ⟨b,1,none⟩ x1).setCell ⟨b,2,none⟩ x2).setCell ⟨b,3,none⟩ x3).setCell ⟨b,4,none⟩ x4).setCell ⟨b,5,none⟩ x5) A n c l :=
 (((((h.st (p:=⟨b,0,none⟩) hb x0).st (p:=⟨b,1,none⟩) hb x1).st (p:=⟨b,2,none⟩) hb x2).st (p:=⟨b,3,none⟩) hb x3).st (p:=⟨b,4,none⟩) hb x4).st (p:=⟨b,5,none⟩) hb x5
end
section
variable {w:World} {r:WR} {ω:Wv}
theorem cut_is {w0:World} (h0:WIs w0 r ω) (g0:Gr w0 w):Calls Tryz.prog 19 #[r.v] w λ e w'=>(∃ s:WR,e=.returned s.v/\WTwo w0 w.heap.size w' s (cutW ω))/\Gr w w':=by
 have h:=h0.gr g0
 obtain⟨R,hR0,eR⟩:=h0.p
 obtain⟨T,hT0,eT⟩:=h0.t
 have hR:=hR0.gr g0
 have hT:=hT0.gr g0
 have cF:=λ W (g:Gr w W)=>hid (few_is (c:=r.p.c) (hR.gr g) h.op.1 h.op.lt)
 obtain⟨N2,a2,b2,n2,k2,t2⟩:=least r.c.n 12
 obtain⟨N3,a3,b3,n3,k3,t3⟩:=least r.m.n 6
 obtain⟨N4,a4,b4,n4,k4,t4⟩:=least r.t.n 8
 have b2:min (r.c.n:Int) 12=(N2:Int):=b2
 have b3:min (r.m.n:Int) 6=(N3:Int):=b3
 have b4:min (r.t.n:Int) 8=(N4:Int):=b4
 have a2:(if (12:Int)<(r.c.n:Int) then (12:Int) else (r.c.n:Int))=(N2:Int):=a2
 have a3:(if (6:Int)<(r.m.n:Int) then (6:Int) else (r.m.n:Int))=(N3:Int):=a3
 have a4:(if (8:Int)<(r.t.n:Int) then (8:Int) else (r.t.n:Int))=(N4:Int):=a4
 have HC:=hid (show CMem w0 r.c.A N2 (ω.cl.take 12) from by rw [t2 _ h.c.len];exact h0.c.take_ N2 n2)
 have HM:=hid (show T3Mem w0 r.m.A N3 (ω.mx.take 6) from by rw [t3 _ h.m.len];exact h0.m.take_ N3 n3)
 have HT:=hid hT
 have HR:=hid hR0
 have HT0:=hid hT0
 have HTK:=hid (t4 T hT.1)
 have o2:=h.oc
 have o3:=h.om
 have o4:=h.ot
 have HO:=hid h
 unfold Sl.ok at o2 o3 o4
 obtain⟨now,⟨A1,n1,c1⟩,⟨A2,n2',c2⟩,⟨A3,n3',c3⟩,⟨A4,n4',c4⟩,stop⟩:=r
 dsimp only at *
 have z0:(0:Int)<=(0:Int):=by omega
 have p2:(0:Int)<=(N2:Int):=by omega
 have p3:(0:Int)<=(N3:Int):=by omega
 have p4:(0:Int)<=(N4:Int):=by omega
 have m2:(N2:Int)<=(c2:Int):=by omega
 have m3:(N3:Int)<=(c3:Int):=by omega
 have m4:(N4:Int)<=(c4:Int):=by omega
 have EP:=hid eR
 have ET:=hid eT
 clear h h0 g0 hR hT hR0 hT0 t2 t3 t4 eR eT
 go_enter Tryz.func19,Tryz.ntmps19
 go_wp2_with fail
 with_reducible refine (cF _ (((Gr.refl w).al _).al _)).out.mono ?_
 rintro e w1 ⟨⟨B,m,d,R',rfl,eR',hR',hm10,hown⟩,g1⟩
 have K0:=(Blk.new w #[.int .i64 now,.slice A1 n1 c1,.slice A2 n2' c2,.slice A3 n3' c3,.slice A4 n4' c4,.int .i64 stop] 29).al (.cells #[.int .i64 0,.slice none 0 0,.slice none 0 0,.slice none 0 0,.slice none 0 0,.int .i64 0] 29) |>.gr g1
 have K1:=Blk.new (w.alloc (.cells #[.int .i64 now,.slice A1 n1 c1,.slice A2 n2' c2,.slice A3 n3' c3,.slice A4 n4' c4,.int .i64 stop] 29)) #[.int .i64 0,.slice none 0 0,.slice none 0 0,.slice none 0 0,.slice none 0 0,.int .i64 0] 29 |>.gr g1
 rw [World.size_alloc] at K1
 have G1:=((((Gr.refl w).al (.cells #[.int .i64 now,.slice A1 n1 c1,.slice A2 n2' c2,.slice A3 n3' c3,.slice A4 n4' c4,.int .i64 stop] 29)).al (.cells #[.int .i64 0,.slice none 0 0,.slice none 0 0,.slice none 0 0,.slice none 0 0,.int .i64 0] 29)).trans g1)
 have lt0:=K0.lt
 obtain⟨q0,y0⟩:=K0.at_ (k:=0) (v:=.int .i64 now) rfl
 obtain⟨q1,y1⟩:=K0.at_ (k:=1) (v:=.slice A1 n1 c1) rfl
 obtain⟨q2,y2⟩:=K0.at_ (k:=2) (v:=.slice A2 n2' c2) rfl
 obtain⟨q3,y3⟩:=K0.at_ (k:=3) (v:=.slice A3 n3' c3) rfl
 obtain⟨q4,y4⟩:=K0.at_ (k:=4) (v:=.slice A4 n4' c4) rfl
 obtain⟨q5,y5⟩:=K0.at_ (k:=5) (v:=.int .i64 stop) rfl
 have L0:=hid (((K0.set 1 (.slice B m d)).set 2 (.slice A2 N2 c2)).set 3 (.slice A3 N3 c3))
 have L1:=hid (((K1.st (p:=⟨w.heap.size,1,none⟩) (by simp) (.slice B m d)).st (p:=⟨w.heap.size,2,none⟩) (by simp) (.slice A2 N2 c2)).st (p:=⟨w.heap.size,3,none⟩) (by simp) (.slice A3 N3 c3))
 have LG:=hid (((G1.st (p:=⟨w.heap.size,1,none⟩) (Nat.le_refl _) (.slice B m d)).st (p:=⟨w.heap.size,2,none⟩) (Nat.le_refl _) (.slice A2 N2 c2)).st (p:=⟨w.heap.size,3,none⟩) (Nat.le_refl _) (.slice A3 N3 c3))
 have hbs:w.heap.size<((w.alloc (.cells #[.int .i64 now,.slice A1 n1 c1,.slice A2 n2' c2,.slice A3 n3' c3,.slice A4 n4' c4,.int .i64 stop] 29)).alloc (.cells #[.int .i64 0,.slice none 0 0,.slice none 0 0,.slice none 0 0,.slice none 0 0,.int .i64 0] 29)).heap.size:=by rw [World.size_alloc,World.size_alloc];omega
 have RO:=hid (((hown.row.st (p:=⟨w.heap.size,1,none⟩) hbs (.slice B m d)).st (p:=⟨w.heap.size,2,none⟩) hbs (.slice A2 N2 c2)).st (p:=⟨w.heap.size,3,none⟩) hbs (.slice A3 N3 c3))
 have ROK:=hid (show ∀ x∈R',x.ok w0 from λ x hx=>by
  rw [eR'] at hx
  obtain⟨y,hy,rfl⟩:=List.mem_map.1 hx
  exact P12.cutV_ok (HR.out.2 y (List.mem_of_mem_take hy)))
 have EP2:=hid hR'
 clear g1 K0 K1 cF hown hR' eR' hbs
 go_upto_region 5 with fail
 clear q0 q1 q2 q3 q4 q5 y0 y1 y2 y3 y4 y5 lt0 a2 b2 a3 b3
 generalize ((w1.setCell ⟨w.heap.size,1,none⟩ (.slice B m d)).setCell ⟨w.heap.size,2,none⟩ (.slice A2 N2 c2)).setCell ⟨w.heap.size,3,none⟩ (.slice A3 N3 c3)=W2 at L0 L1 LG RO ⊢
 have lt0:=L0.out.lt
 obtain⟨q4,y4⟩:=L0.out.at_ (k:=4) (v:=.slice A4 n4' c4) rfl
 go_wp2_with fail
 clear q4 y4 a4 b4 z0 p2 p3 p4 m2 m3 m4
 go_loopw [3,34] (λ O i wr=>∃ k:Nat,k<=N4/\i=.int .i64 (k:Int)/\Hid (SRow wr W2.heap.size O ((T.take k).map cutT).length ((T.take k).map cutT))/\Hid (Gr W2 wr)) (λ _ i _=>N4-(intOf i).toNat)
 case atStart=>exact⟨0,Nat.zero_le _,rfl,hid (World.ownsRow_nil W2 W2.heap.size 91 3),hid (Gr.refl _)⟩
 case round =>
  obtain⟨k,hk,rfl,HS,HG⟩:=hrel
  by_cases hlt:k<N4
  . obtain⟨b,off,x,rfl,hbl,hx,hok,d0,d1,d2⟩:=((HT.out.gr LG.out).gr HG.out).at_ (show k<n4' by omega)
    have HX:=hid (show (T.take (k+1)).map cutT=(T.take k).map cutT++[cutT x] from by rw [P12.take_snoc hx,List.map_append];rfl)
    have k0:(0:Int)<=(k:Int):=by omega
    have k1:(k:Int)<(N4:Int):=by omega
    obtain⟨q,a5,b5,n5,k5,t5⟩:=least x.n 12
    have b5:min (x.n:Int) 12=(q:Int):=b5
    have a5:(if (12:Int)<(x.n:Int) then (12:Int) else (x.n:Int))=(q:Int):=a5
    have hqx:x.n<=x.c:=hok.2.2.2.1
    have q0:(0:Int)<=(q:Int):=by omega
    have q1:(q:Int)<=(x.c:Int):=by omega
    have hcv:cutT x=⟨x.addr,x.cnt,x.A,q,x.c,x.line.take 12⟩:=by unfold cutT;congr 1;split<;>omega
    have hl:((T.take k).map cutT).length<=1000000:=by rw [List.length_map,List.length_take];omega
    have HCV:=hid hcv
    clear hx hok hcv t5
    go_wp2_with (at_builtin;refine Mark.stop ?_)
    have g3:=hid (((Gr.refl wr).al (.cells #[.int .i64 x.addr,.int .i64 x.cnt,.slice x.A q x.c] 91)).al (.cells #[.int .i64 x.addr,.int .i64 x.cnt,.slice x.A q x.c] 91))
    have HR2:=hid (srow_gr2 HS.out g3.out)
    have hws:=HG.out.size
    refine Mark.go ?_
    refine wpList_append_spot (y:=cutT x) rfl (.tmp 46) (.tmp 48) rfl rfl rfl HR2.out (by rw [HCV.out];have:=Blk.new (wr.alloc (.cells #[.int .i64 x.addr,.int .i64 x.cnt,.slice x.A q x.c] 91)) #[.int .i64 x.addr,.int .i64 x.cnt,.slice x.A q x.c] 91;rw [World.size_alloc] at this;exact this) hl (by rw [World.size_alloc,World.size_alloc];omega) ?_
    intro g cap w3 hA
    have HG3:=hid (hA.gr HR2.out (HG.out.trans g3.out) (Nat.le_refl _))
    have HR3:=hid hA.row
    rw [<- HX.out,show ((T.take k).map cutT).length=min k T.length from by rw [List.length_map,List.length_take]] at HR3
    clear hA HR2
    go_wp2_with fail
    go_roundw
    case rel=>exact⟨k+1,by omega,by go_num,HR3,HG3⟩
    case measure=>simp [intOf];omega
  . obtain rfl:k=N4:=by omega
    have hS:=HS.out
    rw [<- HTK.out] at hS
    have hlen:((T.take 8).map cutT).length=k:=by rw [HTK.out,List.length_map,List.length_take,HT.out.1];omega
    rw [hlen] at hS
    obtain⟨g,m4,rfl,hmem,hle,hmx⟩:=own_smem hS (λ y hy=>by
     obtain⟨x,hx,rfl⟩:=List.mem_map.1 hy
     exact (cutT.ok (HT.out.2.1 x (List.mem_of_mem_take hx))).gr (LG.out.trans HG.out))
    have HSR:=hid hS
    have K0:=L0.out.gr HG.out
    have K1:=L1.out.gr HG.out
    have lt1:=K1.lt
    have ltw:=L1.out.lt
    have lt2:=K0.lt
    obtain⟨q0,y0⟩:=K0.at_ (k:=0) (v:=.int .i64 now) rfl
    obtain⟨q1,y1⟩:=K0.at_ (k:=1) (v:=.slice B m d) rfl
    obtain⟨q2,y2⟩:=K0.at_ (k:=2) (v:=.slice A2 N2 c2) rfl
    obtain⟨q3,y3⟩:=K0.at_ (k:=3) (v:=.slice A3 N3 c3) rfl
    obtain⟨q4,y4⟩:=K0.at_ (k:=4) (v:=.slice A4 n4' c4) rfl
    obtain⟨q5,y5⟩:=K0.at_ (k:=5) (v:=.int .i64 stop) rfl
    obtain⟨v0,x0⟩:=K1.at_ (k:=0) (v:=.int .i64 0) rfl
    obtain⟨v1,x1⟩:=K1.at_ (k:=1) (v:=.slice none 0 0) rfl
    obtain⟨v2,x2⟩:=K1.at_ (k:=2) (v:=.slice none 0 0) rfl
    obtain⟨v3,x3⟩:=K1.at_ (k:=3) (v:=.slice none 0 0) rfl
    obtain⟨v4,x4⟩:=K1.at_ (k:=4) (v:=.slice none 0 0) rfl
    obtain⟨v5,x5⟩:=K1.at_ (k:=5) (v:=.int .i64 0) rfl
    have WF:=hid (put6_blk (K1.st (p:=⟨w.heap.size,4,none⟩) (by simp) (.slice g k m4)) rfl (.int .i64 now) (.slice B m d) (.slice A2 N2 c2) (.slice A3 N3 c3) (.slice g k m4) (.int .i64 stop))
    have GF:=hid (put6_gr (x0:=.int .i64 now) (x1:=.slice B m d) (x2:=.slice A2 N2 c2) (x3:=.slice A3 N3 c3) (x4:=.slice g k m4) (x5:=.int .i64 stop) (b:=w.heap.size+1) ((LG.out.trans HG.out).st (p:=⟨w.heap.size,4,none⟩) (Nat.le_refl _) (.slice g k m4)) (Nat.le_succ _))
    have SF:=hid (put6_srow (x0:=.int .i64 now) (x1:=.slice B m d) (x2:=.slice A2 N2 c2) (x3:=.slice A3 N3 c3) (x4:=.slice g k m4) (x5:=.int .i64 stop) (b:=w.heap.size+1) (srow_cell hS (b:=w.heap.size) (o:=4) (by omega) (.slice g k m4)) (by omega))
    have RF:=hid (put6_omem (x0:=.int .i64 now) (x1:=.slice B m d) (x2:=.slice A2 N2 c2) (x3:=.slice A3 N3 c3) (x4:=.slice g k m4) (x5:=.int .i64 stop) (b:=w.heap.size+1) ((RO.out.gr HG.out).st (p:=⟨w.heap.size,4,none⟩) (by rw [World.size_alloc,World.size_alloc];show w.heap.size<_;omega) (.slice g k m4)) (by rw [World.size_alloc,World.size_alloc];omega))
    clear hmem hmx K0 K1 HS hS lt0
    go_wp2_with fail
    clear q0 q1 q2 q3 q4 q5 y0 y1 y2 y3 y4 y5 v0 v1 v2 v3 v4 v5 x0 x1 x2 x3 x4 x5 lt1 ltw lt2
    generalize ((((((wr.setCell ⟨w.heap.size,4,none⟩ (.slice g k m4)).setCell ⟨w.heap.size+1,0,none⟩ (.int .i64 now)).setCell ⟨w.heap.size+1,1,none⟩ (.slice B m d)).setCell ⟨w.heap.size+1,2,none⟩ (.slice A2 N2 c2)).setCell ⟨w.heap.size+1,3,none⟩ (.slice A3 N3 c3)).setCell ⟨w.heap.size+1,4,none⟩ (.slice g k m4)).setCell ⟨w.heap.size+1,5,none⟩ (.int .i64 stop)=Wf at WF GF SF RF ⊢
    have F0:=(WF.out.at_ (k:=0) (v:=.int .i64 now) rfl).1
    have F1:=(WF.out.at_ (k:=1) (v:=.slice B m d) rfl).1
    have F2:=(WF.out.at_ (k:=2) (v:=.slice A2 N2 c2) rfl).1
    have F3:=(WF.out.at_ (k:=3) (v:=.slice A3 N3 c3) rfl).1
    have F4:=(WF.out.at_ (k:=4) (v:=.slice g k m4) rfl).1
    have F5:=(WF.out.at_ (k:=5) (v:=.int .i64 stop) rfl).1
    have HW:=HO.out
    exact bodyPost_ret (v:=WR.v ⟨now,⟨B,m,d⟩,⟨A2,N2,c2⟩,⟨A3,N3,c3⟩,⟨g,k,m4⟩,stop⟩) (by simp [results,Tryz.results19,go_sem,F0,F1,F2,F3,F4,F5]) rfl
     ⟨⟨⟨now,⟨B,m,d⟩,⟨A2,N2,c2⟩,⟨A3,N3,c3⟩,⟨g,k,m4⟩,stop⟩,rfl,λ W' gW fW=>by
       have SF':=srow_from SF.out fW (by have:=LG.out.size;omega)
       have RF':=omem_from RF.out fW (by rw [World.size_alloc,World.size_alloc];omega)
       obtain⟨g',m4',eg,hmem',hle',hmx'⟩:=own_smem SF' (λ y hy=>by
        obtain⟨x,hx,rfl⟩:=List.mem_map.1 hy
        exact (cutT.ok (HT0.out.2.1 x (List.mem_of_mem_take hx))).gr gW)
       cases eg
       exact⟨HW.now,HW.stop,HW.bn,HW.bs,
        ⟨R',⟨RF'.mem,λ x hx=>(ROK.out x hx).gr gW⟩,by rw [EP2.out,EP.out];rfl⟩,HC.out.gr gW,HM.out.gr gW,
        ⟨(T.take 8).map cutT,hmem',by
          show _=(ω.tb.take 8).map cutSp
          rw [<- ET.out,<- List.map_take,List.map_map,List.map_map]
          rfl⟩,⟨RF.out.2.1,RF.out.2.2.1⟩,⟨by show N2<=c2;omega,o2.2⟩,⟨by show N3<=c3;omega,o3.2⟩,⟨hle',hmx'⟩⟩⟩,GF.out⟩
end
end P16
end
section
open Go.ChangeShapes Go.WideShapes Go.ChangeAt Go.RowKit
namespace P16
open P12 (PV PMem)
abbrev p0:List Ac:=[(0,0),(2,0)]
theorem p0_right:P12.rightB [p0]=true:=by decide
theorem alive_math {ψ ψ':Wv} {ev ev':List T3} {x x':Int} (h1:StepM (newW [p0]) 0 ψ ev x) (h2:StepM ψ 0 ψ' ev' x') :
 x=0/\x'=0/\ev=[(0,0,0)]/\ev'=[(0,3,0)]/\∃ c,ψ'.cl=[c]/\c.gst=2:=by
 have f0:=Fine.new p0_right
 obtain⟨f1,rfl,_,q | ⟨_,_,_,e1,rfl⟩⟩:=StepM.fine f0 h1
 . exact absurd q.1 (by decide)
 obtain⟨f2,rfl,_,q | ⟨_,_,_,e2,rfl⟩⟩:=StepM.fine f1 h2
 . exact absurd q.1 (by decide)
 have s1:stp (mw (newW [p0])) (0:Int).toNat=(W1 p0 1 0 (some 0) 0,some (0,0,0)):=by
  rw [mw_new,new_one]
  exact alone_lock (p:=p0) (a:=0) (n:=0) rfl
 rw [s1] at e1 ⊢
 have s2:stp (mw ψ) (0:Int).toNat=(W1 p0 2 0 none 0,some (0,3,0)):=by
  rw [e1]
  exact alone_give (p:=p0) (a:=1) (n:=0) rfl
 rw [s2] at e2 ⊢
 refine⟨rfl,rfl,rfl,rfl,?_⟩
 have e3:ψ'.cl=(W1 p0 2 0 none 0).cl:=congrArg Mw.cl e2
 exact⟨cAt 2 0 2,e3,by decide⟩
section
variable {w:World}
theorem alive_is (hM:Mach) (hg:P15.Glob w):Calls Tryz.prog 14 #[] w λ e w'=>e=.returned (.bool true)/\Gr w w':=by
 have b0:=Blk.new w #[.int .i64 0,.int .i64 0,.int .i64 2,.int .i64 0] 67
 have b1:=Blk.new (w.alloc (.cells #[.int .i64 0,.int .i64 0,.int .i64 2,.int .i64 0] 67)) #[.slice (some ⟨w.heap.size,0,none⟩) 2 2] 64
 have g1:=((Gr.refl w).al (.cells #[.int .i64 0,.int .i64 0,.int .i64 2,.int .i64 0] 67)).al (.cells #[.slice (some ⟨w.heap.size,0,none⟩) 2 2] 64)
 have hm:=P12.mem_blk (b0.al (.cells #[.slice (some ⟨w.heap.size,0,none⟩) 2 2] 64)) (l:=p0) rfl (by simp [Inb])
 have hP:=P12.pmem_one (x:=⟨some ⟨w.heap.size,0,none⟩,2,2,p0⟩) b1 ⟨hm,Nat.le_refl _,by show (2:Nat)<=9223372036854775807;decide⟩
 rw [World.size_alloc] at hP
 have cN:=hid (hM.new _ _ 1 1 _ (hg.gr g1) hP (by decide))
 have HG1:=hid g1
 clear b0 b1 hm hP g1
 go_enter Tryz.func14,Tryz.ntmps14
 go_wp2_with fail
 with_reducible refine cN.out.mono ?_
 rintro e w1 ⟨⟨s,ψ,x,rfl,hN,hW⟩,g2⟩
 obtain⟨rfl,rfl⟩:ψ=newW [p0]/\x=0:=by
  rcases hN with ⟨_,q⟩ | ⟨q,_⟩
  . exact q
  . exact absurd (show P12.rightB [p0]=false from q) (by decide)
 obtain⟨now,⟨A1,n1,c1⟩,⟨A2,n2,c2⟩,⟨A3,n3,c3⟩,⟨A4,n4,c4⟩,stop⟩:=s
 dsimp only at *
 have B1:=Blk.new w1 #[.int .i64 now,.slice A1 n1 c1,.slice A2 n2 c2,.slice A3 n3 c3,.slice A4 n4 c4,.int .i64 stop] 29
 have WW:=hid (hW.gr ((Gr.refl w1).al (.cells #[.int .i64 now,.slice A1 n1 c1,.slice A2 n2 c2,.slice A3 n3 c3,.slice A4 n4 c4,.int .i64 stop] 29)))
 have G1:=(HG1.out.trans g2).al (.cells #[.int .i64 now,.slice A1 n1 c1,.slice A2 n2 c2,.slice A3 n3 c3,.slice A4 n4 c4,.int .i64 stop] 29)
 have KK:=g2.size
 have hK:w.heap.size<=w1.heap.size:=(HG1.out.trans g2).size
 clear hN hW g2 cN
 go_upto_region 2 with fail
 generalize w1.alloc (.cells #[.int .i64 now,.slice A1 n1 c1,.slice A2 n2 c2,.slice A3 n3 c3,.slice A4 n4 c4,.int .i64 stop] 29)=W1 at B1 WW G1 ⊢
 generalize w1.heap.size=K at B1 KK hK ⊢
 have lt1:=B1.lt
 obtain⟨a0,az0⟩:=B1.at_ (k:=0) (v:=.int .i64 now) rfl
 obtain⟨a1,az1⟩:=B1.at_ (k:=1) (v:=.slice A1 n1 c1) rfl
 obtain⟨a2,az2⟩:=B1.at_ (k:=2) (v:=.slice A2 n2 c2) rfl
 obtain⟨a3,az3⟩:=B1.at_ (k:=3) (v:=.slice A3 n3 c3) rfl
 obtain⟨a4,az4⟩:=B1.at_ (k:=4) (v:=.slice A4 n4 c4) rfl
 obtain⟨a5,az5⟩:=B1.at_ (k:=5) (v:=.int .i64 stop) rfl
 have cS:=hid (hM.step W1 ⟨now,⟨A1,n1,c1⟩,⟨A2,n2,c2⟩,⟨A3,n3,c3⟩,⟨A4,n4,c4⟩,stop⟩ _ 0 (hg.gr G1) WW.out.is ⟨by decide,by decide⟩)
 go_wp2_with fail
 with_reducible refine cS.out.mono ?_
 rintro e w2 ⟨⟨s,ψ,A,n,c,ev,x,rfl,hS,hW,hE,hnc,hcm⟩,g3⟩
 obtain⟨now',⟨A1',n1',c1'⟩,⟨A2',n2',c2'⟩,⟨A3',n3',c3'⟩,⟨A4',n4',c4'⟩,stop'⟩:=s
 dsimp only at *
 have B2:=B1.gr g3
 have G2:=G1.trans g3
 have lt2:=B2.lt
 clear a0 az0 a1 az1 a2 az2 a3 az3 a4 az4 a5 az5
 obtain⟨a0,az0⟩:=B2.at_ (k:=0) (v:=.int .i64 now) rfl
 obtain⟨a1,az1⟩:=B2.at_ (k:=1) (v:=.slice A1 n1 c1) rfl
 obtain⟨a2,az2⟩:=B2.at_ (k:=2) (v:=.slice A2 n2 c2) rfl
 obtain⟨a3,az3⟩:=B2.at_ (k:=3) (v:=.slice A3 n3 c3) rfl
 obtain⟨a4,az4⟩:=B2.at_ (k:=4) (v:=.slice A4 n4 c4) rfl
 obtain⟨a5,az5⟩:=B2.at_ (k:=5) (v:=.int .i64 stop) rfl
 have B3:=put6_blk B2 rfl (.int .i64 now') (.slice A1' n1' c1') (.slice A2' n2' c2') (.slice A3' n3' c3') (.slice A4' n4' c4') (.int .i64 stop')
 have G3:=hid (put6_gr (x0:=.int .i64 now') (x1:=.slice A1' n1' c1') (x2:=.slice A2' n2' c2') (x3:=.slice A3' n3' c3') (x4:=.slice A4' n4' c4') (x5:=.int .i64 stop') (b:=K) G2 hK)
 have W3:=hid (hW.to (FromB.put6 (b:=K) lt1 (.int .i64 now') (.slice A1' n1' c1') (.slice A2' n2' c2') (.slice A3' n3' c3') (.slice A4' n4' c4') (.int .i64 stop')))
 have E3:=hid (hE.to (FromB.put6 (b:=K) lt1 (.int .i64 now') (.slice A1' n1' c1') (.slice A2' n2' c2') (.slice A3' n3' c3') (.slice A4' n4' c4') (.int .i64 stop')))
 clear hW hE g3 cS B1 B2 G1 G2
 go_upto_region 3 with fail
 clear a0 az0 a1 az1 a2 az2 a3 az3 a4 az4 a5 az5
 generalize (((((w2.setCell ⟨K,0,none⟩ (.int .i64 now')).setCell ⟨K,1,none⟩ (.slice A1' n1' c1')).setCell ⟨K,2,none⟩ (.slice A2' n2' c2')).setCell ⟨K,3,none⟩ (.slice A3' n3' c3')).setCell ⟨K,4,none⟩ (.slice A4' n4' c4')).setCell ⟨K,5,none⟩ (.int .i64 stop')=V3 at B3 G3 W3 E3 ⊢
 have lt3:=B3.lt
 clear lt2
 obtain⟨b0,bz0⟩:=B3.at_ (k:=0) (v:=.int .i64 now') rfl
 obtain⟨b1,bz1⟩:=B3.at_ (k:=1) (v:=.slice A1' n1' c1') rfl
 obtain⟨b2,bz2⟩:=B3.at_ (k:=2) (v:=.slice A2' n2' c2') rfl
 obtain⟨b3,bz3⟩:=B3.at_ (k:=3) (v:=.slice A3' n3' c3') rfl
 obtain⟨b4,bz4⟩:=B3.at_ (k:=4) (v:=.slice A4' n4' c4') rfl
 obtain⟨b5,bz5⟩:=B3.at_ (k:=5) (v:=.int .i64 stop') rfl
 have cS:=hid (hM.step V3 _ _ 0 (hg.gr G3.out) W3.out.is ⟨by decide,by decide⟩)
 go_wp2_with fail
 with_reducible refine cS.out.mono ?_
 rintro e w4 ⟨⟨s,ψ',A',n',c',ev',x',rfl,hS',hW,hE,hnc',hcm'⟩,g3⟩
 obtain⟨now'',⟨A1'',n1'',c1''⟩,⟨A2'',n2'',c2''⟩,⟨A3'',n3'',c3''⟩,⟨A4'',n4'',c4''⟩,stop''⟩:=s
 dsimp only at *
 obtain⟨rfl,rfl,rfl,rfl,cc,hcl,hgst⟩:=alive_math hS hS'
 have B2:=B3.gr g3
 have G2:=G3.out.trans g3
 have lt2:=B2.lt
 clear b0 bz0 b1 bz1 b2 bz2 b3 bz3 b4 bz4 b5 bz5
 obtain⟨b0,bz0⟩:=B2.at_ (k:=0) (v:=.int .i64 now') rfl
 obtain⟨b1,bz1⟩:=B2.at_ (k:=1) (v:=.slice A1' n1' c1') rfl
 obtain⟨b2,bz2⟩:=B2.at_ (k:=2) (v:=.slice A2' n2' c2') rfl
 obtain⟨b3,bz3⟩:=B2.at_ (k:=3) (v:=.slice A3' n3' c3') rfl
 obtain⟨b4,bz4⟩:=B2.at_ (k:=4) (v:=.slice A4' n4' c4') rfl
 obtain⟨b5,bz5⟩:=B2.at_ (k:=5) (v:=.int .i64 stop') rfl
 have B5:=put6_blk B2 rfl (.int .i64 now'') (.slice A1'' n1'' c1'') (.slice A2'' n2'' c2'') (.slice A3'' n3'' c3'') (.slice A4'' n4'' c4'') (.int .i64 stop'')
 have G5:=hid (put6_gr (x0:=.int .i64 now'') (x1:=.slice A1'' n1'' c1'') (x2:=.slice A2'' n2'' c2'') (x3:=.slice A3'' n3'' c3'') (x4:=.slice A4'' n4'' c4'') (x5:=.int .i64 stop'') (b:=K) G2 hK)
 have W5:=hid (hW.to (FromB.put6 (b:=K) lt3 (.int .i64 now'') (.slice A1'' n1'' c1'') (.slice A2'' n2'' c2'') (.slice A3'' n3'' c3'') (.slice A4'' n4'' c4'') (.int .i64 stop'')))
 have E5:=hid (hE.to (FromB.put6 (b:=K) lt3 (.int .i64 now'') (.slice A1'' n1'' c1'') (.slice A2'' n2'' c2'') (.slice A3'' n3'' c3'') (.slice A4'' n4'' c4'') (.int .i64 stop'')))
 have E6:=hid ((E3.out.gr g3).to (FromB.put6 (b:=K) lt1 (.int .i64 now'') (.slice A1'' n1'' c1'') (.slice A2'' n2'' c2'') (.slice A3'' n3'' c3'') (.slice A4'' n4'' c4'') (.int .i64 stop'')))
 clear hW hE g3 cS B3 B2 G2 hS hS' E3
 go_upto_region 4 with fail
 clear b0 bz0 b1 bz1 b2 bz2 b3 bz3 b4 bz4 b5 bz5
 generalize (((((w4.setCell ⟨K,0,none⟩ (.int .i64 now'')).setCell ⟨K,1,none⟩ (.slice A1'' n1'' c1'')).setCell ⟨K,2,none⟩ (.slice A2'' n2'' c2'')).setCell ⟨K,3,none⟩ (.slice A3'' n3'' c3'')).setCell ⟨K,4,none⟩ (.slice A4'' n4'' c4'')).setCell ⟨K,5,none⟩ (.int .i64 stop'')=V5 at B5 G5 W5 E5 E6 ⊢
 have lt5:=B5.lt
 clear lt2 lt3
 obtain⟨b0,bz0⟩:=B5.at_ (k:=0) (v:=.int .i64 now'') rfl
 obtain⟨b1,bz1⟩:=B5.at_ (k:=1) (v:=.slice A1'' n1'' c1'') rfl
 obtain⟨b2,bz2⟩:=B5.at_ (k:=2) (v:=.slice A2'' n2'' c2'') rfl
 obtain⟨b3,bz3⟩:=B5.at_ (k:=3) (v:=.slice A3'' n3'' c3'') rfl
 obtain⟨b4,bz4⟩:=B5.at_ (k:=4) (v:=.slice A4'' n4'' c4'') rfl
 obtain⟨b5,bz5⟩:=B5.at_ (k:=5) (v:=.int .i64 stop'') rfl
 obtain rfl:n=1:=(E6.out.is).len.symm
 obtain rfl:n'=1:=(E5.out.is).len.symm
 obtain⟨b,off,y,rfl,hb,hy,-,d0,d1,d2⟩:=T3Mem.cells (k:=0) E6.out.is (by decide)
 cases hy
 obtain⟨b',off',y,rfl,hb',hy,-,f0,f1,f2⟩:=T3Mem.cells (k:=0) E5.out.is (by decide)
 cases hy
 have WI:=W5.out.is
 have hl:=WI.c.len
 rw [hcl] at hl
 have hl:1=n2'':=hl
 subst hl
 have hc0:CMem V5 A2'' 1 _:=WI.c
 obtain⟨b2,off2,z,rfl,hb2,hz,-,h0,-⟩:=CMem.cells (k:=0) hc0 (by decide)
 rw [hcl] at hz
 cases hz
 rw [hgst] at h0
 simp only [Nat.zero_mul,Nat.add_zero] at d0 d1 d2 f0 f1 f2 h0
 clear WI hc0 hcl hgst
 go_wp2_with fail
 go_ret
 exact⟨rfl,G5.out⟩
end
end P16
end
section
namespace P16
def TQ (m:Cm) (r:Res):Prop:=∀ o,r=.ok o->o.m.word=m.word\/(o.m.nx=m.nx/\o.m.sv=m.sv)
section
variable {c c':Cl} {m m':Cm} {ev:Option Int} {now pc:Int} {run len:Nat} {who k:Int}
theorem TQ.bad:TQ m .bad:=λ o h=>by cases h
theorem TQ.fault:TQ m .fault:=λ o h=>by cases h
theorem TQ.go (h:m'.word=m.word\/(m'.nx=m.nx/\m'.sv=m.sv)):TQ m (P16.go c m' ev):=λ o q=>by
 unfold P16.go at q
 cases q
 exact h
theorem TQ.same:TQ m (P16.go c m ev):=TQ.go (.inl rfl)
theorem TQ.w (x:Int):TQ m (P16.go c { m with word:=x } ev):=TQ.go (.inr ⟨rfl,rfl⟩)
theorem TQ.draw:TQ m (P16.draw c m pc):=by unfold P16.draw;split;exact TQ.bad;exact TQ.go (.inl rfl)
theorem TQ.turn:TQ m (P16.turn c m pc):=TQ.same
theorem TQ.want:TQ m (P16.want now run len c m):=by
 unfold P16.want
 dsimp only
 split
 . unfold round
   exact TQ.w _
 . split
   . exact TQ.bad
   . split
     . exact TQ.same
     . split
       . exact TQ.w _
       . exact TQ.w _
theorem TQ.ask:TQ m (ask who c m):=by
 unfold P16.ask
 split
 . exact TQ.bad
 . split
   . exact TQ.go (.inl rfl)
   . split
     . exact TQ.bad
     . exact TQ.go (.inl rfl)
theorem TQ.rest:TQ m (rest c m):=by
 unfold P16.rest
 split
 . exact TQ.bad
 . dsimp only
   split
   . exact TQ.go (.inl rfl)
   . exact TQ.go (.inl rfl)
theorem TQ.woken:TQ m (woken now c m):=by
 unfold P16.woken
 dsimp only
 split
 . exact TQ.same
 . exact TQ.same
theorem TQ.handed:TQ m (handed len c m):=by
 unfold P16.handed
 split
 . exact TQ.bad
 . split
   . exact TQ.w _
   . exact TQ.bad
theorem TQ.lock:TQ m (lock now run len who c m):=by
 unfold P16.lock
 split
 . split
   . exact TQ.w _
   . exact TQ.same
 split
 . exact TQ.same
 split
 . exact TQ.want
 split
 . exact TQ.draw
 split
 . exact TQ.turn
 split
 . exact TQ.ask
 split
 . exact TQ.rest
 split
 . exact TQ.woken
 . exact TQ.handed
theorem TQ.try_:TQ m (try_ len c m):=by
 unfold P16.try_
 split
 . split
   . exact TQ.same
   . exact TQ.w _
 . split
   . exact TQ.same
   . exact TQ.same
theorem TQ.give:TQ m (give len c m):=by
 unfold P16.give
 split
 . unfold unlock
   split
   . exact TQ.fault
   . dsimp only
     split
     . exact TQ.w _
     . split
       . exact TQ.w _
       . exact TQ.w _
 split
 . unfold let_
   dsimp only
   split
   . exact TQ.same
   . split
     . exact TQ.w _
     . exact TQ.same
 split
 . exact TQ.same
 split
 . exact TQ.draw
 split
 . exact TQ.turn
 split
 . unfold grant
   split
   . intro o h
     cases h
     exact .inl rfl
   . split
     . exact TQ.bad
     . exact TQ.go (.inl rfl)
 split
 . exact TQ.bad
 . exact TQ.go (.inl rfl)
theorem TQ.touch:TQ m (touch now run len who k c m):=by
 unfold P16.touch
 split
 . exact TQ.lock
 . split
   . exact TQ.try_
   . exact TQ.give
theorem told_only {d:Cl} (h:told c=some d):d={ c with gst:=d.gst,permit:=d.permit }:=by
 unfold told at h
 split at h
 . cases h
 . split at h
   . cases h;rfl
   . cases h;rfl
end
structure Touched (w w':Mw) (who:Nat):Prop where
 progs:w'.progs=w.progs
 now:w'.now=w.now
 len:w'.cl.length=w.cl.length
 cm:∃ n:Nat,(∀ m,m≠n->w'.cm m=w.cm m)/\((w'.cm n).word=(w.cm n).word\/((w'.cm n).nx=(w.cm n).nx/\(w'.cm n).sv=(w.cm n).sv))
 cl:∃ y:Nat,(∀ i,i≠who->i≠y->w'.cl[i]?=w.cl[i]?)/\(y≠who->∀ c d,w.cl[y]?=some c->w'.cl[y]?=some d->d={ c with gst:=d.gst,permit:=d.permit })
theorem Touched.same {w:Mw} {who:Nat} (s:Int):Touched w { w with stop:=s } who :=
 ⟨rfl,rfl,rfl,⟨0,λ _ _=>rfl,.inl rfl⟩,⟨who,λ _ _ _=>rfl,λ h=>absurd rfl h⟩⟩
theorem stp_touched (w:Mw) (who:Nat):Touched w (stp w who).1 who:=by
 have same:Touched w w who:=Touched.same w.stop
 unfold stp
 split
 . rename_i c p hc hp
   split
   . exact same
   . split
     . exact same
     . rename_i k n ha
       split
       . exact⟨rfl,rfl,by simp,⟨0,λ _ _=>rfl,.inl rfl⟩,⟨who,λ i h1 _=>List.getElem?_set_ne (λ q=>h1 q.symm),λ h=>absurd rfl h⟩⟩
       . split
         . exact Touched.same 12
         . exact Touched.same 11
         . rename_i o ho
           have hcm:∃ j:Nat,(∀ m,m≠j->(if m=n.toNat then o.m else w.cm m)=w.cm m)/\((if j=n.toNat then o.m else w.cm j).word=(w.cm j).word\/((if j=n.toNat then o.m else w.cm j).nx=(w.cm j).nx/\(if j=n.toNat then o.m else w.cm j).sv=(w.cm j).sv)) :=
            ⟨n.toNat,λ m hm=>by rw [if_neg hm],by rw [if_pos rfl];exact TQ.touch o ho⟩
           dsimp only
           cases hr:o.rdy with
           | none=>exact⟨rfl,rfl,by simp,hcm,⟨who,λ i h1 _=>List.getElem?_set_ne (λ q=>h1 q.symm),λ h=>absurd rfl h⟩⟩
           | some y =>
            dsimp only
            cases hd:(((w.cl.set who o.c)[y.toNat]?).bind told) with
            | none=>exact Touched.same 12
            | some d =>
             refine⟨rfl,rfl,by simp,hcm,y.toNat,λ i h1 h2=>?_,λ hne c1 d1 e1 e2=>?_⟩
             . show ((w.cl.set who o.c).set y.toNat d)[i]?=_
               rw [List.getElem?_set_ne (λ q=>h2 q.symm),List.getElem?_set_ne (λ q=>h1 q.symm)]
             . have e2:((w.cl.set who o.c).set y.toNat d)[y.toNat]?=some d1:=e2
               rw [List.getElem?_set_ne (λ q=>hne q.symm),e1] at hd
               have hd:told c1=some d:=hd
               have hlt:y.toNat<(w.cl.set who o.c).length:=by
                rw [List.length_set];exact (List.getElem?_eq_some_iff.1 e1).1
               rw [List.getElem?_set_self hlt] at e2
               cases e2
               exact told_only hd
 . exact same
end P16
end
end Go.Proofs.YtainfijdhcehlaaGreatDoor
