/-
  A part of the proof.
-/
import Derived.Test.YtainfijdhcehlaaGreatDoorQB3
import Derived.Test.YtainfijdhcehlaaGreatDoorQB12
import Derived.Test.YtainfijdhcehlaaGreatDoorQB14
import Derived.Test.YtainfijdhcehlaaGreatDoorQB15
import Derived.Test.YtainfijdhcehlaaGreatDoorQB25
set_option linter.unusedVariables false
set_option linter.unusedSimpArgs false
set_option maxRecDepth 100000
set_option maxHeartbeats 8000000
namespace Go.Proofs.YtainfijdhcehlaaGreatDoor
open Lib (hid)
section
open Go.ChangeShapes Go.WideShapes Go.ChangeAt Go.RowKit Go.Shelf
namespace P16
open P12 (PV PMem Late)
abbrev zeroA:Array Value:=#[.int .i64 0,.slice none 0 0,.slice none 0 0,.slice none 0 0,.slice none 0 0,.int .i64 0]
abbrev rA (now stop:Int) (p c m t:Sl):Array Value:=#[.int .i64 now,.slice p.A p.n p.c,.slice c.A c.n c.c,.slice m.A m.n m.c,.slice t.A t.n t.c,.int .i64 stop]
structure Few (ω:Wv):Prop where
 p:ω.progs.length<=1000
 a:∀ p∈ω.progs,p.length<=1000
 c:ω.cl.length<=1000
 m:ω.mx.length<=1000
 t:ω.tb.length<=1000
 l:∀ s∈ω.tb,s.2.2.length<=1000
theorem one_cl:∀ x:Cl,∀ u∈clV x,u.oneCell'=true:=by
 intro x u hu
 simp only [List.mem_cons,List.not_mem_nil,or_false] at hu
 rcases hu with rfl | rfl | rfl | rfl | rfl | rfl | rfl | rfl | rfl | rfl | rfl | rfl | rfl<;>rfl
theorem one_t3:∀ x:T3,∀ u∈t3V x,u.oneCell'=true:=by
 intro x u hu
 simp only [List.mem_cons,List.not_mem_nil,or_false] at hu
 rcases hu with rfl | rfl | rfl<;>rfl
theorem one_sp:∀ x:SV,∀ u∈spV x,u.oneCell'=true:=by
 intro x u hu
 simp only [List.mem_cons,List.not_mem_nil,or_false] at hu
 rcases hu with rfl | rfl | rfl<;>rfl
theorem one_map {α:Type} {enc:α->Value} (h:∀ x,(enc x).oneCell'=true) (l:List α):∀ u∈l.map enc,u.oneCell'=true:=by
 intro u hu
 obtain⟨x,_,rfl⟩:=List.mem_map.1 hu
 exact h x
theorem where_of {w:World} {base q n c:Nat} {e:TypeId} {A:Option Addr} {xs:List Value} (h:w.ownsRow base e q (.slice A n c) n xs):∃ g,(0<n->A=some ⟨g,0,none⟩):=by
 obtain⟨_,_,_,k⟩:=own_parts h
 rcases Nat.eq_zero_or_pos n with h0 | h0
 . exact⟨0,λ q=>by omega⟩
 . obtain⟨g,cur,e1,_⟩:=k h0
   exact⟨g,λ _=>e1⟩
section
variable {W:World} {r:WR} {ω:Wv}
theorem copied_is (h:WRd W r ω) (hf:Few ω) :
 Calls Tryz.prog 35 #[r.v] W λ e w'=>(∃ (s:WR) (b1 b2 b3:Nat),e=.returned s.v/\Copied W.heap.size w' s ω b1 b2 b3)/\Gr W w':=by
 obtain⟨R,hR,eR⟩:=h.p
 obtain⟨T,hT,eT⟩:=h.t
 obtain⟨ln1,ln2,ln3,ln4⟩:=h.lens
 have hRl:R.length=r.p.n:=hR.len
 have hTl:T.length=r.t.n:=hT.1
 have fp:=hf.p
 have fc:=hf.c
 have fm:=hf.m
 have ft:=hf.t
 have fa:∀ y∈R,y.n<=1000:=λ y hy=>by
  have:=hf.a y.l (by rw [<- eR];exact List.mem_map_of_mem (f:=PV.l) hy)
  have h2:=(hR.2 y hy).1.1
  omega
 have fl:∀ y∈T,y.n<=1000:=λ y hy=>by
  have:=hf.l y.pl (by rw [<- eT];exact List.mem_map_of_mem (f:=SV.pl) hy)
  have h2:=(hT.2.1 y hy).len
  have h3:y.line.length<=1000:=this
  omega
 have cP:=λ W' (g:Gr W W')=>hid (cloneProgs (c:=r.p.c) (news:=R.map PV.enc) (emem_nil (hR.gr g).1) (by rw [List.length_map,hRl];omega) (emem_src (hR.gr g).1) (one_map (λ _=>rfl) R) (by omega))
 have cC:=λ W' (g:Gr W W')=>hid (cloneClients (c:=r.c.c) (rmem_nil (h.c.gr g)) (by rw [flat_len' clV_len,h.c.len]) (rmem_src clV_len (h.c.gr g)) (flat_one_of one_cl _) (by omega))
 have cM:=λ W' (g:Gr W W')=>hid (cloneMutexes (c:=r.m.c) (rmem_nil (h.m.gr g)) (by rw [flat_len' t3V_len,h.m.len]) (rmem_src t3V_len (h.m.gr g)) (flat_one_of one_t3 _) (by omega))
 have cT:=λ W' (g:Gr W W')=>hid (cloneSpots (c:=r.t.c) (rmem_nil (smem_rmem (hT.gr g))) (by rw [flat_len' spV_len,hTl]) (rmem_src spV_len (smem_rmem (hT.gr g))) (flat_one_of one_sp _) (by omega))
 have cA:=hid (λ (y:PV) (hy:y∈R) W' (g:Gr W W')=>hid (cloneActs (c:=y.c) (news:=flat y.l) (mem_nil ((hR.gr g).2 y hy).1) (by rw [flat_len,((hR.gr g).2 y hy).1.1]) (mem_src ((hR.gr g).2 y hy).1) (flat_one y.l) (by have:=fa y hy;omega)))
 have cI:=hid (λ (y:SV) (hy:y∈T) W' (g:Gr W W')=>hid (cloneInts (c:=y.c) (news:=y.line.map (Value.int .i64)) (emem_nil ((hT.gr g).2.1 y hy).2.2.1) (by rw [List.length_map,(hT.2.1 y hy).len];omega) (emem_src ((hT.gr g).2.1 y hy).2.2.1) (one_map (λ _=>rfl) _) (by have:=fl y hy;omega)))
 have H:=hid h
 have HR:=hid hR
 have HT:=hid hT
 have ER:=hid eR
 have ET:=hid eT
 have HRL:=hid hRl
 have HTL:=hid hTl
 obtain⟨now,⟨A1,n1,c1⟩,⟨A2,n2,c2⟩,⟨A3,n3,c3⟩,⟨A4,n4,c4⟩,stop⟩:=r
 dsimp only at *
 clear h hR hT eR eT hRl hTl fa fl hf
 have B0:=Blk.new W (rA now stop ⟨A1,n1,c1⟩ ⟨A2,n2,c2⟩ ⟨A3,n3,c3⟩ ⟨A4,n4,c4⟩) 29
 have B1:=Blk.new (W.alloc (.cells (rA now stop ⟨A1,n1,c1⟩ ⟨A2,n2,c2⟩ ⟨A3,n3,c3⟩ ⟨A4,n4,c4⟩) 29)) zeroA 29
 rw [World.size_alloc] at B1
 have X0:=hid (B0.al (.cells zeroA 29))
 have X1:=hid B1
 have G0:=hid (((Gr.refl W).al (.cells (rA now stop ⟨A1,n1,c1⟩ ⟨A2,n2,c2⟩ ⟨A3,n3,c3⟩ ⟨A4,n4,c4⟩) 29)).al (.cells zeroA 29))
 have S0:((W.alloc (.cells (rA now stop ⟨A1,n1,c1⟩ ⟨A2,n2,c2⟩ ⟨A3,n3,c3⟩ ⟨A4,n4,c4⟩) 29)).alloc (.cells zeroA 29)).heap.size=W.heap.size+2:=by rw [World.size_alloc,World.size_alloc]
 clear B0 B1
 go_enter Tryz.func35,Tryz.ntmps35
 go_upto_region 1 with fail
 generalize (W.alloc (.cells (rA now stop ⟨A1,n1,c1⟩ ⟨A2,n2,c2⟩ ⟨A3,n3,c3⟩ ⟨A4,n4,c4⟩) 29)).alloc (.cells zeroA 29)=V0 at X0 X1 G0 S0 ⊢
 obtain⟨q1,y1⟩:=X0.out.at_ (k:=1) (v:=.slice A1 n1 c1) rfl
 go_wp2_with fail
 with_reducible refine (cP _ G0.out).out.mono ?_
 rintro e w1 ⟨P1,d1,rfl,o1,g1⟩
 rw [S0] at o1
 have ⟨gp,hgp⟩:=where_of o1
 have hok1:=own_parts o1
 have O1:Hid ((⟨P1,n1,d1⟩:Sl).ok):=hid ⟨hok1.1,hok1.2.1⟩
 have E1:=hid (X0.out.gr g1)
 have Z1:=hid (X1.out.gr g1)
 have G1:=hid (G0.out.trans g1)
 have s1:=g1.size
 have PR:=hid (PRow.start (lo:=w1.heap.size) o1 HRL.out hgp (Nat.le_refl _))
 have HGP:=hid hgp
 clear o1 g1 hok1 q1 y1 hgp X0 X1
 obtain⟨q1,y1⟩:=E1.out.at_ (k:=1) (v:=.slice A1 n1 c1) rfl
 have E2:Hid (Blk (w1.setCell ⟨W.heap.size,1,none⟩ (.slice P1 n1 d1)) W.heap.size (rA now stop ⟨P1,n1,d1⟩ ⟨A2,n2,c2⟩ ⟨A3,n3,c3⟩ ⟨A4,n4,c4⟩) 29):=hid (E1.out.set 1 (.slice P1 n1 d1))
 have Z2:=hid (Z1.out.st (p:=⟨W.heap.size,1,none⟩) (by simp) (.slice P1 n1 d1))
 have G2:=hid (G1.out.st (p:=⟨W.heap.size,1,none⟩) (Nat.le_refl _) (.slice P1 n1 d1))
 have PR2:=hid (PR.out.st (by omega) (p:=⟨W.heap.size,1,none⟩) (by show W.heap.size<_;omega) (.slice P1 n1 d1))
 have s2:(w1.setCell ⟨W.heap.size,1,none⟩ (.slice P1 n1 d1)).heap.size=w1.heap.size:=by simp [World.setCell]
 have hlo:W.heap.size+2<=w1.heap.size:=by omega
 go_upto_region 2 with fail
 generalize w1.setCell ⟨W.heap.size,1,none⟩ (.slice P1 n1 d1)=V1 at E2 Z2 G2 PR2 s2 ⊢
 generalize w1.heap.size=lo at PR2 s2 hlo ⊢
 clear E1 Z1 PR q1 y1 G1 s1 S0 G0
 obtain⟨q1,-⟩:=E2.out.at_ (k:=1) (v:=.slice P1 n1 d1) rfl
 go_wp2_with fail
 go_loopw [14] (λ i wr=>∃ k:Nat,k<=n1/\i=.int .i64 (k:Int)/\lo<=wr.heap.size/\Hid (PRow (W.heap.size+2) lo gp wr R k)/\Hid (Blk wr W.heap.size (rA now stop ⟨P1,n1,d1⟩ ⟨A2,n2,c2⟩ ⟨A3,n3,c3⟩ ⟨A4,n4,c4⟩) 29)/\Hid (Blk wr (W.heap.size+1) zeroA 29)/\Hid (Gr W wr)) (λ i _=>n1-(intOf i).toNat)
 case atStart=>exact⟨0,Nat.zero_le _,rfl,by omega,PR2,E2,Z2,G2⟩
 case round =>
  obtain⟨k,hk,rfl,hs,HP,HE,HZ,HG⟩:=hrel
  by_cases hlt:k<n1
  . obtain rfl:=HGP.out (by omega)
    obtain⟨y,hy⟩:∃ y,R[k]?=some y:=⟨_,List.getElem?_eq_getElem (by rw [HRL.out];exact hlt)⟩
    have HY:=hid hy
    obtain⟨hgb,hgl,e0,f0⟩:=HP.out.at_ hy
    have hyR:=List.mem_of_getElem? hy
    obtain⟨q1,-⟩:=HE.out.at_ (k:=1) (v:=.slice (some ⟨gp,0,none⟩) n1 d1) rfl
    have cc:=cA.out y hyR
    have k0:(0:Int)<=(k:Int):=by omega
    have k1:(k:Int)<(n1:Int):=by omega
    have hbx:=HE.out.lt
    have HYR:=hid hyR
    unfold PV.enc at e0
    clear hy hyR
    go_upto_region 5 with fail
    have q1':wr.drew.cell? ⟨W.heap.size,1,none⟩=some (.slice (some ⟨gp,0,none⟩) n1 d1):=q1
    go_region_held3 (λ w'=>w'.cell? ⟨W.heap.size,1,none⟩=some (.slice (some ⟨gp,0,none⟩) n1 d1)) (with_reducible assumption) (first | (go_at_call 58;(with_reducible refine (cc _ (HG.out.dr)).out.mono ?_);rintro ee w2 ⟨Q,dq,rfl,o2,g2⟩;have G2:=hid (((Gr.refl wr).dr).trans g2);have O2:=hid o2;have r1:=(G2.out.cell (p:=⟨W.heap.size,1,none⟩) hbx).trans q1;have r2:=(G2.out.cell (p:=⟨gp,k,none⟩) hgl).trans e0;have r3:=(World.frozen?_of_block (a:=⟨gp,k,none⟩) (G2.out.block gp hgl)).trans f0;have r4:=far_cell (p:=⟨gp,k,none⟩) (v:=.slice Q y.n dq) r1 (show W.heap.size≠gp by omega);clear o2 g2))
    rename_i hH
    have hYok:=HR.out.2 y HYR.out
    have P3:=hid (HP.out.put (by omega) HY.out G2.out hYok.1.2.1 hYok.1.1 O2.out (by show lo<=wr.heap.size;omega))
    have E3:=hid ((HE.out.gr G2.out).st (p:=⟨gp,k,none⟩) (by show gp≠W.heap.size;omega) (.slice Q y.n dq))
    have Z3:=hid ((HZ.out.gr G2.out).st (p:=⟨gp,k,none⟩) (by show gp≠W.heap.size+1;omega) (.slice Q y.n dq))
    have G3:=hid ((HG.out.trans G2.out).st (p:=⟨gp,k,none⟩) (by show W.heap.size<=gp;omega) (.slice Q y.n dq))
    have s3:lo<=(w2.setCell ⟨gp,k,none⟩ (.slice Q y.n dq)).heap.size:=by have:=G2.out.size;simp [World.setCell];omega
    clear hH r1 r2 r3 r4 q1 q1' e0 f0 hYok G2 O2
    generalize w2.setCell ⟨gp,k,none⟩ (.slice Q y.n dq)=W3 at P3 E3 Z3 G3 s3 ⊢
    go_wp2_with fail
    go_roundw
    case rel=>exact⟨k+1,by omega,by go_num,s3,P3,E3,Z3,G3⟩
    case measure=>simp [intOf];omega
  . obtain rfl:k=n1:=by omega
    have PD:=hid (HP.out.done (by omega) HRL.out.symm HGP.out)
    clear HP PR2 E2 Z2 G2 s2 cA
    obtain⟨q2,z2⟩:=HE.out.at_ (k:=2) (v:=.slice A2 n2 c2) rfl
    go_wp2_with fail
    with_reducible refine (cC _ HG.out).out.mono ?_
    rintro e w2 ⟨P2,d2,rfl,o2,g2⟩
    have s1:=HG.out
    have O2:Hid ((⟨P2,n2,d2⟩:Sl).ok):=hid ⟨(own_parts o2).1,(own_parts o2).2.1⟩
    have C2:=hid (orow_ft (w':=w2.setCell ⟨W.heap.size,2,none⟩ (.slice P2 n2 d2)) (orow_own clV_len o2) (FT.st (p:=⟨W.heap.size,2,none⟩) (.inl (by show W.heap.size<wr.heap.size;omega)) _))
    have E2:Hid (Blk (w2.setCell ⟨W.heap.size,2,none⟩ (.slice P2 n2 d2)) W.heap.size (rA now stop ⟨P1,k,d1⟩ ⟨P2,n2,d2⟩ ⟨A3,n3,c3⟩ ⟨A4,n4,c4⟩) 29):=hid ((HE.out.gr g2).set 2 (.slice P2 n2 d2))
    have Z2:=hid ((HZ.out.gr g2).st (p:=⟨W.heap.size,2,none⟩) (by simp) (.slice P2 n2 d2))
    have G2:=hid ((HG.out.trans g2).st (p:=⟨W.heap.size,2,none⟩) (Nat.le_refl _) (.slice P2 n2 d2))
    have F1:Hid (FT (W.heap.size+2) wr.heap.size wr (w2.setCell ⟨W.heap.size,2,none⟩ (.slice P2 n2 d2))):=hid ((FT.gr g2).trans (FT.st (p:=⟨W.heap.size,2,none⟩) (.inl (by show W.heap.size<_;omega)) _))
    have s2:(w2.setCell ⟨W.heap.size,2,none⟩ (.slice P2 n2 d2)).heap.size=w2.heap.size:=by simp [World.setCell]
    have t2:=g2.size
    obtain⟨q2',z2'⟩:=(HE.out.gr g2).at_ (k:=2) (v:=.slice A2 n2 c2) rfl
    clear o2 g2 q2 z2 s1
    go_upto_region 8 with fail
    generalize w2.setCell ⟨W.heap.size,2,none⟩ (.slice P2 n2 d2)=V2 at C2 E2 Z2 G2 F1 s2 ⊢
    generalize w2.heap.size=b2 at C2 s2 t2 ⊢
    clear q2' z2' HE HZ HG
    obtain⟨q3,-⟩:=E2.out.at_ (k:=3) (v:=.slice A3 n3 c3) rfl
    go_wp2_with fail
    with_reducible refine (cM _ G2.out).out.mono ?_
    rintro e w3 ⟨P3,d3,rfl,o3,g3⟩
    rw [s2] at o3
    have O3:Hid ((⟨P3,n3,d3⟩:Sl).ok):=hid ⟨(own_parts o3).1,(own_parts o3).2.1⟩
    have C3:=hid (orow_ft (w':=w3.setCell ⟨W.heap.size,3,none⟩ (.slice P3 n3 d3)) (orow_own t3V_len o3) (FT.st (p:=⟨W.heap.size,3,none⟩) (.inl (by show W.heap.size<b2;omega)) _))
    have E3:Hid (Blk (w3.setCell ⟨W.heap.size,3,none⟩ (.slice P3 n3 d3)) W.heap.size (rA now stop ⟨P1,k,d1⟩ ⟨P2,n2,d2⟩ ⟨P3,n3,d3⟩ ⟨A4,n4,c4⟩) 29):=hid ((E2.out.gr g3).set 3 (.slice P3 n3 d3))
    have Z3:=hid ((Z2.out.gr g3).st (p:=⟨W.heap.size,3,none⟩) (by simp) (.slice P3 n3 d3))
    have G3:=hid ((G2.out.trans g3).st (p:=⟨W.heap.size,3,none⟩) (Nat.le_refl _) (.slice P3 n3 d3))
    have H1:Hid (FT (W.heap.size+2) wr.heap.size wr (w3.setCell ⟨W.heap.size,3,none⟩ (.slice P3 n3 d3))):=hid (F1.out.trans ((FT.gr g3).trans (FT.st (p:=⟨W.heap.size,3,none⟩) (.inl (by show W.heap.size<_;omega)) _)))
    have H2:Hid (FT wr.heap.size b2 V2 (w3.setCell ⟨W.heap.size,3,none⟩ (.slice P3 n3 d3))):=hid ((FT.gr g3).trans (FT.st (p:=⟨W.heap.size,3,none⟩) (.inl (by show W.heap.size<wr.heap.size;omega)) _))
    have s3:(w3.setCell ⟨W.heap.size,3,none⟩ (.slice P3 n3 d3)).heap.size=w3.heap.size:=by simp [World.setCell]
    have t3:b2<=w3.heap.size:=by have:=g3.size;omega
    obtain⟨q3',z3'⟩:=(E2.out.gr g3).at_ (k:=3) (v:=.slice A3 n3 c3) rfl
    clear o3 g3 q3
    go_upto_region 9 with fail
    generalize w3.setCell ⟨W.heap.size,3,none⟩ (.slice P3 n3 d3)=V3 at C3 E3 Z3 G3 H1 H2 s3 ⊢
    generalize w3.heap.size=b3 at C3 s3 t3 ⊢
    clear q3' z3' E2 Z2 G2 F1
    obtain⟨q4,-⟩:=E3.out.at_ (k:=4) (v:=.slice A4 n4 c4) rfl
    go_wp2_with fail
    with_reducible refine (cT _ G3.out).out.mono ?_
    rintro e w4 ⟨P4,d4,rfl,o4,g4⟩
    rw [s3] at o4
    have ⟨gt,hgt⟩:=where_of o4
    have HGT:=hid hgt
    have O4:Hid ((⟨P4,n4,d4⟩:Sl).ok):=hid ⟨(own_parts o4).1,(own_parts o4).2.1⟩
    have TR:=hid ((TRow.start (lo:=w4.heap.size) o4 HTL.out hgt (Nat.le_refl _)).st (by have:=g4.size;omega) (p:=⟨W.heap.size,4,none⟩) (by show W.heap.size<b3;omega) (.slice P4 n4 d4))
    have E4:Hid (Blk (w4.setCell ⟨W.heap.size,4,none⟩ (.slice P4 n4 d4)) W.heap.size (rA now stop ⟨P1,k,d1⟩ ⟨P2,n2,d2⟩ ⟨P3,n3,d3⟩ ⟨P4,n4,d4⟩) 29):=hid ((E3.out.gr g4).set 4 (.slice P4 n4 d4))
    have Z4:=hid ((Z3.out.gr g4).st (p:=⟨W.heap.size,4,none⟩) (by simp) (.slice P4 n4 d4))
    have G4:=hid ((G3.out.trans g4).st (p:=⟨W.heap.size,4,none⟩) (Nat.le_refl _) (.slice P4 n4 d4))
    have F0:Hid (FT (W.heap.size+2) b3 V3 (w4.setCell ⟨W.heap.size,4,none⟩ (.slice P4 n4 d4))):=hid ((FT.gr g4).trans (FT.st (p:=⟨W.heap.size,4,none⟩) (.inl (by show W.heap.size<_;omega)) _))
    have s4:(w4.setCell ⟨W.heap.size,4,none⟩ (.slice P4 n4 d4)).heap.size=w4.heap.size:=by simp [World.setCell]
    have t4:b3<=w4.heap.size:=by have:=g4.size;omega
    obtain⟨q4',z4'⟩:=(E3.out.gr g4).at_ (k:=4) (v:=.slice A4 n4 c4) rfl
    clear o4 g4 q4 hgt
    go_upto_region 10 with fail
    generalize w4.setCell ⟨W.heap.size,4,none⟩ (.slice P4 n4 d4)=V4 at TR E4 Z4 G4 F0 s4 ⊢
    generalize w4.heap.size=lo2 at TR s4 t4 ⊢
    clear q4' z4' E3 Z3 G3
    obtain⟨q4,-⟩:=E4.out.at_ (k:=4) (v:=.slice P4 n4 d4) rfl
    go_wp2_with fail
    have f1:FT (W.heap.size+2) wr.heap.size wr V4:=H1.out.trans (F0.out.sub (Nat.le_refl _) (by omega))
    have PD4:Hid (∀ W',FT (W.heap.size+2) wr.heap.size V4 W'->∃ R',PMem W' P1 k R'/\P12.pl R'=P12.pl R):=hid λ W' f=>PD.out _ W' (Nat.le_refl _) (f1.trans f)
    have C24:=hid (orow_ft C2.out (H2.out.trans (F0.out.sub (by omega) (by omega))))
    have C34:=hid (orow_ft C3.out (F0.out.sub (by omega) (Nat.le_refl _)))
    have hs0:W.heap.size+2<=wr.heap.size:=by omega
    clear f1 PD H1 H2 C2 C3 F0
    generalize wr.heap.size=b1 at PD4 C24 C34 hs0 t2 ⊢
    go_loopw [41] (λ i wq=>∃ j:Nat,j<=n4/\i=.int .i64 (j:Int)/\lo2<=wq.heap.size/\Hid (TRow b3 lo2 gt wq T j)/\Hid (Blk wq W.heap.size (rA now stop ⟨P1,k,d1⟩ ⟨P2,n2,d2⟩ ⟨P3,n3,d3⟩ ⟨P4,n4,d4⟩) 29)/\Hid (Blk wq (W.heap.size+1) zeroA 29)/\Hid (Gr W wq)/\Hid (FT (W.heap.size+2) b3 V4 wq)) (λ i _=>n4-(intOf i).toNat)
    case atStart=>exact⟨0,Nat.zero_le _,rfl,by omega,TR,E4,Z4,G4,hid FT.refl⟩
    case round =>
     obtain⟨j,hj,rfl,hs,HP,HE,HZ,HG,HF⟩:=hrel
     by_cases hlt:j<n4
     . obtain rfl:=HGT.out (by omega)
       obtain⟨y,hy⟩:∃ y,T[j]?=some y:=⟨_,List.getElem?_eq_getElem (by rw [HTL.out];exact hlt)⟩
       have HY:=hid hy
       obtain⟨hgb,hgl,e0,e1,e2,f2⟩:=HP.out.at_ hy
       have HYR:=hid (List.mem_of_getElem? hy)
       obtain⟨q4,-⟩:=HE.out.at_ (k:=4) (v:=.slice (some ⟨gt,0,none⟩) n4 d4) rfl
       have cc:=cI.out y HYR.out
       have k0:(0:Int)<=(j:Int):=by omega
       have k1:(j:Int)<(n4:Int):=by omega
       have hbx:=HE.out.lt
       clear hy
       go_upto_region 13 with fail
       have gA:=(Gr.refl wr).al (.cells #[.int .i64 y.addr,.int .i64 y.cnt,.slice y.A y.n y.c] 91)
       have NB:=Blk.new wr #[.int .i64 y.addr,.int .i64 y.cnt,.slice y.A y.n y.c] 91
       have HP1:=hid (HP.out.gr (by omega) gA)
       have HE1:=hid (HE.out.gr gA)
       have HZ1:=hid (HZ.out.gr gA)
       have HG1:=hid (HG.out.trans gA)
       have HF1:=hid (HF.out.trans (FT.gr gA))
       have a4:=(gA.cell (p:=⟨W.heap.size,4,none⟩) hbx).trans q4
       have a2:=(gA.cell (p:=⟨gt,j*3+2,none⟩) hgl).trans e2
       have b2':=(World.frozen?_of_block (a:=⟨gt,j*3+2,none⟩) (gA.block gt hgl)).trans f2
       have hgl1:=Nat.lt_of_lt_of_le hgl gA.size
       have hbx1:=Nat.lt_of_lt_of_le hbx gA.size
       have hs1:=Nat.le_trans hs gA.size
       have nbl:=NB.lt
       clear HP HE HZ HG HF q4 e0 e1 e2 f2 gA
       have NE:gt≠wr.heap.size:=by omega
       have NE2:W.heap.size≠wr.heap.size:=by omega
       generalize wr.alloc (.cells #[.int .i64 y.addr,.int .i64 y.cnt,.slice y.A y.n y.c] 91)=wq at NB HP1 HE1 HZ1 HG1 HF1 a4 a2 b2' hgl1 hbx1 hs1 nbl ⊢
       generalize wr.heap.size=nb at NB NE NE2 hbx hgl hs nbl ⊢
       obtain⟨n2',-⟩:=NB.at_ (k:=2) (v:=.slice y.A y.n y.c) rfl
       have a4':wq.drew.cell? ⟨W.heap.size,4,none⟩=some (.slice (some ⟨gt,0,none⟩) n4 d4):=a4
       have n2'':wq.drew.cell? ⟨nb,2,none⟩=some (.slice y.A y.n y.c):=n2'
       go_region_held3 (λ w'=>w'.cell? ⟨W.heap.size,4,none⟩=some (.slice (some ⟨gt,0,none⟩) n4 d4)/\w'.cell? ⟨nb,2,none⟩=some (.slice y.A y.n y.c)) (constructor<;>with_reducible assumption) (first | (go_at_call 62;(with_reducible refine (cc _ (HG1.out.dr)).out.mono ?_);rintro ee w5 ⟨Q,dq,rfl,o5,g5⟩;have G5:=hid (((Gr.refl wq).dr).trans g5);have O5:=hid o5;have r1:=(G5.out.cell (p:=⟨W.heap.size,4,none⟩) hbx1).trans a4;have r2:=(G5.out.cell (p:=⟨gt,j*3+2,none⟩) hgl1).trans a2;have r3:=(World.frozen?_of_block (a:=⟨gt,j*3+2,none⟩) (G5.out.block gt hgl1)).trans b2';have r5:=(G5.out.cell (p:=⟨nb,2,none⟩) nbl).trans n2';have r4:=far_cell (p:=⟨gt,j*3+2,none⟩) (v:=.slice Q y.n dq) r1 (show W.heap.size≠gt by omega);have r6:=far_cell (p:=⟨gt,j*3+2,none⟩) (v:=.slice Q y.n dq) r5 (show nb≠gt by omega);clear o5 g5))
       rename_i hH
       have P5:=hid (HP1.out.put (by omega) HY.out G5.out (HT.out.2.1 y HYR.out) O5.out (by show lo2<=wq.heap.size;omega))
       have E5:=hid ((HE1.out.gr G5.out).st (p:=⟨gt,j*3+2,none⟩) (by show gt≠W.heap.size;omega) (.slice Q y.n dq))
       have Z5:=hid ((HZ1.out.gr G5.out).st (p:=⟨gt,j*3+2,none⟩) (by show gt≠W.heap.size+1;omega) (.slice Q y.n dq))
       have F5:=hid ((HF1.out.trans (FT.gr G5.out)).trans (FT.st (p:=⟨gt,j*3+2,none⟩) (.inr (by show b3<=gt;omega)) (.slice Q y.n dq)))
       have W5:=hid ((HG1.out.trans G5.out).st (p:=⟨gt,j*3+2,none⟩) (by show W.heap.size<=gt;omega) (.slice Q y.n dq))
       have s5:lo2<=(w5.setCell ⟨gt,j*3+2,none⟩ (.slice Q y.n dq)).heap.size:=by have:=G5.out.size;simp [World.setCell];omega
       clear hH r1 r2 r3 r4 r5 r6 a4 a4' a2 b2' n2' n2'' G5 O5
       generalize w5.setCell ⟨gt,j*3+2,none⟩ (.slice Q y.n dq)=W5' at P5 E5 Z5 F5 W5 s5 ⊢
       go_wp2_with fail
       go_roundw
       case rel=>exact⟨j+1,by omega,by go_num,s5,P5,E5,Z5,W5,F5⟩
       case measure=>simp [intOf];omega
     . obtain rfl:j=n4:=by omega
       have TD:=hid (HP.out.done (by omega) HTL.out.symm HGT.out)
       have lt0:=HE.out.lt
       have lt1:=HZ.out.lt
       obtain⟨q0,y0⟩:=HE.out.at_ (k:=0) (v:=.int .i64 now) rfl
       obtain⟨q1,y1⟩:=HE.out.at_ (k:=1) (v:=.slice P1 k d1) rfl
       obtain⟨q2,y2⟩:=HE.out.at_ (k:=2) (v:=.slice P2 n2 d2) rfl
       obtain⟨q3,y3⟩:=HE.out.at_ (k:=3) (v:=.slice P3 n3 d3) rfl
       obtain⟨q4,y4⟩:=HE.out.at_ (k:=4) (v:=.slice P4 j d4) rfl
       obtain⟨q5,y5⟩:=HE.out.at_ (k:=5) (v:=.int .i64 stop) rfl
       obtain⟨v0,x0⟩:=HZ.out.at_ (k:=0) (v:=.int .i64 0) rfl
       obtain⟨v1,x1⟩:=HZ.out.at_ (k:=1) (v:=.slice none 0 0) rfl
       obtain⟨v2,x2⟩:=HZ.out.at_ (k:=2) (v:=.slice none 0 0) rfl
       obtain⟨v3,x3⟩:=HZ.out.at_ (k:=3) (v:=.slice none 0 0) rfl
       obtain⟨v4,x4⟩:=HZ.out.at_ (k:=4) (v:=.slice none 0 0) rfl
       obtain⟨v5,x5⟩:=HZ.out.at_ (k:=5) (v:=.int .i64 0) rfl
       have WF:=hid (put6_blk HZ.out rfl (.int .i64 now) (.slice P1 k d1) (.slice P2 n2 d2) (.slice P3 n3 d3) (.slice P4 j d4) (.int .i64 stop))
       have GF:=hid (put6_gr (x0:=.int .i64 now) (x1:=.slice P1 k d1) (x2:=.slice P2 n2 d2) (x3:=.slice P3 n3 d3) (x4:=.slice P4 j d4) (x5:=.int .i64 stop) (b:=W.heap.size+1) HG.out (Nat.le_succ _))
       have FF:=hid (λ (lo hi:Nat) (hlo:W.heap.size+1<lo)=>(FromB.put6 (W:=wr) hlo (.int .i64 now) (.slice P1 k d1) (.slice P2 n2 d2) (.slice P3 n3 d3) (.slice P4 j d4) (.int .i64 stop)).ft (hi:=hi) (Nat.le_refl lo))
       clear HP TR E4 Z4 G4 cI HE HZ
       go_wp2_with fail
       clear q0 q1 q2 q3 q4 q5 y0 y1 y2 y3 y4 y5 v0 v1 v2 v3 v4 v5 x0 x1 x2 x3 x4 x5
       generalize ((((((wr.setCell ⟨W.heap.size+1,0,none⟩ (.int .i64 now)).setCell ⟨W.heap.size+1,1,none⟩ (.slice P1 k d1)).setCell ⟨W.heap.size+1,2,none⟩ (.slice P2 n2 d2)).setCell ⟨W.heap.size+1,3,none⟩ (.slice P3 n3 d3)).setCell ⟨W.heap.size+1,4,none⟩ (.slice P4 j d4)).setCell ⟨W.heap.size+1,5,none⟩ (.int .i64 stop))=Wf at WF GF FF ⊢
       have F0:=(WF.out.at_ (k:=0) (v:=.int .i64 now) rfl).1
       have F1:=(WF.out.at_ (k:=1) (v:=.slice P1 k d1) rfl).1
       have F2:=(WF.out.at_ (k:=2) (v:=.slice P2 n2 d2) rfl).1
       have F3:=(WF.out.at_ (k:=3) (v:=.slice P3 n3 d3) rfl).1
       have F4:=(WF.out.at_ (k:=4) (v:=.slice P4 j d4) rfl).1
       have F5:=(WF.out.at_ (k:=5) (v:=.int .i64 stop) rfl).1
       have hW:=H.out
       have fs:=(FF.out b3 b3 (by omega)).1
       have hgs:=HF.out.1
       exact bodyPost_ret (v:=WR.v ⟨now,⟨P1,k,d1⟩,⟨P2,n2,d2⟩,⟨P3,n3,d3⟩,⟨P4,j,d4⟩,stop⟩) (by simp [results,Tryz.results35,go_sem,F0,F1,F2,F3,F4,F5]) rfl
        ⟨⟨⟨now,⟨P1,k,d1⟩,⟨P2,n2,d2⟩,⟨P3,n3,d3⟩,⟨P4,j,d4⟩,stop⟩,b1,b2,b3,rfl,
          { l1:=by omega,l2:=t2,l3:=t3,l4:=by omega,now:=hW.now,stop:=hW.stop,bn:=hW.bn,bs:=hW.bs,nc:=ln2,nm:=ln3
            p:=λ W' f=>by
             obtain⟨R',h1,h2⟩:=PD4.out W' (((HF.out.sub (Nat.le_refl _) (by omega)).trans (FF.out _ b1 (by omega))).trans (f.sub (by omega) (Nat.le_refl _)))
             exact⟨R',h1,h2.trans ER.out⟩
            c:=orow_ft C24.out ((HF.out.sub (by omega) (by omega)).trans (FF.out _ _ (by omega)))
            m:=orow_ft C34.out ((HF.out.sub (by omega) (Nat.le_refl _)).trans (FF.out _ _ (by omega)))
            t:=λ W' f=>by
             obtain⟨T',h1,h2⟩:=TD.out _ W' fs ((FF.out _ _ (by omega)).trans f)
             exact⟨T',h1,h2.trans ET.out⟩
            cb:=hW.c.all,mb:=hW.m.all,op:=O1.out,oc:=O2.out,om:=O3.out,ot:=O4.out }⟩,GF.out⟩
end
end P16
end
section
open Go.ChangeShapes Go.WideShapes Go.ChangeAt Go.RowKit Go.Shelf
namespace P16
open P14 (pan)
open P12 (PV PMem)
section
variable {W:World} {r:WR} {ω:Wv} {who k n:Int} {c:Cl} {pr:List Ac}
abbrev xA (now stop:Int) (p c m t:Sl) (who:Int) (P:Option Addr) (k n:Int):Array Value:=#[.int .i64 now,.slice p.A p.n p.c,.slice c.A c.n c.c,.slice m.A m.n m.c,.slice t.A t.n t.c,.int .i64 stop,.int .i64 who,.pointer P,.int .i64 k,.int .i64 n,.slice none 0 0]
theorem turnOf_is (h:WIs W r ω) (hf:Few ω) (w0:0<=who) (hc:ω.cl[who.toNat]?=some c) (hp:ω.progs[who.toNat]?=some pr) (ha0:0<=c.act) (ha:pr[c.act.toNat]?=some (k,n)) (hm4:ω.mx.length=4) :
 Calls Tryz.prog 41 #[r.v,.int .i64 who] W λ e w'=>(∃ (x:Cx) (T:Sl),e=.returned (.pointer (some ⟨x.b,0,none⟩))/\TS x w' T ⟨none,0,0⟩ ω.cl ω.mx ω.tb []/\x.B=W.heap.size/\x.now=ω.now/\x.who=who/\x.k=k/\x.n=n/\x.progs=ω.progs/\x.st=ω.stop/\x.p.n=r.p.n/\x.nc=r.c.n)/\Gr W w':=by
 have cC:=λ W1 (g:Gr W W1)=>hid (copied_is (h.gr g).rd hf)
 have hlc:=(List.getElem?_eq_some_iff.1 hc).1
 have hlp:=(List.getElem?_eq_some_iff.1 hp).1
 have hla:=(List.getElem?_eq_some_iff.1 ha).1
 have fc:=hf.c
 have LN:=hid h.lens
 have HF:=hid (hf.a pr (List.mem_of_getElem? hp))
 have HC:=hid hc
 have HP:=hid hp
 have HA:=hid ha
 have HLA:=hid hla
 have HM4:=hid hm4
 have G0:=hid ((Gr.refl W).al (.cells r.a 29))
 have hm4p:0<ω.mx.length:=by omega
 clear h hf hc hp ha hla hm4
 go_enter Tryz.func41,Tryz.ntmps41
 go_wp2_with fail
 with_reducible refine (cC _ G0.out).out.mono ?_
 rintro e w1 ⟨⟨s,b1,b2,b3,rfl,hcp⟩,g1⟩
 obtain⟨now,⟨A1,n1,c1⟩,⟨A2,n2,c2⟩,⟨A3,n3,c3⟩,⟨A4,n4,c4⟩,stop⟩:=s
 have H2:Hid (ω.cl.length=n2):=hid hcp.nc
 have H3:Hid (ω.mx.length=n3):=hid hcp.nm
 obtain rfl:n3=4:=by have:=H3.out;have:=HM4.out;omega
 obtain⟨gc,e2,k2a,k2b,oc⟩:=hcp.c (by show 0<n2;have:=H2.out;omega)
 obtain⟨gm,e3,k3a,k3b,om⟩:=hcp.m (by show 0<4;decide)
 dsimp only at e2 e3
 subst e2 e3
 have l0:W.heap.size+1<=b1:=by have:=hcp.l1;rw [World.size_alloc] at this;omega
 have l1:=hcp.l2
 have l2:=hcp.l3
 have l3:=hcp.l4
 obtain⟨Rc,mc0,ec0⟩:=hcp.p w1 FT.refl
 have H1:Hid (ω.progs.length=n1):=hid (by have:=mc0.len;rw [<- ec0];unfold P12.pl;rw [List.length_map];exact this)
 have wn1:who<(n1:Int):=by have:=H1.out;omega
 have w1n:who<(n2:Int):=by have:=H2.out;omega
 have fc2:n2<=1000:=by have:=H2.out;omega
 clear hlc hlp fc
 obtain⟨bp,op,y,hA1,hbp,hy,oky,ey⟩:=pmem_at mc0 (show who.toNat<n1 by omega)
 have hyl:y.l=pr:=by
  have h1:(P12.pl Rc)[who.toNat]?=some y.l:=by unfold P12.pl;rw [List.getElem?_map,hy];rfl
  rw [ec0,HP.out] at h1
  cases h1
  rfl
 obtain⟨ba,oa,hAy,hba,hca⟩:=oky.1.2.2 (by have:=oky.1.1;have:=HLA.out;rw [hyl] at *;omega)
 have hyn:c.act<(y.n:Int):=by have:=oky.1.1;have:=HLA.out;rw [hyl] at *;omega
 have f0:=hca (c.act.toNat*2) _ (flat_get0 _ _ _ (by rw [hyl];exact HA.out))
 have f1:=hca (c.act.toNat*2+1) _ (flat_get1 _ _ _ (by rw [hyl];exact HA.out))
 rw [<- Nat.add_assoc] at f1
 have HIN:=hid (oky.1.2.1 (k,n) (by rw [hyl];exact List.mem_of_getElem? HA.out))
 rw [hAy] at ey
 subst hA1
 clear oky hca hy hyl hAy
 have B1:=Blk.new w1 (xA now stop ⟨some ⟨bp,op,none⟩,n1,c1⟩ ⟨some ⟨gc,0,none⟩,n2,c2⟩ ⟨some ⟨gm,0,none⟩,4,c3⟩ ⟨A4,n4,c4⟩ who none 0 0) 99
 have G1:=hid ((G0.out.trans g1).al (.cells (xA now stop ⟨some ⟨bp,op,none⟩,n1,c1⟩ ⟨some ⟨gc,0,none⟩,n2,c2⟩ ⟨some ⟨gm,0,none⟩,4,c3⟩ ⟨A4,n4,c4⟩ who none 0 0) 99))
 have gA:=(Gr.refl w1).al (.cells (xA now stop ⟨some ⟨bp,op,none⟩,n1,c1⟩ ⟨some ⟨gc,0,none⟩,n2,c2⟩ ⟨some ⟨gm,0,none⟩,4,c3⟩ ⟨A4,n4,c4⟩ who none 0 0) 99)
 have F1:=hid (λ lo hi=>(FT.gr gA:FT lo hi w1 _))
 have HCP:=hid hcp
 clear hcp g1 cC mc0 ec0
 go_upto_region 2 with fail
 generalize w1.alloc (.cells (xA now stop ⟨some ⟨bp,op,none⟩,n1,c1⟩ ⟨some ⟨gc,0,none⟩,n2,c2⟩ ⟨some ⟨gm,0,none⟩,4,c3⟩ ⟨A4,n4,c4⟩ who none 0 0) 99)=W1 at B1 G1 gA F1 ⊢
 generalize hb:w1.heap.size=b at B1 l3 ⊢
 have HB:=hid hb
 clear hb
 have hbl:=B1.lt
 obtain⟨q2,-⟩:=B1.at_ (k:=2) (v:=.slice (some ⟨gc,0,none⟩) n2 c2) rfl
 obtain⟨q7,z7⟩:=B1.at_ (k:=7) (v:=.pointer none) rfl
 go_upto_region 3 with fail
 have B2:Blk (W1.setCell ⟨b,7,none⟩ (.pointer (some ⟨gc,who.toNat*13,none⟩))) b (xA now stop ⟨some ⟨bp,op,none⟩,n1,c1⟩ ⟨some ⟨gc,0,none⟩,n2,c2⟩ ⟨some ⟨gm,0,none⟩,4,c3⟩ ⟨A4,n4,c4⟩ who (some ⟨gc,who.toNat*13,none⟩) 0 0) 99:=B1.set 7 _
 have G2:=hid (G1.out.st (p:=⟨b,7,none⟩) (by show W.heap.size<=b;omega) (.pointer (some ⟨gc,who.toNat*13,none⟩)))
 have F2:=hid (λ lo hi (hh:hi<=b)=>(F1.out lo hi).trans (FT.st (p:=⟨b,7,none⟩) (.inr (by show hi<=b;exact hh)) (.pointer (some ⟨gc,who.toNat*13,none⟩))))
 clear B1 q2 q7 z7 G1 F1 gA
 generalize W1.setCell ⟨b,7,none⟩ (.pointer (some ⟨gc,who.toNat*13,none⟩))=V at B2 G2 F2 ⊢
 have o2:=oc.kept ((F2.out gc (gc+1) (by omega)).2 gc (Nat.le_refl _) (by omega) oc.lt)
 obtain⟨s2,-⟩:=o2.at_ (j:=2) HC.out rfl
 rw [Nat.zero_add] at s2
 have keep:∀ p:Addr,p.block<b->V.cell? p=w1.cell? p:=λ p hp=>World.cell?_of_block ((F2.out 0 b (Nat.le_refl _)).2 p.block (Nat.zero_le _) hp (by have:=HB.out;omega))
 have ey:=(keep ⟨bp,op+who.toNat,none⟩ (by show bp<b;have:=HB.out;omega)).trans ey
 have f0:=(keep ⟨ba,oa+c.act.toNat*2,none⟩ (by show ba<b;have:=HB.out;omega)).trans f0
 have f1:=(keep ⟨ba,oa+c.act.toNat*2+1,none⟩ (by show ba<b;have:=HB.out;omega)).trans f1
 have nb1:bp≠b:=by have:=HB.out;omega
 have nb2:ba≠b:=by have:=HB.out;omega
 have nb3:gc≠b:=by omega
 clear keep
 obtain⟨p1,-⟩:=B2.at_ (k:=1) (v:=.slice (some ⟨bp,op,none⟩) n1 c1) rfl
 obtain⟨p7,-⟩:=B2.at_ (k:=7) (v:=.pointer (some ⟨gc,who.toNat*13,none⟩)) rfl
 obtain⟨p8,y8⟩:=B2.at_ (k:=8) (v:=.int .i64 0) rfl
 obtain⟨p9,y9⟩:=B2.at_ (k:=9) (v:=.int .i64 0) rfl
 refine wp_region_held_drew (S:=(λ w'=>w'.cell? ⟨b,1,none⟩=some (.slice (some ⟨bp,op,none⟩) n1 c1)/\w'.cell? ⟨b,7,none⟩=some (.pointer (some ⟨gc,who.toNat*13,none⟩))/\w'.cell? ⟨bp,op+who.toNat,none⟩=some (.slice (some ⟨ba,oa,none⟩) y.n y.c)/\w'.cell? ⟨gc,who.toNat*13+2,none⟩=some (.int .i64 c.act)/\w'.cell? ⟨ba,oa+c.act.toNat*2,none⟩=some (.int .i64 k)/\w'.cell? ⟨ba,oa+c.act.toNat*2+1,none⟩=some (.int .i64 n))) (by kernel_rfl) ⟨p1,p7,ey,s2,f0,f1⟩ (λ hS=>?_)
 refine wG 0 hS ?_
 refine wG 1 hS ?_
 refine wG 2 hS ?_
 refine wG 3 hS ?_
 refine wG 4 hS ?_
 refine wG 5 hS ?_
 refine wG 6 hS ?_
 refine wG 7 hS ?_
 refine wG 8 hS ?_
 refine wG 9 hS ?_
 refine wG 10 hS ?_
 refine wG 11 hS ?_
 refine wG 12 hS ?_
 refine wG 13 hS ?_
 refine wG 14 hS ?_
 refine wG 15 hS ?_
 refine wG 16 hS ?_
 refine wG 17 hS ?_
 refine wG 18 hS ?_
 refine wG 19 hS ?_
 refine wR1 20 (λ K hK=>?_)
 go_simp
 have B3:Blk ((V.setCell ⟨b,8,none⟩ (.int .i64 k)).setCell ⟨b,9,none⟩ (.int .i64 n)) b (xA now stop ⟨some ⟨bp,op,none⟩,n1,c1⟩ ⟨some ⟨gc,0,none⟩,n2,c2⟩ ⟨some ⟨gm,0,none⟩,4,c3⟩ ⟨A4,n4,c4⟩ who (some ⟨gc,who.toNat*13,none⟩) k n) 99:=(B2.set 8 _).set 9 _
 have G3:=hid ((G2.out.st (p:=⟨b,8,none⟩) (by show W.heap.size<=b;omega) (.int .i64 k)).st (p:=⟨b,9,none⟩) (by show W.heap.size<=b;omega) (.int .i64 n))
 have F3:Hid (∀ lo hi,hi<=b->FT lo hi w1 ((V.setCell ⟨b,8,none⟩ (.int .i64 k)).setCell ⟨b,9,none⟩ (.int .i64 n))):=hid (λ lo hi (hh:hi<=b)=>((F2.out lo hi hh).trans (FT.st (p:=⟨b,8,none⟩) (.inr (by show hi<=b;exact hh)) (.int .i64 k))).trans (FT.st (p:=⟨b,9,none⟩) (.inr (by show hi<=b;exact hh)) (.int .i64 n)))
 obtain⟨r1,-⟩:=B3.at_ (k:=1) (v:=.slice (some ⟨bp,op,none⟩) n1 c1) rfl
 obtain⟨r7,-⟩:=B3.at_ (k:=7) (v:=.pointer (some ⟨gc,who.toNat*13,none⟩)) rfl
 have far:=λ (q:Addr) (v:Value) (hq:V.cell? q=some v) (hne:q.block≠b)=>far_cell (p:=⟨b,9,none⟩) (v:=.int .i64 n) (far_cell (p:=⟨b,8,none⟩) (v:=.int .i64 k) hq hne) hne
 refine hK.out _ _ ⟨r1,r7,far _ _ ey nb1,far _ _ s2 nb3,far _ _ f0 nb2,far _ _ f1 nb2⟩ (λ hS=>?_)
 clear hK K hS far r1 r7 ey s2 f0 f1 p1 p7 p8 p9 y8 y9 B2 G2
 try simp only [pL]
 refine wpAnyH_done (by kernel_rfl) ?_ _
 generalize ((V.setCell ⟨b,8,none⟩ (.int .i64 k)).setCell ⟨b,9,none⟩ (.int .i64 n))=V3 at B3 G3 F3 ⊢
 go_wp2_with fail
 go_ret
 have B3:=B3.gr (Gr.refl V3).dr
 have G3:=hid G3.out.dr
 have F3:Hid (∀ lo hi,hi<=b->FT lo hi w1 V3.drew):=hid λ lo hi hh=>(F3.out lo hi hh).trans (FT.gr (Gr.refl V3).dr)
 generalize V3.drew=V3 at B3 G3 F3 ⊢
 have hcp:=HCP.out
 have hw1:=HB.out
 have kft:∀ (lo hi:Nat) (W':World),W.heap.size<=lo->(∀ j,lo<=j->j<hi->j≠b/\j≠gc/\j≠gm)->hi<=b->Kb ⟨W.heap.size,b,gc,0,gm,0,now,who,k,n,⟨some ⟨bp,op,none⟩,n1,c1⟩,n2,c2,c3,ω.progs,stop⟩ V3 W'->FT lo hi w1 W':=λ lo hi W' h1 h2 h3 h4=>(F3.out lo hi h3).trans ⟨h4.1,λ j j1 j2 j3=>h4.2 j (by show W.heap.size<=j;omega) j3 (h2 j j1 j2).1 (h2 j j1 j2).2.1 (h2 j j1 j2).2.2⟩
 refine⟨⟨⟨W.heap.size,b,gc,0,gm,0,now,who,k,n,⟨some ⟨bp,op,none⟩,n1,c1⟩,n2,c2,c3,ω.progs,stop⟩,⟨A4,n4,c4⟩,rfl,?_,rfl,hcp.now,rfl,rfl,rfl,rfl,hcp.stop,?_,?_⟩,G3.out⟩
 . exact { lb:=(by show W.heap.size<=b;omega),lc:=(by show W.heap.size<=gc;omega),lm:=(by show W.heap.size<=gm;omega),n1:=(by show b≠gc;omega),n2:=(by show b≠gm;omega),n3:=(by show gc≠gm;omega)
           t:=by show Blk V3 b #[.int .i64 now,.slice (some ⟨bp,op,none⟩) n1 c1,.slice (some ⟨gc,0,none⟩) n2 c2,.slice (some ⟨gm,0,none⟩) 4 c3,.slice A4 n4 c4,.int .i64 stop,.int .i64 who,.pointer (some ⟨gc,0+who.toNat*13,none⟩),.int .i64 k,.int .i64 n,.slice none 0 0] _;rw [Nat.zero_add];exact B3
           c:=oc.kept ((F3.out gc (gc+1) (by omega)).2 gc (Nat.le_refl _) (by omega) (by omega)),m:=om.kept ((F3.out gm (gm+1) (by omega)).2 gm (Nat.le_refl _) (by omega) (by omega))
           cb:=hcp.cb,mb:=hcp.mb,lenc:=H2.out,lenm:=H3.out
           pr:=λ W' q=>hcp.p W' (kft _ _ _ (by rw [World.size_alloc];omega) (λ j j1 j2=>by omega) (by omega) q)
           tb:=λ W' q=>hcp.t W' (kft _ _ _ (by omega) (λ j j1 j2=>by omega) (by omega) q)
           ev:=λ _ _=>RMem.nil_,op:=hcp.op,ot:=hcp.ot,oe:=⟨Nat.le_refl _,Nat.zero_le _⟩,oc:=hcp.oc,om:=hcp.om,w0:=w0,w1:=by show who<(n2:Int);exact w1n,wi:=(show B64 who from ⟨by omega,by omega⟩),ni:=HIN.out.2,kt:=by show B64 now;have e:now=ω.now:=hcp.now;rw [e];exact hcp.bn }
 . show n1=r.p.n;have h1:=LN.out.1;have h2:=H1.out;omega
 . show n2=r.c.n;have h1:=LN.out.2.1;have h2:=H2.out;omega
end
end P16
end
section
open Go.ChangeShapes Go.WideShapes Go.ChangeAt Go.RowKit Go.Shelf
namespace P16
open P12 (badAt badAt_is ret_bool)
instance (v:Int):Decidable (OkW v):=by unfold OkW;infer_instance
def okM (a:T3):Bool:=decide (OkW a.1)&&P6.tkB a.2.1 a.2.2
theorem unfitM_no {a:T3} (h:¬ OkW a.1) (W:World) :
 Calls Tryz.prog 68 #[.agg #[.int .i64 a.1,.int .i64 a.2.1,.int .i64 a.2.2]] W λ e w'=>e=.returned (.bool true)/\Gr W w':=by
 have cu:=λ W=>hid (P3.Unpack_no a.1 h W)
 go_enter Tryz.func68,Tryz.ntmps68
 go_wp2_with fail
 with_reducible refine (cu _).out.mono ?_
 rintro e w1 ⟨rfl,g1⟩
 go_wp2_with fail
 go_ret
 exact⟨rfl,(((Gr.refl W).al _).trans g1).al _⟩
theorem unfitM_yes {a:T3} {r:Bool} (h:OkW a.1) (hr:P6.tkB a.2.1 a.2.2=r) (hb:TB3 a) (W:World) :
 Calls Tryz.prog 68 #[.agg #[.int .i64 a.1,.int .i64 a.2.1,.int .i64 a.2.2]] W λ e w'=>e=.returned (.bool (!r))/\Gr W w':=by
 obtain⟨v,n,s⟩:=a
 dsimp only at h hr ⊢
 obtain⟨-,b1,b2⟩:=hb
 dsimp only at b1 b2
 obtain⟨p,q,t,m,rfl,hn⟩:=okw_pw h
 have cu:=λ W=>hid (P3.Unpack_ok p q t m hn W)
 have cr:=λ W=>hid (P6.Right_is hr b1 b2 W)
 generalize P3.pw p q t m=v at *
 have N0:=Blk.new W #[.int .i64 v,.int .i64 n,.int .i64 s] 48
 clear h hr b1 b2 hn
 go_enter Tryz.func68,Tryz.ntmps68
 go_wp2_with fail
 with_reducible refine (cu _).out.mono ?_
 rintro e w1 ⟨rfl,g1⟩
 have G1:=hid ((((Gr.refl W).al (.cells #[.int .i64 v,.int .i64 n,.int .i64 s] 48)).trans g1).al (.cells #[.bool p,.bool q,.bool t,.int .i64 m] 42))
 have B1:=(N0.gr g1).al (.cells #[.bool p,.bool q,.bool t,.int .i64 m] 42)
 obtain⟨e1,-⟩:=B1.at_ (k:=1) rfl
 obtain⟨e2,-⟩:=B1.at_ (k:=2) rfl
 clear B1 N0 g1
 go_wp2_with fail
 with_reducible refine (cr _).out.mono ?_
 rintro e w2 ⟨rfl,g2⟩
 go_wp2_with fail
 go_ret
 exact⟨rfl,G1.out.trans g2⟩
theorem unfitM_is {a:T3} {B:Bool} (hf:okM a=B) (hb:TB3 a) (W:World) :
 Calls Tryz.prog 68 #[.agg #[.int .i64 a.1,.int .i64 a.2.1,.int .i64 a.2.2]] W λ e w'=>e=.returned (.bool (!B))/\Gr W w':=by
 unfold okM at hf
 by_cases h:OkW a.1
 . exact unfitM_yes h (by rw [<- hf];simp [h]) hb W
 . have:B=false:=by rw [<- hf];simp [h]
   subst this
   exact unfitM_no h W
theorem IndexFuncM_ok (A:Option Addr) (n c:Nat) (l:List T3) (w:World) (hm:T3Mem w A n l) (hn:n<=9223372036854775807) :
 Calls Tryz.prog 89 #[.slice A n c,.func (.func 68) #[] #[]] w λ e w'=>e=.returned (.int .i64 (badAt okM l 0))/\Gr w w':=by
 go_enter Tryz.func89,Tryz.ntmps89
 go_wp2_with fail
 go_loopw [8] (λ i wr=>∃ k:Nat,k<=n/\i=.int .i64 k/\Hid (badAt okM (l.drop k) k=badAt okM l 0)/\Gr w wr) (λ i _=>n-(intOf i).toNat)
 case atStart=>exact⟨0,Nat.zero_le _,rfl,hid rfl,Gr.refl _⟩
 case round =>
  obtain⟨k,hk,rfl,HB,hg⟩:=hrel
  by_cases hlt:k<n
  . obtain⟨b,off,x,rfl,hbl,hx,ho,c0,c1,c2⟩:=T3Mem.cells (RMem.gr hm hg) hlt
    have hd:l.drop k=x::l.drop (k+1):=by
     obtain⟨hl,rfl⟩:=List.getElem?_eq_some_iff.1 hx
     exact List.drop_eq_getElem_cons hl
    cases hf:okM x
    . have hr:badAt okM l 0=(k:Int):=by rw [<- HB.out,hd];simp [badAt,hf]
      have HR:=hid hr
      have cc:=λ w=>hid (unfitM_is hf ho w)
      clear hr hd hf hx HB hm
      go_wp2_with fail
      with_reducible refine (cc _).out.mono ?_
      rintro e w1 ⟨rfl,hb1⟩
      go_wp2_with fail
      go_ret
      rw [HR.out]
      exact⟨rfl,hg.trans hb1⟩
    . have hr:Hid (badAt okM (l.drop (k+1)) (k+1)=badAt okM l 0):=hid (by rw [<- HB.out,hd];simp [badAt,hf])
      have cc:=λ w=>hid (unfitM_is hf ho w)
      clear hd hf hx HB hm
      go_wp2_with fail
      with_reducible refine (cc _).out.mono ?_
      rintro e w1 ⟨rfl,hb1⟩
      go_wp2_with fail
      go_roundw
      case rel=>exact⟨k+1,by omega,by go_num,hr,hg.trans hb1⟩
      case measure=>simp [intOf];omega
  . obtain rfl:k=n:=by omega
    have hr:badAt okM l 0=-1:=by rw [<- HB.out,List.drop_of_length_le (by have:=RMem.len hm;omega)];rfl
    have HR:=hid hr
    clear hr HB hm
    go_wp2_with fail
    go_ret
    rw [HR.out]
    exact⟨rfl,hg⟩
theorem ContainsFuncM_ok (A:Option Addr) (n c:Nat) (l:List T3) (w:World) (hm:T3Mem w A n l) (hn:n<=9223372036854775807) :
 Calls Tryz.prog 67 #[.slice A n c,.func (.func 68) #[] #[]] w λ e w'=>e=.returned (.bool (!l.all okM))/\Gr w w':=by
 have cc:=λ w hm=>hid (IndexFuncM_ok A n c l w hm hn)
 have HB:=hid (badAt_is okM l 0)
 generalize badAt okM l 0=r at *
 go_enter Tryz.func67,Tryz.ntmps67
 go_wp2_with fail
 with_reducible refine (cc _ hm).out.mono ?_
 rintro e w1 ⟨rfl,hb1⟩
 go_wp2_with fail
 go_ret
 exact⟨ret_bool HB.out,hb1⟩
end P16
end
end Go.Proofs.YtainfijdhcehlaaGreatDoor
