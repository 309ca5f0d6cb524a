/-
  A part of the proof.
-/
import Derived.Test.YtainfijdhcehlaaGreatDoorQH10
set_option linter.all false
set_option maxRecDepth 100000
set_option maxHeartbeats 8000000
namespace Go.Proofs.YtainfijdhcehlaaGreatDoor
open Lib (hid)
section
open Go.ChangeShapes Go.WideShapes Go.ChangeAt Go.RowKit Go.Joins
namespace P16
open P12 (PV PMem)
theorem yn (p:Prop):∃ b:Bool,b=true↔p:=by
 by_cases h:p
 . exact⟨true,by simp [h]⟩
 . exact⟨false,by simp [h]⟩
theorem no_eq {v:Bool} {p:Prop} (hv:v=true↔p) (h:¬ p):v=false:=by
 cases v with
 | false=>rfl
 | true=>exact absurd (hv.1 rfl) h
theorem all_at {α:Type} {l m:List α} {n:Nat} (hl:l.length=n) (hm:m.length=n) (h:∀ j,j<n->l[j]?=m[j]?):l=m:=by
 refine List.ext_getElem? λ i=>?_
 by_cases hi:i<n
 . exact h i hi
 . rw [List.getElem?_eq_none (by omega),List.getElem?_eq_none (by omega)]
theorem at_more {α:Type} {l m:List α} {k:Nat} (h:∀ j,j<k->l[j]?=m[j]?) (e:l[k]?=m[k]?):∀ j,j<k+1->l[j]?=m[j]?:=by
 intro j hj
 by_cases hk:j<k
 . exact h j hk
 . obtain rfl:j=k:=by omega
   exact e
theorem six {W:World} {b:Nat} {t:TypeId} {r:WR} (h:Blk W b r.a t) :
 W.cell? ⟨b,0,none⟩=some (.int .i64 r.now)/\W.cell? ⟨b,1,none⟩=some (.slice r.p.A r.p.n r.p.c)/\W.cell? ⟨b,2,none⟩=some (.slice r.c.A r.c.n r.c.c)/\W.cell? ⟨b,3,none⟩=some (.slice r.m.A r.m.n r.m.c)/\W.cell? ⟨b,4,none⟩=some (.slice r.t.A r.t.n r.t.c)/\W.cell? ⟨b,5,none⟩=some (.int .i64 r.stop) :=
 ⟨(h.at_ (k:=0) rfl).1,(h.at_ (k:=1) rfl).1,(h.at_ (k:=2) rfl).1,(h.at_ (k:=3) rfl).1,(h.at_ (k:=4) rfl).1,(h.at_ (k:=5) rfl).1⟩
section
variable {w:World} {r s:WR} {ω ψ:Wv}
theorem rWSame_is (ha:WIs w r ω) (hb:WIs w s ψ) {v:Bool} (hv:v=true↔ω=ψ) :
 Calls Tryz.prog 16 #[r.v,s.v] w λ e w'=>e=.returned (.bool v)/\Gr w w':=by
 by_cases e1:r.now=s.now
 rotate_left
 . have hv0:v=false:=no_eq hv (λ e=>e1 (by rw [ha.now,hb.now,e]))
   have t1:(r.now != s.now)=true:=by simpa using e1
   subst hv0
   clear ha hb hv e1
   go_enter Tryz.func16,Tryz.ntmps16
   go_wp2_with fail
   go_ret
   exact⟨rfl,((Gr.refl w).al _).al _⟩
 by_cases e2:r.stop=s.stop
 rotate_left
 . have hv0:v=false:=no_eq hv (λ e=>e2 (by rw [ha.stop,hb.stop,e]))
   have t1:(r.now != s.now)=false:=by simpa using e1
   have t2:(r.stop != s.stop)=true:=by simpa using e2
   subst hv0
   clear ha hb hv e1 e2
   go_enter Tryz.func16,Tryz.ntmps16
   go_wp2_with fail
   go_ret
   exact⟨rfl,((Gr.refl w).al _).al _⟩
 have t1:(r.now != s.now)=false:=by simpa using e1
 have t2:(r.stop != s.stop)=false:=by simpa using e2
 obtain⟨R,hR,eR⟩:=ha.p
 obtain⟨T,hT,eT⟩:=hb.p
 obtain⟨p,hp⟩:∃ p,(P12.pl R==P12.pl T)=p:=⟨_,rfl⟩
 have cP:=λ W (g:Gr w W)=>hid (P12.rSame_is (c:=r.p.c) (d:=s.p.c) hp ha.op.lt hb.op.lt W (hR.gr g) (hT.gr g))
 obtain⟨X,hX,eX⟩:=ha.t
 obtain⟨Y,hY,eY⟩:=hb.t
 obtain⟨t,ht⟩:=yn (X.map SV.pl=Y.map SV.pl)
 have cT:=λ W (g:Gr w W)=>hid (Go.Proofs.YtainfijdhcehlaaGreatDoor.rSame_is (c:=r.t.c) (d:=s.t.c) (hX.gr g) (hY.gr g) ha.ot.lt ht)
 rw [eR,eT] at hp
 rw [eX,eY] at ht
 have hn:=ha.oc.lt
 have hmn:=ha.om.lt
 have lc:=ha.c.len
 have lc':=hb.c.len
 have lm:=ha.m.len
 have lm':=hb.m.len
 have HC:=hid ha.c
 have HC':=hid hb.c
 have HM:=hid ha.m
 have HM':=hid hb.m
 have HW:=hid (show p=true->t=true->ω.cl=ψ.cl->ω.mx=ψ.mx->v=true from λ h1 h2 h3 h4=>hv.2 (by
  have:=ha.now;have:=hb.now;have:=ha.stop;have:=hb.stop
  subst h1
  have h5:=eq_of_beq hp
  have h6:=ht.1 h2
  obtain⟨a1,a2,a3,a4,a5,a6⟩:=ω
  obtain⟨b1,b2,b3,b4,b5,b6⟩:=ψ
  simp_all))
 have HN:=hid (show ω≠ψ->v=false from no_eq hv)
 have HV:=hid hv
 have HP:=hid hp
 have HT:=hid ht
 have N0:=hid (show Blk ((w.alloc (.cells r.a 29)).alloc (.cells s.a 29)) w.heap.size r.a 29 from (Blk.new w _ _).al _)
 have N1:=hid (show Blk ((w.alloc (.cells r.a 29)).alloc (.cells s.a 29)) (w.heap.size+1) s.a 29 from by
  have:=Blk.new (w.alloc (.cells r.a 29)) s.a 29
  rwa [World.size_alloc] at this)
 have G0:=hid (((Gr.refl w).al (.cells r.a 29)).al (.cells s.a 29))
 clear hv ha hb hR hT hX hY eR eT eX eY hp ht e1 e2
 go_enter Tryz.func16,Tryz.ntmps16
 go_wp2_with fail
 with_reducible refine (cP _ G0.out).out.mono ?_
 rintro e w1 ⟨rfl,q1,hq1⟩
 have g1:Gr ((w.alloc (.cells r.a 29)).alloc (.cells s.a 29)) w1:=by rw [hq1];exact (Gr.refl _).drN _
 have B0:=N0.out.gr g1
 have B1:=N1.out.gr g1
 have G1:=hid (G0.out.trans g1)
 have l0:=B0.lt
 have l1:=B1.lt
 obtain⟨q0,qp,qc,qm,qt,qs⟩:=six B0
 obtain⟨u0,up,uc,um,ut,us⟩:=six B1
 have HB0:=hid B0
 have HB1:=hid B1
 clear hq1 g1 B0 B1 cP N0 N1 G0
 cases p with
 | false =>
  have e:=HN.out (λ h=>by have:=HP.out;rw [h] at this;simp at this)
  subst e
  go_wp2_with fail
  go_ret
  exact⟨rfl,G1.out⟩
 | true =>
 go_wp2_with fail
 with_reducible refine (cT _ G1.out).out.mono ?_
 rintro e w2 ⟨rfl,g2⟩
 have B0:=HB0.out.gr g2
 have B1:=HB1.out.gr g2
 have G2:=hid (G1.out.trans g2)
 clear q0 qp qc qm qt qs u0 up uc um ut us l0 l1 HB0 HB1
 have l0:=B0.lt
 have l1:=B1.lt
 obtain⟨q0,qp,qc,qm,qt,qs⟩:=six B0
 obtain⟨u0,up,uc,um,ut,us⟩:=six B1
 have HB0:=hid B0
 have HB1:=hid B1
 clear g2 B0 B1 cT
 cases t with
 | false =>
  have e:=HN.out (λ h=>by have:=HT.out.2 (by rw [h]);simp at this)
  subst e
  go_wp2_with fail
  go_ret
  exact⟨rfl,G2.out⟩
 | true =>
 by_cases e3:r.c.n=s.c.n
 rotate_left
 . have t3:((r.c.n:Int) != (s.c.n:Int))=true:=by simp;omega
   have e:=HN.out (λ h=>e3 (by rw [<- lc,<- lc',h]))
   subst e
   go_wp2_with fail
   go_ret
   exact⟨rfl,G2.out⟩
 by_cases e4:r.m.n=s.m.n
 rotate_left
 . have t3:((r.c.n:Int) != (s.c.n:Int))=false:=by simp;omega
   have t4:((r.m.n:Int) != (s.m.n:Int))=true:=by simp;omega
   have e:=HN.out (λ h=>e4 (by rw [<- lm,<- lm',h]))
   subst e
   go_wp2_with fail
   go_ret
   exact⟨rfl,G2.out⟩
 have t3:((r.c.n:Int) != (s.c.n:Int))=false:=by simp;omega
 have t4:((r.m.n:Int) != (s.m.n:Int))=false:=by simp;omega
 have LC:=hid lc
 have LC':=hid lc'
 have LM:=hid lm
 have LM':=hid lm'
 have E3:=hid e3
 have E4:=hid e4
 clear lc lc' lm lm' e3 e4
 go_wp2_with fail
 go_loopw [56] (λ i wr=>∃ k:Nat,k<=r.c.n/\i=.int .i64 k/\Hid (∀ j,j<k->ω.cl[j]?=ψ.cl[j]?)/\Hid (Gr w2 wr)) (λ i _=>r.c.n-(intOf i).toNat)
 case atStart=>exact⟨0,Nat.zero_le _,rfl,hid (λ j hj=>absurd hj (by omega)),hid (Gr.refl _)⟩
 case round =>
  obtain⟨k,hk,rfl,HK,HQ⟩:=hrel
  clear q0 qp qc qm qt qs u0 up uc um ut us l0 l1
  have B0:=HB0.out.gr HQ.out
  have B1:=HB1.out.gr HQ.out
  have l0:=B0.lt
  have l1:=B1.lt
  obtain⟨q0,qp,qc,qm,qt,qs⟩:=six B0
  obtain⟨u0,up,uc,um,ut,us⟩:=six B1
  have HR:=hid B0
  have HS:=hid B1
  clear B0 B1
  have G3:=hid (G2.out.trans HQ.out)
  by_cases hlt:k<r.c.n
  . have hlt':k<s.c.n:=by have:=E3.out;omega
    obtain⟨b,off,x,hA,hbl,hx,-,c0,c1,c2,c3,c4,c5,c6,c7,c8,c9,c10,c11,c12⟩:=CMem.cells (HC.out.gr G3.out) hlt
    obtain⟨b',off',y,hA',hbl',hy,-,d0,d1,d2,d3,d4,d5,d6,d7,d8,d9,d10,d11,d12⟩:=CMem.cells (HC'.out.gr G3.out) hlt'
    rw [hA] at qc
    rw [hA'] at uc
    obtain⟨z,hz⟩:=yn (x=y)
    have hne:=λ W=>run_client_neq x y hz W
    have k0:(0:Int)<=(k:Int):=by omega
    have k1:(k:Int)<(r.c.n:Int):=by omega
    have k2:(k:Int)<(s.c.n:Int):=by omega
    have HX:=hid hx
    have HY:=hid hy
    have HZ:=hid hz
    clear hx hy hz hA hA'
    cases z with
    | false =>
     have e:=HN.out (λ h=>by
      have h1:=HX.out
      rw [h,HY.out] at h1
      have:=HZ.out.2 (Option.some.inj h1).symm
      simp at this)
     subst e
     go_wp2_with fail
     go_quiet (fail)
     go_wp2_with fail
     go_ret
     exact⟨rfl,G3.out.drN _⟩
    | true =>
     have HK':=hid (at_more HK.out (by rw [HX.out,HY.out,HZ.out.1 rfl]))
     go_wp2_with fail
     go_quiet (fail)
     go_wp2_with fail
     go_roundw
     case rel=>exact⟨k+1,by omega,by go_num,HK',hid (HQ.out.drN _)⟩
     case measure=>simp [intOf];omega
  . obtain rfl:k=r.c.n:=by omega
    have hcl:=hid (all_at LC.out (by rw [LC'.out,E3.out]) HK.out)
    have HQo:=hid HQ.out
    rename World=>wo
    go_wp2_with fail
    go_loopw [74] (λ i wr=>∃ k:Nat,k<=r.m.n/\i=.int .i64 k/\Hid (∀ j,j<k->ω.mx[j]?=ψ.mx[j]?)/\Hid (Gr w2 wr)) (λ i _=>r.m.n-(intOf i).toNat)
    case atStart=>exact⟨0,Nat.zero_le _,rfl,hid (λ j hj=>absurd hj (by omega)),HQo⟩
    case round =>
     clear HK HQ hk HQo HR HS q0 qp qc qm qt qs u0 up uc um ut us l0 l1 G3
     obtain⟨k,hk,rfl,HK,HQ⟩:=hrel
     have B0:=HB0.out.gr HQ.out
     have B1:=HB1.out.gr HQ.out
     have l0:=B0.lt
     have l1:=B1.lt
     obtain⟨q0,qp,qc,qm,qt,qs⟩:=six B0
     obtain⟨u0,up,uc,um,ut,us⟩:=six B1
     clear B0 B1
     have G3:=hid (G2.out.trans HQ.out)
     by_cases hlt:k<r.m.n
     . have hlt':k<s.m.n:=by have:=E4.out;omega
       obtain⟨b,off,x,hA,hbl,hx,-,c0,c1,c2⟩:=T3Mem.cells (HM.out.gr G3.out) hlt
       obtain⟨b',off',y,hA',hbl',hy,-,d0,d1,d2⟩:=T3Mem.cells (HM'.out.gr G3.out) hlt'
       rw [hA] at qm
       rw [hA'] at um
       obtain⟨z,hz⟩:=yn (x=y)
       have hne:=λ W=>run_mutex_neq x y hz W
       have k0:(0:Int)<=(k:Int):=by omega
       have k1:(k:Int)<(r.m.n:Int):=by omega
       have k2:(k:Int)<(s.m.n:Int):=by omega
       have HX:=hid hx
       have HY:=hid hy
       have HZ:=hid hz
       clear hx hy hz hA hA'
       cases z with
       | false =>
        have e:=HN.out (λ h=>by
         have h1:=HX.out
         rw [h,HY.out] at h1
         have:=HZ.out.2 (Option.some.inj h1).symm
         simp at this)
        subst e
        go_wp2_with fail
        go_quiet (fail)
        go_wp2_with fail
        go_ret
        exact⟨rfl,G3.out.drN _⟩
       | true =>
        have HK':=hid (at_more HK.out (by rw [HX.out,HY.out,HZ.out.1 rfl]))
        go_wp2_with fail
        go_quiet (fail)
        go_wp2_with fail
        go_roundw
        case rel=>exact⟨k+1,by omega,by go_num,HK',hid (HQ.out.drN _)⟩
        case measure=>simp [intOf];omega
     . obtain rfl:k=r.m.n:=by omega
       have e:=HW.out (by trivial) (by trivial) hcl.out (all_at LM.out (by rw [LM'.out,E4.out]) HK.out)
       subst e
       go_wp2_with fail
       go_ret
       exact⟨rfl,G3.out⟩
end
end P16
end
section
open Go.ChangeShapes Go.WideShapes Go.ChangeAt Go.RowKit
section
variable {w W w':World} {base:Nat} {v:Value} {R:List SV} {y:SV} {g cap:Nat}
theorem Appended.row (h:Appended W base v R y g cap w'):SRow w' base (.slice (some ⟨g,0,none⟩) (R.length+1) cap) (R++[y]).length (R++[y]):=by
 rw [List.length_append]
 exact h.1
end
end
section
open Go.ChangeShapes Go.WideShapes Go.ChangeAt Go.RowKit
theorem grownBy_cell (W:World) (b o:Nat) (v:Value):W.grownBy (W.setCell ⟨b,o,none⟩ v) (some b) :=
 ⟨rfl,rfl,rfl,by simp [World.setCell],λ k _ hk=>Below.heap_setCell _ _ _ k (λ e=>hk (by rw [e]))⟩
theorem spot_stored {W:World} {b:Nat} {vs:Array Value} {t:TypeId} (h:Blk W b vs t) (h3:vs.size=3) (x y z:Value) :
 Blk (((W.setCell ⟨b,0,none⟩ x).setCell ⟨b,1,none⟩ y).setCell ⟨b,2,none⟩ z) b #[x,y,z] t:=by
 have h2:=((h.set 0 x).set 1 y).set 2 z
 have e:((vs.setIfInBounds 0 x).setIfInBounds 1 y).setIfInBounds 2 z=#[x,y,z]:=by
  match vs,h3 with
  | ⟨[p,q,r]⟩,_=>rfl
 rw [e] at h2
 exact h2
end
section
open Go.ChangeShapes Go.WideShapes Go.ChangeAt Go.RowKit
namespace P16
open P12 (PV PMem POwn fewP)
theorem least (n K:Nat):∃ N:Nat,(if (K:Int)<(n:Int) then (K:Int) else (n:Int))=(N:Int)/\min (n:Int) (K:Int)=(N:Int)/\N<=n/\N<=K/\∀ {α:Type} (l:List α),l.length=n->l.take K=l.take N:=by
 by_cases h:K<n
 . exact⟨K,by rw [if_pos (by omega)],by omega,by omega,by omega,λ l _=>rfl⟩
 . exact⟨n,by rw [if_neg (by omega)],by omega,by omega,by omega,λ l hl=>by rw [List.take_of_length_le (by omega),List.take_of_length_le (by omega)]⟩
section
variable {W:World} {b:Nat} {x0 x1 x2 x3 x4 x5:Value}
theorem put6_blk {vs:Array Value} {t:TypeId} (h:Blk W b vs t) (h6:vs.size=6) (x0 x1 x2 x3 x4 x5:Value):Blk ((((((W.setCell ⟨b,0,none⟩ x0).setCell ⟨b,1,none⟩ x1).setCell ⟨b,2,none⟩ x2).setCell ⟨b,3,none⟩ x3).setCell ⟨b,4,none⟩ x4).setCell ⟨b,5,none⟩ x5) b #[x0,x1,x2,x3,x4,x5] t:=by
 have h2:=(((((h.set 0 x0).set 1 x1).set 2 x2).set 3 x3).set 4 x4).set 5 x5
 have e:((((((vs.setIfInBounds 0 x0).setIfInBounds 1 x1).setIfInBounds 2 x2).setIfInBounds 3 x3).setIfInBounds 4 x4).setIfInBounds 5 x5)=#[x0,x1,x2,x3,x4,x5]:=by
  obtain⟨c0,c1,c2,c3,c4,c5,rfl⟩:=array6 h6
  simp
 rw [e] at h2
 exact h2
theorem put6_gr {w:World} (g:Gr w W) (hb:w.heap.size<=b):Gr w ((((((W.setCell ⟨b,0,none⟩ x0).setCell ⟨b,1,none⟩ x1).setCell ⟨b,2,none⟩ x2).setCell ⟨b,3,none⟩ x3).setCell ⟨b,4,none⟩ x4).setCell ⟨b,5,none⟩ x5) :=
 (((((g.st (p:=⟨b,0,none⟩) hb x0).st (p:=⟨b,1,none⟩) hb x1).st (p:=⟨b,2,none⟩) hb x2).st (p:=⟨b,3,none⟩) hb x3).st (p:=⟨b,4,none⟩) hb x4).st (p:=⟨b,5,none⟩) hb x5
end
end P16
end
section
open Go.ChangeShapes Go.WideShapes Go.ChangeAt Go.RowKit
namespace P16
open P12 (PV PMem)
def NextM (ω:Wv) (v:Int) (ψ:Wv) (ev:List T3) (who:Int) (b:Bool):Prop :=
 (v<0/\∃ x,TickM ω ((-v-1) % 5000000) ψ x/\ev=[]/\who=-1/\b=(x==0)) \/
 (0<=v/\∃ x,StepM ω (v % 9) ψ ev x/\who=v % 9/\b=(x==0))
section
variable {w:World} {r:WR} {ω:Wv} {v:Int}
theorem next_tick (hM:Mach) (hg:P15.Glob w) (h:WIs w r ω) (hv:B64 v) (h0:v<0) :
 Calls Tryz.prog 15 #[r.v,.int .i64 v] w λ e W'=>(∃ (s:WR) (ψ:Wv) (A:Option Addr) (n c:Nat) (ev:List T3) (who:Int) (b:Bool),e=.returned (.tuple #[s.v,.slice A n c,.int .i64 who,.bool b])/\NextM ω v ψ ev who b/\WNew w.heap.size W' s ψ/\ENew w.heap.size W' A n ev/\n<=c/\c<=9223372036854775807)/\Gr w W':=by
 obtain⟨D,hD⟩:∃ D,-v-1=D:=⟨_,rfl⟩
 obtain⟨d,hd⟩:∃ d,D % 5000000=d:=⟨_,rfl⟩
 have hv':=hv
 unfold B64 at hv'
 have e1:wrap64 (v+1)=v+1:=by unfold wrap64;omega
 have e2:wrap64 (-(v+1))=D:=by unfold wrap64;omega
 have e3:D.tmod 5000000=d:=by rw [Int.tmod_eq_emod_of_nonneg (by omega),hd]
 have cT:=λ W (g:Gr w W)=>hid (hM.tick W r ω d (hg.gr g) (h.gr g) ⟨by omega,by omega⟩)
 have HD:=hid (show (-v-1) % 5000000=d from by rw [hD,hd])
 have d0:0<=d:=by omega
 have d1:d<5000000:=by omega
 have D0:0<=D:=by omega
 have D1:D<=9223372036854775807:=by omega
 clear hd hv hv' h hg
 have HDv:=hid hD
 clear hD
 go_enter Tryz.func15,Tryz.ntmps15
 go_wp2_with fail
 with_reducible refine (cT _ (((Gr.refl w).al _).al _)).out.mono ?_
 rintro e w1 ⟨⟨s,ψ,x,rfl,hT,hW⟩,g1⟩
 obtain⟨now,⟨A1,n1,c1⟩,⟨A2,n2,c2⟩,⟨A3,n3,c3⟩,⟨A4,n4,c4⟩,stop⟩:=s
 dsimp only at *
 have K1:=Blk.new (w.alloc (.cells r.a 29)) #[.int .i64 0,.slice none 0 0,.slice none 0 0,.slice none 0 0,.slice none 0 0,.int .i64 0] 29 |>.gr g1
 rw [World.size_alloc] at K1
 have G1:=((((Gr.refl w).al (.cells r.a 29)).al (.cells #[.int .i64 0,.slice none 0 0,.slice none 0 0,.slice none 0 0,.slice none 0 0,.int .i64 0] 29)).trans g1)
 have B1:=Blk.new w1 #[.int .i64 now,.slice A1 n1 c1,.slice A2 n2 c2,.slice A3 n3 c3,.slice A4 n4 c4,.int .i64 stop] 29
 have K2:=K1.al (.cells #[.int .i64 now,.slice A1 n1 c1,.slice A2 n2 c2,.slice A3 n3 c3,.slice A4 n4 c4,.int .i64 stop] 29)
 have G2:=G1.al (.cells #[.int .i64 now,.slice A1 n1 c1,.slice A2 n2 c2,.slice A3 n3 c3,.slice A4 n4 c4,.int .i64 stop] 29)
 have hB:w.heap.size+1<((w.alloc (.cells r.a 29)).alloc (.cells #[.int .i64 0,.slice none 0 0,.slice none 0 0,.slice none 0 0,.slice none 0 0,.int .i64 0] 29)).heap.size:=by rw [World.size_alloc,World.size_alloc];omega
 have hB2:w.heap.size<=((w.alloc (.cells r.a 29)).alloc (.cells #[.int .i64 0,.slice none 0 0,.slice none 0 0,.slice none 0 0,.slice none 0 0,.int .i64 0] 29)).heap.size:=by omega
 have WW:=hid (hW.gr ((Gr.refl w1).al (.cells #[.int .i64 now,.slice A1 n1 c1,.slice A2 n2 c2,.slice A3 n3 c3,.slice A4 n4 c4,.int .i64 stop] 29)))
 have HX:=hid hT
 clear g1 K1 hT hW G1 e1 e2 e3 d0 d1 D0 D1 cT hM
 go_upto_region 3 with fail
 generalize w1.alloc (.cells #[.int .i64 now,.slice A1 n1 c1,.slice A2 n2 c2,.slice A3 n3 c3,.slice A4 n4 c4,.int .i64 stop] 29)=W1 at B1 K2 G2 WW ⊢
 generalize w1.heap.size=g at B1 ⊢
 have lt1:=K2.lt
 have ltg:=B1.lt
 have b0:=(B1.at_ (k:=0) (v:=.int .i64 now) rfl).1
 have b1:=(B1.at_ (k:=1) (v:=.slice A1 n1 c1) rfl).1
 have b2:=(B1.at_ (k:=2) (v:=.slice A2 n2 c2) rfl).1
 have b3:=(B1.at_ (k:=3) (v:=.slice A3 n3 c3) rfl).1
 have b4:=(B1.at_ (k:=4) (v:=.slice A4 n4 c4) rfl).1
 have b5:=(B1.at_ (k:=5) (v:=.int .i64 stop) rfl).1
 obtain⟨v0,x0⟩:=K2.at_ (k:=0) (v:=.int .i64 0) rfl
 obtain⟨v1,x1⟩:=K2.at_ (k:=1) (v:=.slice none 0 0) rfl
 obtain⟨v2,x2⟩:=K2.at_ (k:=2) (v:=.slice none 0 0) rfl
 obtain⟨v3,x3⟩:=K2.at_ (k:=3) (v:=.slice none 0 0) rfl
 obtain⟨v4,x4⟩:=K2.at_ (k:=4) (v:=.slice none 0 0) rfl
 obtain⟨v5,x5⟩:=K2.at_ (k:=5) (v:=.int .i64 0) rfl
 have WF:=hid (put6_blk K2 rfl (.int .i64 now) (.slice A1 n1 c1) (.slice A2 n2 c2) (.slice A3 n3 c3) (.slice A4 n4 c4) (.int .i64 stop))
 have HG:=hid (put6_gr (x0:=.int .i64 now) (x1:=.slice A1 n1 c1) (x2:=.slice A2 n2 c2) (x3:=.slice A3 n3 c3) (x4:=.slice A4 n4 c4) (x5:=.int .i64 stop) (b:=w.heap.size+1) G2 (Nat.le_succ _))
 clear B1 K2 G2
 have WF2:=hid ((WW.out.to (FromB.put6 (b:=w.heap.size+1) hB (.int .i64 now) (.slice A1 n1 c1) (.slice A2 n2 c2) (.slice A3 n3 c3) (.slice A4 n4 c4) (.int .i64 stop))).low hB2)
 go_wp2_with fail
 clear v0 v1 v2 v3 v4 v5 x0 x1 x2 x3 x4 x5 b0 b1 b2 b3 b4 b5 lt1 ltg WW
 generalize (((((W1.setCell ⟨w.heap.size+1,0,none⟩ (.int .i64 now)).setCell ⟨w.heap.size+1,1,none⟩ (.slice A1 n1 c1)).setCell ⟨w.heap.size+1,2,none⟩ (.slice A2 n2 c2)).setCell ⟨w.heap.size+1,3,none⟩ (.slice A3 n3 c3)).setCell ⟨w.heap.size+1,4,none⟩ (.slice A4 n4 c4)).setCell ⟨w.heap.size+1,5,none⟩ (.int .i64 stop)=Wf at WF HG WF2 ⊢
 have F0:=(WF.out.at_ (k:=0) (v:=.int .i64 now) rfl).1
 have F1:=(WF.out.at_ (k:=1) (v:=.slice A1 n1 c1) rfl).1
 have F2:=(WF.out.at_ (k:=2) (v:=.slice A2 n2 c2) rfl).1
 have F3:=(WF.out.at_ (k:=3) (v:=.slice A3 n3 c3) rfl).1
 have F4:=(WF.out.at_ (k:=4) (v:=.slice A4 n4 c4) rfl).1
 have F5:=(WF.out.at_ (k:=5) (v:=.int .i64 stop) rfl).1
 exact bodyPost_ret (v:=.tuple #[WR.v ⟨now,⟨A1,n1,c1⟩,⟨A2,n2,c2⟩,⟨A3,n3,c3⟩,⟨A4,n4,c4⟩,stop⟩,.slice none 0 0,.int .i64 (-1),.bool (x==0)]) (by simp [results,Tryz.results15,go_sem,F0,F1,F2,F3,F4,F5]) rfl
  ⟨⟨⟨now,⟨A1,n1,c1⟩,⟨A2,n2,c2⟩,⟨A3,n3,c3⟩,⟨A4,n4,c4⟩,stop⟩,ψ,none,0,0,[],-1,x==0,rfl,.inl ⟨h0,x,by rw [HD.out];exact HX.out,rfl,rfl,rfl⟩,WF2.out,ENew.nil,Nat.le_refl _,Nat.zero_le _⟩,HG.out⟩
theorem next_step (hM:Mach) (hg:P15.Glob w) (h:WIs w r ω) (hv:B64 v) (h0:0<=v) :
 Calls Tryz.prog 15 #[r.v,.int .i64 v] w λ e W'=>(∃ (s:WR) (ψ:Wv) (A:Option Addr) (n c:Nat) (ev:List T3) (who:Int) (b:Bool),e=.returned (.tuple #[s.v,.slice A n c,.int .i64 who,.bool b])/\NextM ω v ψ ev who b/\WNew w.heap.size W' s ψ/\ENew w.heap.size W' A n ev/\n<=c/\c<=9223372036854775807)/\Gr w W':=by
 obtain⟨d,hd⟩:∃ d,v % 9=d:=⟨_,rfl⟩
 have hv':=hv
 unfold B64 at hv'
 have e3:v.tmod 9=d:=by rw [Int.tmod_eq_emod_of_nonneg (by omega),hd]
 have cS:=λ W (g:Gr w W)=>hid (hM.step W r ω d (hg.gr g) (h.gr g) ⟨by omega,by omega⟩)
 have HD:=hid hd
 have hn:¬ v<0:=by omega
 clear hd hv hv' h hg
 go_enter Tryz.func15,Tryz.ntmps15
 go_wp2_with fail
 with_reducible refine (cS _ (((Gr.refl w).al _).al _)).out.mono ?_
 rintro e w1 ⟨⟨s,ψ,A,n,c,ev,x,rfl,hT,hW,hE,hnc,hcm⟩,g1⟩
 obtain⟨now,⟨A1,n1,c1⟩,⟨A2,n2,c2⟩,⟨A3,n3,c3⟩,⟨A4,n4,c4⟩,stop⟩:=s
 dsimp only at *
 have K1:=Blk.new (w.alloc (.cells r.a 29)) #[.int .i64 0,.slice none 0 0,.slice none 0 0,.slice none 0 0,.slice none 0 0,.int .i64 0] 29 |>.gr g1
 rw [World.size_alloc] at K1
 have G1:=((((Gr.refl w).al (.cells r.a 29)).al (.cells #[.int .i64 0,.slice none 0 0,.slice none 0 0,.slice none 0 0,.slice none 0 0,.int .i64 0] 29)).trans g1)
 have B1:=Blk.new w1 #[.int .i64 now,.slice A1 n1 c1,.slice A2 n2 c2,.slice A3 n3 c3,.slice A4 n4 c4,.int .i64 stop] 29
 have K2:=K1.al (.cells #[.int .i64 now,.slice A1 n1 c1,.slice A2 n2 c2,.slice A3 n3 c3,.slice A4 n4 c4,.int .i64 stop] 29)
 have G2:=G1.al (.cells #[.int .i64 now,.slice A1 n1 c1,.slice A2 n2 c2,.slice A3 n3 c3,.slice A4 n4 c4,.int .i64 stop] 29)
 have hB:w.heap.size+1<((w.alloc (.cells r.a 29)).alloc (.cells #[.int .i64 0,.slice none 0 0,.slice none 0 0,.slice none 0 0,.slice none 0 0,.int .i64 0] 29)).heap.size:=by rw [World.size_alloc,World.size_alloc];omega
 have hB2:w.heap.size<=((w.alloc (.cells r.a 29)).alloc (.cells #[.int .i64 0,.slice none 0 0,.slice none 0 0,.slice none 0 0,.slice none 0 0,.int .i64 0] 29)).heap.size:=by omega
 have WW:=hid (hW.gr ((Gr.refl w1).al (.cells #[.int .i64 now,.slice A1 n1 c1,.slice A2 n2 c2,.slice A3 n3 c3,.slice A4 n4 c4,.int .i64 stop] 29)))
 have HX:=hid hT
 have EE:=hid (hE.gr ((Gr.refl w1).al (.cells #[.int .i64 now,.slice A1 n1 c1,.slice A2 n2 c2,.slice A3 n3 c3,.slice A4 n4 c4,.int .i64 stop] 29)))
 clear g1 K1 hT hW hE G1 e3 cS hM
 go_upto_region 5 with fail
 generalize w1.alloc (.cells #[.int .i64 now,.slice A1 n1 c1,.slice A2 n2 c2,.slice A3 n3 c3,.slice A4 n4 c4,.int .i64 stop] 29)=W1 at B1 K2 G2 WW EE ⊢
 generalize w1.heap.size=g at B1 ⊢
 have lt1:=K2.lt
 have ltg:=B1.lt
 have b0:=(B1.at_ (k:=0) (v:=.int .i64 now) rfl).1
 have b1:=(B1.at_ (k:=1) (v:=.slice A1 n1 c1) rfl).1
 have b2:=(B1.at_ (k:=2) (v:=.slice A2 n2 c2) rfl).1
 have b3:=(B1.at_ (k:=3) (v:=.slice A3 n3 c3) rfl).1
 have b4:=(B1.at_ (k:=4) (v:=.slice A4 n4 c4) rfl).1
 have b5:=(B1.at_ (k:=5) (v:=.int .i64 stop) rfl).1
 obtain⟨v0,x0⟩:=K2.at_ (k:=0) (v:=.int .i64 0) rfl
 obtain⟨v1,x1⟩:=K2.at_ (k:=1) (v:=.slice none 0 0) rfl
 obtain⟨v2,x2⟩:=K2.at_ (k:=2) (v:=.slice none 0 0) rfl
 obtain⟨v3,x3⟩:=K2.at_ (k:=3) (v:=.slice none 0 0) rfl
 obtain⟨v4,x4⟩:=K2.at_ (k:=4) (v:=.slice none 0 0) rfl
 obtain⟨v5,x5⟩:=K2.at_ (k:=5) (v:=.int .i64 0) rfl
 have WF:=hid (put6_blk K2 rfl (.int .i64 now) (.slice A1 n1 c1) (.slice A2 n2 c2) (.slice A3 n3 c3) (.slice A4 n4 c4) (.int .i64 stop))
 have HG:=hid (put6_gr (x0:=.int .i64 now) (x1:=.slice A1 n1 c1) (x2:=.slice A2 n2 c2) (x3:=.slice A3 n3 c3) (x4:=.slice A4 n4 c4) (x5:=.int .i64 stop) (b:=w.heap.size+1) G2 (Nat.le_succ _))
 clear B1 K2 G2
 have WF2:=hid ((WW.out.to (FromB.put6 (b:=w.heap.size+1) hB (.int .i64 now) (.slice A1 n1 c1) (.slice A2 n2 c2) (.slice A3 n3 c3) (.slice A4 n4 c4) (.int .i64 stop))).low hB2)
 have EF2:=hid ((EE.out.to (FromB.put6 (b:=w.heap.size+1) hB (.int .i64 now) (.slice A1 n1 c1) (.slice A2 n2 c2) (.slice A3 n3 c3) (.slice A4 n4 c4) (.int .i64 stop))).low hB2)
 clear EE
 go_wp2_with fail
 clear v0 v1 v2 v3 v4 v5 x0 x1 x2 x3 x4 x5 b0 b1 b2 b3 b4 b5 lt1 ltg WW
 generalize (((((W1.setCell ⟨w.heap.size+1,0,none⟩ (.int .i64 now)).setCell ⟨w.heap.size+1,1,none⟩ (.slice A1 n1 c1)).setCell ⟨w.heap.size+1,2,none⟩ (.slice A2 n2 c2)).setCell ⟨w.heap.size+1,3,none⟩ (.slice A3 n3 c3)).setCell ⟨w.heap.size+1,4,none⟩ (.slice A4 n4 c4)).setCell ⟨w.heap.size+1,5,none⟩ (.int .i64 stop)=Wf at WF HG WF2 EF2 ⊢
 have F0:=(WF.out.at_ (k:=0) (v:=.int .i64 now) rfl).1
 have F1:=(WF.out.at_ (k:=1) (v:=.slice A1 n1 c1) rfl).1
 have F2:=(WF.out.at_ (k:=2) (v:=.slice A2 n2 c2) rfl).1
 have F3:=(WF.out.at_ (k:=3) (v:=.slice A3 n3 c3) rfl).1
 have F4:=(WF.out.at_ (k:=4) (v:=.slice A4 n4 c4) rfl).1
 have F5:=(WF.out.at_ (k:=5) (v:=.int .i64 stop) rfl).1
 exact bodyPost_ret (v:=.tuple #[WR.v ⟨now,⟨A1,n1,c1⟩,⟨A2,n2,c2⟩,⟨A3,n3,c3⟩,⟨A4,n4,c4⟩,stop⟩,.slice A n c,.int .i64 d,.bool (x==0)]) (by simp [results,Tryz.results15,go_sem,F0,F1,F2,F3,F4,F5,HD.out]) rfl
  ⟨⟨⟨now,⟨A1,n1,c1⟩,⟨A2,n2,c2⟩,⟨A3,n3,c3⟩,⟨A4,n4,c4⟩,stop⟩,ψ,A,n,c,ev,d,x==0,rfl,.inr ⟨h0,x,by rw [HD.out];exact HX.out,HD.out.symm,rfl⟩,WF2.out,EF2.out,hnc,hcm⟩,HG.out⟩
theorem next_is (hM:Mach) (hg:P15.Glob w) (h:WIs w r ω) (hv:B64 v) :
 Calls Tryz.prog 15 #[r.v,.int .i64 v] w λ e W'=>(∃ (s:WR) (ψ:Wv) (A:Option Addr) (n c:Nat) (ev:List T3) (who:Int) (b:Bool),e=.returned (.tuple #[s.v,.slice A n c,.int .i64 who,.bool b])/\NextM ω v ψ ev who b/\WNew w.heap.size W' s ψ/\ENew w.heap.size W' A n ev/\n<=c/\c<=9223372036854775807)/\Gr w W':=by
 by_cases h0:v<0
 . exact next_tick hM hg h hv h0
 . exact next_step hM hg h hv (by omega)
end
end P16
end
section
open Go.ChangeShapes Go.WideShapes Go.ChangeAt Go.RowKit
namespace P16
open P12 (PV PMem)
abbrev p0:List Ac:=[(0,0),(2,0)]
theorem p0_right:P12.rightB [p0]=true:=by decide
theorem alive_math {ψ ψ':Wv} {ev ev':List T3} {x x':Int} (h1:StepM (newW [p0]) 0 ψ ev x) (h2:StepM ψ 0 ψ' ev' x') :
 x=0/\x'=0/\ev=[(0,0,0)]/\ev'=[(0,3,0)]/\∃ c,ψ'.cl=[c]/\c.gst=2:=by
 have f0:=Fine.new p0_right
 obtain⟨f1,rfl,_,q | ⟨_,_,_,e1,rfl⟩⟩:=StepM.fine f0 h1
 . exact absurd q.1 (by decide)
 obtain⟨f2,rfl,_,q | ⟨_,_,_,e2,rfl⟩⟩:=StepM.fine f1 h2
 . exact absurd q.1 (by decide)
 have s1:stp (mw (newW [p0])) (0:Int).toNat=(W1 p0 1 0 (some 0) 0,some (0,0,0)):=by
  rw [mw_new,new_one]
  exact alone_lock (p:=p0) (a:=0) (n:=0) rfl
 rw [s1] at e1 ⊢
 have s2:stp (mw ψ) (0:Int).toNat=(W1 p0 2 0 none 0,some (0,3,0)):=by
  rw [e1]
  exact alone_give (p:=p0) (a:=1) (n:=0) rfl
 rw [s2] at e2 ⊢
 refine⟨rfl,rfl,rfl,rfl,?_⟩
 have e3:ψ'.cl=(W1 p0 2 0 none 0).cl:=congrArg Mw.cl e2
 exact⟨cAt 2 0 2,e3,by decide⟩
section
variable {w:World}
theorem alive_is (hM:Mach) (hg:P15.Glob w):Calls Tryz.prog 14 #[] w λ e w'=>e=.returned (.bool true)/\Gr w w':=by
 have b0:=Blk.new w #[.int .i64 0,.int .i64 0,.int .i64 2,.int .i64 0] 67
 have b1:=Blk.new (w.alloc (.cells #[.int .i64 0,.int .i64 0,.int .i64 2,.int .i64 0] 67)) #[.slice (some ⟨w.heap.size,0,none⟩) 2 2] 64
 have g1:=((Gr.refl w).al (.cells #[.int .i64 0,.int .i64 0,.int .i64 2,.int .i64 0] 67)).al (.cells #[.slice (some ⟨w.heap.size,0,none⟩) 2 2] 64)
 have hm:=P12.mem_blk (b0.al (.cells #[.slice (some ⟨w.heap.size,0,none⟩) 2 2] 64)) (l:=p0) rfl (by simp [Inb])
 have hP:=P12.pmem_one (x:=⟨some ⟨w.heap.size,0,none⟩,2,2,p0⟩) b1 ⟨hm,Nat.le_refl _,by show (2:Nat)<=9223372036854775807;decide⟩
 rw [World.size_alloc] at hP
 have cN:=hid (hM.new _ _ 1 1 _ (hg.gr g1) hP (by decide))
 have HG1:=hid g1
 clear b0 b1 hm hP g1
 go_enter Tryz.func14,Tryz.ntmps14
 go_wp2_with fail
 with_reducible refine cN.out.mono ?_
 rintro e w1 ⟨⟨s,ψ,x,rfl,hN,hW⟩,g2⟩
 obtain⟨rfl,rfl⟩:ψ=newW [p0]/\x=0:=by
  rcases hN with ⟨_,q⟩ | ⟨q,_⟩
  . exact q
  . exact absurd (show P12.rightB [p0]=false from q) (by decide)
 obtain⟨now,⟨A1,n1,c1⟩,⟨A2,n2,c2⟩,⟨A3,n3,c3⟩,⟨A4,n4,c4⟩,stop⟩:=s
 dsimp only at *
 have B1:=Blk.new w1 #[.int .i64 now,.slice A1 n1 c1,.slice A2 n2 c2,.slice A3 n3 c3,.slice A4 n4 c4,.int .i64 stop] 29
 have WW:=hid (hW.gr ((Gr.refl w1).al (.cells #[.int .i64 now,.slice A1 n1 c1,.slice A2 n2 c2,.slice A3 n3 c3,.slice A4 n4 c4,.int .i64 stop] 29)))
 have G1:=(HG1.out.trans g2).al (.cells #[.int .i64 now,.slice A1 n1 c1,.slice A2 n2 c2,.slice A3 n3 c3,.slice A4 n4 c4,.int .i64 stop] 29)
 have KK:=g2.size
 have hK:w.heap.size<=w1.heap.size:=(HG1.out.trans g2).size
 clear hN hW g2 cN
 go_upto_region 2 with fail
 generalize w1.alloc (.cells #[.int .i64 now,.slice A1 n1 c1,.slice A2 n2 c2,.slice A3 n3 c3,.slice A4 n4 c4,.int .i64 stop] 29)=W1 at B1 WW G1 ⊢
 generalize w1.heap.size=K at B1 KK hK ⊢
 have lt1:=B1.lt
 obtain⟨a0,az0⟩:=B1.at_ (k:=0) (v:=.int .i64 now) rfl
 obtain⟨a1,az1⟩:=B1.at_ (k:=1) (v:=.slice A1 n1 c1) rfl
 obtain⟨a2,az2⟩:=B1.at_ (k:=2) (v:=.slice A2 n2 c2) rfl
 obtain⟨a3,az3⟩:=B1.at_ (k:=3) (v:=.slice A3 n3 c3) rfl
 obtain⟨a4,az4⟩:=B1.at_ (k:=4) (v:=.slice A4 n4 c4) rfl
 obtain⟨a5,az5⟩:=B1.at_ (k:=5) (v:=.int .i64 stop) rfl
 have cS:=hid (hM.step W1 ⟨now,⟨A1,n1,c1⟩,⟨A2,n2,c2⟩,⟨A3,n3,c3⟩,⟨A4,n4,c4⟩,stop⟩ _ 0 (hg.gr G1) WW.out.is ⟨by decide,by decide⟩)
 go_wp2_with fail
 with_reducible refine cS.out.mono ?_
 rintro e w2 ⟨⟨s,ψ,A,n,c,ev,x,rfl,hS,hW,hE,hnc,hcm⟩,g3⟩
 obtain⟨now',⟨A1',n1',c1'⟩,⟨A2',n2',c2'⟩,⟨A3',n3',c3'⟩,⟨A4',n4',c4'⟩,stop'⟩:=s
 dsimp only at *
 have B2:=B1.gr g3
 have G2:=G1.trans g3
 have lt2:=B2.lt
 clear a0 az0 a1 az1 a2 az2 a3 az3 a4 az4 a5 az5
 obtain⟨a0,az0⟩:=B2.at_ (k:=0) (v:=.int .i64 now) rfl
 obtain⟨a1,az1⟩:=B2.at_ (k:=1) (v:=.slice A1 n1 c1) rfl
 obtain⟨a2,az2⟩:=B2.at_ (k:=2) (v:=.slice A2 n2 c2) rfl
 obtain⟨a3,az3⟩:=B2.at_ (k:=3) (v:=.slice A3 n3 c3) rfl
 obtain⟨a4,az4⟩:=B2.at_ (k:=4) (v:=.slice A4 n4 c4) rfl
 obtain⟨a5,az5⟩:=B2.at_ (k:=5) (v:=.int .i64 stop) rfl
 have B3:=put6_blk B2 rfl (.int .i64 now') (.slice A1' n1' c1') (.slice A2' n2' c2') (.slice A3' n3' c3') (.slice A4' n4' c4') (.int .i64 stop')
 have G3:=hid (put6_gr (x0:=.int .i64 now') (x1:=.slice A1' n1' c1') (x2:=.slice A2' n2' c2') (x3:=.slice A3' n3' c3') (x4:=.slice A4' n4' c4') (x5:=.int .i64 stop') (b:=K) G2 hK)
 have W3:=hid (hW.to (FromB.put6 (b:=K) lt1 (.int .i64 now') (.slice A1' n1' c1') (.slice A2' n2' c2') (.slice A3' n3' c3') (.slice A4' n4' c4') (.int .i64 stop')))
 have E3:=hid (hE.to (FromB.put6 (b:=K) lt1 (.int .i64 now') (.slice A1' n1' c1') (.slice A2' n2' c2') (.slice A3' n3' c3') (.slice A4' n4' c4') (.int .i64 stop')))
 clear hW hE g3 cS B1 B2 G1 G2
 go_upto_region 3 with fail
 clear a0 az0 a1 az1 a2 az2 a3 az3 a4 az4 a5 az5
 generalize (((((w2.setCell ⟨K,0,none⟩ (.int .i64 now')).setCell ⟨K,1,none⟩ (.slice A1' n1' c1')).setCell ⟨K,2,none⟩ (.slice A2' n2' c2')).setCell ⟨K,3,none⟩ (.slice A3' n3' c3')).setCell ⟨K,4,none⟩ (.slice A4' n4' c4')).setCell ⟨K,5,none⟩ (.int .i64 stop')=V3 at B3 G3 W3 E3 ⊢
 have lt3:=B3.lt
 clear lt2
 obtain⟨b0,bz0⟩:=B3.at_ (k:=0) (v:=.int .i64 now') rfl
 obtain⟨b1,bz1⟩:=B3.at_ (k:=1) (v:=.slice A1' n1' c1') rfl
 obtain⟨b2,bz2⟩:=B3.at_ (k:=2) (v:=.slice A2' n2' c2') rfl
 obtain⟨b3,bz3⟩:=B3.at_ (k:=3) (v:=.slice A3' n3' c3') rfl
 obtain⟨b4,bz4⟩:=B3.at_ (k:=4) (v:=.slice A4' n4' c4') rfl
 obtain⟨b5,bz5⟩:=B3.at_ (k:=5) (v:=.int .i64 stop') rfl
 have cS:=hid (hM.step V3 _ _ 0 (hg.gr G3.out) W3.out.is ⟨by decide,by decide⟩)
 go_wp2_with fail
 with_reducible refine cS.out.mono ?_
 rintro e w4 ⟨⟨s,ψ',A',n',c',ev',x',rfl,hS',hW,hE,hnc',hcm'⟩,g3⟩
 obtain⟨now'',⟨A1'',n1'',c1''⟩,⟨A2'',n2'',c2''⟩,⟨A3'',n3'',c3''⟩,⟨A4'',n4'',c4''⟩,stop''⟩:=s
 dsimp only at *
 obtain⟨rfl,rfl,rfl,rfl,cc,hcl,hgst⟩:=alive_math hS hS'
 have B2:=B3.gr g3
 have G2:=G3.out.trans g3
 have lt2:=B2.lt
 clear b0 bz0 b1 bz1 b2 bz2 b3 bz3 b4 bz4 b5 bz5
 obtain⟨b0,bz0⟩:=B2.at_ (k:=0) (v:=.int .i64 now') rfl
 obtain⟨b1,bz1⟩:=B2.at_ (k:=1) (v:=.slice A1' n1' c1') rfl
 obtain⟨b2,bz2⟩:=B2.at_ (k:=2) (v:=.slice A2' n2' c2') rfl
 obtain⟨b3,bz3⟩:=B2.at_ (k:=3) (v:=.slice A3' n3' c3') rfl
 obtain⟨b4,bz4⟩:=B2.at_ (k:=4) (v:=.slice A4' n4' c4') rfl
 obtain⟨b5,bz5⟩:=B2.at_ (k:=5) (v:=.int .i64 stop') rfl
 have B5:=put6_blk B2 rfl (.int .i64 now'') (.slice A1'' n1'' c1'') (.slice A2'' n2'' c2'') (.slice A3'' n3'' c3'') (.slice A4'' n4'' c4'') (.int .i64 stop'')
 have G5:=hid (put6_gr (x0:=.int .i64 now'') (x1:=.slice A1'' n1'' c1'') (x2:=.slice A2'' n2'' c2'') (x3:=.slice A3'' n3'' c3'') (x4:=.slice A4'' n4'' c4'') (x5:=.int .i64 stop'') (b:=K) G2 hK)
 have W5:=hid (hW.to (FromB.put6 (b:=K) lt3 (.int .i64 now'') (.slice A1'' n1'' c1'') (.slice A2'' n2'' c2'') (.slice A3'' n3'' c3'') (.slice A4'' n4'' c4'') (.int .i64 stop'')))
 have E5:=hid (hE.to (FromB.put6 (b:=K) lt3 (.int .i64 now'') (.slice A1'' n1'' c1'') (.slice A2'' n2'' c2'') (.slice A3'' n3'' c3'') (.slice A4'' n4'' c4'') (.int .i64 stop'')))
 have E6:=hid ((E3.out.gr g3).to (FromB.put6 (b:=K) lt1 (.int .i64 now'') (.slice A1'' n1'' c1'') (.slice A2'' n2'' c2'') (.slice A3'' n3'' c3'') (.slice A4'' n4'' c4'') (.int .i64 stop'')))
 clear hW hE g3 cS B3 B2 G2 hS hS' E3
 go_upto_region 4 with fail
 clear b0 bz0 b1 bz1 b2 bz2 b3 bz3 b4 bz4 b5 bz5
 generalize (((((w4.setCell ⟨K,0,none⟩ (.int .i64 now'')).setCell ⟨K,1,none⟩ (.slice A1'' n1'' c1'')).setCell ⟨K,2,none⟩ (.slice A2'' n2'' c2'')).setCell ⟨K,3,none⟩ (.slice A3'' n3'' c3'')).setCell ⟨K,4,none⟩ (.slice A4'' n4'' c4'')).setCell ⟨K,5,none⟩ (.int .i64 stop'')=V5 at B5 G5 W5 E5 E6 ⊢
 have lt5:=B5.lt
 clear lt2 lt3
 obtain⟨b0,bz0⟩:=B5.at_ (k:=0) (v:=.int .i64 now'') rfl
 obtain⟨b1,bz1⟩:=B5.at_ (k:=1) (v:=.slice A1'' n1'' c1'') rfl
 obtain⟨b2,bz2⟩:=B5.at_ (k:=2) (v:=.slice A2'' n2'' c2'') rfl
 obtain⟨b3,bz3⟩:=B5.at_ (k:=3) (v:=.slice A3'' n3'' c3'') rfl
 obtain⟨b4,bz4⟩:=B5.at_ (k:=4) (v:=.slice A4'' n4'' c4'') rfl
 obtain⟨b5,bz5⟩:=B5.at_ (k:=5) (v:=.int .i64 stop'') rfl
 obtain rfl:n=1:=(E6.out.is).len.symm
 obtain rfl:n'=1:=(E5.out.is).len.symm
 obtain⟨b,off,y,rfl,hb,hy,-,d0,d1,d2⟩:=T3Mem.cells (k:=0) E6.out.is (by decide)
 cases hy
 obtain⟨b',off',y,rfl,hb',hy,-,f0,f1,f2⟩:=T3Mem.cells (k:=0) E5.out.is (by decide)
 cases hy
 have WI:=W5.out.is
 have hl:=WI.c.len
 rw [hcl] at hl
 have hl:1=n2'':=hl
 subst hl
 have hc0:CMem V5 A2'' 1 _:=WI.c
 obtain⟨b2,off2,z,rfl,hb2,hz,-,h0,-⟩:=CMem.cells (k:=0) hc0 (by decide)
 rw [hcl] at hz
 cases hz
 rw [hgst] at h0
 simp only [Nat.zero_mul,Nat.add_zero] at d0 d1 d2 f0 f1 f2 h0
 clear WI hc0 hcl hgst
 go_wp2_with fail
 go_ret
 exact⟨rfl,G5.out⟩
end
end P16
end
section
open Go.ChangeShapes Go.WideShapes Go.ChangeAt Go.RowKit
namespace P16
def EvR (f f':Nat->Bool) (F:Bool) (e:Int) (n:Nat):Prop :=
 ((e=0\/e=1)/\f n=false/\f' n=true/\(∀ m,m≠n->f' m=f m)/\F=false) \/
 (e=2/\f'=f/\F=false) \/
 (e=3/\f n=true/\f' n=false/\(∀ m,m≠n->f' m=f m)/\F=false) \/
 (e=4/\f n=false/\f'=f/\F=true)
def Kind (ω ψ:Wv) (ev:List T3) (f f':Nat->Bool) (F:Bool):Prop :=
 (ω.stop≠0/\ψ=ω/\ev=[]/\f'=f/\F=false) \/
 (ω.stop=0/\ψ.stop=0/\ev=[]/\f'=f/\F=false) \/
 (ω.stop=0/\∃ (a:Int) (e:Int) (n:Nat),n<4/\ev=[(a,e,(n:Int))]/\EvR f f' F e n/\(ψ.stop≠0↔F=true))
def LK (ω:Wv) (m:Nat):Bool:=if m<4 then Lk (mw ω) m else false
theorem LK_at {ω:Wv} {m:Nat} (h:m<4):LK ω m=Lk (mw ω) m:=by unfold LK;rw [if_pos h]
section
variable {ω ψ:Wv} {v who:Int} {ev:List T3} {b:Bool}
theorem LK_same (h:∀ m,m<4->Lk (mw ψ) m=Lk (mw ω) m):LK ψ=LK ω:=by
 funext m
 unfold LK
 split
 . exact h m (by assumption)
 . rfl
theorem NextM.rnd (h:Fine ω) (hn:NextM ω v ψ ev who b) (hv:B64 v) (hb:ω.now<=4611686018422387904) :
 Fine ψ/\b=true/\ψ.progs=ω.progs/\ψ.now<=ω.now+5000000/\(ψ.stop=0\/ψ.stop=11)/\∃ F,Kind ω ψ ev (LK ω) (LK ψ) F:=by
 unfold B64 at hv
 rcases hn with ⟨h0,x,ht,rfl,rfl,rfl⟩ | ⟨h0,x,hs,rfl,rfl⟩
 . obtain⟨f,rfl,q⟩:=TickM.fine h (by unfold Tim;omega) (by omega) ht
   rcases q with ⟨q,rfl⟩ | ⟨q,rfl⟩
   . exact⟨f,rfl,rfl,by omega,f.inv.st,false,.inl ⟨q,rfl,rfl,rfl,rfl⟩⟩
   . exact⟨f,rfl,rfl,by show ω.now+_<=_;omega,f.inv.st,false,.inr (.inl ⟨q,q,rfl,rfl,rfl⟩)⟩
 . obtain⟨f,rfl,hp,q⟩:=StepM.fine h hs
   refine⟨f,rfl,hp,?_⟩
   rcases q with ⟨q,rfl,rfl⟩ | ⟨q,hr,hst,e1,rfl⟩
   . omega
   . have hnow:ψ.now=ω.now:=hr.nw
     refine⟨by omega,f.inv.st,?_⟩
     by_cases hs0:ω.stop=0
     . rcases hr.kind with ⟨k1,k2,k3⟩ | ⟨n,k1,k2,k3,k4,k5⟩ | ⟨n,e,k1,k2,k3,k4,k5,k6⟩
       . rw [k1]
         have k2:ψ.stop=ω.stop:=k2
         exact⟨false,.inr (.inl ⟨hs0,by omega,rfl,LK_same k3,rfl⟩)⟩
       . rw [k2]
         have k6:ψ.stop=11:=congrArg Mw.stop k4
         refine⟨true,.inr (.inr ⟨hs0,_,4,n,k1,rfl,.inr (.inr (.inr ⟨rfl,by rw [LK_at k1];exact k5,?_,rfl⟩)),by rw [k6];simp⟩)⟩
         refine LK_same λ m _=>?_
         have:(mw ψ).cm=(mw ω).cm:=by rw [k4]
         unfold Lk
         rw [this]
       . rw [k2]
         have k4:ψ.stop=0:=k4
         have far:∀ m,m≠n->LK ψ m=LK ω m:=λ m hm=>by
          unfold LK
          split
          . unfold Lk;rw [k6 m hm]
          . rfl
         refine⟨false,.inr (.inr ⟨hs0,_,e,n,k1,rfl,?_,by rw [k4];simp⟩)⟩
         rcases k5 with ⟨q,_⟩ | ⟨q,l1,l2⟩ | ⟨q,l1,l2⟩ | ⟨q,l1⟩ | ⟨q,l1,l2⟩
         . cases q
         . cases q;exact .inl ⟨.inl rfl,by rw [LK_at k1];exact l1,by rw [LK_at k1];exact l2,far,rfl⟩
         . cases q;exact .inl ⟨.inr rfl,by rw [LK_at k1];exact l1,by rw [LK_at k1];exact l2,far,rfl⟩
         . cases q
           refine .inr (.inl ⟨rfl,?_,rfl⟩)
           funext m
           by_cases e:m=n
           . subst e;rw [LK_at k1,LK_at k1];exact l1
           . exact far m e
         . cases q;exact .inr (.inr (.inl ⟨rfl,by rw [LK_at k1];exact l1,by rw [LK_at k1];exact l2,far,rfl⟩))
     . have e2:=hst hs0
       subst e2
       have e3:=(hr.still hs0).2
       rw [e3]
       exact⟨false,.inl ⟨hs0,rfl,rfl,rfl,rfl⟩⟩
end
end P16
end
end Go.Proofs.YtainfijdhcehlaaGreatDoor
