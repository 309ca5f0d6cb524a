/-
  A part of the proof.
-/
import Derived.Test.YtainfijdhcehlaaGreatDoorQB1
import Derived.Test.YtainfijdhcehlaaGreatDoorQB10
import Derived.Test.YtainfijdhcehlaaGreatDoorQB13
import Derived.Test.YtainfijdhcehlaaGreatDoorQB14
set_option linter.unusedVariables false
set_option linter.unusedSimpArgs false
set_option maxRecDepth 100000
set_option maxHeartbeats 8000000
namespace Go.Proofs.YtainfijdhcehlaaGreatDoor
open Lib (hid)
section
open Go.ChangeShapes Go.WideShapes Go.ChangeAt Go.RowKit Go.Shelf
namespace P16
open P14 (pan)
open P12 (PV PMem)
section
variable {x:Cx} {W:World} {T E:Sl} {cl:List Cl} {mx:List T3} {tb:List Sp} {ev:List T3} {c:Cl} {a:T3} {pr:List Ac}
theorem TS.putPc (h:TS x W T E cl mx tb ev) (hc:cl[x.who.toNat]?=some c) {v:Int} (hv:B64 v):TS x (W.setCell ⟨x.bc,x.oc+x.who.toNat*13+3,none⟩ (.int .i64 v)) T E (cl.set x.who.toNat { c with pc:=v }) mx tb ev :=
 h.putC hc 3 _ { c with pc:=v } rfl (by decide) { h.cb c (List.mem_of_getElem? hc) with pc:=hv }
theorem work_is (h:TS x W T E cl mx tb ev) (hR:Rn x cl c pr) (hw:c.worked=0\/(0<c.worked/\c.worked<x.n)) (hn0:0<=x.n) (hn:x.n<=1000) :
 Calls Tryz.prog 98 #[.pointer (some ⟨x.b,0,none⟩)] W λ e W'=>e=.returned (.tuple #[])/\TS x W' T E (cl.set x.who.toNat (work x.n pr.length c)) mx tb ev/\Kx x W W':=by
 have hc:=hR.hc
 have H:=hid h
 have CBc:=h.cb c (List.mem_of_getElem? hc)
 obtain⟨-,-,-,-,-,-,-,c7,-,c9,-,-⟩:=h.cells
 obtain⟨-,-,-,-,s4,-,-,-,-,-,-,-,-,sz⟩:=h.cl_ hc
 have y4:=sz 4 (by decide)
 clear sz
 have l0:0<=c.worked:=by omega
 have l1:c.worked<=1000:=by omega
 have hb1:B64 (c.worked+1):=⟨by omega,by omega⟩
 have h1:=h.putC hc 4 (.int .i64 (c.worked+1)) { c with worked:=c.worked+1 } rfl (by decide) { CBc with worked:=hb1 }
 have k1:Kx x W _:=Kx.st (p:=⟨x.bc,x.oc+x.who.toNat*13+4,none⟩) (.inr (.inl rfl)) (.int .i64 (c.worked+1))
 have hR2:Rn x (cl.set x.who.toNat { c with worked:=c.worked+1 }) { c with worked:=c.worked+1 } pr:=hR.set rfl rfl
 clear h
 go_enter Tryz.func98,Tryz.ntmps98
 go_upto_region 1 with fail
 generalize W.setCell ⟨x.bc,x.oc+x.who.toNat*13+4,none⟩ (.int .i64 (c.worked+1))=W1 at h1 k1 ⊢
 clear c7 c9 s4 y4
 have H1:=hid h1
 have K1:=hid k1
 obtain⟨-,-,-,-,-,-,-,c7,-,c9,-,-⟩:=h1.cells
 obtain⟨-,-,-,-,t4,-⟩:=h1.cl_ hR2.hc
 dsimp only at t4
 have HW:=hid hw
 clear h1 k1 hw
 by_cases hge:c.worked+1 ≥ x.n
 . have K:work x.n pr.length c=over { c with worked:=c.worked+1 } pr.length:=by have:=HW.out;unfold work;rw [if_pos (by omega)]
   go_quiet (fail)
   go_wp2_with fail
   with_reducible refine (over_is (H1.out.gr ((Gr.refl _).drN _)) hR2).mono ?_
   rintro e w2 ⟨rfl,h2,k2⟩
   have H2:=hid h2
   have K2:=hid k2
   clear h2 k2
   go_wp2_with fail
   go_end0
   have h2:=H2.out
   rw [List.set_set,<- K] at h2
   exact⟨rfl,h2,(K1.out.trans (Kx.gr ((Gr.refl _).drN _))).trans K2.out⟩
 . have K:work x.n pr.length c={ c with worked:=c.worked+1 }:=by have:=HW.out;unfold work;rw [if_neg (by omega)]
   go_quiet (fail)
   go_wp2_with fail
   go_end0
   exact⟨rfl,H1.out.gr ((Gr.refl _).drN _),K1.out.trans (Kx.gr ((Gr.refl _).drN _))⟩
theorem lock_no (h:TS x W T E cl mx tb ev) (hR:Rn x cl c pr) (h0:0<=x.n) (h4:x.n<4) (ha:mx[x.n.toNat]?=some a) (hne:(a.1==0)=false) :
 Calls Tryz.prog 99 #[.pointer (some ⟨x.b,0,none⟩)] W λ e W'=>e=.returned (.tuple #[])/\TS x W' T E (cl.set x.who.toNat { c with pc:=1 }) mx tb ev/\Kx x W W':=by
 have hc:=hR.hc
 go_enter Tryz.func99,Tryz.ntmps99
 go_wp2_with fail
 with_reducible refine (mutex_is h h0 h4).mono ?_
 rintro e w1 ⟨rfl,d,rfl⟩
 have h1:=h.gr ((Gr.refl W).drN d)
 have H1:=hid h1
 obtain⟨-,-,-,-,-,-,-,c7,-,-,-,-⟩:=h1.cells
 obtain⟨-,-,-,s3,-,-,-,-,-,-,-,-,-,sz⟩:=h1.cl_ hc
 have y3:=sz 3 (by decide)
 clear sz
 obtain⟨m0,-,-,-⟩:=h1.mx_ ha
 clear h h1
 go_wp2_with fail
 (try simp only [Exit.inBlock,Exit.then])
 refine bodyPost_ret (results_none rfl _ _ _) rfl ?_
 exact⟨rfl,H1.out.putPc hc ⟨by omega,by omega⟩,(Kx.gr ((Gr.refl W).drN d)).trans (Kx.st (.inr (.inl rfl)) _)⟩
theorem lock_yes (h:TS x W T ⟨none,0,0⟩ cl mx tb []) (hR:Rn x cl c pr) (h0:0<=x.n) (h4:x.n<4) (ha:mx[x.n.toNat]?=some a) (hne:(a.1==0)=true) :
 Calls Tryz.prog 99 #[.pointer (some ⟨x.b,0,none⟩)] W λ e W'=>e=.returned (.tuple #[])/\(∃ E,TS x W' T E (cl.set x.who.toNat (over c pr.length)) (mx.set x.n.toNat (1,a.2)) tb [(x.who,0,x.n)])/\Kx x W W':=by
 have hc:=hR.hc
 go_enter Tryz.func99,Tryz.ntmps99
 go_wp2_with fail
 with_reducible refine (mutex_is h h0 h4).mono ?_
 rintro e w1 ⟨rfl,d,rfl⟩
 have h1:=h.gr ((Gr.refl W).drN d)
 have H1:=hid h1
 obtain⟨m0,-,-,-⟩:=h1.mx_ ha
 have hp:=hid (put_yes h1 h0 h4 ha (v:=1) ⟨by omega,by omega⟩)
 clear h h1
 go_wp2_with fail
 with_reducible refine hp.out.mono ?_
 rintro e w2 ⟨rfl,h2,k2⟩
 have K2:=hid k2
 have he:=hid (ends_is h2 hR (v:=0) b64_0)
 clear h2 k2
 go_wp2_with fail
 with_reducible refine he.out.mono ?_
 rintro e w3 ⟨rfl,h3,k3⟩
 have H3:=hid h3
 have K3:=hid k3
 clear h3 k3
 go_wp2_with fail
 go_end0
 exact⟨rfl,H3.out,((Kx.gr ((Gr.refl W).drN d)).trans K2.out).trans K3.out⟩
theorem load_is (h:TS x W T E cl mx tb ev) (hR:Rn x cl c pr) (h0:0<=x.n) (h4:x.n<4) (ha:mx[x.n.toNat]?=some a) :
 Calls Tryz.prog 100 #[.pointer (some ⟨x.b,0,none⟩)] W λ e W'=>e=.returned (.tuple #[])/\TS x W' T E (cl.set x.who.toNat { c with old:=a.1,pc:=2 }) mx tb ev/\Kx x W W':=by
 have hr:=hid (remember_is h h0 h4 ha hR.hc (v:=2) ⟨by omega,by omega⟩)
 clear h
 go_enter Tryz.func100,Tryz.ntmps100
 go_wp2_with fail
 with_reducible refine hr.out.mono ?_
 rintro e w1 ⟨rfl,h1,k1⟩
 have H1:=hid h1
 have K1:=hid k1
 clear h1 k1
 go_wp2_with fail
 go_end0
 exact⟨rfl,H1.out,K1.out⟩
theorem see_is (h:TS x W T E cl mx tb ev) (hR:Rn x cl c pr) (h0:0<=x.n) (h4:x.n<4) (ha:mx[x.n.toNat]?=some a) :
 Calls Tryz.prog 112 #[.pointer (some ⟨x.b,0,none⟩)] W λ e W'=>e=.returned (.tuple #[])/\TS x W' T E (cl.set x.who.toNat { c with old:=a.1,pc:=10 }) mx tb ev/\Kx x W W':=by
 have hr:=hid (remember_is h h0 h4 ha hR.hc (v:=10) ⟨by omega,by omega⟩)
 clear h
 go_enter Tryz.func112,Tryz.ntmps112
 go_wp2_with fail
 with_reducible refine hr.out.mono ?_
 rintro e w1 ⟨rfl,h1,k1⟩
 have H1:=hid h1
 have K1:=hid k1
 clear h1 k1
 go_wp2_with fail
 go_end0
 exact⟨rfl,H1.out,K1.out⟩
end
end P16
namespace P6
theorem tk_up {s:Int} (h:0<=s/\s<4294967296):up1 s=(s+1) % 4294967296:=by unfold up1 wrap64;simp [wd];omega
theorem tk_out {n s:Int} (hn:0<=n/\n<4294967296) (hs:0<=s/\s<4294967296):outT n s=(n-s) % 4294967296:=by unfold outT wrap64;simp [wd];omega
theorem tk_ok {n s:Int} (hn:0<=n/\n<4294967296) (hs:0<=s/\s<4294967296):tkB n s=true:=by unfold tkB;simp [fitB,wd];omega
end P6
namespace P16
open P14 (pan)
open P12 (PV PMem)
section
variable {x:Cx} {W:World} {T E:Sl} {cl:List Cl} {mx:List T3} {tb:List Sp} {ev:List T3} {c:Cl} {a:T3} {pr:List Ac}
theorem TS.putL (h:TS x W T E cl mx tb ev) {i:Nat} (ha:mx[i]?=some a) {u v:Int} (hu:B64 u) (hv:B64 v):TS x ((W.setCell ⟨x.bm,x.om+i*3+1,none⟩ (.int .i64 u)).setCell ⟨x.bm,x.om+i*3+2,none⟩ (.int .i64 v)) T E cl (mx.set i (a.1,u,v)) tb ev:=by
 have A:=h.mb a (List.mem_of_getElem? ha)
 have h1:=h.putM (a:=a) ha 1 (.int .i64 u) (a.1,u,a.2.2) rfl (by decide) ⟨A.1,hu,A.2.2⟩
 have h2:=h1.putM (a:=(a.1,u,a.2.2)) (i:=i) (by rw [List.getElem?_set_self (List.getElem?_eq_some_iff.1 ha).1]) 2 (.int .i64 v) (a.1,u,v) rfl (by decide) ⟨A.1,hu,hv⟩
 rwa [List.set_set] at h2
theorem serve_yes (h:TS x W T E cl mx tb ev) (h0:0<=x.n) (h4:x.n<4) (ha:mx[x.n.toNat]?=some a) (hn:0<=a.2.1/\a.2.1<4294967296) (hs:0<=a.2.2/\a.2.2<4294967296) (ho:(a.2.1-a.2.2) % 4294967296≠0) :
 Calls Tryz.prog 152 #[.pointer (some ⟨x.b,0,none⟩)] W λ e W'=>e=.returned (.tuple #[])/\TS x W' T E cl (mx.set x.n.toNat (a.1,a.2.1,(a.2.2+1) % 4294967296)) tb ev/\Kx x W W':=by
 have cd:=λ W=>hid (P6.Done_yes (P6.tk_ok hn hs) (by rw [P6.tk_out hn hs];exact ho) (P6.tk_up hs) ⟨by omega,by omega⟩ ⟨by omega,by omega⟩ W)
 have bu:B64 a.2.1:=⟨by omega,by omega⟩
 have bv:B64 ((a.2.2+1) % 4294967296):=⟨by omega,by omega⟩
 obtain⟨v,hv⟩:∃ v,(a.2.2+1) % 4294967296=v:=⟨_,rfl⟩
 rw [hv] at cd bv ⊢
 clear hv ho hn hs
 go_enter Tryz.func152,Tryz.ntmps152
 go_wp2_with fail
 with_reducible refine (mutex_is h h0 h4).mono ?_
 rintro e w1 ⟨rfl,d,rfl⟩
 have h1:=h.gr ((Gr.refl W).drN d)
 obtain⟨-,m1,m2,-⟩:=h1.mx_ ha
 have H1:=hid h1
 clear h h1
 go_wp2_with fail
 with_reducible refine (cd _).out.mono ?_
 rintro e w2 ⟨rfl,g2⟩
 have G2:=hid g2
 clear g2
 go_wp2_with fail
 with_reducible refine (sureT_yes _ _ _).mono ?_
 rintro e w3 ⟨rfl,g3⟩
 have h3:=H1.out.gr (G2.out.trans g3)
 have H3:=hid h3
 have G3:=hid (G2.out.trans g3)
 clear m1 m2
 obtain⟨-,m1,m2,mz⟩:=h3.mx_ ha
 have x1:=mz 1 (by decide)
 have x2:=mz 2 (by decide)
 clear mz
 clear h3 g3
 go_wp2_with fail
 go_end0
 exact⟨rfl,H3.out.putL ha bu bv,(((Kx.gr ((Gr.refl W).drN d)).trans (Kx.gr G3.out)).trans (Kx.st (.inr (.inr rfl)) _)).trans (Kx.st (.inr (.inr rfl)) _)⟩
theorem serve_no (h:TS x W T E cl mx tb ev) (h0:0<=x.n) (h4:x.n<4) (ha:mx[x.n.toNat]?=some a) (hn:0<=a.2.1/\a.2.1<4294967296) (hs:0<=a.2.2/\a.2.2<4294967296) (ho:(a.2.1-a.2.2) % 4294967296=0) :
 Calls Tryz.prog 152 #[.pointer (some ⟨x.b,0,none⟩)] W λ e W'=>e=.panicked (pan 12)/\Kx x W W':=by
 have cd:=λ W=>hid (P6.Done_none (P6.tk_ok hn hs) (by rw [P6.tk_out hn hs];exact ho) ⟨by omega,by omega⟩ ⟨by omega,by omega⟩ W)
 clear ho hn hs
 go_enter Tryz.func152,Tryz.ntmps152
 go_wp2_with fail
 with_reducible refine (mutex_is h h0 h4).mono ?_
 rintro e w1 ⟨rfl,d,rfl⟩
 have h1:=h.gr ((Gr.refl W).drN d)
 obtain⟨-,m1,m2,-⟩:=h1.mx_ ha
 clear h h1
 go_wp2_with fail
 with_reducible refine (cd _).out.mono ?_
 rintro e w2 ⟨rfl,g2⟩
 have G2:=hid g2
 clear g2
 go_wp2_with fail
 with_reducible refine (sureT_no _ _ (by decide) _).mono ?_
 rintro e w3 ⟨rfl,g3⟩
 go_wp2_with fail
 exact bodyPost_pan rfl ⟨rfl,Kx.gr (((Gr.refl W).drN d).trans (G2.out.trans g3))⟩
theorem leave_yes (h:TS x W T E cl mx tb ev) (hR:Rn x cl c pr) (h0:0<=x.n) (h4:x.n<4) (ha:mx[x.n.toNat]?=some a) (hn:0<=a.2.1/\a.2.1<4294967296) (hs:0<=a.2.2/\a.2.2<4294967296) (ho:(a.2.1-a.2.2) % 4294967296≠0) :
 Calls Tryz.prog 114 #[.pointer (some ⟨x.b,0,none⟩)] W λ e W'=>e=.returned (.tuple #[])/\TS x W' T E (cl.set x.who.toNat (over c pr.length)) (mx.set x.n.toNat (a.1,a.2.1,(a.2.2+1) % 4294967296)) tb ev/\Kx x W W':=by
 have cs:=hid (serve_yes h h0 h4 ha hn hs ho)
 clear h ho hn hs
 go_enter Tryz.func114,Tryz.ntmps114
 go_wp2_with fail
 with_reducible refine cs.out.mono ?_
 rintro e w1 ⟨rfl,h1,k1⟩
 have co:=hid (over_is h1 hR)
 have K1:=hid k1
 clear h1 k1
 go_wp2_with fail
 with_reducible refine co.out.mono ?_
 rintro e w2 ⟨rfl,h2,k2⟩
 have H2:=hid h2
 have K2:=hid k2
 clear h2 k2
 go_wp2_with fail
 go_end0
 exact⟨rfl,H2.out,K1.out.trans K2.out⟩
theorem leave_no (h:TS x W T E cl mx tb ev) (h0:0<=x.n) (h4:x.n<4) (ha:mx[x.n.toNat]?=some a) (hn:0<=a.2.1/\a.2.1<4294967296) (hs:0<=a.2.2/\a.2.2<4294967296) (ho:(a.2.1-a.2.2) % 4294967296=0) :
 Calls Tryz.prog 114 #[.pointer (some ⟨x.b,0,none⟩)] W λ e W'=>e=.panicked (pan 12)/\Kx x W W':=by
 have cs:=hid (serve_no h h0 h4 ha hn hs ho)
 clear h ho hn hs
 go_enter Tryz.func114,Tryz.ntmps114
 go_wp2_with fail
 with_reducible refine cs.out.mono ?_
 rintro e w1 ⟨rfl,k1⟩
 go_wp2_with fail
 exact bodyPost_pan rfl ⟨rfl,k1⟩
end
end P16
end
section
open Go.ChangeShapes Go.WideShapes Go.ChangeAt Go.RowKit
namespace P15
open P3 (fl pw lowI)
def OkN (n:Int):Prop:=0<=n/\n<268435456
section
variable {a b c:Bool} {n v:Int} {w:World}
theorem state_is (hg:Glob w) (hn:OkN n):Calls Tryz.prog 199 #[.int .i64 (pw a b c n)] w λ e w'=>e=.returned (.int .i64 (st a b c))/\w'=w :=
 state_of hg (P3.and7 (by unfold OkN at hn;omega))
theorem state_neg (hg:Glob w):Calls Tryz.prog 199 #[.int .i64 (-1)] w λ e w'=>e=.returned (.int .i64 3)/\w'=w :=
 state_of (a:=true) (b:=true) (c:=true) hg (by decide)
theorem Left_neg (hg:Glob w):Calls Tryz.prog 157 #[.int .i64 (-1)] w λ e w'=>e=.returned (.tuple #[.bool false,.bool false,.int .i64 11])/\Gr w w':=by
 have U:=λ w=>hid (P3.Unpack_no (-1) (by decide) w)
 have SS:=λ W (g:Gr w W)=>hid (state_neg (hg.gr g))
 go_enter Tryz.func157,Tryz.ntmps157
 go_wp2_with fail
 with_reducible refine (U _).out.mono ?_
 rintro e w1 ⟨rfl,g1⟩
 go_wp2_with fail
 with_reducible refine (SS _ (g1.al _)).out.mono ?_
 rintro e w2 ⟨rfl,rfl⟩
 go_wp2_with fail
 go_ret3
 exact⟨rfl,g1.al _⟩
theorem Left_held (hg:Glob w) (hn:OkN n):Calls Tryz.prog 157 #[.int .i64 (pw true b c n)] w λ e w'=>e=.returned (.tuple #[.bool false,.bool false,.int .i64 11])/\Gr w w':=by
 have U:=λ w=>hid (P3.Unpack_ok true b c n hn w)
 have SS:=λ W (g:Gr w W)=>hid (state_is (a:=true) (b:=b) (c:=c) (hg.gr g) hn)
 simp only [st,if_true] at SS
 clear hn
 generalize pw true b c n=v at *
 go_enter Tryz.func157,Tryz.ntmps157
 go_wp2_with fail
 with_reducible refine (U _).out.mono ?_
 rintro e w1 ⟨rfl,g1⟩
 go_wp2_with fail
 with_reducible refine (SS _ (g1.al _)).out.mono ?_
 rintro e w2 ⟨rfl,rfl⟩
 go_wp2_with fail
 go_ret3
 exact⟨rfl,g1.al _⟩
theorem Left_free (hg:Glob w) (hn:OkN n) {z:Bool} (hz:(pw false b c n==0)=z):Calls Tryz.prog 157 #[.int .i64 (pw false b c n)] w λ e w'=>e=.returned (.tuple #[.bool z,.bool c,.int .i64 0])/\Gr w w':=by
 have U:=λ w=>hid (P3.Unpack_ok false b c n hn w)
 have SS:=λ W (g:Gr w W)=>hid (state_is (a:=false) (b:=b) (c:=c) (hg.gr g) hn)
 obtain⟨k,hk,h3,h2⟩:∃ k,st false b c=k/\(k==3)=false/\(k==2)=c:=⟨_,rfl,by cases b<;>cases c<;>rfl,by cases b<;>cases c<;>rfl⟩
 rw [hk] at SS
 clear hn hk
 generalize pw false b c n=v at *
 go_enter Tryz.func157,Tryz.ntmps157
 go_wp2_with fail
 with_reducible refine (U _).out.mono ?_
 rintro e w1 ⟨rfl,g1⟩
 go_wp2_with fail
 with_reducible refine (SS _ (g1.al _)).out.mono ?_
 rintro e w2 ⟨rfl,rfl⟩
 go_wp2_with fail
 go_ret3
 exact⟨rfl,g1.al _⟩
theorem Wakes_none (hg:Glob w) (hn:OkN n) (h:n=0\/st a b c≠0):Calls Tryz.prog 159 #[.int .i64 (pw a b c n)] w λ e w'=>e=.returned (.tuple #[.bool false,.int .i64 0,.int .i64 0])/\Gr w w':=by
 have U:=λ w=>hid (P3.Unpack_ok a b c n hn w)
 have SS:=λ W (g:Gr w W)=>hid (state_is (a:=a) (b:=b) (c:=c) (hg.gr g) hn)
 generalize st a b c=k at *
 generalize pw a b c n=v at *
 clear hn
 by_cases h0:n=0
 . subst h0
   clear h
   go_enter Tryz.func159,Tryz.ntmps159
   go_wp2_with fail
   with_reducible refine (U _).out.mono ?_
   rintro e w1 ⟨rfl,g1⟩
   go_wp2_with fail
   go_ret3
   exact⟨rfl,g1.al _⟩
 . have hk:(k != 0)=true:=by simpa using h.resolve_left h0
   have hn0:(n==0)=false:=by simpa using h0
   clear h h0
   go_enter Tryz.func159,Tryz.ntmps159
   go_wp2_with fail
   with_reducible refine (U _).out.mono ?_
   rintro e w1 ⟨rfl,g1⟩
   go_wp2_with fail
   with_reducible refine (SS _ (g1.al _)).out.mono ?_
   rintro e w2 ⟨rfl,rfl⟩
   go_wp2_with fail
   go_ret3
   exact⟨rfl,g1.al _⟩
theorem Wakes_yes (hg:Glob w) (hn:OkN n) (h0:0<n) {m:Int} (hm:n-1=m):Calls Tryz.prog 159 #[.int .i64 (pw false false false n)] w λ e w'=>e=.returned (.tuple #[.bool true,.int .i64 (pw false true false m),.int .i64 0])/\Gr w w':=by
 have U:=λ w=>hid (P3.Unpack_ok false false false n hn w)
 have SS:=λ W (g:Gr w W)=>hid (state_is (a:=false) (b:=false) (c:=false) (hg.gr g) hn)
 have WW:=λ w=>hid (P3.Waits_ok false false false n (-1) m hn (by unfold OkN at hn;unfold wrap64;omega) (by unfold OkN at hn;omega) w)
 have HO:=hid (P3.or_2 (a:=false) (b:=false) (c:=false) (n:=m) (by unfold OkN at hn;omega))
 have hne:n≠0:=by omega
 simp only [show st false false false=0 from rfl] at SS
 clear hn hm h0
 generalize pw false false false n=v at *
 generalize pw false false false m=x at *
 generalize pw false true false m=y at *
 go_enter Tryz.func159,Tryz.ntmps159
 go_wp2_with fail
 with_reducible refine (U _).out.mono ?_
 rintro e w1 ⟨rfl,g1⟩
 go_wp2_with fail
 with_reducible refine (SS _ (g1.al _)).out.mono ?_
 rintro e w2 ⟨rfl,rfl⟩
 go_wp2_with fail
 with_reducible refine (WW _).out.mono ?_
 rintro e w3 ⟨rfl,g3⟩
 go_wp2_with fail
 go_ret3
 exact⟨by rw [HO.out];rfl,(g1.al _).trans g3⟩
end
end P15
end
section
open Go.ChangeShapes Go.WideShapes Go.ChangeAt Go.RowKit Go.Shelf
namespace P16
open P14 (pan)
open P12 (PV PMem)
theorem pw_un {v:Int} (h:OkW v):v=P3.pw (wd v).L (wd v).K (wd v).S (wd v).n:=by
 unfold OkW at h
 unfold P3.pw wd P3.b1
 dsimp only
 by_cases h1:v % 2=1<;>by_cases h2:v / 2 % 2=1<;>by_cases h3:v / 4 % 2=1<;>simp [h1,h2,h3]<;>omega
theorem un_pw (w:Wd):P3.pw w.L w.K w.S w.n=un w:=rfl
theorem or_un1 {v:Int} (h:OkW v):bits .or .i64 v 1=un { wd v with L:=true }:=by
 have hn:=h.n
 have e:=P3.or_1 (a:=(wd v).L) (b:=(wd v).K) (c:=(wd v).S) (n:=(wd v).n) ⟨hn.1,by omega⟩
 rw [<- pw_un h] at e
 exact e
theorem or_un2 {v:Int} (h:OkW v):bits .or .i64 v 2=un { wd v with K:=true }:=by
 have hn:=h.n
 have e:=P3.or_2 (a:=(wd v).L) (b:=(wd v).K) (c:=(wd v).S) (n:=(wd v).n) ⟨hn.1,by omega⟩
 rw [<- pw_un h] at e
 exact e
theorem OkW.L {v:Int} (h:OkW v) (b:Bool):OkW (un { wd v with L:=b }):=okW_un h.n.1 h.n.2
theorem OkW.K {v:Int} (h:OkW v) (b:Bool):OkW (un { wd v with K:=b }):=okW_un h.n.1 h.n.2
theorem less_yes {v:Int} (h:OkW v) (hL:(wd v).L=true):v-1=P3.pw false (wd v).K (wd v).S (wd v).n/\OkW (v-1)/\(wd (v-1)).S=(wd v).S:=by
 unfold OkW at *
 unfold wd at *
 dsimp only at *
 have h1:v % 2=1:=of_decide_eq_true hL
 refine⟨?_,by omega,?_⟩
 . unfold P3.pw P3.b1
   by_cases h2:v / 2 % 2=1<;>by_cases h3:v / 4 % 2=1<;>simp [h2,h3]<;>omega
 . congr 1
   rw [show (v-1) / 4=v / 4 from by omega]
theorem less_no {v:Int} (h:OkW v) (hL:(wd v).L=false):v-1=-1\/∃ b c n,v-1=P3.pw true b c n/\P15.OkN n:=by
 unfold OkW at h
 have h1:¬ v % 2=1:=of_decide_eq_false hL
 by_cases h0:v=0
 . exact .inl (by omega)
 . right
   obtain⟨a,b,c,n,e,hn⟩:=P3.pw_of (v:=v-1) ⟨by omega,by omega⟩
   have ha:a=true:=by
    cases a
    . exfalso
      have:(v-1) % 2=1:=by omega
      rw [e] at this
      unfold P3.pw P3.b1 at this
      cases b<;>cases c<;>simp at this<;>omega
    . rfl
   subst ha
   exact⟨b,c,n,e,hn⟩
section
variable {x:Cx} {W:World} {T E:Sl} {cl:List Cl} {mx:List T3} {tb:List Sp} {ev:List T3} {c:Cl} {a:T3} {pr:List Ac}
theorem grasp_no (h:TS x W T ⟨none,0,0⟩ cl mx tb []) (hR:Rn x cl c pr) (h0:0<=x.n) (h4:x.n<4) (ha:mx[x.n.toNat]?=some a) (hne:(a.1==c.old)=false) (hk:OkW c.old) :
 Calls Tryz.prog 109 #[.pointer (some ⟨x.b,0,none⟩)] W λ e W'=>e=.returned (.tuple #[])/\(∃ E,TS x W' T E (cl.set x.who.toNat (over c pr.length)) mx tb [(x.who,2,x.n)])/\Kx x W W':=by
 have hc:=hR.hc
 have eo:=or_un1 hk
 have cs:=hid (swaps_no h h0 h4 ha hR.hc hne (un { wd c.old with L:=true }))
 obtain⟨-,-,-,-,-,-,-,c7,-,-,-,-⟩:=h.cells
 obtain⟨-,-,-,-,-,-,-,-,-,-,-,-,s12,-⟩:=h.cl_ hc
 have H:=hid h
 generalize un { wd c.old with L:=true }=v at eo cs ⊢
 clear h hk hne
 go_enter Tryz.func109,Tryz.ntmps109
 go_wp2_with fail
 with_reducible refine cs.out.mono ?_
 rintro e w1 ⟨rfl,d,rfl⟩
 have h1:=H.out.gr ((Gr.refl W).drN d)
 have k1:Kx x W _:=Kx.gr ((Gr.refl W).drN d)
 have K1:=hid k1
 have he:=hid (ends_is h1 hR (v:=2) ⟨by omega,by omega⟩)
 clear h1 k1
 go_wp2_with fail
 with_reducible refine he.out.mono ?_
 rintro e w3 ⟨rfl,h3,k3⟩
 have H3:=hid h3
 have K3:=hid k3
 clear h3 k3
 go_wp2_with fail
 (first | go_end0 | ((try simp only [Exit.inBlock,Exit.then]);refine bodyPost_ret (results_none rfl _ _ _) rfl ?_))
 exact⟨rfl,H3.out,K1.out.trans K3.out⟩
theorem grasp_yes (h:TS x W T ⟨none,0,0⟩ cl mx tb []) (hR:Rn x cl c pr) (h0:0<=x.n) (h4:x.n<4) (ha:mx[x.n.toNat]?=some a) (hne:(a.1==c.old)=true) (hk:OkW c.old) :
 Calls Tryz.prog 109 #[.pointer (some ⟨x.b,0,none⟩)] W λ e W'=>e=.returned (.tuple #[])/\(∃ E,TS x W' T E (cl.set x.who.toNat (over c pr.length)) (mx.set x.n.toNat (un { wd c.old with L:=true },a.2)) tb [(x.who,1,x.n)])/\Kx x W W':=by
 have hc:=hR.hc
 have eo:=or_un1 hk
 have cs:=hid (swaps_yes h h0 h4 ha hR.hc hne (hk.L true))
 obtain⟨-,-,-,-,-,-,-,c7,-,-,-,-⟩:=h.cells
 obtain⟨-,-,-,-,-,-,-,-,-,-,-,-,s12,-⟩:=h.cl_ hc
 have H:=hid h
 generalize un { wd c.old with L:=true }=v at eo cs ⊢
 clear h hk hne
 go_enter Tryz.func109,Tryz.ntmps109
 go_wp2_with fail
 with_reducible refine cs.out.mono ?_
 rintro e w1 ⟨rfl,h1,k1⟩
 have K1:=hid k1
 have he:=hid (ends_is h1 hR (v:=1) ⟨by omega,by omega⟩)
 clear h1 k1
 go_wp2_with fail
 with_reducible refine he.out.mono ?_
 rintro e w3 ⟨rfl,h3,k3⟩
 have H3:=hid h3
 have K3:=hid k3
 clear h3 k3
 go_wp2_with fail
 (first | go_end0 | ((try simp only [Exit.inBlock,Exit.then]);refine bodyPost_ret (results_none rfl _ _ _) rfl ?_))
 exact⟨rfl,H3.out,K1.out.trans K3.out⟩
theorem look_no (h:TS x W T ⟨none,0,0⟩ cl mx tb []) (hR:Rn x cl c pr) (h0:0<=x.n) (h4:x.n<4) (ha:mx[x.n.toNat]?=some a) (hk:OkW a.1) (hl:(wd a.1).L=true\/(wd a.1).S=true) :
 Calls Tryz.prog 108 #[.pointer (some ⟨x.b,0,none⟩)] W λ e W'=>e=.returned (.tuple #[])/\(∃ E,TS x W' T E (cl.set x.who.toNat (over c pr.length)) mx tb [(x.who,2,x.n)])/\Kx x W W':=by
 have hn:=hk.n
 have cu:=λ W=>hid (P3.Unpack_ok (wd a.1).L (wd a.1).K (wd a.1).S (wd a.1).n hn W)
 rw [<- pw_un hk] at cu
 obtain⟨n,hnn⟩:∃ n,(wd a.1).n=n:=⟨_,rfl⟩
 obtain⟨K,hK⟩:∃ K,(wd a.1).K=K:=⟨_,rfl⟩
 obtain⟨l,hL⟩:∃ l,(wd a.1).L=l:=⟨_,rfl⟩
 obtain⟨s,hS⟩:∃ s,(wd a.1).S=s:=⟨_,rfl⟩
 rw [hnn,hK,hL,hS] at cu
 rw [hL,hS] at hl
 clear hnn hK hL hS hn
 have hl2:l=true\/(l=false/\s=true):=by cases l<;>simp_all
 clear hl
 rcases hl2 with rfl | ⟨rfl,rfl⟩
 . skip
   go_enter Tryz.func108,Tryz.ntmps108
   go_wp2_with fail
   with_reducible refine (mutex_is h h0 h4).mono ?_
   rintro e w1 ⟨rfl,d,rfl⟩
   have h1:=h.gr ((Gr.refl W).drN d)
   obtain⟨m0,-,-,-⟩:=h1.mx_ ha
   have H1:=hid h1
   clear h1
   go_wp2_with fail
   with_reducible refine (cu _).out.mono ?_
   rintro e w2 ⟨rfl,g2⟩
   have G2:=hid g2
   clear g2
   go_wp2_with fail
   with_reducible refine (sureF_yes _ _ _ _ _).mono ?_
   rintro e w3 ⟨rfl,g3⟩
   have h3:=(H1.out.gr (G2.out.trans g3)).gr ((Gr.refl w3).al (.cells #[.bool true,.bool K,.bool s,.int .i64 n] 42))
   have K3:Hid (Kx x W _):=hid (Kx.gr (((((Gr.refl W).drN d).trans (G2.out.trans g3)).al (.cells #[.bool true,.bool K,.bool s,.int .i64 n] 42))))
   have he:=hid (ends_is h3 hR (v:=2) ⟨by omega,by omega⟩)
   clear h3 g3
   go_wp2_with fail
   with_reducible refine he.out.mono ?_
   rintro e w4 ⟨rfl,h4',k4⟩
   have H4:=hid h4'
   have K4:=hid k4
   clear h4' k4
   go_wp2_with fail
   (first | go_end0 | ((try simp only [Exit.inBlock,Exit.then]);refine bodyPost_ret (results_none rfl _ _ _) rfl ?_))
   exact⟨rfl,H4.out,K3.out.trans K4.out⟩
 . skip
   go_enter Tryz.func108,Tryz.ntmps108
   go_wp2_with fail
   with_reducible refine (mutex_is h h0 h4).mono ?_
   rintro e w1 ⟨rfl,d,rfl⟩
   have h1:=h.gr ((Gr.refl W).drN d)
   obtain⟨m0,-,-,-⟩:=h1.mx_ ha
   have H1:=hid h1
   clear h1
   go_wp2_with fail
   with_reducible refine (cu _).out.mono ?_
   rintro e w2 ⟨rfl,g2⟩
   have G2:=hid g2
   clear g2
   go_wp2_with fail
   with_reducible refine (sureF_yes _ _ _ _ _).mono ?_
   rintro e w3 ⟨rfl,g3⟩
   have h3:=(H1.out.gr (G2.out.trans g3)).gr ((Gr.refl w3).al (.cells #[.bool false,.bool K,.bool true,.int .i64 n] 42))
   have K3:Hid (Kx x W _):=hid (Kx.gr (((((Gr.refl W).drN d).trans (G2.out.trans g3)).al (.cells #[.bool false,.bool K,.bool true,.int .i64 n] 42))))
   have he:=hid (ends_is h3 hR (v:=2) ⟨by omega,by omega⟩)
   clear h3 g3
   go_wp2_with fail
   with_reducible refine he.out.mono ?_
   rintro e w4 ⟨rfl,h4',k4⟩
   have H4:=hid h4'
   have K4:=hid k4
   clear h4' k4
   go_wp2_with fail
   (first | go_end0 | ((try simp only [Exit.inBlock,Exit.then]);refine bodyPost_ret (results_none rfl _ _ _) rfl ?_))
   exact⟨rfl,H4.out,K3.out.trans K4.out⟩
theorem look_yes (h:TS x W T ⟨none,0,0⟩ cl mx tb []) (hR:Rn x cl c pr) (h0:0<=x.n) (h4:x.n<4) (ha:mx[x.n.toNat]?=some a) (hk:OkW a.1) (hl:(wd a.1).L=false) (hs:(wd a.1).S=false) :
 Calls Tryz.prog 108 #[.pointer (some ⟨x.b,0,none⟩)] W λ e W'=>e=.returned (.tuple #[])/\TS x W' T ⟨none,0,0⟩ (cl.set x.who.toNat { c with old:=a.1,pc:=9 }) mx tb []/\Kx x W W':=by
 have hn:=hk.n
 have cu:=λ W=>hid (P3.Unpack_ok (wd a.1).L (wd a.1).K (wd a.1).S (wd a.1).n hn W)
 rw [<- pw_un hk] at cu
 obtain⟨n,hnn⟩:∃ n,(wd a.1).n=n:=⟨_,rfl⟩
 obtain⟨K,hK⟩:∃ K,(wd a.1).K=K:=⟨_,rfl⟩
 obtain⟨l,hL⟩:∃ l,(wd a.1).L=l:=⟨_,rfl⟩
 obtain⟨s,hS⟩:∃ s,(wd a.1).S=s:=⟨_,rfl⟩
 rw [hnn,hK,hL,hS] at cu
 rw [hL] at hl
 rw [hS] at hs
 subst hl hs
 clear hnn hK hL hS hn
 go_enter Tryz.func108,Tryz.ntmps108
 go_wp2_with fail
 with_reducible refine (mutex_is h h0 h4).mono ?_
 rintro e w1 ⟨rfl,d,rfl⟩
 have h1:=h.gr ((Gr.refl W).drN d)
 obtain⟨m0,-,-,-⟩:=h1.mx_ ha
 have H1:=hid h1
 clear h1
 go_wp2_with fail
 with_reducible refine (cu _).out.mono ?_
 rintro e w2 ⟨rfl,g2⟩
 have G2:=hid g2
 clear g2
 go_wp2_with fail
 with_reducible refine (sureF_yes _ _ _ _ _).mono ?_
 rintro e w3 ⟨rfl,g3⟩
 have h3:=(H1.out.gr (G2.out.trans g3)).gr ((Gr.refl w3).al (.cells #[.bool false,.bool K,.bool false,.int .i64 n] 42))
 have K3:Hid (Kx x W _):=hid (Kx.gr (((((Gr.refl W).drN d).trans (G2.out.trans g3)).al (.cells #[.bool false,.bool K,.bool false,.int .i64 n] 42))))
 have he:=hid (remember_is h3 h0 h4 ha hR.hc (v:=9) ⟨by omega,by omega⟩)
 clear h3 g3
 go_wp2_with fail
 with_reducible refine he.out.mono ?_
 rintro e w4 ⟨rfl,h4',k4⟩
 have H4:=hid h4'
 have K4:=hid k4
 clear h4' k4
 go_wp2_with fail
 (first | go_end0 | ((try simp only [Exit.inBlock,Exit.then]);refine bodyPost_ret (results_none rfl _ _ _) rfl ?_))
 exact⟨rfl,H4.out,K3.out.trans K4.out⟩
theorem unlock_fault (h:TS x W T E cl mx tb ev) (hg:P15.Glob W) (h0:0<=x.n) (h4:x.n<4) (ha:mx[x.n.toNat]?=some a) (hk:OkW a.1) (hl:(wd a.1).L=false) :
 Calls Tryz.prog 110 #[.pointer (some ⟨x.b,0,none⟩)] W λ e W'=>e=.panicked (pan 11)/\Kx x W W':=by
 have hl2:=less_no hk hl
 have hb:0<=a.1/\a.1<2147483648:=hk
 obtain⟨v,hv⟩:∃ v,a.1-1=v:=⟨_,rfl⟩
 have ew:wrap64 (a.1-1)=v:=by unfold wrap64;omega
 rw [hv] at hl2
 have cl_:∀ W,P15.Glob W->Calls Tryz.prog 157 #[.int .i64 v] W λ e w'=>e=.returned (.tuple #[.bool false,.bool false,.int .i64 11])/\Gr W w':=λ W hg=>by
  rcases hl2 with rfl | ⟨b,c,n,rfl,hn⟩
  . exact P15.Left_neg hg
  . exact P15.Left_held hg hn
 have C:=hid cl_
 clear hl2 hv cl_ hk hl hb
 go_enter Tryz.func110,Tryz.ntmps110
 go_wp2_with fail
 with_reducible refine (mutex_is h h0 h4).mono ?_
 rintro e w1 ⟨rfl,d,rfl⟩
 have h1:=h.gr ((Gr.refl W).drN d)
 have hg1:=hg.gr ((Gr.refl W).drN d)
 obtain⟨m0,-,-,-⟩:=h1.mx_ ha
 clear h h1
 go_wp2_with fail
 with_reducible refine (C.out _ hg1).mono ?_
 rintro e w2 ⟨rfl,g2⟩
 have G2:=hid g2
 clear g2
 go_wp2_with fail
 with_reducible refine (need_no _ _).mono ?_
 rintro e w3 ⟨rfl,rfl⟩
 go_wp2_with fail
 exact bodyPost_pan rfl ⟨rfl,Kx.gr (((Gr.refl W).drN d).trans G2.out)⟩
theorem unlock_over (h:TS x W T ⟨none,0,0⟩ cl mx tb []) (hg:P15.Glob W) (hR:Rn x cl c pr) (h0:0<=x.n) (h4:x.n<4) (ha:mx[x.n.toNat]?=some a) (hk:OkW a.1) (hl:(wd a.1).L=true) (hz:a.1-1=0) :
 Calls Tryz.prog 110 #[.pointer (some ⟨x.b,0,none⟩)] W λ e W'=>e=.returned (.tuple #[])/\(∃ E,TS x W' T E (cl.set x.who.toNat (over c pr.length)) (mx.set x.n.toNat (a.1-1,a.2)) tb [(x.who,3,x.n)])/\Kx x W W':=by
 have hc:=hR.hc
 obtain⟨e1,hkl,e2⟩:=less_yes hk hl
 have hb:0<=a.1/\a.1<2147483648:=hk
 obtain⟨v,hv⟩:∃ v,a.1-1=v:=⟨_,rfl⟩
 have ew:wrap64 (a.1-1)=v:=by unfold wrap64;omega
 obtain⟨K,hK⟩:∃ K,(wd a.1).K=K:=⟨_,rfl⟩
 obtain⟨s,hS⟩:∃ s,(wd a.1).S=s:=⟨_,rfl⟩
 obtain⟨n,hnn⟩:∃ n,(wd a.1).n=n:=⟨_,rfl⟩
 have hn:P15.OkN n:=by rw [<- hnn];exact hk.n
 rw [hK,hS,hnn] at e1
 rw [hv] at e1 hkl hz e2 ⊢
 have hz2:(P3.pw false K s n==0)=true:=by rw [<- e1];simp [hz]
 have C:=λ W (hg:P15.Glob W)=>hid (P15.Left_free (w:=W) hg hn hz2)
 rw [<- e1] at C
 clear e1 e2 hK hS hnn hn hz2 hk hl hz hv hb
 go_enter Tryz.func110,Tryz.ntmps110
 go_wp2_with fail
 with_reducible refine (mutex_is h h0 h4).mono ?_
 rintro e w1 ⟨rfl,d,rfl⟩
 have h1:=h.gr ((Gr.refl W).drN d)
 have hg1:=hg.gr ((Gr.refl W).drN d)
 obtain⟨m0,-,-,-⟩:=h1.mx_ ha
 have H1:=hid h1
 clear h h1
 go_wp2_with fail
 with_reducible refine (C _ hg1).out.mono ?_
 rintro e w2 ⟨rfl,g2⟩
 have G2:=hid (((Gr.refl W).drN d).trans g2)
 have hp:=hid (put_yes (H1.out.gr g2) h0 h4 ha hkl)
 clear g2 m0
 go_wp2_with fail
 with_reducible refine (need_yes _ _).mono ?_
 rintro e w3 ⟨rfl,rfl⟩
 go_wp2_with fail
 with_reducible refine (need_yes _ _).mono ?_
 rintro e w4 ⟨rfl,rfl⟩
 go_wp2_with fail
 with_reducible refine hp.out.mono ?_
 rintro e w5 ⟨rfl,h5,k5⟩
 have K5:=hid ((Kx.gr G2.out).trans k5)
 have ht:=hid (tell_is h5 3 ⟨by omega,by omega⟩)
 clear h5 k5
 go_wp2_with fail
 with_reducible refine ht.out.mono ?_
 rintro e w6 ⟨rfl,⟨E6,h6⟩,k6⟩
 have K6:=hid (K5.out.trans k6)
 have ho:=hid (over_is h6 hR)
 clear h6 k6
 go_wp2_with fail
 with_reducible refine ho.out.mono ?_
 rintro e w7 ⟨rfl,h7,k7⟩
 have H7:=hid h7
 have K7:=hid k7
 clear h7 k7
 go_wp2_with fail
 (first | go_end0 | ((try simp only [Exit.inBlock,Exit.then]);refine bodyPost_ret (results_none rfl _ _ _) rfl ?_))
 exact⟨rfl,⟨_,H7.out⟩,K6.out.trans K7.out⟩
theorem unlock_hand (h:TS x W T ⟨none,0,0⟩ cl mx tb []) (hg:P15.Glob W) (hR:Rn x cl c pr) (h0:0<=x.n) (h4:x.n<4) (ha:mx[x.n.toNat]?=some a) (hk:OkW a.1) (hl:(wd a.1).L=true) (hz:a.1-1≠0) (hs:(wd (a.1-1)).S=true) :
 Calls Tryz.prog 110 #[.pointer (some ⟨x.b,0,none⟩)] W λ e W'=>e=.returned (.tuple #[])/\(∃ E,TS x W' T E (cl.set x.who.toNat ({ c with pc:=12 })) (mx.set x.n.toNat (a.1-1,a.2)) tb [(x.who,3,x.n)])/\Kx x W W':=by
 have hc:=hR.hc
 obtain⟨e1,hkl,e2⟩:=less_yes hk hl
 have hb:0<=a.1/\a.1<2147483648:=hk
 obtain⟨v,hv⟩:∃ v,a.1-1=v:=⟨_,rfl⟩
 have ew:wrap64 (a.1-1)=v:=by unfold wrap64;omega
 obtain⟨K,hK⟩:∃ K,(wd a.1).K=K:=⟨_,rfl⟩
 obtain⟨s,hS⟩:∃ s,(wd a.1).S=s:=⟨_,rfl⟩
 obtain⟨n,hnn⟩:∃ n,(wd a.1).n=n:=⟨_,rfl⟩
 have hn:P15.OkN n:=by rw [<- hnn];exact hk.n
 rw [hK,hS,hnn] at e1
 rw [hv] at e1 hkl hz e2 ⊢
 rw [hv,e2,hS] at hs
 subst hs
 have hz2:(P3.pw false K true n==0)=false:=by rw [<- e1];simp [hz]
 have C:=λ W (hg:P15.Glob W)=>hid (P15.Left_free (w:=W) hg hn hz2)
 rw [<- e1] at C
 clear e1 e2 hK hS hnn hn hz2 hk hl hz hv hb
 go_enter Tryz.func110,Tryz.ntmps110
 go_wp2_with fail
 with_reducible refine (mutex_is h h0 h4).mono ?_
 rintro e w1 ⟨rfl,d,rfl⟩
 have h1:=h.gr ((Gr.refl W).drN d)
 have hg1:=hg.gr ((Gr.refl W).drN d)
 obtain⟨m0,-,-,-⟩:=h1.mx_ ha
 have H1:=hid h1
 clear h h1
 go_wp2_with fail
 with_reducible refine (C _ hg1).out.mono ?_
 rintro e w2 ⟨rfl,g2⟩
 have G2:=hid (((Gr.refl W).drN d).trans g2)
 have hp:=hid (put_yes (H1.out.gr g2) h0 h4 ha hkl)
 clear g2 m0
 go_wp2_with fail
 with_reducible refine (need_yes _ _).mono ?_
 rintro e w3 ⟨rfl,rfl⟩
 go_wp2_with fail
 with_reducible refine (need_yes _ _).mono ?_
 rintro e w4 ⟨rfl,rfl⟩
 go_wp2_with fail
 with_reducible refine hp.out.mono ?_
 rintro e w5 ⟨rfl,h5,k5⟩
 have K5:=hid ((Kx.gr G2.out).trans k5)
 have ht:=hid (tell_is h5 3 ⟨by omega,by omega⟩)
 clear h5 k5
 go_wp2_with fail
 with_reducible refine ht.out.mono ?_
 rintro e w6 ⟨rfl,⟨E6,h6⟩,k6⟩
 have K6:=hid (K5.out.trans k6)
 have H6:=hid h6
 obtain⟨-,-,-,-,-,-,-,c7,-,-,-,-⟩:=h6.cells
 obtain⟨-,-,-,s3,-,-,-,-,-,-,-,-,-,sz⟩:=h6.cl_ hc
 have y3:=sz 3 (by decide)
 clear sz
 clear h6 k6
 go_wp2_with fail
 (first | go_end0 | ((try simp only [Exit.inBlock,Exit.then]);refine bodyPost_ret (results_none rfl _ _ _) rfl ?_))
 exact⟨rfl,⟨_,H6.out.putPc hc ⟨by omega,by omega⟩⟩,K6.out.trans (Kx.st (.inr (.inl rfl)) _)⟩
theorem unlock_wake (h:TS x W T ⟨none,0,0⟩ cl mx tb []) (hg:P15.Glob W) (hR:Rn x cl c pr) (h0:0<=x.n) (h4:x.n<4) (ha:mx[x.n.toNat]?=some a) (hk:OkW a.1) (hl:(wd a.1).L=true) (hz:a.1-1≠0) (hs:(wd (a.1-1)).S=false) :
 Calls Tryz.prog 110 #[.pointer (some ⟨x.b,0,none⟩)] W λ e W'=>e=.returned (.tuple #[])/\(∃ E,TS x W' T E (cl.set x.who.toNat ({ c with old:=a.1-1,pc:=10 })) (mx.set x.n.toNat (a.1-1,a.2)) tb [(x.who,3,x.n)])/\Kx x W W':=by
 have hc:=hR.hc
 obtain⟨e1,hkl,e2⟩:=less_yes hk hl
 have hb:0<=a.1/\a.1<2147483648:=hk
 obtain⟨v,hv⟩:∃ v,a.1-1=v:=⟨_,rfl⟩
 have ew:wrap64 (a.1-1)=v:=by unfold wrap64;omega
 obtain⟨K,hK⟩:∃ K,(wd a.1).K=K:=⟨_,rfl⟩
 obtain⟨s,hS⟩:∃ s,(wd a.1).S=s:=⟨_,rfl⟩
 obtain⟨n,hnn⟩:∃ n,(wd a.1).n=n:=⟨_,rfl⟩
 have hn:P15.OkN n:=by rw [<- hnn];exact hk.n
 rw [hK,hS,hnn] at e1
 rw [hv] at e1 hkl hz e2 ⊢
 rw [hv,e2,hS] at hs
 subst hs
 have hz2:(P3.pw false K false n==0)=false:=by rw [<- e1];simp [hz]
 have C:=λ W (hg:P15.Glob W)=>hid (P15.Left_free (w:=W) hg hn hz2)
 rw [<- e1] at C
 clear e1 e2 hK hS hnn hn hz2 hk hl hz hv hb
 go_enter Tryz.func110,Tryz.ntmps110
 go_wp2_with fail
 with_reducible refine (mutex_is h h0 h4).mono ?_
 rintro e w1 ⟨rfl,d,rfl⟩
 have h1:=h.gr ((Gr.refl W).drN d)
 have hg1:=hg.gr ((Gr.refl W).drN d)
 obtain⟨m0,-,-,-⟩:=h1.mx_ ha
 have H1:=hid h1
 clear h h1
 go_wp2_with fail
 with_reducible refine (C _ hg1).out.mono ?_
 rintro e w2 ⟨rfl,g2⟩
 have G2:=hid (((Gr.refl W).drN d).trans g2)
 have hp:=hid (put_yes (H1.out.gr g2) h0 h4 ha hkl)
 clear g2 m0
 go_wp2_with fail
 with_reducible refine (need_yes _ _).mono ?_
 rintro e w3 ⟨rfl,rfl⟩
 go_wp2_with fail
 with_reducible refine (need_yes _ _).mono ?_
 rintro e w4 ⟨rfl,rfl⟩
 go_wp2_with fail
 with_reducible refine hp.out.mono ?_
 rintro e w5 ⟨rfl,h5,k5⟩
 have K5:=hid ((Kx.gr G2.out).trans k5)
 have ht:=hid (tell_is h5 3 ⟨by omega,by omega⟩)
 clear h5 k5
 go_wp2_with fail
 with_reducible refine ht.out.mono ?_
 rintro e w6 ⟨rfl,⟨E6,h6⟩,k6⟩
 have K6:=hid (K5.out.trans k6)
 have ho:=hid (remember_is h6 h0 h4 (a:=(v,a.2)) (by rw [List.getElem?_set_self (List.getElem?_eq_some_iff.1 ha).1]) hc (v:=10) ⟨by omega,by omega⟩)
 clear h6 k6
 go_wp2_with fail
 with_reducible refine ho.out.mono ?_
 rintro e w7 ⟨rfl,h7,k7⟩
 have H7:=hid h7
 have K7:=hid k7
 clear h7 k7
 go_wp2_with fail
 (first | go_end0 | ((try simp only [Exit.inBlock,Exit.then]);refine bodyPost_ret (results_none rfl _ _ _) rfl ?_))
 exact⟨rfl,⟨_,H7.out⟩,K6.out.trans K7.out⟩
end
end P16
end
section
open Go.ChangeShapes Go.WideShapes Go.ChangeAt Go.RowKit
namespace P14
open P3 (fl pw)
open P4 (Tm)
section
variable {s r:Int} {t k a b c:Bool} {n:Int} {w:World}
def more (a c:Bool):Int:=if a||c then 1 else 0
theorem wanted_ok (h:OkS s r) (hn:OkN n) (hb:b=true\/k=false) (hm:OkN (n+more a c)) :
 Calls Tryz.prog 181 #[ov s t k r (pw a b c n)] w λ e w'=>e=.returned (.int .i64 (pw (a||!c) (b&&!k) (c||(t&&a)) (n+more a c)))/\Gr w w':=by
 have L:=λ w=>hid (look_ok (t:=t) (k:=k) (a:=a) (b:=b) (c:=c) (w:=w) h hn)
 have HD:=λ w=>hid (held_is a b c n w)
 have HE:=λ w=>run_hold_neq a c false false w
 obtain⟨v,hv⟩:∃ v,pw a b c n=v:=⟨_,rfl⟩
 obtain⟨x,hx⟩:∃ x,pw a b c (n+1)=x:=⟨_,rfl⟩
 have WT:OkN (n+1)->∀ w,Hid (Calls Tryz.prog 200 #[.int .i64 (pw a b c n),.int .i64 1] w λ e w'=>e=.returned (.tuple #[.int .i64 (pw a b c (n+1)),.int .i64 0])/\Gr w w') :=
  λ h1 w=>hid (P3.Waits_ok a b c n 1 (n+1) hn (by unfold OkN at h1;unfold wrap64;omega) h1 w)
 obtain⟨R,hR⟩:∃ R,pw (a||!c) (b&&!k) (c||(t&&a)) (n+more a c)=R:=⟨_,rfl⟩
 have HV:=hid hv
 have HX:=hid hx
 have HR:=hid hR
 have HN:=hid hn
 rw [hv] at L WT ⊢
 rw [hx] at WT
 rw [hR]
 clear h hv hx hR hn
 have hk:(b=true/\k=true)\/(b=true/\k=false)\/(b=false/\k=false):=by
  rcases hb with rfl | rfl
  . cases k<;>simp
  . cases b<;>simp
 clear hb
 have N0:=hid (Blk.new w #[.int .i64 s,.bool t,.bool k,.int .i64 r,.int .i64 v] 53)
 have N1:=hid λ w1=>Blk.new w1 #[.bool a,.bool b,.bool c,.int .i64 n] 42
 cases a<;>cases c
 . have HE:∀ w,(binOp .neq 230 (.agg #[.bool false,.bool false]) (.agg #[.bool false,.bool false])).run Tryz.prog w=.ok (.bool false) w:=λ w=>HE w
   clear WT
   clear hm
   rcases hk with ⟨rfl,rfl⟩ | ⟨rfl,rfl⟩ | ⟨rfl,rfl⟩<;>cases t
   all_goals (
    go_enter Tryz.func181,Tryz.ntmps181
    go_wp2_with fail
    with_reducible refine (L _).out.mono ?_
    rintro e w1 ⟨rfl,g1⟩
    have B0:=N0.out.gr g1
    have B1:=N1.out w1
    have G0:=((Gr.refl w).al _).trans g1
    have hlt:=B0.lt
    obtain⟨q1,-⟩:=B0.at_ (k:=1) rfl
    obtain⟨q2,-⟩:=B0.at_ (k:=2) rfl
    obtain⟨q4,-⟩:=B0.at_ (k:=4) rfl
    clear g1
    go_wp2_with fail
    with_reducible refine (need_yes _ _).mono ?_
    rintro e w2 ⟨rfl,rfl⟩
    go_wp2_with fail
    with_reducible refine (HD _).out.mono ?_
    rintro e w3 ⟨rfl,g3⟩
    replace B0:=(B0.al _).gr g3
    replace B1:=B1.gr g3
    replace G0:=(G0.al _).trans g3
    replace hlt:=B0.lt
    replace q1:=(B0.at_ (k:=1) rfl).1
    replace q2:=(B0.at_ (k:=2) rfl).1
    clear q4
    obtain⟨e0,-⟩:=B1.at_ (k:=0) rfl
    obtain⟨e2,-⟩:=B1.at_ (k:=2) rfl
    clear g3
    go_wp2_with fail
    go_ret
    refine⟨?_,G0⟩
    show Ending.returned (Value.int .i64 _)=Ending.returned (Value.int .i64 R)
    refine congrArg _ (congrArg _ ?_)
    have hn:=HN.out
    unfold OkN at hn
    rw [<- HR.out,<- HV.out]
    try simp only [P3.or_1 (n:=n) (by omega),P3.or_4 (n:=n) (by omega),P3.not_2 (n:=n) (by omega),P3.or_1 (n:=n+1) (by omega),P3.or_4 (n:=n+1) (by omega),P3.not_2 (n:=n+1) (by omega)]
    simp [more])
 . have HE:∀ w,(binOp .neq 230 (.agg #[.bool false,.bool true]) (.agg #[.bool false,.bool false])).run Tryz.prog w=.ok (.bool true) w:=λ w=>HE w
   have WT:=WT hm
   clear hm
   rcases hk with ⟨rfl,rfl⟩ | ⟨rfl,rfl⟩ | ⟨rfl,rfl⟩<;>cases t
   all_goals (
    go_enter Tryz.func181,Tryz.ntmps181
    go_wp2_with fail
    with_reducible refine (L _).out.mono ?_
    rintro e w1 ⟨rfl,g1⟩
    have B0:=N0.out.gr g1
    have B1:=N1.out w1
    have G0:=((Gr.refl w).al _).trans g1
    have hlt:=B0.lt
    obtain⟨q1,-⟩:=B0.at_ (k:=1) rfl
    obtain⟨q2,-⟩:=B0.at_ (k:=2) rfl
    obtain⟨q4,-⟩:=B0.at_ (k:=4) rfl
    clear g1
    go_wp2_with fail
    with_reducible refine (need_yes _ _).mono ?_
    rintro e w2 ⟨rfl,rfl⟩
    go_wp2_with fail
    with_reducible refine (HD _).out.mono ?_
    rintro e w3 ⟨rfl,g3⟩
    replace B0:=(B0.al _).gr g3
    replace B1:=B1.gr g3
    replace G0:=(G0.al _).trans g3
    replace hlt:=B0.lt
    replace q1:=(B0.at_ (k:=1) rfl).1
    replace q2:=(B0.at_ (k:=2) rfl).1
    clear q4
    obtain⟨e0,-⟩:=B1.at_ (k:=0) rfl
    obtain⟨e2,-⟩:=B1.at_ (k:=2) rfl
    clear g3
    go_wp2_with fail
    with_reducible refine (WT _).out.mono ?_
    rintro e w4 ⟨rfl,g4⟩
    go_wp2_with fail
    with_reducible refine (sureI_yes _ _).mono ?_
    rintro e w5 ⟨rfl,rfl⟩
    replace B0:=B0.gr g4
    replace B1:=B1.gr g4
    replace G0:=G0.trans g4
    replace q1:=(B0.at_ (k:=1) rfl).1
    replace q2:=(B0.at_ (k:=2) rfl).1
    replace e0:=(B1.at_ (k:=0) rfl).1
    replace e2:=(B1.at_ (k:=2) rfl).1
    clear g4
    go_wp2_with fail
    go_ret
    refine⟨?_,G0⟩
    show Ending.returned (Value.int .i64 _)=Ending.returned (Value.int .i64 R)
    refine congrArg _ (congrArg _ ?_)
    have hn:=HN.out
    unfold OkN at hn
    rw [<- HR.out,<- HX.out]
    try simp only [P3.or_1 (n:=n) (by omega),P3.or_4 (n:=n) (by omega),P3.not_2 (n:=n) (by omega),P3.or_1 (n:=n+1) (by omega),P3.or_4 (n:=n+1) (by omega),P3.not_2 (n:=n+1) (by omega)]
    simp [more])
 . have HE:∀ w,(binOp .neq 230 (.agg #[.bool true,.bool false]) (.agg #[.bool false,.bool false])).run Tryz.prog w=.ok (.bool true) w:=λ w=>HE w
   have WT:=WT hm
   clear hm
   rcases hk with ⟨rfl,rfl⟩ | ⟨rfl,rfl⟩ | ⟨rfl,rfl⟩<;>cases t
   all_goals (
    go_enter Tryz.func181,Tryz.ntmps181
    go_wp2_with fail
    with_reducible refine (L _).out.mono ?_
    rintro e w1 ⟨rfl,g1⟩
    have B0:=N0.out.gr g1
    have B1:=N1.out w1
    have G0:=((Gr.refl w).al _).trans g1
    have hlt:=B0.lt
    obtain⟨q1,-⟩:=B0.at_ (k:=1) rfl
    obtain⟨q2,-⟩:=B0.at_ (k:=2) rfl
    obtain⟨q4,-⟩:=B0.at_ (k:=4) rfl
    clear g1
    go_wp2_with fail
    with_reducible refine (need_yes _ _).mono ?_
    rintro e w2 ⟨rfl,rfl⟩
    go_wp2_with fail
    with_reducible refine (HD _).out.mono ?_
    rintro e w3 ⟨rfl,g3⟩
    replace B0:=(B0.al _).gr g3
    replace B1:=B1.gr g3
    replace G0:=(G0.al _).trans g3
    replace hlt:=B0.lt
    replace q1:=(B0.at_ (k:=1) rfl).1
    replace q2:=(B0.at_ (k:=2) rfl).1
    clear q4
    obtain⟨e0,-⟩:=B1.at_ (k:=0) rfl
    obtain⟨e2,-⟩:=B1.at_ (k:=2) rfl
    clear g3
    go_wp2_with fail
    with_reducible refine (WT _).out.mono ?_
    rintro e w4 ⟨rfl,g4⟩
    go_wp2_with fail
    with_reducible refine (sureI_yes _ _).mono ?_
    rintro e w5 ⟨rfl,rfl⟩
    replace B0:=B0.gr g4
    replace B1:=B1.gr g4
    replace G0:=G0.trans g4
    replace q1:=(B0.at_ (k:=1) rfl).1
    replace q2:=(B0.at_ (k:=2) rfl).1
    replace e0:=(B1.at_ (k:=0) rfl).1
    replace e2:=(B1.at_ (k:=2) rfl).1
    clear g4
    go_wp2_with fail
    go_ret
    refine⟨?_,G0⟩
    show Ending.returned (Value.int .i64 _)=Ending.returned (Value.int .i64 R)
    refine congrArg _ (congrArg _ ?_)
    have hn:=HN.out
    unfold OkN at hn
    rw [<- HR.out,<- HX.out]
    try simp only [P3.or_1 (n:=n) (by omega),P3.or_4 (n:=n) (by omega),P3.not_2 (n:=n) (by omega),P3.or_1 (n:=n+1) (by omega),P3.or_4 (n:=n+1) (by omega),P3.not_2 (n:=n+1) (by omega)]
    simp [more])
 . have HE:∀ w,(binOp .neq 230 (.agg #[.bool true,.bool true]) (.agg #[.bool false,.bool false])).run Tryz.prog w=.ok (.bool true) w:=λ w=>HE w
   have WT:=WT hm
   clear hm
   rcases hk with ⟨rfl,rfl⟩ | ⟨rfl,rfl⟩ | ⟨rfl,rfl⟩<;>cases t
   all_goals (
    go_enter Tryz.func181,Tryz.ntmps181
    go_wp2_with fail
    with_reducible refine (L _).out.mono ?_
    rintro e w1 ⟨rfl,g1⟩
    have B0:=N0.out.gr g1
    have B1:=N1.out w1
    have G0:=((Gr.refl w).al _).trans g1
    have hlt:=B0.lt
    obtain⟨q1,-⟩:=B0.at_ (k:=1) rfl
    obtain⟨q2,-⟩:=B0.at_ (k:=2) rfl
    obtain⟨q4,-⟩:=B0.at_ (k:=4) rfl
    clear g1
    go_wp2_with fail
    with_reducible refine (need_yes _ _).mono ?_
    rintro e w2 ⟨rfl,rfl⟩
    go_wp2_with fail
    with_reducible refine (HD _).out.mono ?_
    rintro e w3 ⟨rfl,g3⟩
    replace B0:=(B0.al _).gr g3
    replace B1:=B1.gr g3
    replace G0:=(G0.al _).trans g3
    replace hlt:=B0.lt
    replace q1:=(B0.at_ (k:=1) rfl).1
    replace q2:=(B0.at_ (k:=2) rfl).1
    clear q4
    obtain⟨e0,-⟩:=B1.at_ (k:=0) rfl
    obtain⟨e2,-⟩:=B1.at_ (k:=2) rfl
    clear g3
    go_wp2_with fail
    with_reducible refine (WT _).out.mono ?_
    rintro e w4 ⟨rfl,g4⟩
    go_wp2_with fail
    with_reducible refine (sureI_yes _ _).mono ?_
    rintro e w5 ⟨rfl,rfl⟩
    replace B0:=B0.gr g4
    replace B1:=B1.gr g4
    replace G0:=G0.trans g4
    replace q1:=(B0.at_ (k:=1) rfl).1
    replace q2:=(B0.at_ (k:=2) rfl).1
    replace e0:=(B1.at_ (k:=0) rfl).1
    replace e2:=(B1.at_ (k:=2) rfl).1
    clear g4
    go_wp2_with fail
    go_ret
    refine⟨?_,G0⟩
    show Ending.returned (Value.int .i64 _)=Ending.returned (Value.int .i64 R)
    refine congrArg _ (congrArg _ ?_)
    have hn:=HN.out
    unfold OkN at hn
    rw [<- HR.out,<- HX.out]
    try simp only [P3.or_1 (n:=n) (by omega),P3.or_4 (n:=n) (by omega),P3.not_2 (n:=n) (by omega),P3.or_1 (n:=n+1) (by omega),P3.or_4 (n:=n+1) (by omega),P3.not_2 (n:=n+1) (by omega)]
    simp [more])
end
end P14
end
end Go.Proofs.YtainfijdhcehlaaGreatDoor
