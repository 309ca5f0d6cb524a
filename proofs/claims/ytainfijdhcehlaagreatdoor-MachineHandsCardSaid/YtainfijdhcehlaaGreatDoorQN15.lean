/-
  A part of the proof.
-/
import Derived.Test.YtainfijdhcehlaaGreatDoorQN14
import Derived.Laws.StructEq
import Derived.ChangeKeysEq
import Derived.RegionTactic
set_option linter.all false
set_option maxRecDepth 100000
set_option maxHeartbeats 8000000
namespace Go.Proofs.YtainfijdhcehlaaGreatDoor
open Lib (hid)
section
open Go.ChangeShapes Go.WideShapes Go.ChangeAt Go.RowKit Go.Shelf
namespace P16
open P14 (pan)
open P12 (PV PMem)
theorem pw_un {v:Int} (h:OkW v):v=P3.pw (wd v).L (wd v).K (wd v).S (wd v).n:=by
 unfold OkW at h
 unfold P3.pw wd P3.b1
 dsimp only
 by_cases h1:v % 2=1<;>by_cases h2:v / 2 % 2=1<;>by_cases h3:v / 4 % 2=1<;>simp [h1,h2,h3]<;>omega
theorem un_pw (w:Wd):P3.pw w.L w.K w.S w.n=un w:=rfl
theorem or_un1 {v:Int} (h:OkW v):bits .or .i64 v 1=un { wd v with L:=true }:=by
 have hn:=h.n
 have e:=P3.or_1 (a:=(wd v).L) (b:=(wd v).K) (c:=(wd v).S) (n:=(wd v).n) ⟨hn.1,by omega⟩
 rw [<- pw_un h] at e
 exact e
theorem or_un2 {v:Int} (h:OkW v):bits .or .i64 v 2=un { wd v with K:=true }:=by
 have hn:=h.n
 have e:=P3.or_2 (a:=(wd v).L) (b:=(wd v).K) (c:=(wd v).S) (n:=(wd v).n) ⟨hn.1,by omega⟩
 rw [<- pw_un h] at e
 exact e
theorem OkW.L {v:Int} (h:OkW v) (b:Bool):OkW (un { wd v with L:=b }):=okW_un h.n.1 h.n.2
theorem OkW.K {v:Int} (h:OkW v) (b:Bool):OkW (un { wd v with K:=b }):=okW_un h.n.1 h.n.2
theorem less_yes {v:Int} (h:OkW v) (hL:(wd v).L=true):v-1=P3.pw false (wd v).K (wd v).S (wd v).n/\OkW (v-1)/\(wd (v-1)).S=(wd v).S:=by
 unfold OkW at *
 unfold wd at *
 dsimp only at *
 have h1:v % 2=1:=of_decide_eq_true hL
 refine⟨?_,by omega,?_⟩
 . unfold P3.pw P3.b1
   by_cases h2:v / 2 % 2=1<;>by_cases h3:v / 4 % 2=1<;>simp [h2,h3]<;>omega
 . congr 1
   rw [show (v-1) / 4=v / 4 from by omega]
theorem less_no {v:Int} (h:OkW v) (hL:(wd v).L=false):v-1=-1\/∃ b c n,v-1=P3.pw true b c n/\P15.OkN n:=by
 unfold OkW at h
 have h1:¬ v % 2=1:=of_decide_eq_false hL
 by_cases h0:v=0
 . exact .inl (by omega)
 . right
   obtain⟨a,b,c,n,e,hn⟩:=P3.pw_of (v:=v-1) ⟨by omega,by omega⟩
   have ha:a=true:=by
    cases a
    . exfalso
      have:(v-1) % 2=1:=by omega
      rw [e] at this
      unfold P3.pw P3.b1 at this
      cases b<;>cases c<;>simp at this<;>omega
    . rfl
   subst ha
   exact⟨b,c,n,e,hn⟩
section
variable {x:Cx} {W:World} {T E:Sl} {cl:List Cl} {mx:List T3} {tb:List Sp} {ev:List T3} {c:Cl} {a:T3} {pr:List Ac}
theorem grasp_no (h:TS x W T ⟨none,0,0⟩ cl mx tb []) (hR:Rn x cl c pr) (h0:0<=x.n) (h4:x.n<4) (ha:mx[x.n.toNat]?=some a) (hne:(a.1==c.old)=false) (hk:OkW c.old) :
 Calls Tryz.prog 109 #[.pointer (some ⟨x.b,0,none⟩)] W λ e W'=>e=.returned (.tuple #[])/\(∃ E,TS x W' T E (cl.set x.who.toNat (over c pr.length)) mx tb [(x.who,2,x.n)])/\Kx x W W':=by
 have hc:=hR.hc
 have eo:=or_un1 hk
 have cs:=hid (swaps_no h h0 h4 ha hR.hc hne (un { wd c.old with L:=true }))
 obtain⟨-,-,-,-,-,-,-,c7,-,-,-,-⟩:=h.cells
 obtain⟨-,-,-,-,-,-,-,-,-,-,-,-,s12,-⟩:=h.cl_ hc
 have H:=hid h
 generalize un { wd c.old with L:=true }=v at eo cs ⊢
 clear h hk hne
 go_enter Tryz.func109,Tryz.ntmps109
 go_wp2_with fail
 with_reducible refine cs.out.mono ?_
 rintro e w1 ⟨rfl,d,rfl⟩
 have h1:=H.out.gr ((Gr.refl W).drN d)
 have k1:Kx x W _:=Kx.gr ((Gr.refl W).drN d)
 have K1:=hid k1
 have he:=hid (ends_is h1 hR (v:=2) ⟨by omega,by omega⟩)
 clear h1 k1
 go_wp2_with fail
 with_reducible refine he.out.mono ?_
 rintro e w3 ⟨rfl,h3,k3⟩
 have H3:=hid h3
 have K3:=hid k3
 clear h3 k3
 go_wp2_with fail
 (first | go_end0 | ((try simp only [Exit.inBlock,Exit.then]);refine bodyPost_ret (results_none rfl _ _ _) rfl ?_))
 exact⟨rfl,H3.out,K1.out.trans K3.out⟩
theorem grasp_yes (h:TS x W T ⟨none,0,0⟩ cl mx tb []) (hR:Rn x cl c pr) (h0:0<=x.n) (h4:x.n<4) (ha:mx[x.n.toNat]?=some a) (hne:(a.1==c.old)=true) (hk:OkW c.old) :
 Calls Tryz.prog 109 #[.pointer (some ⟨x.b,0,none⟩)] W λ e W'=>e=.returned (.tuple #[])/\(∃ E,TS x W' T E (cl.set x.who.toNat (over c pr.length)) (mx.set x.n.toNat (un { wd c.old with L:=true },a.2)) tb [(x.who,1,x.n)])/\Kx x W W':=by
 have hc:=hR.hc
 have eo:=or_un1 hk
 have cs:=hid (swaps_yes h h0 h4 ha hR.hc hne (hk.L true))
 obtain⟨-,-,-,-,-,-,-,c7,-,-,-,-⟩:=h.cells
 obtain⟨-,-,-,-,-,-,-,-,-,-,-,-,s12,-⟩:=h.cl_ hc
 have H:=hid h
 generalize un { wd c.old with L:=true }=v at eo cs ⊢
 clear h hk hne
 go_enter Tryz.func109,Tryz.ntmps109
 go_wp2_with fail
 with_reducible refine cs.out.mono ?_
 rintro e w1 ⟨rfl,h1,k1⟩
 have K1:=hid k1
 have he:=hid (ends_is h1 hR (v:=1) ⟨by omega,by omega⟩)
 clear h1 k1
 go_wp2_with fail
 with_reducible refine he.out.mono ?_
 rintro e w3 ⟨rfl,h3,k3⟩
 have H3:=hid h3
 have K3:=hid k3
 clear h3 k3
 go_wp2_with fail
 (first | go_end0 | ((try simp only [Exit.inBlock,Exit.then]);refine bodyPost_ret (results_none rfl _ _ _) rfl ?_))
 exact⟨rfl,H3.out,K1.out.trans K3.out⟩
theorem look_no (h:TS x W T ⟨none,0,0⟩ cl mx tb []) (hR:Rn x cl c pr) (h0:0<=x.n) (h4:x.n<4) (ha:mx[x.n.toNat]?=some a) (hk:OkW a.1) (hl:(wd a.1).L=true\/(wd a.1).S=true) :
 Calls Tryz.prog 108 #[.pointer (some ⟨x.b,0,none⟩)] W λ e W'=>e=.returned (.tuple #[])/\(∃ E,TS x W' T E (cl.set x.who.toNat (over c pr.length)) mx tb [(x.who,2,x.n)])/\Kx x W W':=by
 have hn:=hk.n
 have cu:=λ W=>hid (P3.Unpack_ok (wd a.1).L (wd a.1).K (wd a.1).S (wd a.1).n hn W)
 rw [<- pw_un hk] at cu
 obtain⟨n,hnn⟩:∃ n,(wd a.1).n=n:=⟨_,rfl⟩
 obtain⟨K,hK⟩:∃ K,(wd a.1).K=K:=⟨_,rfl⟩
 obtain⟨l,hL⟩:∃ l,(wd a.1).L=l:=⟨_,rfl⟩
 obtain⟨s,hS⟩:∃ s,(wd a.1).S=s:=⟨_,rfl⟩
 rw [hnn,hK,hL,hS] at cu
 rw [hL,hS] at hl
 clear hnn hK hL hS hn
 have hl2:l=true\/(l=false/\s=true):=by cases l<;>simp_all
 clear hl
 rcases hl2 with rfl | ⟨rfl,rfl⟩
 . skip
   go_enter Tryz.func108,Tryz.ntmps108
   go_wp2_with fail
   with_reducible refine (mutex_is h h0 h4).mono ?_
   rintro e w1 ⟨rfl,d,rfl⟩
   have h1:=h.gr ((Gr.refl W).drN d)
   obtain⟨m0,-,-,-⟩:=h1.mx_ ha
   have H1:=hid h1
   clear h1
   go_wp2_with fail
   with_reducible refine (cu _).out.mono ?_
   rintro e w2 ⟨rfl,g2⟩
   have G2:=hid g2
   clear g2
   go_wp2_with fail
   with_reducible refine (sureF_yes _ _ _ _ _).mono ?_
   rintro e w3 ⟨rfl,g3⟩
   have h3:=(H1.out.gr (G2.out.trans g3)).gr ((Gr.refl w3).al (.cells #[.bool true,.bool K,.bool s,.int .i64 n] 42))
   have K3:Hid (Kx x W _):=hid (Kx.gr (((((Gr.refl W).drN d).trans (G2.out.trans g3)).al (.cells #[.bool true,.bool K,.bool s,.int .i64 n] 42))))
   have he:=hid (ends_is h3 hR (v:=2) ⟨by omega,by omega⟩)
   clear h3 g3
   go_wp2_with fail
   with_reducible refine he.out.mono ?_
   rintro e w4 ⟨rfl,h4',k4⟩
   have H4:=hid h4'
   have K4:=hid k4
   clear h4' k4
   go_wp2_with fail
   (first | go_end0 | ((try simp only [Exit.inBlock,Exit.then]);refine bodyPost_ret (results_none rfl _ _ _) rfl ?_))
   exact⟨rfl,H4.out,K3.out.trans K4.out⟩
 . skip
   go_enter Tryz.func108,Tryz.ntmps108
   go_wp2_with fail
   with_reducible refine (mutex_is h h0 h4).mono ?_
   rintro e w1 ⟨rfl,d,rfl⟩
   have h1:=h.gr ((Gr.refl W).drN d)
   obtain⟨m0,-,-,-⟩:=h1.mx_ ha
   have H1:=hid h1
   clear h1
   go_wp2_with fail
   with_reducible refine (cu _).out.mono ?_
   rintro e w2 ⟨rfl,g2⟩
   have G2:=hid g2
   clear g2
   go_wp2_with fail
   with_reducible refine (sureF_yes _ _ _ _ _).mono ?_
   rintro e w3 ⟨rfl,g3⟩
   have h3:=(H1.out.gr (G2.out.trans g3)).gr ((Gr.refl w3).al (.cells #[.bool false,.bool K,.bool true,.int .i64 n] 42))
   have K3:Hid (Kx x W _):=hid (Kx.gr (((((Gr.refl W).drN d).trans (G2.out.trans g3)).al (.cells #[.bool false,.bool K,.bool true,.int .i64 n] 42))))
   have he:=hid (ends_is h3 hR (v:=2) ⟨by omega,by omega⟩)
   clear h3 g3
   go_wp2_with fail
   with_reducible refine he.out.mono ?_
   rintro e w4 ⟨rfl,h4',k4⟩
   have H4:=hid h4'
   have K4:=hid k4
   clear h4' k4
   go_wp2_with fail
   (first | go_end0 | ((try simp only [Exit.inBlock,Exit.then]);refine bodyPost_ret (results_none rfl _ _ _) rfl ?_))
   exact⟨rfl,H4.out,K3.out.trans K4.out⟩
theorem look_yes (h:TS x W T ⟨none,0,0⟩ cl mx tb []) (hR:Rn x cl c pr) (h0:0<=x.n) (h4:x.n<4) (ha:mx[x.n.toNat]?=some a) (hk:OkW a.1) (hl:(wd a.1).L=false) (hs:(wd a.1).S=false) :
 Calls Tryz.prog 108 #[.pointer (some ⟨x.b,0,none⟩)] W λ e W'=>e=.returned (.tuple #[])/\TS x W' T ⟨none,0,0⟩ (cl.set x.who.toNat { c with old:=a.1,pc:=9 }) mx tb []/\Kx x W W':=by
 have hn:=hk.n
 have cu:=λ W=>hid (P3.Unpack_ok (wd a.1).L (wd a.1).K (wd a.1).S (wd a.1).n hn W)
 rw [<- pw_un hk] at cu
 obtain⟨n,hnn⟩:∃ n,(wd a.1).n=n:=⟨_,rfl⟩
 obtain⟨K,hK⟩:∃ K,(wd a.1).K=K:=⟨_,rfl⟩
 obtain⟨l,hL⟩:∃ l,(wd a.1).L=l:=⟨_,rfl⟩
 obtain⟨s,hS⟩:∃ s,(wd a.1).S=s:=⟨_,rfl⟩
 rw [hnn,hK,hL,hS] at cu
 rw [hL] at hl
 rw [hS] at hs
 subst hl hs
 clear hnn hK hL hS hn
 go_enter Tryz.func108,Tryz.ntmps108
 go_wp2_with fail
 with_reducible refine (mutex_is h h0 h4).mono ?_
 rintro e w1 ⟨rfl,d,rfl⟩
 have h1:=h.gr ((Gr.refl W).drN d)
 obtain⟨m0,-,-,-⟩:=h1.mx_ ha
 have H1:=hid h1
 clear h1
 go_wp2_with fail
 with_reducible refine (cu _).out.mono ?_
 rintro e w2 ⟨rfl,g2⟩
 have G2:=hid g2
 clear g2
 go_wp2_with fail
 with_reducible refine (sureF_yes _ _ _ _ _).mono ?_
 rintro e w3 ⟨rfl,g3⟩
 have h3:=(H1.out.gr (G2.out.trans g3)).gr ((Gr.refl w3).al (.cells #[.bool false,.bool K,.bool false,.int .i64 n] 42))
 have K3:Hid (Kx x W _):=hid (Kx.gr (((((Gr.refl W).drN d).trans (G2.out.trans g3)).al (.cells #[.bool false,.bool K,.bool false,.int .i64 n] 42))))
 have he:=hid (remember_is h3 h0 h4 ha hR.hc (v:=9) ⟨by omega,by omega⟩)
 clear h3 g3
 go_wp2_with fail
 with_reducible refine he.out.mono ?_
 rintro e w4 ⟨rfl,h4',k4⟩
 have H4:=hid h4'
 have K4:=hid k4
 clear h4' k4
 go_wp2_with fail
 (first | go_end0 | ((try simp only [Exit.inBlock,Exit.then]);refine bodyPost_ret (results_none rfl _ _ _) rfl ?_))
 exact⟨rfl,H4.out,K3.out.trans K4.out⟩
theorem unlock_fault (h:TS x W T E cl mx tb ev) (hg:P15.Glob W) (h0:0<=x.n) (h4:x.n<4) (ha:mx[x.n.toNat]?=some a) (hk:OkW a.1) (hl:(wd a.1).L=false) :
 Calls Tryz.prog 110 #[.pointer (some ⟨x.b,0,none⟩)] W λ e W'=>e=.panicked (pan 11)/\Kx x W W':=by
 have hl2:=less_no hk hl
 have hb:0<=a.1/\a.1<2147483648:=hk
 obtain⟨v,hv⟩:∃ v,a.1-1=v:=⟨_,rfl⟩
 have ew:wrap64 (a.1-1)=v:=by unfold wrap64;omega
 rw [hv] at hl2
 have cl_:∀ W,P15.Glob W->Calls Tryz.prog 157 #[.int .i64 v] W λ e w'=>e=.returned (.tuple #[.bool false,.bool false,.int .i64 11])/\Gr W w':=λ W hg=>by
  rcases hl2 with rfl | ⟨b,c,n,rfl,hn⟩
  . exact P15.Left_neg hg
  . exact P15.Left_held hg hn
 have C:=hid cl_
 clear hl2 hv cl_ hk hl hb
 go_enter Tryz.func110,Tryz.ntmps110
 go_wp2_with fail
 with_reducible refine (mutex_is h h0 h4).mono ?_
 rintro e w1 ⟨rfl,d,rfl⟩
 have h1:=h.gr ((Gr.refl W).drN d)
 have hg1:=hg.gr ((Gr.refl W).drN d)
 obtain⟨m0,-,-,-⟩:=h1.mx_ ha
 clear h h1
 go_wp2_with fail
 with_reducible refine (C.out _ hg1).mono ?_
 rintro e w2 ⟨rfl,g2⟩
 have G2:=hid g2
 clear g2
 go_wp2_with fail
 with_reducible refine (need_no _ _).mono ?_
 rintro e w3 ⟨rfl,rfl⟩
 go_wp2_with fail
 exact bodyPost_pan rfl ⟨rfl,Kx.gr (((Gr.refl W).drN d).trans G2.out)⟩
theorem unlock_over (h:TS x W T ⟨none,0,0⟩ cl mx tb []) (hg:P15.Glob W) (hR:Rn x cl c pr) (h0:0<=x.n) (h4:x.n<4) (ha:mx[x.n.toNat]?=some a) (hk:OkW a.1) (hl:(wd a.1).L=true) (hz:a.1-1=0) :
 Calls Tryz.prog 110 #[.pointer (some ⟨x.b,0,none⟩)] W λ e W'=>e=.returned (.tuple #[])/\(∃ E,TS x W' T E (cl.set x.who.toNat (over c pr.length)) (mx.set x.n.toNat (a.1-1,a.2)) tb [(x.who,3,x.n)])/\Kx x W W':=by
 have hc:=hR.hc
 obtain⟨e1,hkl,e2⟩:=less_yes hk hl
 have hb:0<=a.1/\a.1<2147483648:=hk
 obtain⟨v,hv⟩:∃ v,a.1-1=v:=⟨_,rfl⟩
 have ew:wrap64 (a.1-1)=v:=by unfold wrap64;omega
 obtain⟨K,hK⟩:∃ K,(wd a.1).K=K:=⟨_,rfl⟩
 obtain⟨s,hS⟩:∃ s,(wd a.1).S=s:=⟨_,rfl⟩
 obtain⟨n,hnn⟩:∃ n,(wd a.1).n=n:=⟨_,rfl⟩
 have hn:P15.OkN n:=by rw [<- hnn];exact hk.n
 rw [hK,hS,hnn] at e1
 rw [hv] at e1 hkl hz e2 ⊢
 have hz2:(P3.pw false K s n==0)=true:=by rw [<- e1];simp [hz]
 have C:=λ W (hg:P15.Glob W)=>hid (P15.Left_free (w:=W) hg hn hz2)
 rw [<- e1] at C
 clear e1 e2 hK hS hnn hn hz2 hk hl hz hv hb
 go_enter Tryz.func110,Tryz.ntmps110
 go_wp2_with fail
 with_reducible refine (mutex_is h h0 h4).mono ?_
 rintro e w1 ⟨rfl,d,rfl⟩
 have h1:=h.gr ((Gr.refl W).drN d)
 have hg1:=hg.gr ((Gr.refl W).drN d)
 obtain⟨m0,-,-,-⟩:=h1.mx_ ha
 have H1:=hid h1
 clear h h1
 go_wp2_with fail
 with_reducible refine (C _ hg1).out.mono ?_
 rintro e w2 ⟨rfl,g2⟩
 have G2:=hid (((Gr.refl W).drN d).trans g2)
 have hp:=hid (put_yes (H1.out.gr g2) h0 h4 ha hkl)
 clear g2 m0
 go_wp2_with fail
 with_reducible refine (need_yes _ _).mono ?_
 rintro e w3 ⟨rfl,rfl⟩
 go_wp2_with fail
 with_reducible refine (need_yes _ _).mono ?_
 rintro e w4 ⟨rfl,rfl⟩
 go_wp2_with fail
 with_reducible refine hp.out.mono ?_
 rintro e w5 ⟨rfl,h5,k5⟩
 have K5:=hid ((Kx.gr G2.out).trans k5)
 have ht:=hid (tell_is h5 3 ⟨by omega,by omega⟩)
 clear h5 k5
 go_wp2_with fail
 with_reducible refine ht.out.mono ?_
 rintro e w6 ⟨rfl,⟨E6,h6⟩,k6⟩
 have K6:=hid (K5.out.trans k6)
 have ho:=hid (over_is h6 hR)
 clear h6 k6
 go_wp2_with fail
 with_reducible refine ho.out.mono ?_
 rintro e w7 ⟨rfl,h7,k7⟩
 have H7:=hid h7
 have K7:=hid k7
 clear h7 k7
 go_wp2_with fail
 (first | go_end0 | ((try simp only [Exit.inBlock,Exit.then]);refine bodyPost_ret (results_none rfl _ _ _) rfl ?_))
 exact⟨rfl,⟨_,H7.out⟩,K6.out.trans K7.out⟩
theorem unlock_hand (h:TS x W T ⟨none,0,0⟩ cl mx tb []) (hg:P15.Glob W) (hR:Rn x cl c pr) (h0:0<=x.n) (h4:x.n<4) (ha:mx[x.n.toNat]?=some a) (hk:OkW a.1) (hl:(wd a.1).L=true) (hz:a.1-1≠0) (hs:(wd (a.1-1)).S=true) :
 Calls Tryz.prog 110 #[.pointer (some ⟨x.b,0,none⟩)] W λ e W'=>e=.returned (.tuple #[])/\(∃ E,TS x W' T E (cl.set x.who.toNat ({ c with pc:=12 })) (mx.set x.n.toNat (a.1-1,a.2)) tb [(x.who,3,x.n)])/\Kx x W W':=by
 have hc:=hR.hc
 obtain⟨e1,hkl,e2⟩:=less_yes hk hl
 have hb:0<=a.1/\a.1<2147483648:=hk
 obtain⟨v,hv⟩:∃ v,a.1-1=v:=⟨_,rfl⟩
 have ew:wrap64 (a.1-1)=v:=by unfold wrap64;omega
 obtain⟨K,hK⟩:∃ K,(wd a.1).K=K:=⟨_,rfl⟩
 obtain⟨s,hS⟩:∃ s,(wd a.1).S=s:=⟨_,rfl⟩
 obtain⟨n,hnn⟩:∃ n,(wd a.1).n=n:=⟨_,rfl⟩
 have hn:P15.OkN n:=by rw [<- hnn];exact hk.n
 rw [hK,hS,hnn] at e1
 rw [hv] at e1 hkl hz e2 ⊢
 rw [hv,e2,hS] at hs
 subst hs
 have hz2:(P3.pw false K true n==0)=false:=by rw [<- e1];simp [hz]
 have C:=λ W (hg:P15.Glob W)=>hid (P15.Left_free (w:=W) hg hn hz2)
 rw [<- e1] at C
 clear e1 e2 hK hS hnn hn hz2 hk hl hz hv hb
 go_enter Tryz.func110,Tryz.ntmps110
 go_wp2_with fail
 with_reducible refine (mutex_is h h0 h4).mono ?_
 rintro e w1 ⟨rfl,d,rfl⟩
 have h1:=h.gr ((Gr.refl W).drN d)
 have hg1:=hg.gr ((Gr.refl W).drN d)
 obtain⟨m0,-,-,-⟩:=h1.mx_ ha
 have H1:=hid h1
 clear h h1
 go_wp2_with fail
 with_reducible refine (C _ hg1).out.mono ?_
 rintro e w2 ⟨rfl,g2⟩
 have G2:=hid (((Gr.refl W).drN d).trans g2)
 have hp:=hid (put_yes (H1.out.gr g2) h0 h4 ha hkl)
 clear g2 m0
 go_wp2_with fail
 with_reducible refine (need_yes _ _).mono ?_
 rintro e w3 ⟨rfl,rfl⟩
 go_wp2_with fail
 with_reducible refine (need_yes _ _).mono ?_
 rintro e w4 ⟨rfl,rfl⟩
 go_wp2_with fail
 with_reducible refine hp.out.mono ?_
 rintro e w5 ⟨rfl,h5,k5⟩
 have K5:=hid ((Kx.gr G2.out).trans k5)
 have ht:=hid (tell_is h5 3 ⟨by omega,by omega⟩)
 clear h5 k5
 go_wp2_with fail
 with_reducible refine ht.out.mono ?_
 rintro e w6 ⟨rfl,⟨E6,h6⟩,k6⟩
 have K6:=hid (K5.out.trans k6)
 have H6:=hid h6
 obtain⟨-,-,-,-,-,-,-,c7,-,-,-,-⟩:=h6.cells
 obtain⟨-,-,-,s3,-,-,-,-,-,-,-,-,-,sz⟩:=h6.cl_ hc
 have y3:=sz 3 (by decide)
 clear sz
 clear h6 k6
 go_wp2_with fail
 (first | go_end0 | ((try simp only [Exit.inBlock,Exit.then]);refine bodyPost_ret (results_none rfl _ _ _) rfl ?_))
 exact⟨rfl,⟨_,H6.out.putPc hc ⟨by omega,by omega⟩⟩,K6.out.trans (Kx.st (.inr (.inl rfl)) _)⟩
theorem unlock_wake (h:TS x W T ⟨none,0,0⟩ cl mx tb []) (hg:P15.Glob W) (hR:Rn x cl c pr) (h0:0<=x.n) (h4:x.n<4) (ha:mx[x.n.toNat]?=some a) (hk:OkW a.1) (hl:(wd a.1).L=true) (hz:a.1-1≠0) (hs:(wd (a.1-1)).S=false) :
 Calls Tryz.prog 110 #[.pointer (some ⟨x.b,0,none⟩)] W λ e W'=>e=.returned (.tuple #[])/\(∃ E,TS x W' T E (cl.set x.who.toNat ({ c with old:=a.1-1,pc:=10 })) (mx.set x.n.toNat (a.1-1,a.2)) tb [(x.who,3,x.n)])/\Kx x W W':=by
 have hc:=hR.hc
 obtain⟨e1,hkl,e2⟩:=less_yes hk hl
 have hb:0<=a.1/\a.1<2147483648:=hk
 obtain⟨v,hv⟩:∃ v,a.1-1=v:=⟨_,rfl⟩
 have ew:wrap64 (a.1-1)=v:=by unfold wrap64;omega
 obtain⟨K,hK⟩:∃ K,(wd a.1).K=K:=⟨_,rfl⟩
 obtain⟨s,hS⟩:∃ s,(wd a.1).S=s:=⟨_,rfl⟩
 obtain⟨n,hnn⟩:∃ n,(wd a.1).n=n:=⟨_,rfl⟩
 have hn:P15.OkN n:=by rw [<- hnn];exact hk.n
 rw [hK,hS,hnn] at e1
 rw [hv] at e1 hkl hz e2 ⊢
 rw [hv,e2,hS] at hs
 subst hs
 have hz2:(P3.pw false K false n==0)=false:=by rw [<- e1];simp [hz]
 have C:=λ W (hg:P15.Glob W)=>hid (P15.Left_free (w:=W) hg hn hz2)
 rw [<- e1] at C
 clear e1 e2 hK hS hnn hn hz2 hk hl hz hv hb
 go_enter Tryz.func110,Tryz.ntmps110
 go_wp2_with fail
 with_reducible refine (mutex_is h h0 h4).mono ?_
 rintro e w1 ⟨rfl,d,rfl⟩
 have h1:=h.gr ((Gr.refl W).drN d)
 have hg1:=hg.gr ((Gr.refl W).drN d)
 obtain⟨m0,-,-,-⟩:=h1.mx_ ha
 have H1:=hid h1
 clear h h1
 go_wp2_with fail
 with_reducible refine (C _ hg1).out.mono ?_
 rintro e w2 ⟨rfl,g2⟩
 have G2:=hid (((Gr.refl W).drN d).trans g2)
 have hp:=hid (put_yes (H1.out.gr g2) h0 h4 ha hkl)
 clear g2 m0
 go_wp2_with fail
 with_reducible refine (need_yes _ _).mono ?_
 rintro e w3 ⟨rfl,rfl⟩
 go_wp2_with fail
 with_reducible refine (need_yes _ _).mono ?_
 rintro e w4 ⟨rfl,rfl⟩
 go_wp2_with fail
 with_reducible refine hp.out.mono ?_
 rintro e w5 ⟨rfl,h5,k5⟩
 have K5:=hid ((Kx.gr G2.out).trans k5)
 have ht:=hid (tell_is h5 3 ⟨by omega,by omega⟩)
 clear h5 k5
 go_wp2_with fail
 with_reducible refine ht.out.mono ?_
 rintro e w6 ⟨rfl,⟨E6,h6⟩,k6⟩
 have K6:=hid (K5.out.trans k6)
 have ho:=hid (remember_is h6 h0 h4 (a:=(v,a.2)) (by rw [List.getElem?_set_self (List.getElem?_eq_some_iff.1 ha).1]) hc (v:=10) ⟨by omega,by omega⟩)
 clear h6 k6
 go_wp2_with fail
 with_reducible refine ho.out.mono ?_
 rintro e w7 ⟨rfl,h7,k7⟩
 have H7:=hid h7
 have K7:=hid k7
 clear h7 k7
 go_wp2_with fail
 (first | go_end0 | ((try simp only [Exit.inBlock,Exit.then]);refine bodyPost_ret (results_none rfl _ _ _) rfl ?_))
 exact⟨rfl,⟨_,H7.out⟩,K6.out.trans K7.out⟩
end
end P16
end
section
open Go.ChangeShapes Go.WideShapes Go.ChangeAt Go.RowKit
namespace P14
open P3 (fl pw)
open P4 (Tm)
section
variable {s r:Int} {t k a b c:Bool} {n:Int} {w:World}
def more (a c:Bool):Int:=if a||c then 1 else 0
theorem wanted_ok (h:OkS s r) (hn:OkN n) (hb:b=true\/k=false) (hm:OkN (n+more a c)) :
 Calls Tryz.prog 181 #[ov s t k r (pw a b c n)] w λ e w'=>e=.returned (.int .i64 (pw (a||!c) (b&&!k) (c||(t&&a)) (n+more a c)))/\Gr w w':=by
 have L:=λ w=>hid (look_ok (t:=t) (k:=k) (a:=a) (b:=b) (c:=c) (w:=w) h hn)
 have HD:=λ w=>hid (held_is a b c n w)
 have HE:=λ w=>run_hold_neq a c false false w
 obtain⟨v,hv⟩:∃ v,pw a b c n=v:=⟨_,rfl⟩
 obtain⟨x,hx⟩:∃ x,pw a b c (n+1)=x:=⟨_,rfl⟩
 have WT:OkN (n+1)->∀ w,Hid (Calls Tryz.prog 200 #[.int .i64 (pw a b c n),.int .i64 1] w λ e w'=>e=.returned (.tuple #[.int .i64 (pw a b c (n+1)),.int .i64 0])/\Gr w w') :=
  λ h1 w=>hid (P3.Waits_ok a b c n 1 (n+1) hn (by unfold OkN at h1;unfold wrap64;omega) h1 w)
 obtain⟨R,hR⟩:∃ R,pw (a||!c) (b&&!k) (c||(t&&a)) (n+more a c)=R:=⟨_,rfl⟩
 have HV:=hid hv
 have HX:=hid hx
 have HR:=hid hR
 have HN:=hid hn
 rw [hv] at L WT ⊢
 rw [hx] at WT
 rw [hR]
 clear h hv hx hR hn
 have hk:(b=true/\k=true)\/(b=true/\k=false)\/(b=false/\k=false):=by
  rcases hb with rfl | rfl
  . cases k<;>simp
  . cases b<;>simp
 clear hb
 have N0:=hid (Blk.new w #[.int .i64 s,.bool t,.bool k,.int .i64 r,.int .i64 v] 53)
 have N1:=hid λ w1=>Blk.new w1 #[.bool a,.bool b,.bool c,.int .i64 n] 42
 cases a<;>cases c
 . have HE:∀ w,(binOp .neq 230 (.agg #[.bool false,.bool false]) (.agg #[.bool false,.bool false])).run Tryz.prog w=.ok (.bool false) w:=λ w=>HE w
   clear WT
   clear hm
   rcases hk with ⟨rfl,rfl⟩ | ⟨rfl,rfl⟩ | ⟨rfl,rfl⟩<;>cases t
   all_goals (
    go_enter Tryz.func181,Tryz.ntmps181
    go_wp2_with fail
    with_reducible refine (L _).out.mono ?_
    rintro e w1 ⟨rfl,g1⟩
    have B0:=N0.out.gr g1
    have B1:=N1.out w1
    have G0:=((Gr.refl w).al _).trans g1
    have hlt:=B0.lt
    obtain⟨q1,-⟩:=B0.at_ (k:=1) rfl
    obtain⟨q2,-⟩:=B0.at_ (k:=2) rfl
    obtain⟨q4,-⟩:=B0.at_ (k:=4) rfl
    clear g1
    go_wp2_with fail
    with_reducible refine (need_yes _ _).mono ?_
    rintro e w2 ⟨rfl,rfl⟩
    go_wp2_with fail
    with_reducible refine (HD _).out.mono ?_
    rintro e w3 ⟨rfl,g3⟩
    replace B0:=(B0.al _).gr g3
    replace B1:=B1.gr g3
    replace G0:=(G0.al _).trans g3
    replace hlt:=B0.lt
    replace q1:=(B0.at_ (k:=1) rfl).1
    replace q2:=(B0.at_ (k:=2) rfl).1
    clear q4
    obtain⟨e0,-⟩:=B1.at_ (k:=0) rfl
    obtain⟨e2,-⟩:=B1.at_ (k:=2) rfl
    clear g3
    go_wp2_with fail
    go_ret
    refine⟨?_,G0⟩
    show Ending.returned (Value.int .i64 _)=Ending.returned (Value.int .i64 R)
    refine congrArg _ (congrArg _ ?_)
    have hn:=HN.out
    unfold OkN at hn
    rw [<- HR.out,<- HV.out]
    try simp only [P3.or_1 (n:=n) (by omega),P3.or_4 (n:=n) (by omega),P3.not_2 (n:=n) (by omega),P3.or_1 (n:=n+1) (by omega),P3.or_4 (n:=n+1) (by omega),P3.not_2 (n:=n+1) (by omega)]
    simp [more])
 . have HE:∀ w,(binOp .neq 230 (.agg #[.bool false,.bool true]) (.agg #[.bool false,.bool false])).run Tryz.prog w=.ok (.bool true) w:=λ w=>HE w
   have WT:=WT hm
   clear hm
   rcases hk with ⟨rfl,rfl⟩ | ⟨rfl,rfl⟩ | ⟨rfl,rfl⟩<;>cases t
   all_goals (
    go_enter Tryz.func181,Tryz.ntmps181
    go_wp2_with fail
    with_reducible refine (L _).out.mono ?_
    rintro e w1 ⟨rfl,g1⟩
    have B0:=N0.out.gr g1
    have B1:=N1.out w1
    have G0:=((Gr.refl w).al _).trans g1
    have hlt:=B0.lt
    obtain⟨q1,-⟩:=B0.at_ (k:=1) rfl
    obtain⟨q2,-⟩:=B0.at_ (k:=2) rfl
    obtain⟨q4,-⟩:=B0.at_ (k:=4) rfl
    clear g1
    go_wp2_with fail
    with_reducible refine (need_yes _ _).mono ?_
    rintro e w2 ⟨rfl,rfl⟩
    go_wp2_with fail
    with_reducible refine (HD _).out.mono ?_
    rintro e w3 ⟨rfl,g3⟩
    replace B0:=(B0.al _).gr g3
    replace B1:=B1.gr g3
    replace G0:=(G0.al _).trans g3
    replace hlt:=B0.lt
    replace q1:=(B0.at_ (k:=1) rfl).1
    replace q2:=(B0.at_ (k:=2) rfl).1
    clear q4
    obtain⟨e0,-⟩:=B1.at_ (k:=0) rfl
    obtain⟨e2,-⟩:=B1.at_ (k:=2) rfl
    clear g3
    go_wp2_with fail
    with_reducible refine (WT _).out.mono ?_
    rintro e w4 ⟨rfl,g4⟩
    go_wp2_with fail
    with_reducible refine (sureI_yes _ _).mono ?_
    rintro e w5 ⟨rfl,rfl⟩
    replace B0:=B0.gr g4
    replace B1:=B1.gr g4
    replace G0:=G0.trans g4
    replace q1:=(B0.at_ (k:=1) rfl).1
    replace q2:=(B0.at_ (k:=2) rfl).1
    replace e0:=(B1.at_ (k:=0) rfl).1
    replace e2:=(B1.at_ (k:=2) rfl).1
    clear g4
    go_wp2_with fail
    go_ret
    refine⟨?_,G0⟩
    show Ending.returned (Value.int .i64 _)=Ending.returned (Value.int .i64 R)
    refine congrArg _ (congrArg _ ?_)
    have hn:=HN.out
    unfold OkN at hn
    rw [<- HR.out,<- HX.out]
    try simp only [P3.or_1 (n:=n) (by omega),P3.or_4 (n:=n) (by omega),P3.not_2 (n:=n) (by omega),P3.or_1 (n:=n+1) (by omega),P3.or_4 (n:=n+1) (by omega),P3.not_2 (n:=n+1) (by omega)]
    simp [more])
 . have HE:∀ w,(binOp .neq 230 (.agg #[.bool true,.bool false]) (.agg #[.bool false,.bool false])).run Tryz.prog w=.ok (.bool true) w:=λ w=>HE w
   have WT:=WT hm
   clear hm
   rcases hk with ⟨rfl,rfl⟩ | ⟨rfl,rfl⟩ | ⟨rfl,rfl⟩<;>cases t
   all_goals (
    go_enter Tryz.func181,Tryz.ntmps181
    go_wp2_with fail
    with_reducible refine (L _).out.mono ?_
    rintro e w1 ⟨rfl,g1⟩
    have B0:=N0.out.gr g1
    have B1:=N1.out w1
    have G0:=((Gr.refl w).al _).trans g1
    have hlt:=B0.lt
    obtain⟨q1,-⟩:=B0.at_ (k:=1) rfl
    obtain⟨q2,-⟩:=B0.at_ (k:=2) rfl
    obtain⟨q4,-⟩:=B0.at_ (k:=4) rfl
    clear g1
    go_wp2_with fail
    with_reducible refine (need_yes _ _).mono ?_
    rintro e w2 ⟨rfl,rfl⟩
    go_wp2_with fail
    with_reducible refine (HD _).out.mono ?_
    rintro e w3 ⟨rfl,g3⟩
    replace B0:=(B0.al _).gr g3
    replace B1:=B1.gr g3
    replace G0:=(G0.al _).trans g3
    replace hlt:=B0.lt
    replace q1:=(B0.at_ (k:=1) rfl).1
    replace q2:=(B0.at_ (k:=2) rfl).1
    clear q4
    obtain⟨e0,-⟩:=B1.at_ (k:=0) rfl
    obtain⟨e2,-⟩:=B1.at_ (k:=2) rfl
    clear g3
    go_wp2_with fail
    with_reducible refine (WT _).out.mono ?_
    rintro e w4 ⟨rfl,g4⟩
    go_wp2_with fail
    with_reducible refine (sureI_yes _ _).mono ?_
    rintro e w5 ⟨rfl,rfl⟩
    replace B0:=B0.gr g4
    replace B1:=B1.gr g4
    replace G0:=G0.trans g4
    replace q1:=(B0.at_ (k:=1) rfl).1
    replace q2:=(B0.at_ (k:=2) rfl).1
    replace e0:=(B1.at_ (k:=0) rfl).1
    replace e2:=(B1.at_ (k:=2) rfl).1
    clear g4
    go_wp2_with fail
    go_ret
    refine⟨?_,G0⟩
    show Ending.returned (Value.int .i64 _)=Ending.returned (Value.int .i64 R)
    refine congrArg _ (congrArg _ ?_)
    have hn:=HN.out
    unfold OkN at hn
    rw [<- HR.out,<- HX.out]
    try simp only [P3.or_1 (n:=n) (by omega),P3.or_4 (n:=n) (by omega),P3.not_2 (n:=n) (by omega),P3.or_1 (n:=n+1) (by omega),P3.or_4 (n:=n+1) (by omega),P3.not_2 (n:=n+1) (by omega)]
    simp [more])
 . have HE:∀ w,(binOp .neq 230 (.agg #[.bool true,.bool true]) (.agg #[.bool false,.bool false])).run Tryz.prog w=.ok (.bool true) w:=λ w=>HE w
   have WT:=WT hm
   clear hm
   rcases hk with ⟨rfl,rfl⟩ | ⟨rfl,rfl⟩ | ⟨rfl,rfl⟩<;>cases t
   all_goals (
    go_enter Tryz.func181,Tryz.ntmps181
    go_wp2_with fail
    with_reducible refine (L _).out.mono ?_
    rintro e w1 ⟨rfl,g1⟩
    have B0:=N0.out.gr g1
    have B1:=N1.out w1
    have G0:=((Gr.refl w).al _).trans g1
    have hlt:=B0.lt
    obtain⟨q1,-⟩:=B0.at_ (k:=1) rfl
    obtain⟨q2,-⟩:=B0.at_ (k:=2) rfl
    obtain⟨q4,-⟩:=B0.at_ (k:=4) rfl
    clear g1
    go_wp2_with fail
    with_reducible refine (need_yes _ _).mono ?_
    rintro e w2 ⟨rfl,rfl⟩
    go_wp2_with fail
    with_reducible refine (HD _).out.mono ?_
    rintro e w3 ⟨rfl,g3⟩
    replace B0:=(B0.al _).gr g3
    replace B1:=B1.gr g3
    replace G0:=(G0.al _).trans g3
    replace hlt:=B0.lt
    replace q1:=(B0.at_ (k:=1) rfl).1
    replace q2:=(B0.at_ (k:=2) rfl).1
    clear q4
    obtain⟨e0,-⟩:=B1.at_ (k:=0) rfl
    obtain⟨e2,-⟩:=B1.at_ (k:=2) rfl
    clear g3
    go_wp2_with fail
    with_reducible refine (WT _).out.mono ?_
    rintro e w4 ⟨rfl,g4⟩
    go_wp2_with fail
    with_reducible refine (sureI_yes _ _).mono ?_
    rintro e w5 ⟨rfl,rfl⟩
    replace B0:=B0.gr g4
    replace B1:=B1.gr g4
    replace G0:=G0.trans g4
    replace q1:=(B0.at_ (k:=1) rfl).1
    replace q2:=(B0.at_ (k:=2) rfl).1
    replace e0:=(B1.at_ (k:=0) rfl).1
    replace e2:=(B1.at_ (k:=2) rfl).1
    clear g4
    go_wp2_with fail
    go_ret
    refine⟨?_,G0⟩
    show Ending.returned (Value.int .i64 _)=Ending.returned (Value.int .i64 R)
    refine congrArg _ (congrArg _ ?_)
    have hn:=HN.out
    unfold OkN at hn
    rw [<- HR.out,<- HX.out]
    try simp only [P3.or_1 (n:=n) (by omega),P3.or_4 (n:=n) (by omega),P3.not_2 (n:=n) (by omega),P3.or_1 (n:=n+1) (by omega),P3.or_4 (n:=n+1) (by omega),P3.not_2 (n:=n+1) (by omega)]
    simp [more])
end
end P14
end
section
open Go.ChangeShapes Go.WideShapes Go.ChangeAt Go.RowKit
namespace P14
open P3 (fl pw)
open P4 (Tm)
section
variable {s r:Int} {t k a b c:Bool} {n:Int} {w:World}
theorem wanted_broken (h:OkS s r) (hn:OkN n) :
 Calls Tryz.prog 181 #[ov s t true r (pw a false c n)] w λ e w'=>e=.panicked (pan 12)/\Gr w w':=by
 have L:=λ w=>hid (look_ok (t:=t) (k:=true) (a:=a) (b:=false) (c:=c) (w:=w) h hn)
 generalize pw a false c n=v at *
 have N0:=Blk.new w #[.int .i64 s,.bool t,.bool true,.int .i64 r,.int .i64 v] 53
 have G0:=(Gr.refl w).al (.cells #[.int .i64 s,.bool t,.bool true,.int .i64 r,.int .i64 v] 53)
 clear h hn
 go_enter Tryz.func181,Tryz.ntmps181
 go_wp2_with fail
 with_reducible refine (L _).out.mono ?_
 rintro e w1 ⟨rfl,g1⟩
 have hlt:=(N0.gr g1).lt
 obtain⟨q2,-⟩:=(N0.gr g1).at_ (k:=2) rfl
 have G:=hid ((G0.trans g1).al (.cells #[.bool a,.bool false,.bool c,.int .i64 n] 42))
 clear N0 G0 g1
 go_wp2_with fail
 with_reducible refine (need_no _ _).mono ?_
 rintro e w2 ⟨rfl,rfl⟩
 go_wp2_with fail
 exact⟨rfl,rfl,G.out⟩
theorem wanted_over (h:OkS s r) (hn:OkN n) (hb:b=true\/k=false) (hac:(a||c)=true) (hm:¬ OkN (n+1)) :
 Calls Tryz.prog 181 #[ov s t k r (pw a b c n)] w λ e w'=>e=.panicked (pan 10)/\Gr w w':=by
 have L:=λ w=>hid (look_ok (t:=t) (k:=k) (a:=a) (b:=b) (c:=c) (w:=w) h hn)
 have HD:=λ w=>hid (held_is a b c n w)
 have hq:(!hEq a c false false)=true:=by cases a<;>cases c<;>first | rfl | exact absurd hac (by decide)
 have HE:=λ w=>hq▸run_hold_neq a c false false w
 have WT:=λ w=>hid (P3.Waits_no a b c n 1 (n+1) hn (by unfold OkN at hn;unfold wrap64;omega) hm w)
 generalize pw a b c n=v at *
 have N0:=Blk.new w #[.int .i64 s,.bool t,.bool k,.int .i64 r,.int .i64 v] 53
 have G0:=(Gr.refl w).al (.cells #[.int .i64 s,.bool t,.bool k,.int .i64 r,.int .i64 v] 53)
 have N1:=hid λ w1=>Blk.new w1 #[.bool a,.bool b,.bool c,.int .i64 n] 42
 have GN:=hid λ (w1:World) (g:Gr _ w1)=>(G0.trans g).al (.cells #[.bool a,.bool b,.bool c,.int .i64 n] 42)
 have hk:b=true\/(b=false/\k=false):=by cases b<;>simp_all
 clear h hn hac hm hq hb
 rcases hk with rfl | ⟨rfl,rfl⟩
 all_goals (
  go_enter Tryz.func181,Tryz.ntmps181
  go_wp2_with fail
  with_reducible refine (L _).out.mono ?_
  rintro e w1 ⟨rfl,g1⟩
  have hlt:=(N0.gr g1).lt
  obtain⟨q2,-⟩:=(N0.gr g1).at_ (k:=2) rfl
  obtain⟨q4,-⟩:=(N0.gr g1).at_ (k:=4) rfl
  have G:=GN.out w1 g1
  clear N0 G0 GN g1
  go_wp2_with fail
  with_reducible refine (need_yes _ _).mono ?_
  rintro e w2 ⟨rfl,rfl⟩
  go_wp2_with fail
  with_reducible refine (HD _).out.mono ?_
  rintro e w3 ⟨rfl,g3⟩
  go_wp2_with fail
  with_reducible refine (WT _).out.mono ?_
  rintro e w4 ⟨rfl,g4⟩
  go_wp2_with fail
  with_reducible refine (sureI_no _ rfl _).mono ?_
  rintro e w5 ⟨rfl,rfl⟩
  go_wp2_with fail
  exact⟨rfl,rfl,(G.trans g3).trans g4⟩)
def chg (t:Bool) (n:Int):Int:=if t=false\/n=1 then -11 else -7
theorem taken_broken (h:OkS s r) (hn:OkN n) (hb:¬ (a=false/\b=false/\0<n)) :
 Calls Tryz.prog 198 #[ov s t k r (pw a b c n)] w λ e w'=>e=.panicked (pan 12)/\Gr w w':=by
 have L:=λ w=>hid (look_ok (t:=t) (k:=k) (a:=a) (b:=b) (c:=c) (w:=w) h hn)
 generalize pw a b c n=v at *
 have N0:=Blk.new w #[.int .i64 s,.bool t,.bool k,.int .i64 r,.int .i64 v] 53
 have G0:=(Gr.refl w).al (.cells #[.int .i64 s,.bool t,.bool k,.int .i64 r,.int .i64 v] 53)
 have GN:=hid λ (w1:World) (g:Gr _ w1)=>(G0.trans g).al (.cells #[.bool a,.bool b,.bool c,.int .i64 n] 42)
 have hk:a=true\/(a=false/\b=true)\/(a=false/\b=false/\decide (0<n)=false):=by
  cases a<;>cases b<;>simp_all
 clear h hn hb
 rcases hk with rfl | ⟨rfl,rfl⟩ | ⟨rfl,rfl,h0⟩
 all_goals (
  go_enter Tryz.func198,Tryz.ntmps198
  go_wp2_with fail
  with_reducible refine (L _).out.mono ?_
  rintro e w1 ⟨rfl,g1⟩
  have hlt:=(N0.gr g1).lt
  have G:=GN.out w1 g1
  clear N0 G0 GN g1
  go_wp2_with fail
  with_reducible refine (need_no _ _).mono ?_
  rintro e w2 ⟨rfl,rfl⟩
  go_wp2_with fail
  exact⟨rfl,rfl,G⟩)
theorem taken_ok (h:OkS s r) (hn:OkN n) (h0:0<n) :
 Calls Tryz.prog 198 #[ov s t k r (pw false false c n)] w λ e w'=>e=.returned (.int .i64 (chg t n))/\Gr w w':=by
 have L:=λ w=>hid (look_ok (t:=t) (k:=k) (a:=false) (b:=false) (c:=c) (w:=w) h hn)
 generalize pw false false c n=v at *
 have N0:=Blk.new w #[.int .i64 s,.bool t,.bool k,.int .i64 r,.int .i64 v] 53
 have G0:=(Gr.refl w).al (.cells #[.int .i64 s,.bool t,.bool k,.int .i64 r,.int .i64 v] 53)
 have hk:(t=false/\chg t n=-11)\/(t=true/\(n==1)=true/\chg t n=-11)\/(t=true/\(n==1)=false/\chg t n=-7):=by
  unfold chg
  cases t
  . exact .inl ⟨rfl,by simp⟩
  . by_cases h1:n=1
    . exact .inr (.inl ⟨rfl,by simp [h1],by simp [h1]⟩)
    . exact .inr (.inr ⟨rfl,by simp [h1],by simp [h1]⟩)
 obtain⟨C,hC⟩:∃ C,chg t n=C:=⟨_,rfl⟩
 rw [hC] at hk ⊢
 clear h hn hC
 rcases hk with ⟨rfl,rfl⟩ | ⟨rfl,h1,rfl⟩ | ⟨rfl,h1,rfl⟩
 all_goals (
  go_enter Tryz.func198,Tryz.ntmps198
  go_wp2_with fail
  with_reducible refine (L _).out.mono ?_
  rintro e w1 ⟨rfl,g1⟩
  have hlt:=(N0.gr g1).lt
  obtain⟨q1,-⟩:=(N0.gr g1).at_ (k:=1) rfl
  have G:=(G0.trans g1).al (.cells #[.bool false,.bool false,.bool c,.int .i64 n] 42)
  clear N0 G0 g1
  go_wp2_with fail
  with_reducible refine (need_yes _ _).mono ?_
  rintro e w2 ⟨rfl,rfl⟩
  go_wp2_with fail
  go_ret
  exact⟨rfl,G⟩)
end
end P14
end
section
open Go.ChangeShapes Go.WideShapes Go.ChangeAt Go.RowKit Go.Shelf
namespace P14
open P3 (fl pw)
open P4 (Tm)
section
variable {s r:Int} {t k a b c:Bool} {n u o x:Int} {w:World}
theorem Wants_cl {W:World} {g:Nat} (B:Blk W g #[.int .i64 s,.bool t,.bool k,.int .i64 r,.int .i64 o] 53)
 (hc:∀ W,Calls Tryz.prog 181 #[ov s t k r o] W λ e w'=>e=.returned (.int .i64 x)/\Gr W w') :
 Calls Tryz.prog 180 #[.pointer (some ⟨g,0,none⟩)] W λ e w'=>e=.returned (.int .i64 x)/\Gr W w':=by
 have HC:=λ W=>hid (hc W)
 obtain⟨⟨q0,q1,q2,q3,q4⟩,-⟩:=own_cells B
 clear hc B
 go_enter Tryz.func180,Tryz.ntmps180
 go_wp2_with fail
 with_reducible refine (HC _).out.mono ?_
 rintro e w1 ⟨rfl,g1⟩
 go_wp2_with fail
 go_ret
 exact⟨rfl,g1⟩
theorem Wants_up {W:World} {g:Nat} {y:Int} (B:Blk W g #[.int .i64 s,.bool t,.bool k,.int .i64 r,.int .i64 o] 53)
 (hc:∀ W,Calls Tryz.prog 181 #[ov s t k r o] W λ e w'=>e=.panicked (pan y)/\Gr W w') :
 Calls Tryz.prog 180 #[.pointer (some ⟨g,0,none⟩)] W λ e w'=>e=.panicked (pan y)/\Gr W w':=by
 have HC:=λ W=>hid (hc W)
 obtain⟨⟨q0,q1,q2,q3,q4⟩,-⟩:=own_cells B
 clear hc B
 go_enter Tryz.func180,Tryz.ntmps180
 go_wp2_with fail
 with_reducible refine (HC _).out.mono ?_
 rintro e w1 ⟨rfl,g1⟩
 go_wp2_with fail
 exact⟨rfl,rfl,g1⟩
theorem Wants_ok (hc:∀ W,Calls Tryz.prog 181 #[ov s t k r o] W λ e w'=>e=.returned (.int .i64 x)/\Gr W w') :
 Calls Tryz.prog 142 #[ov s t k r o] w λ e w'=>e=.returned (.tuple #[.int .i64 x,.int .i64 0])/\Gr w w':=by
 have N0:=Blk.new w #[.int .i64 s,.bool t,.bool k,.int .i64 r,.int .i64 o] 53
 have T:=hid (toldI_ok (F:=180) (caps:=#[.pointer (some ⟨w.heap.size,0,none⟩)]) (w:=w.alloc (.cells #[.int .i64 s,.bool t,.bool k,.int .i64 r,.int .i64 o] 53)) (enters_of Tryz.func180 (by kernel_rfl) rfl) x (λ W G=>Wants_cl (N0.gr G) hc))
 have G0:=(Gr.refl w).al (.cells #[.int .i64 s,.bool t,.bool k,.int .i64 r,.int .i64 o] 53)
 clear hc N0
 have hmf:=mkF
 go_enter Tryz.func142,Tryz.ntmps142
 go_wp2_with fail
 with_reducible refine T.out.mono ?_
 rintro e w1 ⟨rfl,g1⟩
 go_wp2_with fail
 go_ret2
 exact⟨rfl,G0.trans g1⟩
theorem Wants_no {y:Int} (hc:∀ W,Calls Tryz.prog 181 #[ov s t k r o] W λ e w'=>e=.panicked (pan y)/\Gr W w') :
 Calls Tryz.prog 142 #[ov s t k r o] w λ e w'=>e=.returned (.tuple #[.int .i64 0,.int .i64 y])/\Gr w w':=by
 have N0:=Blk.new w #[.int .i64 s,.bool t,.bool k,.int .i64 r,.int .i64 o] 53
 have T:=hid (toldI_no (F:=180) (caps:=#[.pointer (some ⟨w.heap.size,0,none⟩)]) (w:=w.alloc (.cells #[.int .i64 s,.bool t,.bool k,.int .i64 r,.int .i64 o] 53)) (enters_of Tryz.func180 (by kernel_rfl) rfl) y (λ W G=>Wants_up (N0.gr G) hc))
 have G0:=(Gr.refl w).al (.cells #[.int .i64 s,.bool t,.bool k,.int .i64 r,.int .i64 o] 53)
 clear hc N0
 have hmf:=mkF
 go_enter Tryz.func142,Tryz.ntmps142
 go_wp2_with fail
 with_reducible refine T.out.mono ?_
 rintro e w1 ⟨rfl,g1⟩
 go_wp2_with fail
 go_ret2
 exact⟨rfl,G0.trans g1⟩
theorem Handed_cl {W:World} {g:Nat} (B:Blk W g #[.int .i64 s,.bool t,.bool k,.int .i64 r,.int .i64 o] 53)
 (hc:∀ W,Calls Tryz.prog 198 #[ov s t k r o] W λ e w'=>e=.returned (.int .i64 x)/\Gr W w') :
 Calls Tryz.prog 197 #[.pointer (some ⟨g,0,none⟩)] W λ e w'=>e=.returned (.int .i64 x)/\Gr W w':=by
 have HC:=λ W=>hid (hc W)
 obtain⟨⟨q0,q1,q2,q3,q4⟩,-⟩:=own_cells B
 clear hc B
 go_enter Tryz.func197,Tryz.ntmps197
 go_wp2_with fail
 with_reducible refine (HC _).out.mono ?_
 rintro e w1 ⟨rfl,g1⟩
 go_wp2_with fail
 go_ret
 exact⟨rfl,g1⟩
theorem Handed_up {W:World} {g:Nat} {y:Int} (B:Blk W g #[.int .i64 s,.bool t,.bool k,.int .i64 r,.int .i64 o] 53)
 (hc:∀ W,Calls Tryz.prog 198 #[ov s t k r o] W λ e w'=>e=.panicked (pan y)/\Gr W w') :
 Calls Tryz.prog 197 #[.pointer (some ⟨g,0,none⟩)] W λ e w'=>e=.panicked (pan y)/\Gr W w':=by
 have HC:=λ W=>hid (hc W)
 obtain⟨⟨q0,q1,q2,q3,q4⟩,-⟩:=own_cells B
 clear hc B
 go_enter Tryz.func197,Tryz.ntmps197
 go_wp2_with fail
 with_reducible refine (HC _).out.mono ?_
 rintro e w1 ⟨rfl,g1⟩
 go_wp2_with fail
 exact⟨rfl,rfl,g1⟩
theorem Handed_ok (hc:∀ W,Calls Tryz.prog 198 #[ov s t k r o] W λ e w'=>e=.returned (.int .i64 x)/\Gr W w') :
 Calls Tryz.prog 155 #[ov s t k r o] w λ e w'=>e=.returned (.tuple #[.int .i64 x,.int .i64 0])/\Gr w w':=by
 have N0:=Blk.new w #[.int .i64 s,.bool t,.bool k,.int .i64 r,.int .i64 o] 53
 have T:=hid (toldI_ok (F:=197) (caps:=#[.pointer (some ⟨w.heap.size,0,none⟩)]) (w:=w.alloc (.cells #[.int .i64 s,.bool t,.bool k,.int .i64 r,.int .i64 o] 53)) (enters_of Tryz.func197 (by kernel_rfl) rfl) x (λ W G=>Handed_cl (N0.gr G) hc))
 have G0:=(Gr.refl w).al (.cells #[.int .i64 s,.bool t,.bool k,.int .i64 r,.int .i64 o] 53)
 clear hc N0
 have hmf:=mkF
 go_enter Tryz.func155,Tryz.ntmps155
 go_wp2_with fail
 with_reducible refine T.out.mono ?_
 rintro e w1 ⟨rfl,g1⟩
 go_wp2_with fail
 go_ret2
 exact⟨rfl,G0.trans g1⟩
theorem Handed_no {y:Int} (hc:∀ W,Calls Tryz.prog 198 #[ov s t k r o] W λ e w'=>e=.panicked (pan y)/\Gr W w') :
 Calls Tryz.prog 155 #[ov s t k r o] w λ e w'=>e=.returned (.tuple #[.int .i64 0,.int .i64 y])/\Gr w w':=by
 have N0:=Blk.new w #[.int .i64 s,.bool t,.bool k,.int .i64 r,.int .i64 o] 53
 have T:=hid (toldI_no (F:=197) (caps:=#[.pointer (some ⟨w.heap.size,0,none⟩)]) (w:=w.alloc (.cells #[.int .i64 s,.bool t,.bool k,.int .i64 r,.int .i64 o] 53)) (enters_of Tryz.func197 (by kernel_rfl) rfl) y (λ W G=>Handed_up (N0.gr G) hc))
 have G0:=(Gr.refl w).al (.cells #[.int .i64 s,.bool t,.bool k,.int .i64 r,.int .i64 o] 53)
 clear hc N0
 have hmf:=mkF
 go_enter Tryz.func155,Tryz.ntmps155
 go_wp2_with fail
 with_reducible refine T.out.mono ?_
 rintro e w1 ⟨rfl,g1⟩
 go_wp2_with fail
 go_ret2
 exact⟨rfl,G0.trans g1⟩
theorem Got_cl {W:World} {g:Nat} (B:Blk W g #[.int .i64 s,.bool t,.bool k,.int .i64 r,.int .i64 o] 53)
 (hc:∀ W,Calls Tryz.prog 130 #[ov s t k r o] W λ e w'=>e=.returned (fl a b c n)/\Gr W w') :
 Calls Tryz.prog 182 #[.pointer (some ⟨g,0,none⟩)] W λ e w'=>e=.returned (.bool (!a&&!c))/\Gr W w':=by
 have HC:=λ W=>hid (hc W)
 obtain⟨⟨q0,q1,q2,q3,q4⟩,-⟩:=own_cells B
 have HD:=λ w=>hid (held_is a b c n w)
 have hq:hEq a c false false=(!a&&!c):=by cases a<;>cases c<;>rfl
 have HE:=λ w=>hq▸run_hold_eql a c false false w
 generalize (!a&&!c)=v at *
 clear hc B hq
 go_enter Tryz.func182,Tryz.ntmps182
 go_wp2_with fail
 with_reducible refine (HC _).out.mono ?_
 rintro e w1 ⟨rfl,g1⟩
 go_wp2_with fail
 with_reducible refine (HD _).out.mono ?_
 rintro e w2 ⟨rfl,g2⟩
 go_wp2_with fail
 go_ret
 exact⟨rfl,g1.trans g2⟩
theorem Got_ok (hc:∀ W,Calls Tryz.prog 130 #[ov s t k r o] W λ e w'=>e=.returned (fl a b c n)/\Gr W w') :
 Calls Tryz.prog 143 #[ov s t k r o] w λ e w'=>e=.returned (.tuple #[.bool (!a&&!c),.int .i64 0])/\Gr w w':=by
 have N0:=Blk.new w #[.int .i64 s,.bool t,.bool k,.int .i64 r,.int .i64 o] 53
 have T:=hid (toldB_ok (F:=182) (caps:=#[.pointer (some ⟨w.heap.size,0,none⟩)]) (w:=w.alloc (.cells #[.int .i64 s,.bool t,.bool k,.int .i64 r,.int .i64 o] 53)) (enters_of Tryz.func182 (by kernel_rfl) rfl) (!a&&!c) (λ W G=>Got_cl (N0.gr G) hc))
 have G0:=(Gr.refl w).al (.cells #[.int .i64 s,.bool t,.bool k,.int .i64 r,.int .i64 o] 53)
 clear hc N0
 have hmf:=mkF
 go_enter Tryz.func143,Tryz.ntmps143
 go_wp2_with fail
 with_reducible refine T.out.mono ?_
 rintro e w1 ⟨rfl,g1⟩
 go_wp2_with fail
 go_ret2
 exact⟨rfl,G0.trans g1⟩
theorem Wakes_cl {W:World} {g:Nat} (B:Blk W g #[.int .i64 s,.bool t,.bool k,.int .i64 r,.int .i64 o] 53)
 (hc:∀ W,Calls Tryz.prog 130 #[ov s t k r o] W λ e w'=>e=.returned (fl a b c n)/\Gr W w') :
 Calls Tryz.prog 205 #[.pointer (some ⟨g,0,none⟩)] W λ e w'=>e=.returned (.bool (!k&&!b&&decide (0<n)))/\Gr W w':=by
 have HC:=λ W=>hid (hc W)
 obtain⟨⟨q0,q1,q2,q3,q4⟩,-⟩:=own_cells B
 have B:=hid B
 clear hc
 cases k<;>cases b
 all_goals (
  go_enter Tryz.func205,Tryz.ntmps205
  go_wp2_with fail
  with_reducible refine (HC _).out.mono ?_
  rintro e w1 ⟨rfl,g1⟩
  have hlt:=(B.out.gr g1).lt
  obtain⟨p2,-⟩:=(B.out.gr g1).at_ (k:=2) rfl
  go_wp2_with fail
  go_ret
  exact⟨by simp,g1.al _⟩)
theorem Wakes_ok (hc:∀ W,Calls Tryz.prog 130 #[ov s t k r o] W λ e w'=>e=.returned (fl a b c n)/\Gr W w') :
 Calls Tryz.prog 178 #[ov s t k r o] w λ e w'=>e=.returned (.tuple #[.bool (!k&&!b&&decide (0<n)),.int .i64 0])/\Gr w w':=by
 have N0:=Blk.new w #[.int .i64 s,.bool t,.bool k,.int .i64 r,.int .i64 o] 53
 have T:=hid (toldB_ok (F:=205) (caps:=#[.pointer (some ⟨w.heap.size,0,none⟩)]) (w:=w.alloc (.cells #[.int .i64 s,.bool t,.bool k,.int .i64 r,.int .i64 o] 53)) (enters_of Tryz.func205 (by kernel_rfl) rfl) (!k&&!b&&decide (0<n)) (λ W G=>Wakes_cl (N0.gr G) hc))
 have G0:=(Gr.refl w).al (.cells #[.int .i64 s,.bool t,.bool k,.int .i64 r,.int .i64 o] 53)
 clear hc N0
 have hmf:=mkF
 go_enter Tryz.func178,Tryz.ntmps178
 go_wp2_with fail
 with_reducible refine T.out.mono ?_
 rintro e w1 ⟨rfl,g1⟩
 go_wp2_with fail
 go_ret2
 exact⟨rfl,G0.trans g1⟩
end
end P14
end
section
open Go.ChangeShapes Go.WideShapes Go.ChangeAt Go.RowKit
namespace P14
open P3 (fl pw)
open P4 (Tm)
section
variable {s r:Int} {t k a b c:Bool} {n u o x:Int} {w:World}
def snc (s u:Int):Int:=if s=-1 then u else s
def ltB (s u:Int):Bool:=decide (s≠-1/\1000000<P4.gap s u)
theorem asleep_ok (h:OkS s r) (hn:OkN n) (hu:Tm u) :
 Calls Tryz.prog 185 #[ov s t k r (pw a b c n),.int .i64 u] w λ e w'=>e=.returned (ov (snc s u) t k r (pw a b c n))/\Gr w w':=by
 have L:=λ w=>hid (look_ok (t:=t) (k:=k) (a:=a) (b:=b) (c:=c) (w:=w) h hn)
 have R:=λ w=>hid (P4.Right_ok u true (by rw [P4.near_eq hu];simp) w)
 generalize pw a b c n=o at *
 have G0:=hid (((Gr.refl w).al (.cells #[.int .i64 s,.bool t,.bool k,.int .i64 r,.int .i64 o] 53)).al (.cells #[.int .i64 0,.bool false,.bool false,.int .i64 0,.int .i64 0] 53))
 have N0:=(Blk.new w #[.int .i64 s,.bool t,.bool k,.int .i64 r,.int .i64 o] 53).al (.cells #[.int .i64 0,.bool false,.bool false,.int .i64 0,.int .i64 0] 53)
 have N1:=Blk.new (w.alloc (.cells #[.int .i64 s,.bool t,.bool k,.int .i64 r,.int .i64 o] 53)) #[.int .i64 0,.bool false,.bool false,.int .i64 0,.int .i64 0] 53
 rw [World.size_alloc] at N1
 have N0:=hid N0
 have N1:=hid N1
 have hne:w.heap.size+1≠w.heap.size:=by omega
 have hs:(s=-1/\snc s u=u)\/((s==-1)=false/\snc s u=s):=by
  unfold snc
  by_cases h1:s=-1
  . exact .inl ⟨h1,if_pos h1⟩
  . exact .inr ⟨beq_eq_false_iff_ne.2 h1,if_neg h1⟩
 generalize snc s u=S at *
 clear h hn hu
 rcases hs with ⟨rfl,rfl⟩ | ⟨h1,rfl⟩
 . go_enter Tryz.func185,Tryz.ntmps185
   go_wp2_with fail
   with_reducible refine (L _).out.mono ?_
   rintro e w1 ⟨rfl,g1⟩
   go_wp2_with fail
   with_reducible refine (R _).out.mono ?_
   rintro e w2 ⟨rfl,g2⟩
   have B0:=(N0.out.gr g1).gr g2
   have B1:=(N1.out.gr g1).gr g2
   have G2:=(G0.out.trans g1).trans g2
   obtain⟨⟨q0,q1,q2,q3,q4⟩,z0,-⟩:=own_cells B0
   obtain⟨⟨e0,e1,e2,e3,e4⟩,y0,y1,y2,y3,y4⟩:=own_cells B1
   have BF:=own_st (B1.st (p:=⟨w.heap.size,0,none⟩) hne.symm (.int .i64 S)) S t k r o
   have GF:=hid (own_gr (g:=w.heap.size+1) (G2.st (p:=⟨w.heap.size,0,none⟩) (Nat.le_refl _) (.int .i64 S)) (Nat.le_succ _) S t k r o)
   obtain⟨⟨c0,c1,c2,c3,c4⟩,-⟩:=own_cells BF
   clear B0 B1 BF G2 g1 g2
   go_wp2_with fail
   with_reducible refine (need_yes _ _).mono ?_
   rintro e w3 ⟨rfl,rfl⟩
   go_wp2_with fail
   exact bodyPost_ret (v:=ov S t k r o) (by simp [results,Tryz.results185,go_sem,c0,c1,c2,c3,c4]) rfl ⟨rfl,GF.out⟩
 . go_enter Tryz.func185,Tryz.ntmps185
   go_wp2_with fail
   with_reducible refine (L _).out.mono ?_
   rintro e w1 ⟨rfl,g1⟩
   go_wp2_with fail
   with_reducible refine (R _).out.mono ?_
   rintro e w2 ⟨rfl,g2⟩
   have B0:=(N0.out.gr g1).gr g2
   have B1:=(N1.out.gr g1).gr g2
   have G2:=(G0.out.trans g1).trans g2
   obtain⟨⟨q0,q1,q2,q3,q4⟩,z0,-⟩:=own_cells B0
   obtain⟨⟨e0,e1,e2,e3,e4⟩,y0,y1,y2,y3,y4⟩:=own_cells B1
   have BF:=own_st B1 S t k r o
   have GF:=hid (own_gr (g:=w.heap.size+1) G2 (Nat.le_succ _) S t k r o)
   obtain⟨⟨c0,c1,c2,c3,c4⟩,-⟩:=own_cells BF
   clear B0 B1 BF G2 g1 g2
   go_wp2_with fail
   with_reducible refine (need_yes _ _).mono ?_
   rintro e w3 ⟨rfl,rfl⟩
   go_wp2_with fail
   exact bodyPost_ret (v:=ov S t k r o) (by simp [results,Tryz.results185,go_sem,c0,c1,c2,c3,c4]) rfl ⟨rfl,GF.out⟩
theorem late_is (hs:s=-1\/Tm s) (hu:Tm u) {B:Bool} (hB:ltB s u=B) :
 Calls Tryz.prog 216 #[ov s t k r o,.int .i64 u] w λ e w'=>e=.returned (.bool B)/\Gr w w':=by
 have G0:=(Gr.refl w).al (.cells #[.int .i64 s,.bool t,.bool k,.int .i64 r,.int .i64 o] 53)
 by_cases h1:s=-1
 . subst h1
   obtain rfl:B=false:=by rw [<- hB];simp [ltB]
   clear hs hu hB
   go_enter Tryz.func216,Tryz.ntmps216
   go_wp2_with fail
   go_ret
   exact⟨rfl,G0⟩
 . have hs':Tm s:=hs.resolve_left h1
   have A:=P4.Ap.ex s u
   have C:=λ w=>hid (P4.Late_is (a:=s) (b:=u) (r:=P4.gap s u) (s:=0) (.inl ⟨hs',hu,rfl,rfl⟩) B (by rw [<- hB];simp [ltB,h1]) w)
   clear A hs hs' hu hB
   have hn1:(s != -1)=true:=by simp [h1]
   go_enter Tryz.func216,Tryz.ntmps216
   go_wp2_with fail
   with_reducible refine (C _).out.mono ?_
   rintro e w1 ⟨rfl,g1⟩
   go_wp2_with fail
   with_reducible refine (sureB_yes _ _).mono ?_
   rintro e w2 ⟨rfl,rfl⟩
   go_wp2_with fail
   go_ret
   exact⟨rfl,G0.trans g1⟩
end
end P14
end
section
open Go.ChangeShapes Go.WideShapes Go.ChangeAt Go.RowKit Go.Shelf
namespace P14
open P3 (fl pw)
open P4 (Tm)
def ovEq (s:Int) (t k:Bool) (r o:Int) (s':Int) (t' k':Bool) (r' o':Int):Bool:=decide (s=s'/\t=t'/\k=k'/\r=r'/\o=o')
theorem run_own_eql (s:Int) (t k:Bool) (r o:Int) (s':Int) (t' k':Bool) (r' o':Int) (w:World) :
 (binOp .eql 53 (ov s t k r o) (ov s' t' k' r' o')).run Tryz.prog w=.ok (.bool (ovEq s t k r o s' t' k' r' o')) w:=by
 by_cases h1:s=s'
 . by_cases h2:t=t'
   . by_cases h3:k=k'
     . by_cases h4:r=r'
       . by_cases h5:o=o'
         . have e:ovEq s t k r o s' t' k' r' o'=true:=by simp [ovEq,h1,h2,h3,h4,h5]
           rw [e]
           subst h1 h2 h3 h4 h5
           go_simp
         . have e:ovEq s t k r o s' t' k' r' o'=false:=by simp [ovEq,h5]
           have h6:(o==o')=false:=beq_eq_false_iff_ne.2 h5
           rw [e]
           subst h1 h2 h3 h4
           go_simp
       . have e:ovEq s t k r o s' t' k' r' o'=false:=by simp [ovEq,h4]
         have h6:(r==r')=false:=beq_eq_false_iff_ne.2 h4
         rw [e]
         subst h1 h2 h3
         go_simp
     . have e:ovEq s t k r o s' t' k' r' o'=false:=by simp [ovEq,h3]
       have h6:(k==k')=false:=beq_eq_false_iff_ne.2 h3
       rw [e]
       subst h1 h2
       go_simp
   . have e:ovEq s t k r o s' t' k' r' o'=false:=by simp [ovEq,h2]
     have h6:(t==t')=false:=beq_eq_false_iff_ne.2 h2
     rw [e]
     subst h1
     go_simp
 . have e:ovEq s t k r o s' t' k' r' o'=false:=by simp [ovEq,h1]
   have h6:(s==s')=false:=beq_eq_false_iff_ne.2 h1
   rw [e]
   go_simp
section
variable {s r:Int} {t k a b c:Bool} {n u o x S:Int} {w:World}
theorem Sleep_cl {W:World} {g h:Nat} (B:Blk W g #[.int .i64 s,.bool t,.bool k,.int .i64 r,.int .i64 o] 53) (D:Blk W h #[.int .i64 u] 3)
 (hc:∀ W,Calls Tryz.prog 185 #[ov s t k r o,.int .i64 u] W λ e w'=>e=.returned (ov S t k r o)/\Gr W w') :
 Calls Tryz.prog 184 #[.pointer (some ⟨g,0,none⟩),.pointer (some ⟨h,0,none⟩)] W λ e w'=>e=.returned (ov S t k r o)/\Gr W w':=by
 have HC:=λ W=>hid (hc W)
 have hlt:=B.lt
 have hlt2:=D.lt
 obtain⟨⟨q0,q1,q2,q3,q4⟩,-⟩:=own_cells B
 obtain⟨d0,-⟩:=D.at_ (k:=0) rfl
 have N1:=hid (Blk.new W #[.int .i64 0,.bool false,.bool false,.int .i64 0,.int .i64 0] 53)
 have G0:=hid ((Gr.refl W).al (.cells #[.int .i64 0,.bool false,.bool false,.int .i64 0,.int .i64 0] 53))
 clear hc B D
 go_enter Tryz.func184,Tryz.ntmps184
 go_wp2_with fail
 with_reducible refine (HC _).out.mono ?_
 rintro e w1 ⟨rfl,g1⟩
 have B1:=N1.out.gr g1
 obtain⟨⟨e0,e1,e2,e3,e4⟩,y0,y1,y2,y3,y4⟩:=own_cells B1
 have BF:=own_st B1 S t k r o
 have GF:=hid (own_gr (g:=W.heap.size) (G0.out.trans g1) (Nat.le_refl _) S t k r o)
 obtain⟨⟨c0,c1,c2,c3,c4⟩,-⟩:=own_cells BF
 clear g1 B1 BF
 go_wp2_with fail
 exact bodyPost_ret (v:=ov S t k r o) (by simp [results,Tryz.results184,go_sem,c0,c1,c2,c3,c4]) rfl ⟨rfl,GF.out⟩
theorem Sleep_ok (hc:∀ W,Calls Tryz.prog 185 #[ov s t k r o,.int .i64 u] W λ e w'=>e=.returned (ov S t k r o)/\Gr W w') :
 Calls Tryz.prog 145 #[ov s t k r o,.int .i64 u] w λ e w'=>e=.returned (.tuple #[ov S t k r o,.bool (decide (S=s)),.int .i64 0])/\Gr w w':=by
 have N0:=((Blk.new w #[.int .i64 s,.bool t,.bool k,.int .i64 r,.int .i64 o] 53).al (.cells #[.int .i64 u] 3)).al (.cells #[.int .i64 0,.bool false,.bool false,.int .i64 0,.int .i64 0] 53)
 have N1:=(Blk.new (w.alloc (.cells #[.int .i64 s,.bool t,.bool k,.int .i64 r,.int .i64 o] 53)) #[.int .i64 u] 3).al (.cells #[.int .i64 0,.bool false,.bool false,.int .i64 0,.int .i64 0] 53)
 have N2:=Blk.new ((w.alloc (.cells #[.int .i64 s,.bool t,.bool k,.int .i64 r,.int .i64 o] 53)).alloc (.cells #[.int .i64 u] 3)) #[.int .i64 0,.bool false,.bool false,.int .i64 0,.int .i64 0] 53
 rw [World.size_alloc] at N1
 rw [World.size_alloc,World.size_alloc] at N2
 have G0:=((((Gr.refl w).al (.cells #[.int .i64 s,.bool t,.bool k,.int .i64 r,.int .i64 o] 53)).al (.cells #[.int .i64 u] 3)).al (.cells #[.int .i64 0,.bool false,.bool false,.int .i64 0,.int .i64 0] 53))
 have T:=hid (toldO_ok (F:=184) (caps:=#[.pointer (some ⟨w.heap.size,0,none⟩),.pointer (some ⟨w.heap.size+1,0,none⟩)]) (w:=((w.alloc (.cells #[.int .i64 s,.bool t,.bool k,.int .i64 r,.int .i64 o] 53)).alloc (.cells #[.int .i64 u] 3)).alloc (.cells #[.int .i64 0,.bool false,.bool false,.int .i64 0,.int .i64 0] 53)) (enters_of Tryz.func184 (by kernel_rfl) rfl) S t k r o (λ W G=>Sleep_cl (N0.gr G) (N1.gr G) hc))
 clear hc N1
 have N0:=hid N0
 have N2:=hid N2
 have hq:ovEq S t k r o s t k r o=(decide (S=s)):=by simp [ovEq]
 have HE:=λ w=>hq▸run_own_eql S t k r o s t k r o w
 clear hq
 have hmf:=mkF
 go_enter Tryz.func145,Tryz.ntmps145
 go_wp2_with fail
 with_reducible refine T.out.mono ?_
 rintro e w1 ⟨rfl,g1⟩
 have B0:=N0.out.gr g1
 have B2:=N2.out.gr g1
 have G:=hid (G0.trans g1)
 have l0:=B0.lt
 have l2:=B2.lt
 obtain⟨⟨q0,q1,q2,q3,q4⟩,-⟩:=own_cells B0
 obtain⟨⟨e0,e1,e2,e3,e4⟩,y0,y1,y2,y3,y4⟩:=own_cells B2
 clear g1 G0 N0 N2 T
 have BF:=((own_st B2 S t k r o).al (.cells #[.int .i64 S,.bool t,.bool k,.int .i64 r,.int .i64 o] 53)).gr ((Gr.refl _).dr)
 have GF:=hid (((own_gr (g:=w.heap.size+1+1) G.out (by omega) S t k r o).al (.cells #[.int .i64 S,.bool t,.bool k,.int .i64 r,.int .i64 o] 53)).dr)
 obtain⟨⟨c0,c1,c2,c3,c4⟩,-⟩:=own_cells BF
 clear BF B0 B2
 go_wp2_with fail
 go_region
 go_wp2_with fail
 exact bodyPost_ret (v:=.tuple #[ov S t k r o,.bool (decide (S=s)),.int .i64 0]) (by simp [results,Tryz.results145,go_sem,c0,c1,c2,c3,c4]) rfl ⟨rfl,GF.out⟩
end
end P14
end
end Go.Proofs.YtainfijdhcehlaaGreatDoor
