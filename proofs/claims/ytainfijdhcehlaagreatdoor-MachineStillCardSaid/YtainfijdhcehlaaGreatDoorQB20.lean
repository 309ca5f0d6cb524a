/-
  A part of the proof.
-/
import Derived.Test.YtainfijdhcehlaaGreatDoorQB3
import Derived.Test.YtainfijdhcehlaaGreatDoorQB17
set_option linter.unusedVariables false
set_option linter.unusedSimpArgs false
set_option maxRecDepth 100000
set_option maxHeartbeats 8000000
namespace Go.Proofs.YtainfijdhcehlaaGreatDoor
open Lib (hid)
section
open Go.ChangeShapes Go.WideShapes Go.ChangeAt Go.RowKit Go.Shelf
namespace P16
open P14 (pan)
open P12 (PV PMem)
section
variable {x:Cx} {W:World} {T E:Sl} {cl:List Cl} {mx:List T3} {tb:List Sp} {ev:List T3} {c:Cl} {a:T3} {pr:List Ac}
theorem take_none (h:TS x W T ⟨none,0,0⟩ cl mx tb []) (hR:Rn x cl c pr) (h0:0<=x.n) (h4:x.n<4) (ha:mx[x.n.toNat]?=some a) (hO:OwnR c) (hd:hands c=none) :
 Calls Tryz.prog 107 #[.pointer (some ⟨x.b,0,none⟩)] W λ e W'=>e=.panicked (pan 12)/\Kx x W W':=by
 have hc:=hR.hc
 have H:=hid h
 have cm:=λ W' (g:Gr W W')=>hid (mutex_is (h.gr g) h0 h4)
 have ch:=λ W=>hid (Handed_x hO hd W)
 obtain⟨-,-,-,-,-,-,-,pc7,-,-,-,-⟩:=h.cells
 obtain⟨-,-,-,-,-,-,-,-,ps8,ps9,ps10,ps11,ps12,-⟩:=h.cl_ hc
 obtain⟨pm0,-,-,-⟩:=h.mx_ ha
 clear h hd
 go_enter Tryz.func107,Tryz.ntmps107
 go_upto_region 0 with fail
 refine wp_region_held_drew (S:=(λ w'=>w'.cell? ⟨x.b,7,none⟩=some (.pointer (some ⟨x.bc,x.oc+x.who.toNat*13,none⟩))/\w'.cell? ⟨x.bc,x.oc+x.who.toNat*13+8,none⟩=some (.int .i64 c.since)/\w'.cell? ⟨x.bc,x.oc+x.who.toNat*13+8+1,none⟩=some (.bool c.st)/\w'.cell? ⟨x.bc,x.oc+x.who.toNat*13+8+2,none⟩=some (.bool c.aw)/\w'.cell? ⟨x.bc,x.oc+x.who.toNat*13+8+3,none⟩=some (.int .i64 c.rounds)/\w'.cell? ⟨x.bc,x.oc+x.who.toNat*13+8+4,none⟩=some (.int .i64 c.old))) (by kernel_rfl) ⟨pc7,ps8,ps9,ps10,ps11,ps12⟩ (λ hS=>?_)
 refine wG 0 hS ?_
 refine wG 1 hS ?_
 refine wG 6 hS ?_
 refine wG 7 hS ?_
 refine wG 8 hS ?_
 refine wG 9 hS ?_
 refine wG 10 hS ?_
 refine wG 11 hS ?_
 refine wG 12 hS ?_
 refine wR1 2 (λ K hK=>?_)
 go_simp;go_at_call 132;with_reducible refine (cm _ ((Gr.refl W).dr)).out.mono ?_;rintro ee w2 ⟨rfl,d,rfl⟩;go_wp2_with fail
 refine hK.out _ _ ⟨pc7,ps8,ps9,ps10,ps11,ps12⟩ (λ hS=>?_)
 clear hK K
 try simp only [pL]
 refine wG 3 hS ?_
 refine wG 4 hS ?_
 refine wR2 5 13 (λ K hK=>?_) (λ K hK=>?_)
 . skip
   go_simp
   refine hK.out _ _ ⟨pc7,ps8,ps9,ps10,ps11,ps12⟩ (λ hS=>?_)
   clear hK K
   try simp only [pL]
   refine wR1 13 (λ K hK=>?_)
   go_simp;go_at_call 155;with_reducible refine (ch _).out.mono ?_;rintro ee w3 ⟨rfl,g3⟩;go_wp2_with fail
   have G3:=hid (((Gr.refl W).drN (1+d)).trans g3)
   have h3:=H.out.gr G3.out
   obtain⟨-,-,-,-,-,-,-,qc7,-,-,-,-⟩:=h3.cells
   obtain⟨-,-,-,-,-,-,-,-,qs8,qs9,qs10,qs11,qs12,-⟩:=h3.cl_ hc
   obtain⟨qm0,-,-,-⟩:=h3.mx_ ha
   clear g3 h3
   refine hK.out _ _ ⟨qc7,qs8,qs9,qs10,qs11,qs12⟩ (λ hS=>?_)
   clear hK K
   try simp only [pL]
   refine wG 14 hS ?_
   refine wG 15 hS ?_
   refine wR1 16 (λ K hK=>?_)
   go_simp;go_at_call 141;with_reducible refine (sureI_no _ (by decide) _).mono ?_;rintro ee w4 ⟨rfl,rfl⟩
   exact bodyPost_pan rfl ⟨rfl,Kx.gr G3.out⟩
 . skip
   go_simp;go_at_call 155;with_reducible refine (ch _).out.mono ?_;rintro ee w3 ⟨rfl,g3⟩;go_wp2_with fail
   have G3:=hid (((Gr.refl W).drN (1+d)).trans g3)
   have h3:=H.out.gr G3.out
   obtain⟨-,-,-,-,-,-,-,qc7,-,-,-,-⟩:=h3.cells
   obtain⟨-,-,-,-,-,-,-,-,qs8,qs9,qs10,qs11,qs12,-⟩:=h3.cl_ hc
   obtain⟨qm0,-,-,-⟩:=h3.mx_ ha
   clear g3 h3
   refine hK.out _ _ ⟨qc7,qs8,qs9,qs10,qs11,qs12⟩ (λ hS=>?_)
   clear hK K
   try simp only [pL]
   refine wG 14 hS ?_
   refine wG 15 hS ?_
   refine wR2 5 16 (λ K hK=>?_) (λ K hK=>?_)
   . skip
     go_simp
     refine hK.out _ _ ⟨qc7,qs8,qs9,qs10,qs11,qs12⟩ (λ hS=>?_)
     clear hK K
     try simp only [pL]
     refine wR1 16 (λ K hK=>?_)
     go_simp;go_at_call 141;with_reducible refine (sureI_no _ (by decide) _).mono ?_;rintro ee w4 ⟨rfl,rfl⟩
     exact bodyPost_pan rfl ⟨rfl,Kx.gr G3.out⟩
   . skip
     go_simp;go_at_call 141;with_reducible refine (sureI_no _ (by decide) _).mono ?_;rintro ee w4 ⟨rfl,rfl⟩
     exact bodyPost_pan rfl ⟨rfl,Kx.gr G3.out⟩
theorem take_bad (h:TS x W T ⟨none,0,0⟩ cl mx tb []) (hR:Rn x cl c pr) (h0:0<=x.n) (h4:x.n<4) (ha:mx[x.n.toNat]?=some a) (hO:OwnR c) {z:Int} (hd:hands c=some z) (hk:OkW a.1) (hz:-11<=z/\z<=-7) (hv:¬ OkW (a.1+z)) :
 Calls Tryz.prog 107 #[.pointer (some ⟨x.b,0,none⟩)] W λ e W'=>e=.panicked (pan 12)/\Kx x W W':=by
 have hc:=hR.hc
 have H:=hid h
 have cm:=λ W' (g:Gr W W')=>hid (mutex_is (h.gr g) h0 h4)
 have ch:=λ W=>hid (Handed_c hO hd W)
 obtain⟨-,-,-,-,-,-,-,pc7,-,-,-,-⟩:=h.cells
 obtain⟨-,-,-,-,-,-,-,-,ps8,ps9,ps10,ps11,ps12,-⟩:=h.cl_ hc
 obtain⟨pm0,-,-,-⟩:=h.mx_ ha
 obtain⟨v,hvv⟩:∃ v,a.1+z=v:=⟨_,rfl⟩
 have ew:IntKind.i64.wrap (a.1+z)=v:=by rw [IntWalk.i64_left];unfold OkW at hk;unfold wrap64;omega
 rw [hvv] at hv
 have ew2:wrap64 (a.1+z)=v:=by rw [<- IntWalk.i64_left];exact ew
 clear hvv hk hz
 clear h hd
 go_enter Tryz.func107,Tryz.ntmps107
 go_upto_region 0 with fail
 refine wp_region_held_drew (S:=(λ w'=>w'.cell? ⟨x.b,7,none⟩=some (.pointer (some ⟨x.bc,x.oc+x.who.toNat*13,none⟩))/\w'.cell? ⟨x.bc,x.oc+x.who.toNat*13+8,none⟩=some (.int .i64 c.since)/\w'.cell? ⟨x.bc,x.oc+x.who.toNat*13+8+1,none⟩=some (.bool c.st)/\w'.cell? ⟨x.bc,x.oc+x.who.toNat*13+8+2,none⟩=some (.bool c.aw)/\w'.cell? ⟨x.bc,x.oc+x.who.toNat*13+8+3,none⟩=some (.int .i64 c.rounds)/\w'.cell? ⟨x.bc,x.oc+x.who.toNat*13+8+4,none⟩=some (.int .i64 c.old))) (by kernel_rfl) ⟨pc7,ps8,ps9,ps10,ps11,ps12⟩ (λ hS=>?_)
 refine wG 0 hS ?_
 refine wG 1 hS ?_
 refine wG 6 hS ?_
 refine wG 7 hS ?_
 refine wG 8 hS ?_
 refine wG 9 hS ?_
 refine wG 10 hS ?_
 refine wG 11 hS ?_
 refine wG 12 hS ?_
 refine wR1 2 (λ K hK=>?_)
 go_simp;go_at_call 132;with_reducible refine (cm _ ((Gr.refl W).dr)).out.mono ?_;rintro ee w2 ⟨rfl,d,rfl⟩;go_wp2_with fail
 refine hK.out _ _ ⟨pc7,ps8,ps9,ps10,ps11,ps12⟩ (λ hS=>?_)
 clear hK K
 try simp only [pL]
 refine wG 3 hS ?_
 refine wG 4 hS ?_
 refine wR2 5 13 (λ K hK=>?_) (λ K hK=>?_)
 . skip
   go_simp
   refine hK.out _ _ ⟨pc7,ps8,ps9,ps10,ps11,ps12⟩ (λ hS=>?_)
   clear hK K
   try simp only [pL]
   refine wR1 13 (λ K hK=>?_)
   go_simp;go_at_call 155;with_reducible refine (ch _).out.mono ?_;rintro ee w3 ⟨rfl,g3⟩;go_wp2_with fail
   have G3:=hid (((Gr.refl W).drN (1+d)).trans g3)
   have h3:=H.out.gr G3.out
   obtain⟨-,-,-,-,-,-,-,qc7,-,-,-,-⟩:=h3.cells
   obtain⟨-,-,-,-,-,-,-,-,qs8,qs9,qs10,qs11,qs12,-⟩:=h3.cl_ hc
   obtain⟨qm0,-,-,-⟩:=h3.mx_ ha
   clear g3 h3
   refine hK.out _ _ ⟨qc7,qs8,qs9,qs10,qs11,qs12⟩ (λ hS=>?_)
   clear hK K
   try simp only [pL]
   refine wG 14 hS ?_
   refine wG 15 hS ?_
   refine wR1 16 (λ K hK=>?_)
   go_simp;go_at_call 141;with_reducible refine (sureI_yes _ _).mono ?_;rintro ee w4 ⟨rfl,rfl⟩;go_wp2_with fail
   refine hK.out _ _ ⟨qc7,qs8,qs9,qs10,qs11,qs12⟩ (λ hS=>?_)
   clear hK K
   try simp only [pL]
   refine wG 17 hS ?_
   refine wR1 18 (λ K hK=>?_)
   go_simp;go_at_call 133;with_reducible refine (put_no hv _ _).mono ?_;rintro ee w5 ⟨rfl,g5⟩
   exact bodyPost_pan rfl ⟨rfl,Kx.gr (G3.out.trans g5)⟩
 . skip
   go_simp;go_at_call 155;with_reducible refine (ch _).out.mono ?_;rintro ee w3 ⟨rfl,g3⟩;go_wp2_with fail
   have G3:=hid (((Gr.refl W).drN (1+d)).trans g3)
   have h3:=H.out.gr G3.out
   obtain⟨-,-,-,-,-,-,-,qc7,-,-,-,-⟩:=h3.cells
   obtain⟨-,-,-,-,-,-,-,-,qs8,qs9,qs10,qs11,qs12,-⟩:=h3.cl_ hc
   obtain⟨qm0,-,-,-⟩:=h3.mx_ ha
   clear g3 h3
   refine hK.out _ _ ⟨qc7,qs8,qs9,qs10,qs11,qs12⟩ (λ hS=>?_)
   clear hK K
   try simp only [pL]
   refine wG 14 hS ?_
   refine wG 15 hS ?_
   refine wR2 5 16 (λ K hK=>?_) (λ K hK=>?_)
   . skip
     go_simp
     refine hK.out _ _ ⟨qc7,qs8,qs9,qs10,qs11,qs12⟩ (λ hS=>?_)
     clear hK K
     try simp only [pL]
     refine wR1 16 (λ K hK=>?_)
     go_simp;go_at_call 141;with_reducible refine (sureI_yes _ _).mono ?_;rintro ee w4 ⟨rfl,rfl⟩;go_wp2_with fail
     refine hK.out _ _ ⟨qc7,qs8,qs9,qs10,qs11,qs12⟩ (λ hS=>?_)
     clear hK K
     try simp only [pL]
     refine wG 17 hS ?_
     refine wR1 18 (λ K hK=>?_)
     go_simp;go_at_call 133;with_reducible refine (put_no hv _ _).mono ?_;rintro ee w5 ⟨rfl,g5⟩
     exact bodyPost_pan rfl ⟨rfl,Kx.gr (G3.out.trans g5)⟩
   . skip
     go_simp;go_at_call 141;with_reducible refine (sureI_yes _ _).mono ?_;rintro ee w4 ⟨rfl,rfl⟩;go_wp2_with fail
     refine hK.out _ _ ⟨qc7,qs8,qs9,qs10,qs11,qs12⟩ (λ hS=>?_)
     clear hK K
     try simp only [pL]
     refine wR1 5 (λ K hK=>?_)
     go_simp
     refine hK.out _ _ ⟨qc7,qs8,qs9,qs10,qs11,qs12⟩ (λ hS=>?_)
     clear hK K
     try simp only [pL]
     refine wG 17 hS ?_
     refine wR1 18 (λ K hK=>?_)
     go_simp;go_at_call 133;with_reducible refine (put_no hv _ _).mono ?_;rintro ee w5 ⟨rfl,g5⟩
     exact bodyPost_pan rfl ⟨rfl,Kx.gr (G3.out.trans g5)⟩
theorem take_yes (h:TS x W T ⟨none,0,0⟩ cl mx tb []) (hR:Rn x cl c pr) (h0:0<=x.n) (h4:x.n<4) (ha:mx[x.n.toNat]?=some a) (hO:OwnR c) {z:Int} (hd:hands c=some z) (hk:OkW a.1) (hz:-11<=z/\z<=-7) (hv:OkW (a.1+z)) :
 Calls Tryz.prog 107 #[.pointer (some ⟨x.b,0,none⟩)] W λ e W'=>e=.returned (.tuple #[])/\(∃ E,TS x W' T E (cl.set x.who.toNat (over c pr.length)) (mx.set x.n.toNat (a.1+z,a.2)) tb [(x.who,0,x.n)])/\Kx x W W':=by
 have hc:=hR.hc
 have H:=hid h
 have cm:=λ W' (g:Gr W W')=>hid (mutex_is (h.gr g) h0 h4)
 have ch:=λ W=>hid (Handed_c hO hd W)
 obtain⟨-,-,-,-,-,-,-,pc7,-,-,-,-⟩:=h.cells
 obtain⟨-,-,-,-,-,-,-,-,ps8,ps9,ps10,ps11,ps12,-⟩:=h.cl_ hc
 obtain⟨pm0,-,-,-⟩:=h.mx_ ha
 obtain⟨v,hvv⟩:∃ v,a.1+z=v:=⟨_,rfl⟩
 have ew:IntKind.i64.wrap (a.1+z)=v:=by rw [IntWalk.i64_left];unfold OkW at hk;unfold wrap64;omega
 rw [hvv] at hv ⊢
 have ew2:wrap64 (a.1+z)=v:=by rw [<- IntWalk.i64_left];exact ew
 clear hvv hk hz
 clear h hd
 go_enter Tryz.func107,Tryz.ntmps107
 go_upto_region 0 with fail
 refine wp_region_held_drew (S:=(λ w'=>w'.cell? ⟨x.b,7,none⟩=some (.pointer (some ⟨x.bc,x.oc+x.who.toNat*13,none⟩))/\w'.cell? ⟨x.bc,x.oc+x.who.toNat*13+8,none⟩=some (.int .i64 c.since)/\w'.cell? ⟨x.bc,x.oc+x.who.toNat*13+8+1,none⟩=some (.bool c.st)/\w'.cell? ⟨x.bc,x.oc+x.who.toNat*13+8+2,none⟩=some (.bool c.aw)/\w'.cell? ⟨x.bc,x.oc+x.who.toNat*13+8+3,none⟩=some (.int .i64 c.rounds)/\w'.cell? ⟨x.bc,x.oc+x.who.toNat*13+8+4,none⟩=some (.int .i64 c.old))) (by kernel_rfl) ⟨pc7,ps8,ps9,ps10,ps11,ps12⟩ (λ hS=>?_)
 refine wG 0 hS ?_
 refine wG 1 hS ?_
 refine wG 6 hS ?_
 refine wG 7 hS ?_
 refine wG 8 hS ?_
 refine wG 9 hS ?_
 refine wG 10 hS ?_
 refine wG 11 hS ?_
 refine wG 12 hS ?_
 refine wR1 2 (λ K hK=>?_)
 go_simp;go_at_call 132;with_reducible refine (cm _ ((Gr.refl W).dr)).out.mono ?_;rintro ee w2 ⟨rfl,d,rfl⟩;go_wp2_with fail
 refine hK.out _ _ ⟨pc7,ps8,ps9,ps10,ps11,ps12⟩ (λ hS=>?_)
 clear hK K
 try simp only [pL]
 refine wG 3 hS ?_
 refine wG 4 hS ?_
 refine wR2 5 13 (λ K hK=>?_) (λ K hK=>?_)
 . skip
   go_simp
   refine hK.out _ _ ⟨pc7,ps8,ps9,ps10,ps11,ps12⟩ (λ hS=>?_)
   clear hK K
   try simp only [pL]
   refine wR1 13 (λ K hK=>?_)
   go_simp;go_at_call 155;with_reducible refine (ch _).out.mono ?_;rintro ee w3 ⟨rfl,g3⟩;go_wp2_with fail
   have G3:=hid (((Gr.refl W).drN (1+d)).trans g3)
   have h3:=H.out.gr G3.out
   obtain⟨-,-,-,-,-,-,-,qc7,-,-,-,-⟩:=h3.cells
   obtain⟨-,-,-,-,-,-,-,-,qs8,qs9,qs10,qs11,qs12,-⟩:=h3.cl_ hc
   obtain⟨qm0,-,-,-⟩:=h3.mx_ ha
   clear g3 h3
   refine hK.out _ _ ⟨qc7,qs8,qs9,qs10,qs11,qs12⟩ (λ hS=>?_)
   clear hK K
   try simp only [pL]
   refine wG 14 hS ?_
   refine wG 15 hS ?_
   refine wR1 16 (λ K hK=>?_)
   go_simp;go_at_call 141;with_reducible refine (sureI_yes _ _).mono ?_;rintro ee w4 ⟨rfl,rfl⟩;go_wp2_with fail
   refine hK.out _ _ ⟨qc7,qs8,qs9,qs10,qs11,qs12⟩ (λ hS=>?_)
   clear hK K
   try simp only [pL]
   refine wG 17 hS ?_
   refine wR1 18 (λ K hK=>?_)
   go_simp;go_at_call 133;with_reducible refine (put_yes (H.out.gr G3.out) h0 h4 ha hv).mono ?_;rintro ee w5 ⟨rfl,h5,k5⟩;go_wp2_with fail
   obtain⟨-,-,-,-,-,-,-,rc7,-,-,-,-⟩:=h5.cells
   obtain⟨-,-,-,-,-,-,-,-,rs8,rs9,rs10,rs11,rs12,-⟩:=h5.cl_ hc
   have H5:=hid h5
   have K5:=hid ((Kx.gr G3.out).trans k5)
   clear h5 k5
   refine hK.out _ _ ⟨rc7,rs8,rs9,rs10,rs11,rs12⟩ (λ hS=>?_)
   clear hK K
   try simp only [pL]
   refine wpAnyH_done (by kernel_rfl) ?_ _
   have he:=hid (ends_is H5.out hR (v:=0) b64_0)
   rename_i hh
   clear hS
   go_wp2_with fail
   with_reducible refine he.out.mono ?_
   rintro e w6 ⟨rfl,h6,k6⟩
   have H6:=hid h6
   have K6:=hid k6
   clear h6 k6
   go_wp2_with fail
   (first | go_end0 | ((try simp only [Exit.inBlock,Exit.then]);refine bodyPost_ret (results_none rfl _ _ _) rfl ?_))
   exact⟨rfl,H6.out,K5.out.trans K6.out⟩
 . skip
   go_simp;go_at_call 155;with_reducible refine (ch _).out.mono ?_;rintro ee w3 ⟨rfl,g3⟩;go_wp2_with fail
   have G3:=hid (((Gr.refl W).drN (1+d)).trans g3)
   have h3:=H.out.gr G3.out
   obtain⟨-,-,-,-,-,-,-,qc7,-,-,-,-⟩:=h3.cells
   obtain⟨-,-,-,-,-,-,-,-,qs8,qs9,qs10,qs11,qs12,-⟩:=h3.cl_ hc
   obtain⟨qm0,-,-,-⟩:=h3.mx_ ha
   clear g3 h3
   refine hK.out _ _ ⟨qc7,qs8,qs9,qs10,qs11,qs12⟩ (λ hS=>?_)
   clear hK K
   try simp only [pL]
   refine wG 14 hS ?_
   refine wG 15 hS ?_
   refine wR2 5 16 (λ K hK=>?_) (λ K hK=>?_)
   . skip
     go_simp
     refine hK.out _ _ ⟨qc7,qs8,qs9,qs10,qs11,qs12⟩ (λ hS=>?_)
     clear hK K
     try simp only [pL]
     refine wR1 16 (λ K hK=>?_)
     go_simp;go_at_call 141;with_reducible refine (sureI_yes _ _).mono ?_;rintro ee w4 ⟨rfl,rfl⟩;go_wp2_with fail
     refine hK.out _ _ ⟨qc7,qs8,qs9,qs10,qs11,qs12⟩ (λ hS=>?_)
     clear hK K
     try simp only [pL]
     refine wG 17 hS ?_
     refine wR1 18 (λ K hK=>?_)
     go_simp;go_at_call 133;with_reducible refine (put_yes (H.out.gr G3.out) h0 h4 ha hv).mono ?_;rintro ee w5 ⟨rfl,h5,k5⟩;go_wp2_with fail
     obtain⟨-,-,-,-,-,-,-,rc7,-,-,-,-⟩:=h5.cells
     obtain⟨-,-,-,-,-,-,-,-,rs8,rs9,rs10,rs11,rs12,-⟩:=h5.cl_ hc
     have H5:=hid h5
     have K5:=hid ((Kx.gr G3.out).trans k5)
     clear h5 k5
     refine hK.out _ _ ⟨rc7,rs8,rs9,rs10,rs11,rs12⟩ (λ hS=>?_)
     clear hK K
     try simp only [pL]
     refine wpAnyH_done (by kernel_rfl) ?_ _
     have he:=hid (ends_is H5.out hR (v:=0) b64_0)
     rename_i hh
     clear hS
     go_wp2_with fail
     with_reducible refine he.out.mono ?_
     rintro e w6 ⟨rfl,h6,k6⟩
     have H6:=hid h6
     have K6:=hid k6
     clear h6 k6
     go_wp2_with fail
     (first | go_end0 | ((try simp only [Exit.inBlock,Exit.then]);refine bodyPost_ret (results_none rfl _ _ _) rfl ?_))
     exact⟨rfl,H6.out,K5.out.trans K6.out⟩
   . skip
     go_simp;go_at_call 141;with_reducible refine (sureI_yes _ _).mono ?_;rintro ee w4 ⟨rfl,rfl⟩;go_wp2_with fail
     refine hK.out _ _ ⟨qc7,qs8,qs9,qs10,qs11,qs12⟩ (λ hS=>?_)
     clear hK K
     try simp only [pL]
     refine wR1 5 (λ K hK=>?_)
     go_simp
     refine hK.out _ _ ⟨qc7,qs8,qs9,qs10,qs11,qs12⟩ (λ hS=>?_)
     clear hK K
     try simp only [pL]
     refine wG 17 hS ?_
     refine wR1 18 (λ K hK=>?_)
     go_simp;go_at_call 133;with_reducible refine (put_yes (H.out.gr G3.out) h0 h4 ha hv).mono ?_;rintro ee w5 ⟨rfl,h5,k5⟩;go_wp2_with fail
     obtain⟨-,-,-,-,-,-,-,rc7,-,-,-,-⟩:=h5.cells
     obtain⟨-,-,-,-,-,-,-,-,rs8,rs9,rs10,rs11,rs12,-⟩:=h5.cl_ hc
     have H5:=hid h5
     have K5:=hid ((Kx.gr G3.out).trans k5)
     clear h5 k5
     refine hK.out _ _ ⟨rc7,rs8,rs9,rs10,rs11,rs12⟩ (λ hS=>?_)
     clear hK K
     try simp only [pL]
     refine wpAnyH_done (by kernel_rfl) ?_ _
     have he:=hid (ends_is H5.out hR (v:=0) b64_0)
     rename_i hh
     clear hS
     go_wp2_with fail
     with_reducible refine he.out.mono ?_
     rintro e w6 ⟨rfl,h6,k6⟩
     have H6:=hid h6
     have K6:=hid k6
     clear h6 k6
     go_wp2_with fail
     (first | go_end0 | ((try simp only [Exit.inBlock,Exit.then]);refine bodyPost_ret (results_none rfl _ _ _) rfl ?_))
     exact⟨rfl,H6.out,K5.out.trans K6.out⟩
end
end P16
end
section
open Go.ChangeShapes Go.WideShapes Go.ChangeAt Go.RowKit Go.Shelf
namespace P16
open P14 (pan)
open P12 (PV PMem)
section
variable {x:Cx} {W:World} {T E:Sl} {cl:List Cl} {mx:List T3} {tb:List Sp} {ev:List T3} {c:Cl} {a:T3} {pr:List Ac}
theorem TS.putO (h:TS x W T E cl mx tb ev) {i:Nat} (hc:cl[i]?=some c) (d:Cl) (hb:CB d):TS x (((((W.setCell ⟨x.bc,x.oc+i*13+8,none⟩ (.int .i64 d.since)).setCell ⟨x.bc,x.oc+i*13+9,none⟩ (.bool d.st)).setCell ⟨x.bc,x.oc+i*13+10,none⟩ (.bool d.aw)).setCell ⟨x.bc,x.oc+i*13+11,none⟩ (.int .i64 d.rounds)).setCell ⟨x.bc,x.oc+i*13+12,none⟩ (.int .i64 d.old)) T E (cl.set i { c with since:=d.since,st:=d.st,aw:=d.aw,rounds:=d.rounds,old:=d.old }) mx tb ev:=by
 have B:=h.cb c (List.mem_of_getElem? hc)
 have h1:=h.putC hc 8 (.int .i64 d.since) { c with since:=d.since } rfl (by decide) { B with since:=hb.since }
 have h2:=h1.putC2 hc 9 (.bool d.st) { c with since:=d.since,st:=d.st } rfl (by decide) { B with since:=hb.since }
 have h3:=h2.putC2 hc 10 (.bool d.aw) { c with since:=d.since,st:=d.st,aw:=d.aw } rfl (by decide) { B with since:=hb.since }
 have h4:=h3.putC2 hc 11 (.int .i64 d.rounds) { c with since:=d.since,st:=d.st,aw:=d.aw,rounds:=d.rounds } rfl (by decide) { B with since:=hb.since,rounds:=hb.rounds }
 exact h4.putC2 hc 12 (.int .i64 d.old) { c with since:=d.since,st:=d.st,aw:=d.aw,rounds:=d.rounds,old:=d.old } rfl (by decide) { B with since:=hb.since,rounds:=hb.rounds,old:=hb.old }
theorem mutex_gr (h:TS x W T E cl mx tb ev) (h0:0<=x.n) (h4:x.n<4) :
 Calls Tryz.prog 132 #[.pointer (some ⟨x.b,0,none⟩)] W λ e W'=>e=.returned (.pointer (some ⟨x.bm,x.om+x.n.toNat*3,none⟩))/\Gr W W' :=
 (mutex_is h h0 h4).mono λ e w' q=>⟨q.1,by obtain⟨d,rfl⟩:=q.2;exact (Gr.refl W).drN d⟩
def says (c:Cl) (w:Int):Prop:=c.aw=false/\(wd c.old).K=false/\0<(wd c.old).n/\w=c.old
instance (c:Cl) (w:Int):Decidable (says c w):=by unfold says;infer_instance
def rndC (c:Cl) (w:Int):Cl:={ c with aw:=if says c w then true else c.aw,rounds:=c.rounds+1,pc:=1 }
def rndM (c:Cl) (w:Int):Int:=if says c w then un { wd w with K:=true } else w
theorem round_no (h:TS x W T E cl mx tb ev) (hR:Rn x cl c pr) (h0:0<=x.n) (h4:x.n<4) (ha:mx[x.n.toNat]?=some a) (hO:OwnR c) (hw:(!c.aw&&!(wd c.old).K&&decide (0<(wd c.old).n))=false) :
 Calls Tryz.prog 139 #[.pointer (some ⟨x.b,0,none⟩)] W λ e W'=>e=.returned (.tuple #[])/\TS x W' T E (cl.set x.who.toNat { c with rounds:=c.rounds+1,pc:=1 }) mx tb ev/\Kx x W W':=by
 have hc:=hR.hc
 have CBc:=h.cb c (List.mem_of_getElem? hc)
 have hr:=hO.rd
 have n1:=h.n1
 have n1':=h.n1.symm
 have C:=λ W=>hid (Wakes_c hO W)
 rw [hw] at C
 have eo:=or_un2 hO.ol
 have H:=hid h
 obtain⟨-,-,-,-,-,-,-,c7,-,-,-,-⟩:=h.cells
 obtain⟨-,-,-,s3,-,-,-,-,s8,s9,s10,s11,s12,sz⟩:=h.cl_ hc
 have y3:=sz 3 (by decide)
 have y10:=sz 10 (by decide)
 have y11:=sz 11 (by decide)
 clear sz
 have o1:W.cell? ⟨x.bc,x.oc+x.who.toNat*13+8+1,none⟩=some (.bool c.st):=s9
 have o2:W.cell? ⟨x.bc,x.oc+x.who.toNat*13+8+2,none⟩=some (.bool c.aw):=s10
 have o3:W.cell? ⟨x.bc,x.oc+x.who.toNat*13+8+3,none⟩=some (.int .i64 c.rounds):=s11
 have o4:W.cell? ⟨x.bc,x.oc+x.who.toNat*13+8+4,none⟩=some (.int .i64 c.old):=s12
 have f2:W.frozen? ⟨x.bc,x.oc+x.who.toNat*13+8+2,none⟩=false:=y10
 have f3:W.frozen? ⟨x.bc,x.oc+x.who.toNat*13+8+3,none⟩=false:=y11
 clear s9 s10 s11 s12 y10 y11
 clear h hw hO
 go_enter Tryz.func139,Tryz.ntmps139
 go_wp2_with fail
 with_reducible refine (C _).out.mono ?_
 rintro e w1 ⟨rfl,g1⟩
 have G1:=hid g1
 clear g1
 go_wp2_with fail
 with_reducible refine (sureB_yes _ _).mono ?_
 rintro e w2 ⟨rfl,rfl⟩
 have H2:=hid (H.out.gr G1.out)
 have K2:Hid (Kx x W _):=hid (Kx.gr G1.out)
 clear y3 o1 o2 o3 o4 f2 f3 s3 s8 c7
 have h2:=H2.out
 obtain⟨-,-,-,-,-,-,-,q7,-,-,-,-⟩:=h2.cells
 obtain⟨-,-,-,r3,-,-,-,-,r8,r9,r10,r11,r12,sz⟩:=h2.cl_ hc
 have y3:=sz 3 (by decide)
 have y10:=sz 10 (by decide)
 have y11:=sz 11 (by decide)
 clear sz
 have o1:w2.cell? ⟨x.bc,x.oc+x.who.toNat*13+8+1,none⟩=some (.bool c.st):=r9
 have o2:w2.cell? ⟨x.bc,x.oc+x.who.toNat*13+8+2,none⟩=some (.bool c.aw):=r10
 have o3:w2.cell? ⟨x.bc,x.oc+x.who.toNat*13+8+3,none⟩=some (.int .i64 c.rounds):=r11
 have o4:w2.cell? ⟨x.bc,x.oc+x.who.toNat*13+8+4,none⟩=some (.int .i64 c.old):=r12
 have f2:w2.frozen? ⟨x.bc,x.oc+x.who.toNat*13+8+2,none⟩=false:=y10
 have f3:w2.frozen? ⟨x.bc,x.oc+x.who.toNat*13+8+3,none⟩=false:=y11
 clear r9 r10 r11 r12 y10 y11
 clear h2
 go_wp2_with fail
 (first | go_end0 | ((try simp only [Exit.inBlock,Exit.then]);refine bodyPost_ret (results_none rfl _ _ _) rfl ?_))
 have t2:=H2.out.putC hc 11 (.int .i64 (c.rounds+1)) { c with rounds:=c.rounds+1 } rfl (by decide) { CBc with rounds:=(show B64 (c.rounds+1) from ⟨by omega,by omega⟩) }
 exact⟨rfl,t2.putC2 hc 3 (.int .i64 1) { c with rounds:=c.rounds+1,pc:=1 } rfl (by decide) { CBc with rounds:=(show B64 (c.rounds+1) from ⟨by omega,by omega⟩),pc:=(show B64 1 from ⟨by omega,by omega⟩) },(K2.out.trans (Kx.st (.inr (.inl rfl)) _)).trans (Kx.st (.inr (.inl rfl)) _)⟩
theorem round_lost (h:TS x W T E cl mx tb ev) (hR:Rn x cl c pr) (h0:0<=x.n) (h4:x.n<4) (ha:mx[x.n.toNat]?=some a) (hO:OwnR c) (hw:(!c.aw&&!(wd c.old).K&&decide (0<(wd c.old).n))=true) (hne:(a.1==c.old)=false) :
 Calls Tryz.prog 139 #[.pointer (some ⟨x.b,0,none⟩)] W λ e W'=>e=.returned (.tuple #[])/\TS x W' T E (cl.set x.who.toNat { c with rounds:=c.rounds+1,pc:=1 }) mx tb ev/\Kx x W W':=by
 have hc:=hR.hc
 have CBc:=h.cb c (List.mem_of_getElem? hc)
 have hr:=hO.rd
 have n1:=h.n1
 have n1':=h.n1.symm
 have C:=λ W=>hid (Wakes_c hO W)
 rw [hw] at C
 have eo:=or_un2 hO.ol
 have H:=hid h
 have cs:=λ W' (g:Gr W W')=>hid (swaps_no (h.gr g) h0 h4 ha hc hne (un { wd c.old with K:=true }))
 generalize un { wd c.old with K:=true }=v at eo cs
 obtain⟨-,-,-,-,-,-,-,c7,-,-,-,-⟩:=h.cells
 obtain⟨-,-,-,s3,-,-,-,-,s8,s9,s10,s11,s12,sz⟩:=h.cl_ hc
 have y3:=sz 3 (by decide)
 have y10:=sz 10 (by decide)
 have y11:=sz 11 (by decide)
 clear sz
 have o1:W.cell? ⟨x.bc,x.oc+x.who.toNat*13+8+1,none⟩=some (.bool c.st):=s9
 have o2:W.cell? ⟨x.bc,x.oc+x.who.toNat*13+8+2,none⟩=some (.bool c.aw):=s10
 have o3:W.cell? ⟨x.bc,x.oc+x.who.toNat*13+8+3,none⟩=some (.int .i64 c.rounds):=s11
 have o4:W.cell? ⟨x.bc,x.oc+x.who.toNat*13+8+4,none⟩=some (.int .i64 c.old):=s12
 have f2:W.frozen? ⟨x.bc,x.oc+x.who.toNat*13+8+2,none⟩=false:=y10
 have f3:W.frozen? ⟨x.bc,x.oc+x.who.toNat*13+8+3,none⟩=false:=y11
 clear s9 s10 s11 s12 y10 y11
 clear h hw hO hne
 go_enter Tryz.func139,Tryz.ntmps139
 go_wp2_with fail
 with_reducible refine (C _).out.mono ?_
 rintro e w1 ⟨rfl,g1⟩
 have G1:=hid g1
 clear g1
 go_wp2_with fail
 with_reducible refine (sureB_yes _ _).mono ?_
 rintro e w2 ⟨rfl,rfl⟩
 have h2:=H.out.gr G1.out
 obtain⟨-,-,-,-,-,-,-,-,-,-,-,-,u12,-⟩:=h2.cl_ hc
 have u4:w2.cell? ⟨x.bc,x.oc+x.who.toNat*13+8+4,none⟩=some (.int .i64 c.old):=u12
 clear h2 u12
 have s2:=cs _ G1.out
 go_wp2_with fail
 with_reducible refine s2.out.mono ?_
 rintro e w3 ⟨rfl,d,rfl⟩
 have H2:=hid (H.out.gr (G1.out.drN d))
 have K2:Hid (Kx x W _):=hid (Kx.gr (G1.out.drN d))
 generalize w2.drewN d=w3 at H2 K2 ⊢
 clear y3 o1 o2 o3 o4 f2 f3 s3 s8 u4 c7 cs s2
 have h2:=H2.out
 obtain⟨-,-,-,-,-,-,-,q7,-,-,-,-⟩:=h2.cells
 obtain⟨-,-,-,r3,-,-,-,-,r8,r9,r10,r11,r12,sz⟩:=h2.cl_ hc
 have y3:=sz 3 (by decide)
 have y10:=sz 10 (by decide)
 have y11:=sz 11 (by decide)
 clear sz
 have o1:w3.cell? ⟨x.bc,x.oc+x.who.toNat*13+8+1,none⟩=some (.bool c.st):=r9
 have o2:w3.cell? ⟨x.bc,x.oc+x.who.toNat*13+8+2,none⟩=some (.bool c.aw):=r10
 have o3:w3.cell? ⟨x.bc,x.oc+x.who.toNat*13+8+3,none⟩=some (.int .i64 c.rounds):=r11
 have o4:w3.cell? ⟨x.bc,x.oc+x.who.toNat*13+8+4,none⟩=some (.int .i64 c.old):=r12
 have f2:w3.frozen? ⟨x.bc,x.oc+x.who.toNat*13+8+2,none⟩=false:=y10
 have f3:w3.frozen? ⟨x.bc,x.oc+x.who.toNat*13+8+3,none⟩=false:=y11
 clear r9 r10 r11 r12 y10 y11
 clear h2
 go_wp2_with fail
 (first | go_end0 | ((try simp only [Exit.inBlock,Exit.then]);refine bodyPost_ret (results_none rfl _ _ _) rfl ?_))
 have t2:=H2.out.putC hc 11 (.int .i64 (c.rounds+1)) { c with rounds:=c.rounds+1 } rfl (by decide) { CBc with rounds:=(show B64 (c.rounds+1) from ⟨by omega,by omega⟩) }
 exact⟨rfl,t2.putC2 hc 3 (.int .i64 1) { c with rounds:=c.rounds+1,pc:=1 } rfl (by decide) { CBc with rounds:=(show B64 (c.rounds+1) from ⟨by omega,by omega⟩),pc:=(show B64 1 from ⟨by omega,by omega⟩) },(K2.out.trans (Kx.st (.inr (.inl rfl)) _)).trans (Kx.st (.inr (.inl rfl)) _)⟩
theorem round_set (h:TS x W T E cl mx tb ev) (hR:Rn x cl c pr) (h0:0<=x.n) (h4:x.n<4) (ha:mx[x.n.toNat]?=some a) (hO:OwnR c) (hw:(!c.aw&&!(wd c.old).K&&decide (0<(wd c.old).n))=true) (hne:(a.1==c.old)=true) :
 Calls Tryz.prog 139 #[.pointer (some ⟨x.b,0,none⟩)] W λ e W'=>e=.returned (.tuple #[])/\TS x W' T E (cl.set x.who.toNat { c with aw:=true,rounds:=c.rounds+1,pc:=1 }) (mx.set x.n.toNat (un { wd c.old with K:=true },a.2)) tb ev/\Kx x W W':=by
 have hc:=hR.hc
 have CBc:=h.cb c (List.mem_of_getElem? hc)
 have hr:=hO.rd
 have n1:=h.n1
 have n1':=h.n1.symm
 have C:=λ W=>hid (Wakes_c hO W)
 rw [hw] at C
 have eo:=or_un2 hO.ol
 have H:=hid h
 have cs:=λ W' (g:Gr W W')=>hid (swaps_yes (h.gr g) h0 h4 ha hc hne (hO.ol.K true))
 generalize un { wd c.old with K:=true }=v at eo cs ⊢
 obtain⟨-,-,-,-,-,-,-,c7,-,-,-,-⟩:=h.cells
 obtain⟨-,-,-,s3,-,-,-,-,s8,s9,s10,s11,s12,sz⟩:=h.cl_ hc
 have y3:=sz 3 (by decide)
 have y10:=sz 10 (by decide)
 have y11:=sz 11 (by decide)
 clear sz
 have o1:W.cell? ⟨x.bc,x.oc+x.who.toNat*13+8+1,none⟩=some (.bool c.st):=s9
 have o2:W.cell? ⟨x.bc,x.oc+x.who.toNat*13+8+2,none⟩=some (.bool c.aw):=s10
 have o3:W.cell? ⟨x.bc,x.oc+x.who.toNat*13+8+3,none⟩=some (.int .i64 c.rounds):=s11
 have o4:W.cell? ⟨x.bc,x.oc+x.who.toNat*13+8+4,none⟩=some (.int .i64 c.old):=s12
 have f2:W.frozen? ⟨x.bc,x.oc+x.who.toNat*13+8+2,none⟩=false:=y10
 have f3:W.frozen? ⟨x.bc,x.oc+x.who.toNat*13+8+3,none⟩=false:=y11
 clear s9 s10 s11 s12 y10 y11
 clear h hw hO hne
 go_enter Tryz.func139,Tryz.ntmps139
 go_wp2_with fail
 with_reducible refine (C _).out.mono ?_
 rintro e w1 ⟨rfl,g1⟩
 have G1:=hid g1
 clear g1
 go_wp2_with fail
 with_reducible refine (sureB_yes _ _).mono ?_
 rintro e w2 ⟨rfl,rfl⟩
 have h2:=H.out.gr G1.out
 obtain⟨-,-,-,-,-,-,-,-,-,-,-,-,u12,-⟩:=h2.cl_ hc
 have u4:w2.cell? ⟨x.bc,x.oc+x.who.toNat*13+8+4,none⟩=some (.int .i64 c.old):=u12
 clear h2 u12
 have s2:=cs _ G1.out
 go_wp2_with fail
 with_reducible refine s2.out.mono ?_
 rintro e w3 ⟨rfl,h3,k3⟩
 have H2:=hid h3
 have K2:Hid (Kx x W _):=hid ((Kx.gr G1.out).trans k3)
 clear h3 k3
 clear y3 o1 o2 o3 o4 f2 f3 s3 s8 u4 c7 cs s2
 have h2:=H2.out
 obtain⟨-,-,-,-,-,-,-,q7,-,-,-,-⟩:=h2.cells
 obtain⟨-,-,-,r3,-,-,-,-,r8,r9,r10,r11,r12,sz⟩:=h2.cl_ hc
 have y3:=sz 3 (by decide)
 have y10:=sz 10 (by decide)
 have y11:=sz 11 (by decide)
 clear sz
 have o1:w3.cell? ⟨x.bc,x.oc+x.who.toNat*13+8+1,none⟩=some (.bool c.st):=r9
 have o2:w3.cell? ⟨x.bc,x.oc+x.who.toNat*13+8+2,none⟩=some (.bool c.aw):=r10
 have o3:w3.cell? ⟨x.bc,x.oc+x.who.toNat*13+8+3,none⟩=some (.int .i64 c.rounds):=r11
 have o4:w3.cell? ⟨x.bc,x.oc+x.who.toNat*13+8+4,none⟩=some (.int .i64 c.old):=r12
 have f2:w3.frozen? ⟨x.bc,x.oc+x.who.toNat*13+8+2,none⟩=false:=y10
 have f3:w3.frozen? ⟨x.bc,x.oc+x.who.toNat*13+8+3,none⟩=false:=y11
 clear r9 r10 r11 r12 y10 y11
 clear h2
 go_wp2_with fail
 (first | go_end0 | ((try simp only [Exit.inBlock,Exit.then]);refine bodyPost_ret (results_none rfl _ _ _) rfl ?_))
 have t1:=H2.out.putC hc 10 (.bool true) { c with aw:=true } rfl (by decide) { CBc with since:=CBc.since }
 have t2:=t1.putC2 hc 11 (.int .i64 (c.rounds+1)) { c with aw:=true,rounds:=c.rounds+1 } rfl (by decide) { CBc with rounds:=(show B64 (c.rounds+1) from ⟨by omega,by omega⟩) }
 exact⟨rfl,t2.putC2 hc 3 (.int .i64 1) { c with aw:=true,rounds:=c.rounds+1,pc:=1 } rfl (by decide) { CBc with rounds:=(show B64 (c.rounds+1) from ⟨by omega,by omega⟩),pc:=(show B64 1 from ⟨by omega,by omega⟩) },((K2.out.trans (Kx.st (.inr (.inl rfl)) _)).trans (Kx.st (.inr (.inl rfl)) _)).trans (Kx.st (.inr (.inl rfl)) _)⟩
theorem says_iff {w:Int}:says c w↔(!c.aw&&!(wd c.old).K&&decide (0<(wd c.old).n))=true/\(w==c.old)=true:=by
 unfold says
 simp only [Bool.and_eq_true,Bool.not_eq_true',decide_eq_true_eq,beq_iff_eq]
 constructor
 . rintro⟨q1,q2,q3,q4⟩;exact⟨⟨⟨q1,q2⟩,q3⟩,q4⟩
 . rintro⟨⟨⟨q1,q2⟩,q3⟩,q4⟩;exact⟨q1,q2,q3,q4⟩
theorem round_is (h:TS x W T E cl mx tb ev) (hR:Rn x cl c pr) (h0:0<=x.n) (h4:x.n<4) (ha:mx[x.n.toNat]?=some a) (hO:OwnR c) :
 Calls Tryz.prog 139 #[.pointer (some ⟨x.b,0,none⟩)] W λ e W'=>e=.returned (.tuple #[])/\TS x W' T E (cl.set x.who.toNat (rndC c a.1)) (mx.set x.n.toNat (rndM c a.1,a.2)) tb ev/\Kx x W W':=by
 by_cases hs:says c a.1
 . obtain⟨q1,q2⟩:=says_iff.1 hs
   have q:=round_set h hR h0 h4 ha hO q1 q2
   have e:a.1=c.old:=by simpa using q2
   unfold rndC rndM
   rw [if_pos hs,if_pos hs,e]
   exact q
 . have q:Calls Tryz.prog 139 #[.pointer (some ⟨x.b,0,none⟩)] W λ e W'=>e=.returned (.tuple #[])/\TS x W' T E (cl.set x.who.toNat { c with rounds:=c.rounds+1,pc:=1 }) mx tb ev/\Kx x W W':=by
    cases q1:(!c.aw&&!(wd c.old).K&&decide (0<(wd c.old).n))
    . exact round_no h hR h0 h4 ha hO q1
    . cases q2:(a.1==c.old)
      . exact round_lost h hR h0 h4 ha hO q1 q2
      . exact absurd (says_iff.2 ⟨q1,q2⟩) hs
   unfold rndC rndM
   rw [if_neg hs,if_neg hs,set_same ha]
   exact q
end
end P16
end
end Go.Proofs.YtainfijdhcehlaaGreatDoor
