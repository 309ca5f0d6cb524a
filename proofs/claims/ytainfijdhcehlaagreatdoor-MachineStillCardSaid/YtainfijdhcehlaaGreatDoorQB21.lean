/-
  A part of the proof.
-/
import Derived.Test.YtainfijdhcehlaaGreatDoorQB3
import Derived.Test.YtainfijdhcehlaaGreatDoorQB20
import Derived.Deep.DeepCutAuto
set_option linter.unusedVariables false
set_option linter.unusedSimpArgs false
set_option maxRecDepth 100000
set_option maxHeartbeats 8000000
namespace Go.Proofs.YtainfijdhcehlaaGreatDoor
open Lib (hid)
section
open Go.ChangeShapes Go.WideShapes Go.ChangeAt Go.RowKit Go.Shelf
namespace P16
open P14 (pan)
open P12 (PV PMem)
section
variable {x:Cx} {W:World} {T E:Sl} {cl:List Cl} {mx:List T3} {tb:List Sp} {ev:List T3} {c:Cl} {a:T3} {pr:List Ac}
theorem wake_h (h:TS x W T E cl mx tb ev) (hR:Rn x cl c pr) (h0:0<=x.n) (h4:x.n<4) (ha:mx[x.n.toNat]?=some a) (hO:OwnR c) (hu:P4.Tm x.now) (hk:OkW a.1) (hS:(wd a.1).S=true) :
 Calls Tryz.prog 106 #[.pointer (some ⟨x.b,0,none⟩)] W λ e W'=>e=.returned (.tuple #[])/\TS x W' T E (cl.set x.who.toNat { c with st:=c.st||late c.since x.now,old:=a.1,pc:=8 }) mx tb ev/\Kx x W W':=by
 have hc:=hR.hc
 have CBc:=h.cb c (List.mem_of_getElem? hc)
 have bo:B64 a.1:=(h.mb a (List.mem_of_getElem? ha)).1
 have H:=hid h
 have cm:=λ W' (g:Gr W W')=>hid (mutex_gr (h.gr g) h0 h4)
 have cw:=λ W=>hid (Wake_h hO hu hk hS W)
 obtain⟨z,hz⟩:∃ z,(c.st||late c.since x.now)=z:=⟨_,rfl⟩
 rw [hz] at cw ⊢
 obtain⟨pc0,-,-,-,-,-,-,pc7,-,-,-,-⟩:=h.cells
 obtain⟨pm0,-,-,-⟩:=h.mx_ ha
 obtain⟨-,-,-,-,-,-,-,-,ps8,ps9,ps10,ps11,ps12,-⟩:=h.cl_ hc
 clear h hS hk hu hO hz
 go_enter Tryz.func106,Tryz.ntmps106
 go_upto_region 0 with fail
 go_cut [2,3] (λ t v wx=>∃ g,t=.pointer (some ⟨g,0,none⟩)/\v=.bool true/\Blk wx g #[.int .i64 c.since,.bool z,.bool c.aw,.int .i64 c.rounds,.int .i64 a.1] 53/\Gr W wx/\W.heap.size<=g)
 case first =>
  refine wp_region_held_drew (S:=(λ w'=>w'.cell? ⟨x.b,7,none⟩=some (.pointer (some ⟨x.bc,x.oc+x.who.toNat*13,none⟩))/\w'.cell? ⟨x.b,0,none⟩=some (.int .i64 x.now)/\w'.cell? ⟨x.bm,x.om+x.n.toNat*3,none⟩=some (.int .i64 a.1)/\w'.cell? ⟨x.bc,x.oc+x.who.toNat*13+8,none⟩=some (.int .i64 c.since)/\w'.cell? ⟨x.bc,x.oc+x.who.toNat*13+8+1,none⟩=some (.bool c.st)/\w'.cell? ⟨x.bc,x.oc+x.who.toNat*13+8+2,none⟩=some (.bool c.aw)/\w'.cell? ⟨x.bc,x.oc+x.who.toNat*13+8+3,none⟩=some (.int .i64 c.rounds)/\w'.cell? ⟨x.bc,x.oc+x.who.toNat*13+8+4,none⟩=some (.int .i64 c.old))) (by kernel_rfl) ⟨pc7,pc0,pm0,ps8,ps9,ps10,ps11,ps12⟩ (λ hS=>?_)
  refine wG 0 hS ?_
  refine wG 1 hS ?_
  refine wG 2 hS ?_
  refine wG 3 hS ?_
  refine wG 4 hS ?_
  refine wG 5 hS ?_
  refine wG 6 hS ?_
  refine wG 7 hS ?_
  refine wG 8 hS ?_
  refine wG 9 hS ?_
  refine wG 10 hS ?_
  refine wG 11 hS ?_
  refine wG 12 hS ?_
  refine wR2 13 25 (λ K hK=>?_) (λ K hK=>?_)
  . skip
    go_simp;go_at_call 132;with_reducible refine (cm _ ((Gr.refl W).dr)).out.mono ?_;rintro ee v1 ⟨rfl,g9⟩;go_wp2_with fail
    have G1:=hid (((Gr.refl W).dr).trans g9)
    clear g9
    have h1:=H.out.gr G1.out
    obtain⟨p1_c0,-,-,-,-,-,-,p1_c7,-,-,-,-⟩:=h1.cells
    obtain⟨p1_m0,-,-,-⟩:=h1.mx_ ha
    obtain⟨-,-,-,-,-,-,-,-,p1_s8,p1_s9,p1_s10,p1_s11,p1_s12,-⟩:=h1.cl_ hc
    clear h1
    refine hK.out _ _ ⟨p1_c7,p1_c0,p1_m0,p1_s8,p1_s9,p1_s10,p1_s11,p1_s12⟩ (λ hS=>?_)
    clear hK K
    try simp only [pL]
    refine wG 14 hS ?_
    refine wG 15 hS ?_
    refine wG 16 hS ?_
    refine wR2 17 25 (λ K hK=>?_) (λ K hK=>?_)
    . skip
      go_simp;go_at_call 154;with_reducible refine (cw _).out.mono ?_;rintro ee v2 ⟨rfl,g9⟩;go_wp2_with fail
      have G2:=hid (G1.out.trans g9)
      clear g9
      have h2:=H.out.gr G2.out
      obtain⟨p2_c0,-,-,-,-,-,-,p2_c7,-,-,-,-⟩:=h2.cells
      obtain⟨p2_m0,-,-,-⟩:=h2.mx_ ha
      obtain⟨-,-,-,-,-,-,-,-,p2_s8,p2_s9,p2_s10,p2_s11,p2_s12,-⟩:=h2.cl_ hc
      clear h2
      refine hK.out _ _ ⟨p2_c7,p2_c0,p2_m0,p2_s8,p2_s9,p2_s10,p2_s11,p2_s12⟩ (λ hS=>?_)
      clear hK K
      try simp only [pL]
      refine wG 18 hS ?_
      refine wG 19 hS ?_
      refine wG 20 hS ?_
      refine wR2 21 25 (λ K hK=>?_) (λ K hK=>?_)
      . skip
        go_simp;go_at_call 144;with_reducible refine (bothOB_yes _ _ _ _ _ _ _).mono ?_;rintro ee v3 ⟨rfl,g9⟩;go_wp2_with fail
        have G3:=hid (G2.out.trans g9)
        clear g9
        have h3:=H.out.gr G3.out
        obtain⟨p3_c0,-,-,-,-,-,-,p3_c7,-,-,-,-⟩:=h3.cells
        obtain⟨p3_m0,-,-,-⟩:=h3.mx_ ha
        obtain⟨-,-,-,-,-,-,-,-,p3_s8,p3_s9,p3_s10,p3_s11,p3_s12,-⟩:=h3.cl_ hc
        clear h3
        refine hK.out _ _ ⟨p3_c7,p3_c0,p3_m0,p3_s8,p3_s9,p3_s10,p3_s11,p3_s12⟩ (λ hS=>?_)
        clear hK K
        try simp only [pL]
        refine wG 22 hS ?_
        refine wG 23 hS ?_
        refine wG 24 hS ?_
        refine wR1 25 (λ K hK=>?_)
        go_simp
        have B4:=Blk.new v3 #[.int .i64 0,.bool false,.bool false,.int .i64 0,.int .i64 0] 53
        have G4:Hid (Gr W _):=hid (G3.out.al (.cells #[.int .i64 0,.bool false,.bool false,.int .i64 0,.int .i64 0] 53))
        have hl:W.heap.size<=v3.heap.size:=G3.out.size
        obtain⟨g,hg⟩:∃ g,v3.heap.size=g:=⟨_,rfl⟩
        have hgl:W.heap.size<=g:=by rw [<- hg];exact hl
        rw [hg] at B4
        generalize v3.alloc (.cells #[.int .i64 0,.bool false,.bool false,.int .i64 0,.int .i64 0] 53)=v4 at B4 G4 ⊢
        try rw [hg]
        clear hg hl
        have h4:=H.out.gr G4.out
        obtain⟨p4_c0,-,-,-,-,-,-,p4_c7,-,-,-,-⟩:=h4.cells
        obtain⟨p4_m0,-,-,-⟩:=h4.mx_ ha
        obtain⟨-,-,-,-,-,-,-,-,p4_s8,p4_s9,p4_s10,p4_s11,p4_s12,-⟩:=h4.cl_ hc
        clear h4
        refine hK.out _ _ ⟨p4_c7,p4_c0,p4_m0,p4_s8,p4_s9,p4_s10,p4_s11,p4_s12⟩ (λ hS=>?_)
        clear hK K
        try simp only [pL]
        refine wR1 26 (λ K hK=>?_)
        obtain⟨e0,z0⟩:=B4.at_ (k:=0) rfl
        obtain⟨e1,z1⟩:=B4.at_ (k:=1) rfl
        obtain⟨e2,z2⟩:=B4.at_ (k:=2) rfl
        obtain⟨e3,z3⟩:=B4.at_ (k:=3) rfl
        obtain⟨e4,z4⟩:=B4.at_ (k:=4) rfl
        go_simp
        have B5:Blk (((((v4.setCell ⟨g,0,none⟩ (.int .i64 c.since)).setCell ⟨g,1,none⟩ (.bool z)).setCell ⟨g,2,none⟩ (.bool c.aw)).setCell ⟨g,3,none⟩ (.int .i64 c.rounds)).setCell ⟨g,4,none⟩ (.int .i64 a.1)) g #[.int .i64 c.since,.bool z,.bool c.aw,.int .i64 c.rounds,.int .i64 a.1] 53:=(((((B4.set 0 (.int .i64 c.since)).set 1 (.bool z)).set 2 (.bool c.aw)).set 3 (.int .i64 c.rounds)).set 4 (.int .i64 a.1))
        have G5:Hid (Gr W (((((v4.setCell ⟨g,0,none⟩ (.int .i64 c.since)).setCell ⟨g,1,none⟩ (.bool z)).setCell ⟨g,2,none⟩ (.bool c.aw)).setCell ⟨g,3,none⟩ (.int .i64 c.rounds)).setCell ⟨g,4,none⟩ (.int .i64 a.1))):=hid (((((G4.out.st (p:=⟨g,0,none⟩) hgl (.int .i64 c.since)).st (p:=⟨g,1,none⟩) hgl (.bool z)).st (p:=⟨g,2,none⟩) hgl (.bool c.aw)).st (p:=⟨g,3,none⟩) hgl (.int .i64 c.rounds)).st (p:=⟨g,4,none⟩) hgl (.int .i64 a.1))
        clear e0 e1 e2 e3 e4 z0 z1 z2 z3 z4
        generalize (((((v4.setCell ⟨g,0,none⟩ (.int .i64 c.since)).setCell ⟨g,1,none⟩ (.bool z)).setCell ⟨g,2,none⟩ (.bool c.aw)).setCell ⟨g,3,none⟩ (.int .i64 c.rounds)).setCell ⟨g,4,none⟩ (.int .i64 a.1))=v5 at B5 G5 ⊢
        have h5:=H.out.gr G5.out
        obtain⟨p5_c0,-,-,-,-,-,-,p5_c7,-,-,-,-⟩:=h5.cells
        obtain⟨p5_m0,-,-,-⟩:=h5.mx_ ha
        obtain⟨-,-,-,-,-,-,-,-,p5_s8,p5_s9,p5_s10,p5_s11,p5_s12,-⟩:=h5.cl_ hc
        clear h5
        refine hK.out _ _ ⟨p5_c7,p5_c0,p5_m0,p5_s8,p5_s9,p5_s10,p5_s11,p5_s12⟩ (λ hS=>?_)
        clear hK K
        try simp only [pL]
        refine wG 27 hS ?_
        refine wpAnyH_done (by kernel_rfl) ?_ _
        go_wp2_with fail
        go_meet
        exact⟨g,rfl,rfl,B5,G5.out,hgl⟩
      . skip
        go_simp
        have B3:=Blk.new v2 #[.int .i64 0,.bool false,.bool false,.int .i64 0,.int .i64 0] 53
        have G3:Hid (Gr W _):=hid (G2.out.al (.cells #[.int .i64 0,.bool false,.bool false,.int .i64 0,.int .i64 0] 53))
        have hl:W.heap.size<=v2.heap.size:=G2.out.size
        obtain⟨g,hg⟩:∃ g,v2.heap.size=g:=⟨_,rfl⟩
        have hgl:W.heap.size<=g:=by rw [<- hg];exact hl
        rw [hg] at B3
        generalize v2.alloc (.cells #[.int .i64 0,.bool false,.bool false,.int .i64 0,.int .i64 0] 53)=v3 at B3 G3 ⊢
        try rw [hg]
        clear hg hl
        have h3:=H.out.gr G3.out
        obtain⟨p3_c0,-,-,-,-,-,-,p3_c7,-,-,-,-⟩:=h3.cells
        obtain⟨p3_m0,-,-,-⟩:=h3.mx_ ha
        obtain⟨-,-,-,-,-,-,-,-,p3_s8,p3_s9,p3_s10,p3_s11,p3_s12,-⟩:=h3.cl_ hc
        clear h3
        refine hK.out _ _ ⟨p3_c7,p3_c0,p3_m0,p3_s8,p3_s9,p3_s10,p3_s11,p3_s12⟩ (λ hS=>?_)
        clear hK K
        try simp only [pL]
        refine wR1 21 (λ K hK=>?_)
        go_simp;go_at_call 144;with_reducible refine (bothOB_yes _ _ _ _ _ _ _).mono ?_;rintro ee v4 ⟨rfl,g9⟩;go_wp2_with fail
        have G4:=hid (G3.out.trans g9)
        have B4:=B3.gr g9
        clear g9
        have h4:=H.out.gr G4.out
        obtain⟨p4_c0,-,-,-,-,-,-,p4_c7,-,-,-,-⟩:=h4.cells
        obtain⟨p4_m0,-,-,-⟩:=h4.mx_ ha
        obtain⟨-,-,-,-,-,-,-,-,p4_s8,p4_s9,p4_s10,p4_s11,p4_s12,-⟩:=h4.cl_ hc
        clear h4
        refine hK.out _ _ ⟨p4_c7,p4_c0,p4_m0,p4_s8,p4_s9,p4_s10,p4_s11,p4_s12⟩ (λ hS=>?_)
        clear hK K
        try simp only [pL]
        refine wG 22 hS ?_
        refine wG 23 hS ?_
        refine wG 24 hS ?_
        refine wR1 26 (λ K hK=>?_)
        obtain⟨e0,z0⟩:=B4.at_ (k:=0) rfl
        obtain⟨e1,z1⟩:=B4.at_ (k:=1) rfl
        obtain⟨e2,z2⟩:=B4.at_ (k:=2) rfl
        obtain⟨e3,z3⟩:=B4.at_ (k:=3) rfl
        obtain⟨e4,z4⟩:=B4.at_ (k:=4) rfl
        go_simp
        have B5:Blk (((((v4.setCell ⟨g,0,none⟩ (.int .i64 c.since)).setCell ⟨g,1,none⟩ (.bool z)).setCell ⟨g,2,none⟩ (.bool c.aw)).setCell ⟨g,3,none⟩ (.int .i64 c.rounds)).setCell ⟨g,4,none⟩ (.int .i64 a.1)) g #[.int .i64 c.since,.bool z,.bool c.aw,.int .i64 c.rounds,.int .i64 a.1] 53:=(((((B4.set 0 (.int .i64 c.since)).set 1 (.bool z)).set 2 (.bool c.aw)).set 3 (.int .i64 c.rounds)).set 4 (.int .i64 a.1))
        have G5:Hid (Gr W (((((v4.setCell ⟨g,0,none⟩ (.int .i64 c.since)).setCell ⟨g,1,none⟩ (.bool z)).setCell ⟨g,2,none⟩ (.bool c.aw)).setCell ⟨g,3,none⟩ (.int .i64 c.rounds)).setCell ⟨g,4,none⟩ (.int .i64 a.1))):=hid (((((G4.out.st (p:=⟨g,0,none⟩) hgl (.int .i64 c.since)).st (p:=⟨g,1,none⟩) hgl (.bool z)).st (p:=⟨g,2,none⟩) hgl (.bool c.aw)).st (p:=⟨g,3,none⟩) hgl (.int .i64 c.rounds)).st (p:=⟨g,4,none⟩) hgl (.int .i64 a.1))
        clear e0 e1 e2 e3 e4 z0 z1 z2 z3 z4
        generalize (((((v4.setCell ⟨g,0,none⟩ (.int .i64 c.since)).setCell ⟨g,1,none⟩ (.bool z)).setCell ⟨g,2,none⟩ (.bool c.aw)).setCell ⟨g,3,none⟩ (.int .i64 c.rounds)).setCell ⟨g,4,none⟩ (.int .i64 a.1))=v5 at B5 G5 ⊢
        have h5:=H.out.gr G5.out
        obtain⟨p5_c0,-,-,-,-,-,-,p5_c7,-,-,-,-⟩:=h5.cells
        obtain⟨p5_m0,-,-,-⟩:=h5.mx_ ha
        obtain⟨-,-,-,-,-,-,-,-,p5_s8,p5_s9,p5_s10,p5_s11,p5_s12,-⟩:=h5.cl_ hc
        clear h5
        refine hK.out _ _ ⟨p5_c7,p5_c0,p5_m0,p5_s8,p5_s9,p5_s10,p5_s11,p5_s12⟩ (λ hS=>?_)
        clear hK K
        try simp only [pL]
        refine wG 27 hS ?_
        refine wpAnyH_done (by kernel_rfl) ?_ _
        go_wp2_with fail
        go_meet
        exact⟨g,rfl,rfl,B5,G5.out,hgl⟩
    . skip
      go_simp
      have B2:=Blk.new v1 #[.int .i64 0,.bool false,.bool false,.int .i64 0,.int .i64 0] 53
      have G2:Hid (Gr W _):=hid (G1.out.al (.cells #[.int .i64 0,.bool false,.bool false,.int .i64 0,.int .i64 0] 53))
      have hl:W.heap.size<=v1.heap.size:=G1.out.size
      obtain⟨g,hg⟩:∃ g,v1.heap.size=g:=⟨_,rfl⟩
      have hgl:W.heap.size<=g:=by rw [<- hg];exact hl
      rw [hg] at B2
      generalize v1.alloc (.cells #[.int .i64 0,.bool false,.bool false,.int .i64 0,.int .i64 0] 53)=v2 at B2 G2 ⊢
      try rw [hg]
      clear hg hl
      have h2:=H.out.gr G2.out
      obtain⟨p2_c0,-,-,-,-,-,-,p2_c7,-,-,-,-⟩:=h2.cells
      obtain⟨p2_m0,-,-,-⟩:=h2.mx_ ha
      obtain⟨-,-,-,-,-,-,-,-,p2_s8,p2_s9,p2_s10,p2_s11,p2_s12,-⟩:=h2.cl_ hc
      clear h2
      refine hK.out _ _ ⟨p2_c7,p2_c0,p2_m0,p2_s8,p2_s9,p2_s10,p2_s11,p2_s12⟩ (λ hS=>?_)
      clear hK K
      try simp only [pL]
      refine wR1 17 (λ K hK=>?_)
      go_simp;go_at_call 154;with_reducible refine (cw _).out.mono ?_;rintro ee v3 ⟨rfl,g9⟩;go_wp2_with fail
      have G3:=hid (G2.out.trans g9)
      have B3:=B2.gr g9
      clear g9
      have h3:=H.out.gr G3.out
      obtain⟨p3_c0,-,-,-,-,-,-,p3_c7,-,-,-,-⟩:=h3.cells
      obtain⟨p3_m0,-,-,-⟩:=h3.mx_ ha
      obtain⟨-,-,-,-,-,-,-,-,p3_s8,p3_s9,p3_s10,p3_s11,p3_s12,-⟩:=h3.cl_ hc
      clear h3
      refine hK.out _ _ ⟨p3_c7,p3_c0,p3_m0,p3_s8,p3_s9,p3_s10,p3_s11,p3_s12⟩ (λ hS=>?_)
      clear hK K
      try simp only [pL]
      refine wG 18 hS ?_
      refine wG 19 hS ?_
      refine wG 20 hS ?_
      refine wR1 21 (λ K hK=>?_)
      go_simp;go_at_call 144;with_reducible refine (bothOB_yes _ _ _ _ _ _ _).mono ?_;rintro ee v4 ⟨rfl,g9⟩;go_wp2_with fail
      have G4:=hid (G3.out.trans g9)
      have B4:=B3.gr g9
      clear g9
      have h4:=H.out.gr G4.out
      obtain⟨p4_c0,-,-,-,-,-,-,p4_c7,-,-,-,-⟩:=h4.cells
      obtain⟨p4_m0,-,-,-⟩:=h4.mx_ ha
      obtain⟨-,-,-,-,-,-,-,-,p4_s8,p4_s9,p4_s10,p4_s11,p4_s12,-⟩:=h4.cl_ hc
      clear h4
      refine hK.out _ _ ⟨p4_c7,p4_c0,p4_m0,p4_s8,p4_s9,p4_s10,p4_s11,p4_s12⟩ (λ hS=>?_)
      clear hK K
      try simp only [pL]
      refine wG 22 hS ?_
      refine wG 23 hS ?_
      refine wG 24 hS ?_
      refine wR1 26 (λ K hK=>?_)
      obtain⟨e0,z0⟩:=B4.at_ (k:=0) rfl
      obtain⟨e1,z1⟩:=B4.at_ (k:=1) rfl
      obtain⟨e2,z2⟩:=B4.at_ (k:=2) rfl
      obtain⟨e3,z3⟩:=B4.at_ (k:=3) rfl
      obtain⟨e4,z4⟩:=B4.at_ (k:=4) rfl
      go_simp
      have B5:Blk (((((v4.setCell ⟨g,0,none⟩ (.int .i64 c.since)).setCell ⟨g,1,none⟩ (.bool z)).setCell ⟨g,2,none⟩ (.bool c.aw)).setCell ⟨g,3,none⟩ (.int .i64 c.rounds)).setCell ⟨g,4,none⟩ (.int .i64 a.1)) g #[.int .i64 c.since,.bool z,.bool c.aw,.int .i64 c.rounds,.int .i64 a.1] 53:=(((((B4.set 0 (.int .i64 c.since)).set 1 (.bool z)).set 2 (.bool c.aw)).set 3 (.int .i64 c.rounds)).set 4 (.int .i64 a.1))
      have G5:Hid (Gr W (((((v4.setCell ⟨g,0,none⟩ (.int .i64 c.since)).setCell ⟨g,1,none⟩ (.bool z)).setCell ⟨g,2,none⟩ (.bool c.aw)).setCell ⟨g,3,none⟩ (.int .i64 c.rounds)).setCell ⟨g,4,none⟩ (.int .i64 a.1))):=hid (((((G4.out.st (p:=⟨g,0,none⟩) hgl (.int .i64 c.since)).st (p:=⟨g,1,none⟩) hgl (.bool z)).st (p:=⟨g,2,none⟩) hgl (.bool c.aw)).st (p:=⟨g,3,none⟩) hgl (.int .i64 c.rounds)).st (p:=⟨g,4,none⟩) hgl (.int .i64 a.1))
      clear e0 e1 e2 e3 e4 z0 z1 z2 z3 z4
      generalize (((((v4.setCell ⟨g,0,none⟩ (.int .i64 c.since)).setCell ⟨g,1,none⟩ (.bool z)).setCell ⟨g,2,none⟩ (.bool c.aw)).setCell ⟨g,3,none⟩ (.int .i64 c.rounds)).setCell ⟨g,4,none⟩ (.int .i64 a.1))=v5 at B5 G5 ⊢
      have h5:=H.out.gr G5.out
      obtain⟨p5_c0,-,-,-,-,-,-,p5_c7,-,-,-,-⟩:=h5.cells
      obtain⟨p5_m0,-,-,-⟩:=h5.mx_ ha
      obtain⟨-,-,-,-,-,-,-,-,p5_s8,p5_s9,p5_s10,p5_s11,p5_s12,-⟩:=h5.cl_ hc
      clear h5
      refine hK.out _ _ ⟨p5_c7,p5_c0,p5_m0,p5_s8,p5_s9,p5_s10,p5_s11,p5_s12⟩ (λ hS=>?_)
      clear hK K
      try simp only [pL]
      refine wG 27 hS ?_
      refine wpAnyH_done (by kernel_rfl) ?_ _
      go_wp2_with fail
      go_meet
      exact⟨g,rfl,rfl,B5,G5.out,hgl⟩
  . skip
    go_simp
    have B1:=(Blk.new W #[.int .i64 0,.bool false,.bool false,.int .i64 0,.int .i64 0] 53).gr (Gr.refl _).dr
    have G1:Hid (Gr W _):=hid ((Gr.refl W).al (.cells #[.int .i64 0,.bool false,.bool false,.int .i64 0,.int .i64 0] 53)).dr
    obtain⟨g,hg⟩:∃ g,W.heap.size=g:=⟨_,rfl⟩
    have hgl:W.heap.size<=g:=Nat.le_of_eq hg
    rw [hg] at B1
    generalize (W.alloc (.cells #[.int .i64 0,.bool false,.bool false,.int .i64 0,.int .i64 0] 53)).drew=v1 at B1 G1 ⊢
    try rw [hg]
    clear hg
    have h1:=H.out.gr G1.out
    obtain⟨p1_c0,-,-,-,-,-,-,p1_c7,-,-,-,-⟩:=h1.cells
    obtain⟨p1_m0,-,-,-⟩:=h1.mx_ ha
    obtain⟨-,-,-,-,-,-,-,-,p1_s8,p1_s9,p1_s10,p1_s11,p1_s12,-⟩:=h1.cl_ hc
    clear h1
    refine hK.out _ _ ⟨p1_c7,p1_c0,p1_m0,p1_s8,p1_s9,p1_s10,p1_s11,p1_s12⟩ (λ hS=>?_)
    clear hK K
    try simp only [pL]
    refine wR1 13 (λ K hK=>?_)
    go_simp;go_at_call 132;with_reducible refine (cm _ G1.out).out.mono ?_;rintro ee v2 ⟨rfl,g9⟩;go_wp2_with fail
    have G2:=hid (G1.out.trans g9)
    have B2:=B1.gr g9
    clear g9
    have h2:=H.out.gr G2.out
    obtain⟨p2_c0,-,-,-,-,-,-,p2_c7,-,-,-,-⟩:=h2.cells
    obtain⟨p2_m0,-,-,-⟩:=h2.mx_ ha
    obtain⟨-,-,-,-,-,-,-,-,p2_s8,p2_s9,p2_s10,p2_s11,p2_s12,-⟩:=h2.cl_ hc
    clear h2
    refine hK.out _ _ ⟨p2_c7,p2_c0,p2_m0,p2_s8,p2_s9,p2_s10,p2_s11,p2_s12⟩ (λ hS=>?_)
    clear hK K
    try simp only [pL]
    refine wG 14 hS ?_
    refine wG 15 hS ?_
    refine wG 16 hS ?_
    refine wR1 17 (λ K hK=>?_)
    go_simp;go_at_call 154;with_reducible refine (cw _).out.mono ?_;rintro ee v3 ⟨rfl,g9⟩;go_wp2_with fail
    have G3:=hid (G2.out.trans g9)
    have B3:=B2.gr g9
    clear g9
    have h3:=H.out.gr G3.out
    obtain⟨p3_c0,-,-,-,-,-,-,p3_c7,-,-,-,-⟩:=h3.cells
    obtain⟨p3_m0,-,-,-⟩:=h3.mx_ ha
    obtain⟨-,-,-,-,-,-,-,-,p3_s8,p3_s9,p3_s10,p3_s11,p3_s12,-⟩:=h3.cl_ hc
    clear h3
    refine hK.out _ _ ⟨p3_c7,p3_c0,p3_m0,p3_s8,p3_s9,p3_s10,p3_s11,p3_s12⟩ (λ hS=>?_)
    clear hK K
    try simp only [pL]
    refine wG 18 hS ?_
    refine wG 19 hS ?_
    refine wG 20 hS ?_
    refine wR1 21 (λ K hK=>?_)
    go_simp;go_at_call 144;with_reducible refine (bothOB_yes _ _ _ _ _ _ _).mono ?_;rintro ee v4 ⟨rfl,g9⟩;go_wp2_with fail
    have G4:=hid (G3.out.trans g9)
    have B4:=B3.gr g9
    clear g9
    have h4:=H.out.gr G4.out
    obtain⟨p4_c0,-,-,-,-,-,-,p4_c7,-,-,-,-⟩:=h4.cells
    obtain⟨p4_m0,-,-,-⟩:=h4.mx_ ha
    obtain⟨-,-,-,-,-,-,-,-,p4_s8,p4_s9,p4_s10,p4_s11,p4_s12,-⟩:=h4.cl_ hc
    clear h4
    refine hK.out _ _ ⟨p4_c7,p4_c0,p4_m0,p4_s8,p4_s9,p4_s10,p4_s11,p4_s12⟩ (λ hS=>?_)
    clear hK K
    try simp only [pL]
    refine wG 22 hS ?_
    refine wG 23 hS ?_
    refine wG 24 hS ?_
    refine wR1 26 (λ K hK=>?_)
    obtain⟨e0,z0⟩:=B4.at_ (k:=0) rfl
    obtain⟨e1,z1⟩:=B4.at_ (k:=1) rfl
    obtain⟨e2,z2⟩:=B4.at_ (k:=2) rfl
    obtain⟨e3,z3⟩:=B4.at_ (k:=3) rfl
    obtain⟨e4,z4⟩:=B4.at_ (k:=4) rfl
    go_simp
    have B5:Blk (((((v4.setCell ⟨g,0,none⟩ (.int .i64 c.since)).setCell ⟨g,1,none⟩ (.bool z)).setCell ⟨g,2,none⟩ (.bool c.aw)).setCell ⟨g,3,none⟩ (.int .i64 c.rounds)).setCell ⟨g,4,none⟩ (.int .i64 a.1)) g #[.int .i64 c.since,.bool z,.bool c.aw,.int .i64 c.rounds,.int .i64 a.1] 53:=(((((B4.set 0 (.int .i64 c.since)).set 1 (.bool z)).set 2 (.bool c.aw)).set 3 (.int .i64 c.rounds)).set 4 (.int .i64 a.1))
    have G5:Hid (Gr W (((((v4.setCell ⟨g,0,none⟩ (.int .i64 c.since)).setCell ⟨g,1,none⟩ (.bool z)).setCell ⟨g,2,none⟩ (.bool c.aw)).setCell ⟨g,3,none⟩ (.int .i64 c.rounds)).setCell ⟨g,4,none⟩ (.int .i64 a.1))):=hid (((((G4.out.st (p:=⟨g,0,none⟩) hgl (.int .i64 c.since)).st (p:=⟨g,1,none⟩) hgl (.bool z)).st (p:=⟨g,2,none⟩) hgl (.bool c.aw)).st (p:=⟨g,3,none⟩) hgl (.int .i64 c.rounds)).st (p:=⟨g,4,none⟩) hgl (.int .i64 a.1))
    clear e0 e1 e2 e3 e4 z0 z1 z2 z3 z4
    generalize (((((v4.setCell ⟨g,0,none⟩ (.int .i64 c.since)).setCell ⟨g,1,none⟩ (.bool z)).setCell ⟨g,2,none⟩ (.bool c.aw)).setCell ⟨g,3,none⟩ (.int .i64 c.rounds)).setCell ⟨g,4,none⟩ (.int .i64 a.1))=v5 at B5 G5 ⊢
    have h5:=H.out.gr G5.out
    obtain⟨p5_c0,-,-,-,-,-,-,p5_c7,-,-,-,-⟩:=h5.cells
    obtain⟨p5_m0,-,-,-⟩:=h5.mx_ ha
    obtain⟨-,-,-,-,-,-,-,-,p5_s8,p5_s9,p5_s10,p5_s11,p5_s12,-⟩:=h5.cl_ hc
    clear h5
    refine hK.out _ _ ⟨p5_c7,p5_c0,p5_m0,p5_s8,p5_s9,p5_s10,p5_s11,p5_s12⟩ (λ hS=>?_)
    clear hK K
    try simp only [pL]
    refine wG 27 hS ?_
    refine wpAnyH_done (by kernel_rfl) ?_ _
    go_wp2_with fail
    go_meet
    exact⟨g,rfl,rfl,B5,G5.out,hgl⟩
 case rest =>
  obtain⟨g,rfl,rfl,B,G,hgl⟩:=hcut
  have h1:=H.out.gr G
  obtain⟨-,-,-,-,-,-,-,l7,-,-,-,-⟩:=h1.cells
  obtain⟨-,-,-,-,-,-,-,-,m8,m9,m10,m11,m12,sz⟩:=h1.cl_ hc
  have y8:=sz 8 (by decide)
  have y9:=sz 9 (by decide)
  have y10:=sz 10 (by decide)
  have y11:=sz 11 (by decide)
  have y12:=sz 12 (by decide)
  clear sz
  obtain⟨e0,-⟩:=B.at_ (k:=0) rfl
  obtain⟨e1,-⟩:=B.at_ (k:=1) rfl
  obtain⟨e2,-⟩:=B.at_ (k:=2) rfl
  obtain⟨e3,-⟩:=B.at_ (k:=3) rfl
  obtain⟨e4,-⟩:=B.at_ (k:=4) rfl
  have HB:=hid B
  have HG:=hid G
  have nb:x.bc≠g:=by have:=H.out.c.lt;omega
  have nb2:x.b≠g:=by have:=H.out.t.lt;omega
  clear h1 B G cm cw
  clear pc7 pc0 pm0 ps8 ps9 ps10 ps11 ps12
  go_upto_region 1 with fail
  refine wp_region_held_drew (S:=(λ w'=>w'.cell? ⟨x.b,7,none⟩=some (.pointer (some ⟨x.bc,x.oc+x.who.toNat*13,none⟩))/\w'.cell? ⟨g,0,none⟩=some (.int .i64 c.since)/\w'.cell? ⟨g,1,none⟩=some (.bool z)/\w'.cell? ⟨g,2,none⟩=some (.bool c.aw)/\w'.cell? ⟨g,3,none⟩=some (.int .i64 c.rounds)/\w'.cell? ⟨g,4,none⟩=some (.int .i64 a.1))) (by kernel_rfl) ⟨l7,e0,e1,e2,e3,e4⟩ (λ hS=>?_)
  refine wG 0 hS ?_
  refine wG 1 hS ?_
  refine wG 2 hS ?_
  refine wG 3 hS ?_
  refine wG 4 hS ?_
  refine wG 5 hS ?_
  refine wG 6 hS ?_
  refine wR1 7 (λ K hK=>?_)
  go_simp
  have H2:Hid (TS x ((((((wc.setCell ⟨x.bc,x.oc+x.who.toNat*13+8,none⟩ (.int .i64 c.since)).setCell ⟨x.bc,x.oc+x.who.toNat*13+8+1,none⟩ (.bool z)).setCell ⟨x.bc,x.oc+x.who.toNat*13+8+2,none⟩ (.bool c.aw)).setCell ⟨x.bc,x.oc+x.who.toNat*13+8+3,none⟩ (.int .i64 c.rounds)).setCell ⟨x.bc,x.oc+x.who.toNat*13+8+4,none⟩ (.int .i64 a.1)).drew) T E (cl.set x.who.toNat { c with st:=z,old:=a.1 }) mx tb ev):=hid (((H.out.gr HG.out).putO hc { c with st:=z,old:=a.1 } { CBc with old:=bo }).gr (Gr.refl _).dr)
  have K2:Hid (Kx x W ((((((wc.setCell ⟨x.bc,x.oc+x.who.toNat*13+8,none⟩ (.int .i64 c.since)).setCell ⟨x.bc,x.oc+x.who.toNat*13+8+1,none⟩ (.bool z)).setCell ⟨x.bc,x.oc+x.who.toNat*13+8+2,none⟩ (.bool c.aw)).setCell ⟨x.bc,x.oc+x.who.toNat*13+8+3,none⟩ (.int .i64 c.rounds)).setCell ⟨x.bc,x.oc+x.who.toNat*13+8+4,none⟩ (.int .i64 a.1)).drew)):=hid (((((((Kx.gr HG.out).trans (Kx.st (.inr (.inl rfl)) _)).trans (Kx.st (.inr (.inl rfl)) _)).trans (Kx.st (.inr (.inl rfl)) _)).trans (Kx.st (.inr (.inl rfl)) _)).trans (Kx.st (.inr (.inl rfl)) _)).trans (Kx.gr (Gr.refl _).dr))
  have B2:Blk ((((((wc.setCell ⟨x.bc,x.oc+x.who.toNat*13+8,none⟩ (.int .i64 c.since)).setCell ⟨x.bc,x.oc+x.who.toNat*13+8+1,none⟩ (.bool z)).setCell ⟨x.bc,x.oc+x.who.toNat*13+8+2,none⟩ (.bool c.aw)).setCell ⟨x.bc,x.oc+x.who.toNat*13+8+3,none⟩ (.int .i64 c.rounds)).setCell ⟨x.bc,x.oc+x.who.toNat*13+8+4,none⟩ (.int .i64 a.1)).drew) g #[.int .i64 c.since,.bool z,.bool c.aw,.int .i64 c.rounds,.int .i64 a.1] 53:=(((((((((((HB.out).st (p:=⟨x.bc,x.oc+x.who.toNat*13+8,none⟩) nb (.int .i64 c.since))).st (p:=⟨x.bc,x.oc+x.who.toNat*13+8+1,none⟩) nb (.bool z))).st (p:=⟨x.bc,x.oc+x.who.toNat*13+8+2,none⟩) nb (.bool c.aw))).st (p:=⟨x.bc,x.oc+x.who.toNat*13+8+3,none⟩) nb (.int .i64 c.rounds))).st (p:=⟨x.bc,x.oc+x.who.toNat*13+8+4,none⟩) nb (.int .i64 a.1))).gr (Gr.refl _).dr
  generalize (((((wc.setCell ⟨x.bc,x.oc+x.who.toNat*13+8,none⟩ (.int .i64 c.since)).setCell ⟨x.bc,x.oc+x.who.toNat*13+8+1,none⟩ (.bool z)).setCell ⟨x.bc,x.oc+x.who.toNat*13+8+2,none⟩ (.bool c.aw)).setCell ⟨x.bc,x.oc+x.who.toNat*13+8+3,none⟩ (.int .i64 c.rounds)).setCell ⟨x.bc,x.oc+x.who.toNat*13+8+4,none⟩ (.int .i64 a.1)).drew=v7 at H2 K2 B2 ⊢
  have hc7:(cl.set x.who.toNat { c with st:=z,old:=a.1 })[x.who.toNat]?=some { c with st:=z,old:=a.1 }:=by rw [List.getElem?_set_self (List.getElem?_eq_some_iff.1 hc).1]
  have h2:=H2.out
  have n1:=h2.n1
  have n1':=h2.n1.symm
  obtain⟨-,-,-,-,-,-,-,n7,-,-,-,-⟩:=h2.cells
  obtain⟨-,-,-,o3,-,-,-,-,-,-,-,-,-,sz⟩:=h2.cl_ hc7
  have y3:=sz 3 (by decide)
  clear sz
  dsimp only at o3
  obtain⟨f0,-⟩:=B2.at_ (k:=0) rfl
  obtain⟨f1,-⟩:=B2.at_ (k:=1) rfl
  obtain⟨f2,-⟩:=B2.at_ (k:=2) rfl
  obtain⟨f3,-⟩:=B2.at_ (k:=3) rfl
  obtain⟨f4,-⟩:=B2.at_ (k:=4) rfl
  clear h2 B2
  refine hK.out _ _ ⟨n7,f0,f1,f2,f3,f4⟩ (λ hS=>?_)
  clear hK K
  try simp only [pL]
  refine wpAnyH_done (by kernel_rfl) ?_ _
  clear hS l7 m8 m9 m10 m11 m12 y8 y9 y10 y11 y12 e0 e1 e2 e3 e4 f0 f1 f2 f3 f4
  go_wp2_with fail
  (first | go_end0 | ((try simp only [Exit.inBlock,Exit.then]);refine bodyPost_ret (results_none rfl _ _ _) rfl ?_))
  have h9:=H2.out.putC2 hc 3 (.int .i64 2) { c with st:=z,old:=a.1,pc:=2 } rfl (by decide) { CBc with old:=bo,pc:=(show B64 2 from ⟨by omega,by omega⟩) }
  exact⟨rfl,h9.putC2 hc 3 (.int .i64 8) { c with st:=z,old:=a.1,pc:=8 } rfl (by decide) { CBc with old:=bo,pc:=(show B64 8 from ⟨by omega,by omega⟩) },(K2.out.trans (Kx.st (.inr (.inl rfl)) _)).trans (Kx.st (.inr (.inl rfl)) _)⟩
theorem wake_b (h:TS x W T E cl mx tb ev) (hR:Rn x cl c pr) (h0:0<=x.n) (h4:x.n<4) (ha:mx[x.n.toNat]?=some a) (hO:OwnR c) (hu:P4.Tm x.now) (hk:OkW a.1) (hS:(wd a.1).S=false) :
 Calls Tryz.prog 106 #[.pointer (some ⟨x.b,0,none⟩)] W λ e W'=>e=.returned (.tuple #[])/\TS x W' T E (cl.set x.who.toNat { c with st:=c.st||late c.since x.now,aw:=true,rounds:=0,old:=a.1,pc:=2 }) mx tb ev/\Kx x W W':=by
 have hc:=hR.hc
 have CBc:=h.cb c (List.mem_of_getElem? hc)
 have bo:B64 a.1:=(h.mb a (List.mem_of_getElem? ha)).1
 have H:=hid h
 have cm:=λ W' (g:Gr W W')=>hid (mutex_gr (h.gr g) h0 h4)
 have cw:=λ W=>hid (Wake_b hO hu hk hS W)
 obtain⟨z,hz⟩:∃ z,(c.st||late c.since x.now)=z:=⟨_,rfl⟩
 rw [hz] at cw ⊢
 obtain⟨pc0,-,-,-,-,-,-,pc7,-,-,-,-⟩:=h.cells
 obtain⟨pm0,-,-,-⟩:=h.mx_ ha
 obtain⟨-,-,-,-,-,-,-,-,ps8,ps9,ps10,ps11,ps12,-⟩:=h.cl_ hc
 clear h hS hk hu hO hz
 go_enter Tryz.func106,Tryz.ntmps106
 go_upto_region 0 with fail
 go_cut [2,3] (λ t v wx=>∃ g,t=.pointer (some ⟨g,0,none⟩)/\v=.bool false/\Blk wx g #[.int .i64 c.since,.bool z,.bool true,.int .i64 0,.int .i64 a.1] 53/\Gr W wx/\W.heap.size<=g)
 case first =>
  refine wp_region_held_drew (S:=(λ w'=>w'.cell? ⟨x.b,7,none⟩=some (.pointer (some ⟨x.bc,x.oc+x.who.toNat*13,none⟩))/\w'.cell? ⟨x.b,0,none⟩=some (.int .i64 x.now)/\w'.cell? ⟨x.bm,x.om+x.n.toNat*3,none⟩=some (.int .i64 a.1)/\w'.cell? ⟨x.bc,x.oc+x.who.toNat*13+8,none⟩=some (.int .i64 c.since)/\w'.cell? ⟨x.bc,x.oc+x.who.toNat*13+8+1,none⟩=some (.bool c.st)/\w'.cell? ⟨x.bc,x.oc+x.who.toNat*13+8+2,none⟩=some (.bool c.aw)/\w'.cell? ⟨x.bc,x.oc+x.who.toNat*13+8+3,none⟩=some (.int .i64 c.rounds)/\w'.cell? ⟨x.bc,x.oc+x.who.toNat*13+8+4,none⟩=some (.int .i64 c.old))) (by kernel_rfl) ⟨pc7,pc0,pm0,ps8,ps9,ps10,ps11,ps12⟩ (λ hS=>?_)
  refine wG 0 hS ?_
  refine wG 1 hS ?_
  refine wG 2 hS ?_
  refine wG 3 hS ?_
  refine wG 4 hS ?_
  refine wG 5 hS ?_
  refine wG 6 hS ?_
  refine wG 7 hS ?_
  refine wG 8 hS ?_
  refine wG 9 hS ?_
  refine wG 10 hS ?_
  refine wG 11 hS ?_
  refine wG 12 hS ?_
  refine wR2 13 25 (λ K hK=>?_) (λ K hK=>?_)
  . skip
    go_simp;go_at_call 132;with_reducible refine (cm _ ((Gr.refl W).dr)).out.mono ?_;rintro ee v1 ⟨rfl,g9⟩;go_wp2_with fail
    have G1:=hid (((Gr.refl W).dr).trans g9)
    clear g9
    have h1:=H.out.gr G1.out
    obtain⟨p1_c0,-,-,-,-,-,-,p1_c7,-,-,-,-⟩:=h1.cells
    obtain⟨p1_m0,-,-,-⟩:=h1.mx_ ha
    obtain⟨-,-,-,-,-,-,-,-,p1_s8,p1_s9,p1_s10,p1_s11,p1_s12,-⟩:=h1.cl_ hc
    clear h1
    refine hK.out _ _ ⟨p1_c7,p1_c0,p1_m0,p1_s8,p1_s9,p1_s10,p1_s11,p1_s12⟩ (λ hS=>?_)
    clear hK K
    try simp only [pL]
    refine wG 14 hS ?_
    refine wG 15 hS ?_
    refine wG 16 hS ?_
    refine wR2 17 25 (λ K hK=>?_) (λ K hK=>?_)
    . skip
      go_simp;go_at_call 154;with_reducible refine (cw _).out.mono ?_;rintro ee v2 ⟨rfl,g9⟩;go_wp2_with fail
      have G2:=hid (G1.out.trans g9)
      clear g9
      have h2:=H.out.gr G2.out
      obtain⟨p2_c0,-,-,-,-,-,-,p2_c7,-,-,-,-⟩:=h2.cells
      obtain⟨p2_m0,-,-,-⟩:=h2.mx_ ha
      obtain⟨-,-,-,-,-,-,-,-,p2_s8,p2_s9,p2_s10,p2_s11,p2_s12,-⟩:=h2.cl_ hc
      clear h2
      refine hK.out _ _ ⟨p2_c7,p2_c0,p2_m0,p2_s8,p2_s9,p2_s10,p2_s11,p2_s12⟩ (λ hS=>?_)
      clear hK K
      try simp only [pL]
      refine wG 18 hS ?_
      refine wG 19 hS ?_
      refine wG 20 hS ?_
      refine wR2 21 25 (λ K hK=>?_) (λ K hK=>?_)
      . skip
        go_simp;go_at_call 144;with_reducible refine (bothOB_yes _ _ _ _ _ _ _).mono ?_;rintro ee v3 ⟨rfl,g9⟩;go_wp2_with fail
        have G3:=hid (G2.out.trans g9)
        clear g9
        have h3:=H.out.gr G3.out
        obtain⟨p3_c0,-,-,-,-,-,-,p3_c7,-,-,-,-⟩:=h3.cells
        obtain⟨p3_m0,-,-,-⟩:=h3.mx_ ha
        obtain⟨-,-,-,-,-,-,-,-,p3_s8,p3_s9,p3_s10,p3_s11,p3_s12,-⟩:=h3.cl_ hc
        clear h3
        refine hK.out _ _ ⟨p3_c7,p3_c0,p3_m0,p3_s8,p3_s9,p3_s10,p3_s11,p3_s12⟩ (λ hS=>?_)
        clear hK K
        try simp only [pL]
        refine wG 22 hS ?_
        refine wG 23 hS ?_
        refine wG 24 hS ?_
        refine wR1 25 (λ K hK=>?_)
        go_simp
        have B4:=Blk.new v3 #[.int .i64 0,.bool false,.bool false,.int .i64 0,.int .i64 0] 53
        have G4:Hid (Gr W _):=hid (G3.out.al (.cells #[.int .i64 0,.bool false,.bool false,.int .i64 0,.int .i64 0] 53))
        have hl:W.heap.size<=v3.heap.size:=G3.out.size
        obtain⟨g,hg⟩:∃ g,v3.heap.size=g:=⟨_,rfl⟩
        have hgl:W.heap.size<=g:=by rw [<- hg];exact hl
        rw [hg] at B4
        generalize v3.alloc (.cells #[.int .i64 0,.bool false,.bool false,.int .i64 0,.int .i64 0] 53)=v4 at B4 G4 ⊢
        try rw [hg]
        clear hg hl
        have h4:=H.out.gr G4.out
        obtain⟨p4_c0,-,-,-,-,-,-,p4_c7,-,-,-,-⟩:=h4.cells
        obtain⟨p4_m0,-,-,-⟩:=h4.mx_ ha
        obtain⟨-,-,-,-,-,-,-,-,p4_s8,p4_s9,p4_s10,p4_s11,p4_s12,-⟩:=h4.cl_ hc
        clear h4
        refine hK.out _ _ ⟨p4_c7,p4_c0,p4_m0,p4_s8,p4_s9,p4_s10,p4_s11,p4_s12⟩ (λ hS=>?_)
        clear hK K
        try simp only [pL]
        refine wR1 26 (λ K hK=>?_)
        obtain⟨e0,z0⟩:=B4.at_ (k:=0) rfl
        obtain⟨e1,z1⟩:=B4.at_ (k:=1) rfl
        obtain⟨e2,z2⟩:=B4.at_ (k:=2) rfl
        obtain⟨e3,z3⟩:=B4.at_ (k:=3) rfl
        obtain⟨e4,z4⟩:=B4.at_ (k:=4) rfl
        go_simp
        have B5:Blk (((((v4.setCell ⟨g,0,none⟩ (.int .i64 c.since)).setCell ⟨g,1,none⟩ (.bool z)).setCell ⟨g,2,none⟩ (.bool true)).setCell ⟨g,3,none⟩ (.int .i64 0)).setCell ⟨g,4,none⟩ (.int .i64 a.1)) g #[.int .i64 c.since,.bool z,.bool true,.int .i64 0,.int .i64 a.1] 53:=(((((B4.set 0 (.int .i64 c.since)).set 1 (.bool z)).set 2 (.bool true)).set 3 (.int .i64 0)).set 4 (.int .i64 a.1))
        have G5:Hid (Gr W (((((v4.setCell ⟨g,0,none⟩ (.int .i64 c.since)).setCell ⟨g,1,none⟩ (.bool z)).setCell ⟨g,2,none⟩ (.bool true)).setCell ⟨g,3,none⟩ (.int .i64 0)).setCell ⟨g,4,none⟩ (.int .i64 a.1))):=hid (((((G4.out.st (p:=⟨g,0,none⟩) hgl (.int .i64 c.since)).st (p:=⟨g,1,none⟩) hgl (.bool z)).st (p:=⟨g,2,none⟩) hgl (.bool true)).st (p:=⟨g,3,none⟩) hgl (.int .i64 0)).st (p:=⟨g,4,none⟩) hgl (.int .i64 a.1))
        clear e0 e1 e2 e3 e4 z0 z1 z2 z3 z4
        generalize (((((v4.setCell ⟨g,0,none⟩ (.int .i64 c.since)).setCell ⟨g,1,none⟩ (.bool z)).setCell ⟨g,2,none⟩ (.bool true)).setCell ⟨g,3,none⟩ (.int .i64 0)).setCell ⟨g,4,none⟩ (.int .i64 a.1))=v5 at B5 G5 ⊢
        have h5:=H.out.gr G5.out
        obtain⟨p5_c0,-,-,-,-,-,-,p5_c7,-,-,-,-⟩:=h5.cells
        obtain⟨p5_m0,-,-,-⟩:=h5.mx_ ha
        obtain⟨-,-,-,-,-,-,-,-,p5_s8,p5_s9,p5_s10,p5_s11,p5_s12,-⟩:=h5.cl_ hc
        clear h5
        refine hK.out _ _ ⟨p5_c7,p5_c0,p5_m0,p5_s8,p5_s9,p5_s10,p5_s11,p5_s12⟩ (λ hS=>?_)
        clear hK K
        try simp only [pL]
        refine wG 27 hS ?_
        refine wpAnyH_done (by kernel_rfl) ?_ _
        go_wp2_with fail
        go_meet
        exact⟨g,rfl,rfl,B5,G5.out,hgl⟩
      . skip
        go_simp
        have B3:=Blk.new v2 #[.int .i64 0,.bool false,.bool false,.int .i64 0,.int .i64 0] 53
        have G3:Hid (Gr W _):=hid (G2.out.al (.cells #[.int .i64 0,.bool false,.bool false,.int .i64 0,.int .i64 0] 53))
        have hl:W.heap.size<=v2.heap.size:=G2.out.size
        obtain⟨g,hg⟩:∃ g,v2.heap.size=g:=⟨_,rfl⟩
        have hgl:W.heap.size<=g:=by rw [<- hg];exact hl
        rw [hg] at B3
        generalize v2.alloc (.cells #[.int .i64 0,.bool false,.bool false,.int .i64 0,.int .i64 0] 53)=v3 at B3 G3 ⊢
        try rw [hg]
        clear hg hl
        have h3:=H.out.gr G3.out
        obtain⟨p3_c0,-,-,-,-,-,-,p3_c7,-,-,-,-⟩:=h3.cells
        obtain⟨p3_m0,-,-,-⟩:=h3.mx_ ha
        obtain⟨-,-,-,-,-,-,-,-,p3_s8,p3_s9,p3_s10,p3_s11,p3_s12,-⟩:=h3.cl_ hc
        clear h3
        refine hK.out _ _ ⟨p3_c7,p3_c0,p3_m0,p3_s8,p3_s9,p3_s10,p3_s11,p3_s12⟩ (λ hS=>?_)
        clear hK K
        try simp only [pL]
        refine wR1 21 (λ K hK=>?_)
        go_simp;go_at_call 144;with_reducible refine (bothOB_yes _ _ _ _ _ _ _).mono ?_;rintro ee v4 ⟨rfl,g9⟩;go_wp2_with fail
        have G4:=hid (G3.out.trans g9)
        have B4:=B3.gr g9
        clear g9
        have h4:=H.out.gr G4.out
        obtain⟨p4_c0,-,-,-,-,-,-,p4_c7,-,-,-,-⟩:=h4.cells
        obtain⟨p4_m0,-,-,-⟩:=h4.mx_ ha
        obtain⟨-,-,-,-,-,-,-,-,p4_s8,p4_s9,p4_s10,p4_s11,p4_s12,-⟩:=h4.cl_ hc
        clear h4
        refine hK.out _ _ ⟨p4_c7,p4_c0,p4_m0,p4_s8,p4_s9,p4_s10,p4_s11,p4_s12⟩ (λ hS=>?_)
        clear hK K
        try simp only [pL]
        refine wG 22 hS ?_
        refine wG 23 hS ?_
        refine wG 24 hS ?_
        refine wR1 26 (λ K hK=>?_)
        obtain⟨e0,z0⟩:=B4.at_ (k:=0) rfl
        obtain⟨e1,z1⟩:=B4.at_ (k:=1) rfl
        obtain⟨e2,z2⟩:=B4.at_ (k:=2) rfl
        obtain⟨e3,z3⟩:=B4.at_ (k:=3) rfl
        obtain⟨e4,z4⟩:=B4.at_ (k:=4) rfl
        go_simp
        have B5:Blk (((((v4.setCell ⟨g,0,none⟩ (.int .i64 c.since)).setCell ⟨g,1,none⟩ (.bool z)).setCell ⟨g,2,none⟩ (.bool true)).setCell ⟨g,3,none⟩ (.int .i64 0)).setCell ⟨g,4,none⟩ (.int .i64 a.1)) g #[.int .i64 c.since,.bool z,.bool true,.int .i64 0,.int .i64 a.1] 53:=(((((B4.set 0 (.int .i64 c.since)).set 1 (.bool z)).set 2 (.bool true)).set 3 (.int .i64 0)).set 4 (.int .i64 a.1))
        have G5:Hid (Gr W (((((v4.setCell ⟨g,0,none⟩ (.int .i64 c.since)).setCell ⟨g,1,none⟩ (.bool z)).setCell ⟨g,2,none⟩ (.bool true)).setCell ⟨g,3,none⟩ (.int .i64 0)).setCell ⟨g,4,none⟩ (.int .i64 a.1))):=hid (((((G4.out.st (p:=⟨g,0,none⟩) hgl (.int .i64 c.since)).st (p:=⟨g,1,none⟩) hgl (.bool z)).st (p:=⟨g,2,none⟩) hgl (.bool true)).st (p:=⟨g,3,none⟩) hgl (.int .i64 0)).st (p:=⟨g,4,none⟩) hgl (.int .i64 a.1))
        clear e0 e1 e2 e3 e4 z0 z1 z2 z3 z4
        generalize (((((v4.setCell ⟨g,0,none⟩ (.int .i64 c.since)).setCell ⟨g,1,none⟩ (.bool z)).setCell ⟨g,2,none⟩ (.bool true)).setCell ⟨g,3,none⟩ (.int .i64 0)).setCell ⟨g,4,none⟩ (.int .i64 a.1))=v5 at B5 G5 ⊢
        have h5:=H.out.gr G5.out
        obtain⟨p5_c0,-,-,-,-,-,-,p5_c7,-,-,-,-⟩:=h5.cells
        obtain⟨p5_m0,-,-,-⟩:=h5.mx_ ha
        obtain⟨-,-,-,-,-,-,-,-,p5_s8,p5_s9,p5_s10,p5_s11,p5_s12,-⟩:=h5.cl_ hc
        clear h5
        refine hK.out _ _ ⟨p5_c7,p5_c0,p5_m0,p5_s8,p5_s9,p5_s10,p5_s11,p5_s12⟩ (λ hS=>?_)
        clear hK K
        try simp only [pL]
        refine wG 27 hS ?_
        refine wpAnyH_done (by kernel_rfl) ?_ _
        go_wp2_with fail
        go_meet
        exact⟨g,rfl,rfl,B5,G5.out,hgl⟩
    . skip
      go_simp
      have B2:=Blk.new v1 #[.int .i64 0,.bool false,.bool false,.int .i64 0,.int .i64 0] 53
      have G2:Hid (Gr W _):=hid (G1.out.al (.cells #[.int .i64 0,.bool false,.bool false,.int .i64 0,.int .i64 0] 53))
      have hl:W.heap.size<=v1.heap.size:=G1.out.size
      obtain⟨g,hg⟩:∃ g,v1.heap.size=g:=⟨_,rfl⟩
      have hgl:W.heap.size<=g:=by rw [<- hg];exact hl
      rw [hg] at B2
      generalize v1.alloc (.cells #[.int .i64 0,.bool false,.bool false,.int .i64 0,.int .i64 0] 53)=v2 at B2 G2 ⊢
      try rw [hg]
      clear hg hl
      have h2:=H.out.gr G2.out
      obtain⟨p2_c0,-,-,-,-,-,-,p2_c7,-,-,-,-⟩:=h2.cells
      obtain⟨p2_m0,-,-,-⟩:=h2.mx_ ha
      obtain⟨-,-,-,-,-,-,-,-,p2_s8,p2_s9,p2_s10,p2_s11,p2_s12,-⟩:=h2.cl_ hc
      clear h2
      refine hK.out _ _ ⟨p2_c7,p2_c0,p2_m0,p2_s8,p2_s9,p2_s10,p2_s11,p2_s12⟩ (λ hS=>?_)
      clear hK K
      try simp only [pL]
      refine wR1 17 (λ K hK=>?_)
      go_simp;go_at_call 154;with_reducible refine (cw _).out.mono ?_;rintro ee v3 ⟨rfl,g9⟩;go_wp2_with fail
      have G3:=hid (G2.out.trans g9)
      have B3:=B2.gr g9
      clear g9
      have h3:=H.out.gr G3.out
      obtain⟨p3_c0,-,-,-,-,-,-,p3_c7,-,-,-,-⟩:=h3.cells
      obtain⟨p3_m0,-,-,-⟩:=h3.mx_ ha
      obtain⟨-,-,-,-,-,-,-,-,p3_s8,p3_s9,p3_s10,p3_s11,p3_s12,-⟩:=h3.cl_ hc
      clear h3
      refine hK.out _ _ ⟨p3_c7,p3_c0,p3_m0,p3_s8,p3_s9,p3_s10,p3_s11,p3_s12⟩ (λ hS=>?_)
      clear hK K
      try simp only [pL]
      refine wG 18 hS ?_
      refine wG 19 hS ?_
      refine wG 20 hS ?_
      refine wR1 21 (λ K hK=>?_)
      go_simp;go_at_call 144;with_reducible refine (bothOB_yes _ _ _ _ _ _ _).mono ?_;rintro ee v4 ⟨rfl,g9⟩;go_wp2_with fail
      have G4:=hid (G3.out.trans g9)
      have B4:=B3.gr g9
      clear g9
      have h4:=H.out.gr G4.out
      obtain⟨p4_c0,-,-,-,-,-,-,p4_c7,-,-,-,-⟩:=h4.cells
      obtain⟨p4_m0,-,-,-⟩:=h4.mx_ ha
      obtain⟨-,-,-,-,-,-,-,-,p4_s8,p4_s9,p4_s10,p4_s11,p4_s12,-⟩:=h4.cl_ hc
      clear h4
      refine hK.out _ _ ⟨p4_c7,p4_c0,p4_m0,p4_s8,p4_s9,p4_s10,p4_s11,p4_s12⟩ (λ hS=>?_)
      clear hK K
      try simp only [pL]
      refine wG 22 hS ?_
      refine wG 23 hS ?_
      refine wG 24 hS ?_
      refine wR1 26 (λ K hK=>?_)
      obtain⟨e0,z0⟩:=B4.at_ (k:=0) rfl
      obtain⟨e1,z1⟩:=B4.at_ (k:=1) rfl
      obtain⟨e2,z2⟩:=B4.at_ (k:=2) rfl
      obtain⟨e3,z3⟩:=B4.at_ (k:=3) rfl
      obtain⟨e4,z4⟩:=B4.at_ (k:=4) rfl
      go_simp
      have B5:Blk (((((v4.setCell ⟨g,0,none⟩ (.int .i64 c.since)).setCell ⟨g,1,none⟩ (.bool z)).setCell ⟨g,2,none⟩ (.bool true)).setCell ⟨g,3,none⟩ (.int .i64 0)).setCell ⟨g,4,none⟩ (.int .i64 a.1)) g #[.int .i64 c.since,.bool z,.bool true,.int .i64 0,.int .i64 a.1] 53:=(((((B4.set 0 (.int .i64 c.since)).set 1 (.bool z)).set 2 (.bool true)).set 3 (.int .i64 0)).set 4 (.int .i64 a.1))
      have G5:Hid (Gr W (((((v4.setCell ⟨g,0,none⟩ (.int .i64 c.since)).setCell ⟨g,1,none⟩ (.bool z)).setCell ⟨g,2,none⟩ (.bool true)).setCell ⟨g,3,none⟩ (.int .i64 0)).setCell ⟨g,4,none⟩ (.int .i64 a.1))):=hid (((((G4.out.st (p:=⟨g,0,none⟩) hgl (.int .i64 c.since)).st (p:=⟨g,1,none⟩) hgl (.bool z)).st (p:=⟨g,2,none⟩) hgl (.bool true)).st (p:=⟨g,3,none⟩) hgl (.int .i64 0)).st (p:=⟨g,4,none⟩) hgl (.int .i64 a.1))
      clear e0 e1 e2 e3 e4 z0 z1 z2 z3 z4
      generalize (((((v4.setCell ⟨g,0,none⟩ (.int .i64 c.since)).setCell ⟨g,1,none⟩ (.bool z)).setCell ⟨g,2,none⟩ (.bool true)).setCell ⟨g,3,none⟩ (.int .i64 0)).setCell ⟨g,4,none⟩ (.int .i64 a.1))=v5 at B5 G5 ⊢
      have h5:=H.out.gr G5.out
      obtain⟨p5_c0,-,-,-,-,-,-,p5_c7,-,-,-,-⟩:=h5.cells
      obtain⟨p5_m0,-,-,-⟩:=h5.mx_ ha
      obtain⟨-,-,-,-,-,-,-,-,p5_s8,p5_s9,p5_s10,p5_s11,p5_s12,-⟩:=h5.cl_ hc
      clear h5
      refine hK.out _ _ ⟨p5_c7,p5_c0,p5_m0,p5_s8,p5_s9,p5_s10,p5_s11,p5_s12⟩ (λ hS=>?_)
      clear hK K
      try simp only [pL]
      refine wG 27 hS ?_
      refine wpAnyH_done (by kernel_rfl) ?_ _
      go_wp2_with fail
      go_meet
      exact⟨g,rfl,rfl,B5,G5.out,hgl⟩
  . skip
    go_simp
    have B1:=(Blk.new W #[.int .i64 0,.bool false,.bool false,.int .i64 0,.int .i64 0] 53).gr (Gr.refl _).dr
    have G1:Hid (Gr W _):=hid ((Gr.refl W).al (.cells #[.int .i64 0,.bool false,.bool false,.int .i64 0,.int .i64 0] 53)).dr
    obtain⟨g,hg⟩:∃ g,W.heap.size=g:=⟨_,rfl⟩
    have hgl:W.heap.size<=g:=Nat.le_of_eq hg
    rw [hg] at B1
    generalize (W.alloc (.cells #[.int .i64 0,.bool false,.bool false,.int .i64 0,.int .i64 0] 53)).drew=v1 at B1 G1 ⊢
    try rw [hg]
    clear hg
    have h1:=H.out.gr G1.out
    obtain⟨p1_c0,-,-,-,-,-,-,p1_c7,-,-,-,-⟩:=h1.cells
    obtain⟨p1_m0,-,-,-⟩:=h1.mx_ ha
    obtain⟨-,-,-,-,-,-,-,-,p1_s8,p1_s9,p1_s10,p1_s11,p1_s12,-⟩:=h1.cl_ hc
    clear h1
    refine hK.out _ _ ⟨p1_c7,p1_c0,p1_m0,p1_s8,p1_s9,p1_s10,p1_s11,p1_s12⟩ (λ hS=>?_)
    clear hK K
    try simp only [pL]
    refine wR1 13 (λ K hK=>?_)
    go_simp;go_at_call 132;with_reducible refine (cm _ G1.out).out.mono ?_;rintro ee v2 ⟨rfl,g9⟩;go_wp2_with fail
    have G2:=hid (G1.out.trans g9)
    have B2:=B1.gr g9
    clear g9
    have h2:=H.out.gr G2.out
    obtain⟨p2_c0,-,-,-,-,-,-,p2_c7,-,-,-,-⟩:=h2.cells
    obtain⟨p2_m0,-,-,-⟩:=h2.mx_ ha
    obtain⟨-,-,-,-,-,-,-,-,p2_s8,p2_s9,p2_s10,p2_s11,p2_s12,-⟩:=h2.cl_ hc
    clear h2
    refine hK.out _ _ ⟨p2_c7,p2_c0,p2_m0,p2_s8,p2_s9,p2_s10,p2_s11,p2_s12⟩ (λ hS=>?_)
    clear hK K
    try simp only [pL]
    refine wG 14 hS ?_
    refine wG 15 hS ?_
    refine wG 16 hS ?_
    refine wR1 17 (λ K hK=>?_)
    go_simp;go_at_call 154;with_reducible refine (cw _).out.mono ?_;rintro ee v3 ⟨rfl,g9⟩;go_wp2_with fail
    have G3:=hid (G2.out.trans g9)
    have B3:=B2.gr g9
    clear g9
    have h3:=H.out.gr G3.out
    obtain⟨p3_c0,-,-,-,-,-,-,p3_c7,-,-,-,-⟩:=h3.cells
    obtain⟨p3_m0,-,-,-⟩:=h3.mx_ ha
    obtain⟨-,-,-,-,-,-,-,-,p3_s8,p3_s9,p3_s10,p3_s11,p3_s12,-⟩:=h3.cl_ hc
    clear h3
    refine hK.out _ _ ⟨p3_c7,p3_c0,p3_m0,p3_s8,p3_s9,p3_s10,p3_s11,p3_s12⟩ (λ hS=>?_)
    clear hK K
    try simp only [pL]
    refine wG 18 hS ?_
    refine wG 19 hS ?_
    refine wG 20 hS ?_
    refine wR1 21 (λ K hK=>?_)
    go_simp;go_at_call 144;with_reducible refine (bothOB_yes _ _ _ _ _ _ _).mono ?_;rintro ee v4 ⟨rfl,g9⟩;go_wp2_with fail
    have G4:=hid (G3.out.trans g9)
    have B4:=B3.gr g9
    clear g9
    have h4:=H.out.gr G4.out
    obtain⟨p4_c0,-,-,-,-,-,-,p4_c7,-,-,-,-⟩:=h4.cells
    obtain⟨p4_m0,-,-,-⟩:=h4.mx_ ha
    obtain⟨-,-,-,-,-,-,-,-,p4_s8,p4_s9,p4_s10,p4_s11,p4_s12,-⟩:=h4.cl_ hc
    clear h4
    refine hK.out _ _ ⟨p4_c7,p4_c0,p4_m0,p4_s8,p4_s9,p4_s10,p4_s11,p4_s12⟩ (λ hS=>?_)
    clear hK K
    try simp only [pL]
    refine wG 22 hS ?_
    refine wG 23 hS ?_
    refine wG 24 hS ?_
    refine wR1 26 (λ K hK=>?_)
    obtain⟨e0,z0⟩:=B4.at_ (k:=0) rfl
    obtain⟨e1,z1⟩:=B4.at_ (k:=1) rfl
    obtain⟨e2,z2⟩:=B4.at_ (k:=2) rfl
    obtain⟨e3,z3⟩:=B4.at_ (k:=3) rfl
    obtain⟨e4,z4⟩:=B4.at_ (k:=4) rfl
    go_simp
    have B5:Blk (((((v4.setCell ⟨g,0,none⟩ (.int .i64 c.since)).setCell ⟨g,1,none⟩ (.bool z)).setCell ⟨g,2,none⟩ (.bool true)).setCell ⟨g,3,none⟩ (.int .i64 0)).setCell ⟨g,4,none⟩ (.int .i64 a.1)) g #[.int .i64 c.since,.bool z,.bool true,.int .i64 0,.int .i64 a.1] 53:=(((((B4.set 0 (.int .i64 c.since)).set 1 (.bool z)).set 2 (.bool true)).set 3 (.int .i64 0)).set 4 (.int .i64 a.1))
    have G5:Hid (Gr W (((((v4.setCell ⟨g,0,none⟩ (.int .i64 c.since)).setCell ⟨g,1,none⟩ (.bool z)).setCell ⟨g,2,none⟩ (.bool true)).setCell ⟨g,3,none⟩ (.int .i64 0)).setCell ⟨g,4,none⟩ (.int .i64 a.1))):=hid (((((G4.out.st (p:=⟨g,0,none⟩) hgl (.int .i64 c.since)).st (p:=⟨g,1,none⟩) hgl (.bool z)).st (p:=⟨g,2,none⟩) hgl (.bool true)).st (p:=⟨g,3,none⟩) hgl (.int .i64 0)).st (p:=⟨g,4,none⟩) hgl (.int .i64 a.1))
    clear e0 e1 e2 e3 e4 z0 z1 z2 z3 z4
    generalize (((((v4.setCell ⟨g,0,none⟩ (.int .i64 c.since)).setCell ⟨g,1,none⟩ (.bool z)).setCell ⟨g,2,none⟩ (.bool true)).setCell ⟨g,3,none⟩ (.int .i64 0)).setCell ⟨g,4,none⟩ (.int .i64 a.1))=v5 at B5 G5 ⊢
    have h5:=H.out.gr G5.out
    obtain⟨p5_c0,-,-,-,-,-,-,p5_c7,-,-,-,-⟩:=h5.cells
    obtain⟨p5_m0,-,-,-⟩:=h5.mx_ ha
    obtain⟨-,-,-,-,-,-,-,-,p5_s8,p5_s9,p5_s10,p5_s11,p5_s12,-⟩:=h5.cl_ hc
    clear h5
    refine hK.out _ _ ⟨p5_c7,p5_c0,p5_m0,p5_s8,p5_s9,p5_s10,p5_s11,p5_s12⟩ (λ hS=>?_)
    clear hK K
    try simp only [pL]
    refine wG 27 hS ?_
    refine wpAnyH_done (by kernel_rfl) ?_ _
    go_wp2_with fail
    go_meet
    exact⟨g,rfl,rfl,B5,G5.out,hgl⟩
 case rest =>
  obtain⟨g,rfl,rfl,B,G,hgl⟩:=hcut
  have h1:=H.out.gr G
  obtain⟨-,-,-,-,-,-,-,l7,-,-,-,-⟩:=h1.cells
  obtain⟨-,-,-,-,-,-,-,-,m8,m9,m10,m11,m12,sz⟩:=h1.cl_ hc
  have y8:=sz 8 (by decide)
  have y9:=sz 9 (by decide)
  have y10:=sz 10 (by decide)
  have y11:=sz 11 (by decide)
  have y12:=sz 12 (by decide)
  clear sz
  obtain⟨e0,-⟩:=B.at_ (k:=0) rfl
  obtain⟨e1,-⟩:=B.at_ (k:=1) rfl
  obtain⟨e2,-⟩:=B.at_ (k:=2) rfl
  obtain⟨e3,-⟩:=B.at_ (k:=3) rfl
  obtain⟨e4,-⟩:=B.at_ (k:=4) rfl
  have HB:=hid B
  have HG:=hid G
  have nb:x.bc≠g:=by have:=H.out.c.lt;omega
  have nb2:x.b≠g:=by have:=H.out.t.lt;omega
  clear h1 B G cm cw
  clear pc7 pc0 pm0 ps8 ps9 ps10 ps11 ps12
  go_upto_region 1 with fail
  refine wp_region_held_drew (S:=(λ w'=>w'.cell? ⟨x.b,7,none⟩=some (.pointer (some ⟨x.bc,x.oc+x.who.toNat*13,none⟩))/\w'.cell? ⟨g,0,none⟩=some (.int .i64 c.since)/\w'.cell? ⟨g,1,none⟩=some (.bool z)/\w'.cell? ⟨g,2,none⟩=some (.bool true)/\w'.cell? ⟨g,3,none⟩=some (.int .i64 0)/\w'.cell? ⟨g,4,none⟩=some (.int .i64 a.1))) (by kernel_rfl) ⟨l7,e0,e1,e2,e3,e4⟩ (λ hS=>?_)
  refine wG 0 hS ?_
  refine wG 1 hS ?_
  refine wG 2 hS ?_
  refine wG 3 hS ?_
  refine wG 4 hS ?_
  refine wG 5 hS ?_
  refine wG 6 hS ?_
  refine wR1 7 (λ K hK=>?_)
  go_simp
  have H2:Hid (TS x ((((((wc.setCell ⟨x.bc,x.oc+x.who.toNat*13+8,none⟩ (.int .i64 c.since)).setCell ⟨x.bc,x.oc+x.who.toNat*13+8+1,none⟩ (.bool z)).setCell ⟨x.bc,x.oc+x.who.toNat*13+8+2,none⟩ (.bool true)).setCell ⟨x.bc,x.oc+x.who.toNat*13+8+3,none⟩ (.int .i64 0)).setCell ⟨x.bc,x.oc+x.who.toNat*13+8+4,none⟩ (.int .i64 a.1)).drew) T E (cl.set x.who.toNat { c with st:=z,aw:=true,rounds:=0,old:=a.1 }) mx tb ev):=hid (((H.out.gr HG.out).putO hc { c with st:=z,aw:=true,rounds:=0,old:=a.1 } { CBc with rounds:=b64_0,old:=bo }).gr (Gr.refl _).dr)
  have K2:Hid (Kx x W ((((((wc.setCell ⟨x.bc,x.oc+x.who.toNat*13+8,none⟩ (.int .i64 c.since)).setCell ⟨x.bc,x.oc+x.who.toNat*13+8+1,none⟩ (.bool z)).setCell ⟨x.bc,x.oc+x.who.toNat*13+8+2,none⟩ (.bool true)).setCell ⟨x.bc,x.oc+x.who.toNat*13+8+3,none⟩ (.int .i64 0)).setCell ⟨x.bc,x.oc+x.who.toNat*13+8+4,none⟩ (.int .i64 a.1)).drew)):=hid (((((((Kx.gr HG.out).trans (Kx.st (.inr (.inl rfl)) _)).trans (Kx.st (.inr (.inl rfl)) _)).trans (Kx.st (.inr (.inl rfl)) _)).trans (Kx.st (.inr (.inl rfl)) _)).trans (Kx.st (.inr (.inl rfl)) _)).trans (Kx.gr (Gr.refl _).dr))
  have B2:Blk ((((((wc.setCell ⟨x.bc,x.oc+x.who.toNat*13+8,none⟩ (.int .i64 c.since)).setCell ⟨x.bc,x.oc+x.who.toNat*13+8+1,none⟩ (.bool z)).setCell ⟨x.bc,x.oc+x.who.toNat*13+8+2,none⟩ (.bool true)).setCell ⟨x.bc,x.oc+x.who.toNat*13+8+3,none⟩ (.int .i64 0)).setCell ⟨x.bc,x.oc+x.who.toNat*13+8+4,none⟩ (.int .i64 a.1)).drew) g #[.int .i64 c.since,.bool z,.bool true,.int .i64 0,.int .i64 a.1] 53:=(((((((((((HB.out).st (p:=⟨x.bc,x.oc+x.who.toNat*13+8,none⟩) nb (.int .i64 c.since))).st (p:=⟨x.bc,x.oc+x.who.toNat*13+8+1,none⟩) nb (.bool z))).st (p:=⟨x.bc,x.oc+x.who.toNat*13+8+2,none⟩) nb (.bool true))).st (p:=⟨x.bc,x.oc+x.who.toNat*13+8+3,none⟩) nb (.int .i64 0))).st (p:=⟨x.bc,x.oc+x.who.toNat*13+8+4,none⟩) nb (.int .i64 a.1))).gr (Gr.refl _).dr
  generalize (((((wc.setCell ⟨x.bc,x.oc+x.who.toNat*13+8,none⟩ (.int .i64 c.since)).setCell ⟨x.bc,x.oc+x.who.toNat*13+8+1,none⟩ (.bool z)).setCell ⟨x.bc,x.oc+x.who.toNat*13+8+2,none⟩ (.bool true)).setCell ⟨x.bc,x.oc+x.who.toNat*13+8+3,none⟩ (.int .i64 0)).setCell ⟨x.bc,x.oc+x.who.toNat*13+8+4,none⟩ (.int .i64 a.1)).drew=v7 at H2 K2 B2 ⊢
  have hc7:(cl.set x.who.toNat { c with st:=z,aw:=true,rounds:=0,old:=a.1 })[x.who.toNat]?=some { c with st:=z,aw:=true,rounds:=0,old:=a.1 }:=by rw [List.getElem?_set_self (List.getElem?_eq_some_iff.1 hc).1]
  have h2:=H2.out
  have n1:=h2.n1
  have n1':=h2.n1.symm
  obtain⟨-,-,-,-,-,-,-,n7,-,-,-,-⟩:=h2.cells
  obtain⟨-,-,-,o3,-,-,-,-,-,-,-,-,-,sz⟩:=h2.cl_ hc7
  have y3:=sz 3 (by decide)
  clear sz
  dsimp only at o3
  obtain⟨f0,-⟩:=B2.at_ (k:=0) rfl
  obtain⟨f1,-⟩:=B2.at_ (k:=1) rfl
  obtain⟨f2,-⟩:=B2.at_ (k:=2) rfl
  obtain⟨f3,-⟩:=B2.at_ (k:=3) rfl
  obtain⟨f4,-⟩:=B2.at_ (k:=4) rfl
  clear h2 B2
  refine hK.out _ _ ⟨n7,f0,f1,f2,f3,f4⟩ (λ hS=>?_)
  clear hK K
  try simp only [pL]
  refine wpAnyH_done (by kernel_rfl) ?_ _
  clear hS l7 m8 m9 m10 m11 m12 y8 y9 y10 y11 y12 e0 e1 e2 e3 e4 f0 f1 f2 f3 f4
  go_wp2_with fail
  (first | go_end0 | ((try simp only [Exit.inBlock,Exit.then]);refine bodyPost_ret (results_none rfl _ _ _) rfl ?_))
  exact⟨rfl,H2.out.putC2 hc 3 _ { c with st:=z,aw:=true,rounds:=0,old:=a.1,pc:=2 } rfl (by decide) { CBc with rounds:=b64_0,old:=bo,pc:=(show B64 2 from ⟨by omega,by omega⟩) },K2.out.trans (Kx.st (.inr (.inl rfl)) _)⟩
end
end P16
end
end Go.Proofs.YtainfijdhcehlaaGreatDoor
