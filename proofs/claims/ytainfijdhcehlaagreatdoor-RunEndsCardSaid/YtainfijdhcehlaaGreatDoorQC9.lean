/-
  A part of the proof.
-/
import Derived.Test.YtainfijdhcehlaaGreatDoorQC8
set_option linter.unusedVariables false
set_option linter.unusedSimpArgs false
set_option maxRecDepth 100000
set_option maxHeartbeats 8000000
namespace Go.Proofs.YtainfijdhcehlaaGreatDoor
open Lib (hid)
open Go.Proofs.Tryz
open Go.ChangeAt Go.ChangeShapes Go.RowKit Go.Shelf Go.WideShapes
section
namespace P16
open P14 (pan)
open P12 (PV PMem)
section
variable {x:Cx} {W:World} {T E:Sl} {cl:List Cl} {mx:List T3} {tb:List Sp} {ev:List T3} {c:Cl} {a:T3} {pr:List Ac}
theorem wake_h (h:TS x W T E cl mx tb ev) (hR:Rn x cl c pr) (h0:0<=x.n) (h4:x.n<4) (ha:mx[x.n.toNat]?=some a) (hO:OwnR c) (hu:P4.Tm x.now) (hk:OkW a.1) (hS:(wd a.1).S=true) :
 Calls prog 106 #[.pointer (some ⟨x.b,0,none⟩)] W λ e W'=>e=.returned (.tuple #[])/\TS x W' T E (cl.set x.who.toNat { c with st:=c.st||late c.since x.now,old:=a.1,pc:=8 }) mx tb ev/\Kx x W W':=by
 have hc:=hR.hc;have CBc:=h.cb c (zmo hc);have bo:B64 a.1:=(h.mb a (zmo ha)).1;have H:=hid h;have cm:=λ W' (g:Gr W W')=>hid (mutex_gr (h.gr g) h0 h4)
 have cw:=λ W=>hid (Wake_h hO hu hk hS W)
 obtain⟨z,hz⟩:∃ z,(c.st||late c.since x.now)=z:=⟨_,rfl⟩;rw [hz] at cw ⊢;obtain⟨pc0,-,-,-,-,-,-,pc7,-,-,-,-⟩:=h.cells;obtain⟨pm0,-,-,-⟩:=h.mx_ ha;obtain⟨-,-,-,-,-,-,-,-,ps8,ps9,ps10,ps11,ps12,-⟩:=h.cl_ hc;clear h hS hk hu hO hz;go_enter func106,ntmps106;go_upto_region 0 with fail
 go_cut [2,3] (λ t v wx=>∃ g,t=.pointer (some ⟨g,0,none⟩)/\v=.bool true/\Blk wx g #[.int .i64 c.since,.bool z,.bool c.aw,.int .i64 c.rounds,.int .i64 a.1] 53/\Gr W wx/\W.heap.size<=g)
 case first =>
  refine wp_region_held_drew (S:=(λ w'=>w'.cell? ⟨x.b,7,none⟩=some (.pointer (some ⟨x.bc,x.oc+x.who.toNat*13,none⟩))/\w'.cell? ⟨x.b,0,none⟩=some (.int .i64 x.now)/\w'.cell? ⟨x.bm,x.om+x.n.toNat*3,none⟩=some (.int .i64 a.1)/\w'.cell? ⟨x.bc,x.oc+x.who.toNat*13+8,none⟩=some (.int .i64 c.since)/\w'.cell? ⟨x.bc,x.oc+x.who.toNat*13+8+1,none⟩=some (.bool c.st)/\w'.cell? ⟨x.bc,x.oc+x.who.toNat*13+8+2,none⟩=some (.bool c.aw)/\w'.cell? ⟨x.bc,x.oc+x.who.toNat*13+8+3,none⟩=some (.int .i64 c.rounds)/\w'.cell? ⟨x.bc,x.oc+x.who.toNat*13+8+4,none⟩=some (.int .i64 c.old))) (by kernel_rfl) ⟨pc7,pc0,pm0,ps8,ps9,ps10,ps11,ps12⟩ (λ hS=>?_);refine wG 0 hS ?_;refine wG 1 hS ?_;refine wG 2 hS ?_;refine wG 3 hS ?_;refine wG 4 hS ?_;refine wG 5 hS ?_;refine wG 6 hS ?_;refine wG 7 hS ?_;refine wG 8 hS ?_;refine wG 9 hS ?_;refine wG 10 hS ?_;refine wG 11 hS ?_;refine wG 12 hS ?_;refine wR2 13 25 (λ K hK=>?_) (λ K hK=>?_)
  . skip
    go_simp;go_at_call 132;refine (cm _ ((zr W).dr)).out.mono ?_;rintro ee v1 ⟨rfl,g9⟩;go_wp2_with fail;have G1:=hid (((zr W).dr).trans g9);clear g9;have h1:=H.out.gr G1.out;obtain⟨p1_c0,-,-,-,-,-,-,p1_c7,-,-,-,-⟩:=h1.cells;obtain⟨p1_m0,-,-,-⟩:=h1.mx_ ha;obtain⟨-,-,-,-,-,-,-,-,p1_s8,p1_s9,p1_s10,p1_s11,p1_s12,-⟩:=h1.cl_ hc;clear h1;refine hK.out _ _ ⟨p1_c7,p1_c0,p1_m0,p1_s8,p1_s9,p1_s10,p1_s11,p1_s12⟩ (λ hS=>?_);clear hK K
    try simp only [pL]
    refine wG 14 hS ?_;refine wG 15 hS ?_;refine wG 16 hS ?_;refine wR2 17 25 (λ K hK=>?_) (λ K hK=>?_)
    . skip
      go_simp;go_at_call 154;refine (cw _).out.mono ?_;rintro ee v2 ⟨rfl,g9⟩;go_wp2_with fail;have G2:=hid (G1.out.trans g9);clear g9;have h2:=H.out.gr G2.out;obtain⟨p2_c0,-,-,-,-,-,-,p2_c7,-,-,-,-⟩:=h2.cells;obtain⟨p2_m0,-,-,-⟩:=h2.mx_ ha;obtain⟨-,-,-,-,-,-,-,-,p2_s8,p2_s9,p2_s10,p2_s11,p2_s12,-⟩:=h2.cl_ hc;clear h2;refine hK.out _ _ ⟨p2_c7,p2_c0,p2_m0,p2_s8,p2_s9,p2_s10,p2_s11,p2_s12⟩ (λ hS=>?_);clear hK K
      try simp only [pL]
      refine wG 18 hS ?_;refine wG 19 hS ?_;refine wG 20 hS ?_;refine wR2 21 25 (λ K hK=>?_) (λ K hK=>?_)
      . skip
        go_simp;go_at_call 144;refine (bothOB_yes _ _ _ _ _ _ _).mono ?_;rintro ee v3 ⟨rfl,g9⟩;go_wp2_with fail;have G3:=hid (G2.out.trans g9);clear g9;have h3:=H.out.gr G3.out;obtain⟨p3_c0,-,-,-,-,-,-,p3_c7,-,-,-,-⟩:=h3.cells;obtain⟨p3_m0,-,-,-⟩:=h3.mx_ ha;obtain⟨-,-,-,-,-,-,-,-,p3_s8,p3_s9,p3_s10,p3_s11,p3_s12,-⟩:=h3.cl_ hc;clear h3;refine hK.out _ _ ⟨p3_c7,p3_c0,p3_m0,p3_s8,p3_s9,p3_s10,p3_s11,p3_s12⟩ (λ hS=>?_);clear hK K
        try simp only [pL]
        refine wG 22 hS ?_;refine wG 23 hS ?_;refine wG 24 hS ?_;refine wR1 25 (λ K hK=>?_);go_simp;have B4:=Blk.new v3 #[.int .i64 0,.bool false,.bool false,.int .i64 0,.int .i64 0] 53;have G4:Hid (Gr W _):=hid (G3.out.al (.cells #[.int .i64 0,.bool false,.bool false,.int .i64 0,.int .i64 0] 53));have hl:W.heap.size<=v3.heap.size:=G3.out.size;obtain⟨g,hg⟩:∃ g,v3.heap.size=g:=⟨_,rfl⟩;have hgl:W.heap.size<=g:=by rw [<- hg];exact hl
        rw [hg] at B4;generalize v3.alloc (.cells #[.int .i64 0,.bool false,.bool false,.int .i64 0,.int .i64 0] 53)=v4 at B4 G4 ⊢
        try rw [hg]
        clear hg hl;have h4:=H.out.gr G4.out;obtain⟨p4_c0,-,-,-,-,-,-,p4_c7,-,-,-,-⟩:=h4.cells;obtain⟨p4_m0,-,-,-⟩:=h4.mx_ ha;obtain⟨-,-,-,-,-,-,-,-,p4_s8,p4_s9,p4_s10,p4_s11,p4_s12,-⟩:=h4.cl_ hc;clear h4;refine hK.out _ _ ⟨p4_c7,p4_c0,p4_m0,p4_s8,p4_s9,p4_s10,p4_s11,p4_s12⟩ (λ hS=>?_);clear hK K
        try simp only [pL]
        refine wR1 26 (λ K hK=>?_);obtain⟨e0,z0⟩:=B4.at_ (k:=0) rfl;obtain⟨e1,z1⟩:=B4.at_ (k:=1) rfl;obtain⟨e2,z2⟩:=B4.at_ (k:=2) rfl;obtain⟨e3,z3⟩:=B4.at_ (k:=3) rfl;obtain⟨e4,z4⟩:=B4.at_ (k:=4) rfl;go_simp;have B5:Blk (((((v4.setCell ⟨g,0,none⟩ (.int .i64 c.since)).setCell ⟨g,1,none⟩ (.bool z)).setCell ⟨g,2,none⟩ (.bool c.aw)).setCell ⟨g,3,none⟩ (.int .i64 c.rounds)).setCell ⟨g,4,none⟩ (.int .i64 a.1)) g #[.int .i64 c.since,.bool z,.bool c.aw,.int .i64 c.rounds,.int .i64 a.1] 53:=(((((B4.set 0 (.int .i64 c.since)).set 1 (.bool z)).set 2 (.bool c.aw)).set 3 (.int .i64 c.rounds)).set 4 (.int .i64 a.1));have G5:Hid (Gr W (((((v4.setCell ⟨g,0,none⟩ (.int .i64 c.since)).setCell ⟨g,1,none⟩ (.bool z)).setCell ⟨g,2,none⟩ (.bool c.aw)).setCell ⟨g,3,none⟩ (.int .i64 c.rounds)).setCell ⟨g,4,none⟩ (.int .i64 a.1))):=hid (((((G4.out.st (p:=⟨g,0,none⟩) hgl (.int .i64 c.since)).st (p:=⟨g,1,none⟩) hgl (.bool z)).st (p:=⟨g,2,none⟩) hgl (.bool c.aw)).st (p:=⟨g,3,none⟩) hgl (.int .i64 c.rounds)).st (p:=⟨g,4,none⟩) hgl (.int .i64 a.1));clear e0 e1 e2 e3 e4 z0 z1 z2 z3 z4;generalize (((((v4.setCell ⟨g,0,none⟩ (.int .i64 c.since)).setCell ⟨g,1,none⟩ (.bool z)).setCell ⟨g,2,none⟩ (.bool c.aw)).setCell ⟨g,3,none⟩ (.int .i64 c.rounds)).setCell ⟨g,4,none⟩ (.int .i64 a.1))=v5 at B5 G5 ⊢;have h5:=H.out.gr G5.out;obtain⟨p5_c0,-,-,-,-,-,-,p5_c7,-,-,-,-⟩:=h5.cells;obtain⟨p5_m0,-,-,-⟩:=h5.mx_ ha;obtain⟨-,-,-,-,-,-,-,-,p5_s8,p5_s9,p5_s10,p5_s11,p5_s12,-⟩:=h5.cl_ hc;clear h5;refine hK.out _ _ ⟨p5_c7,p5_c0,p5_m0,p5_s8,p5_s9,p5_s10,p5_s11,p5_s12⟩ (λ hS=>?_);clear hK K
        try simp only [pL]
        refine wG 27 hS ?_;refine wpAnyH_done (by kernel_rfl) ?_ _;go_wp2_with fail;go_meet;exact⟨g,rfl,rfl,B5,G5.out,hgl⟩
      . skip
        go_simp;have B3:=Blk.new v2 #[.int .i64 0,.bool false,.bool false,.int .i64 0,.int .i64 0] 53;have G3:Hid (Gr W _):=hid (G2.out.al (.cells #[.int .i64 0,.bool false,.bool false,.int .i64 0,.int .i64 0] 53));have hl:W.heap.size<=v2.heap.size:=G2.out.size;obtain⟨g,hg⟩:∃ g,v2.heap.size=g:=⟨_,rfl⟩;have hgl:W.heap.size<=g:=by rw [<- hg];exact hl
        rw [hg] at B3;generalize v2.alloc (.cells #[.int .i64 0,.bool false,.bool false,.int .i64 0,.int .i64 0] 53)=v3 at B3 G3 ⊢
        try rw [hg]
        clear hg hl;have h3:=H.out.gr G3.out;obtain⟨p3_c0,-,-,-,-,-,-,p3_c7,-,-,-,-⟩:=h3.cells;obtain⟨p3_m0,-,-,-⟩:=h3.mx_ ha;obtain⟨-,-,-,-,-,-,-,-,p3_s8,p3_s9,p3_s10,p3_s11,p3_s12,-⟩:=h3.cl_ hc;clear h3;refine hK.out _ _ ⟨p3_c7,p3_c0,p3_m0,p3_s8,p3_s9,p3_s10,p3_s11,p3_s12⟩ (λ hS=>?_);clear hK K
        try simp only [pL]
        refine wR1 21 (λ K hK=>?_);go_simp;go_at_call 144;refine (bothOB_yes _ _ _ _ _ _ _).mono ?_;rintro ee v4 ⟨rfl,g9⟩;go_wp2_with fail;have G4:=hid (G3.out.trans g9);have B4:=B3.gr g9;clear g9;have h4:=H.out.gr G4.out;obtain⟨p4_c0,-,-,-,-,-,-,p4_c7,-,-,-,-⟩:=h4.cells;obtain⟨p4_m0,-,-,-⟩:=h4.mx_ ha;obtain⟨-,-,-,-,-,-,-,-,p4_s8,p4_s9,p4_s10,p4_s11,p4_s12,-⟩:=h4.cl_ hc;clear h4;refine hK.out _ _ ⟨p4_c7,p4_c0,p4_m0,p4_s8,p4_s9,p4_s10,p4_s11,p4_s12⟩ (λ hS=>?_);clear hK K
        try simp only [pL]
        refine wG 22 hS ?_;refine wG 23 hS ?_;refine wG 24 hS ?_;refine wR1 26 (λ K hK=>?_);obtain⟨e0,z0⟩:=B4.at_ (k:=0) rfl;obtain⟨e1,z1⟩:=B4.at_ (k:=1) rfl;obtain⟨e2,z2⟩:=B4.at_ (k:=2) rfl;obtain⟨e3,z3⟩:=B4.at_ (k:=3) rfl;obtain⟨e4,z4⟩:=B4.at_ (k:=4) rfl;go_simp;have B5:Blk (((((v4.setCell ⟨g,0,none⟩ (.int .i64 c.since)).setCell ⟨g,1,none⟩ (.bool z)).setCell ⟨g,2,none⟩ (.bool c.aw)).setCell ⟨g,3,none⟩ (.int .i64 c.rounds)).setCell ⟨g,4,none⟩ (.int .i64 a.1)) g #[.int .i64 c.since,.bool z,.bool c.aw,.int .i64 c.rounds,.int .i64 a.1] 53:=(((((B4.set 0 (.int .i64 c.since)).set 1 (.bool z)).set 2 (.bool c.aw)).set 3 (.int .i64 c.rounds)).set 4 (.int .i64 a.1));have G5:Hid (Gr W (((((v4.setCell ⟨g,0,none⟩ (.int .i64 c.since)).setCell ⟨g,1,none⟩ (.bool z)).setCell ⟨g,2,none⟩ (.bool c.aw)).setCell ⟨g,3,none⟩ (.int .i64 c.rounds)).setCell ⟨g,4,none⟩ (.int .i64 a.1))):=hid (((((G4.out.st (p:=⟨g,0,none⟩) hgl (.int .i64 c.since)).st (p:=⟨g,1,none⟩) hgl (.bool z)).st (p:=⟨g,2,none⟩) hgl (.bool c.aw)).st (p:=⟨g,3,none⟩) hgl (.int .i64 c.rounds)).st (p:=⟨g,4,none⟩) hgl (.int .i64 a.1));clear e0 e1 e2 e3 e4 z0 z1 z2 z3 z4;generalize (((((v4.setCell ⟨g,0,none⟩ (.int .i64 c.since)).setCell ⟨g,1,none⟩ (.bool z)).setCell ⟨g,2,none⟩ (.bool c.aw)).setCell ⟨g,3,none⟩ (.int .i64 c.rounds)).setCell ⟨g,4,none⟩ (.int .i64 a.1))=v5 at B5 G5 ⊢;have h5:=H.out.gr G5.out;obtain⟨p5_c0,-,-,-,-,-,-,p5_c7,-,-,-,-⟩:=h5.cells;obtain⟨p5_m0,-,-,-⟩:=h5.mx_ ha;obtain⟨-,-,-,-,-,-,-,-,p5_s8,p5_s9,p5_s10,p5_s11,p5_s12,-⟩:=h5.cl_ hc;clear h5;refine hK.out _ _ ⟨p5_c7,p5_c0,p5_m0,p5_s8,p5_s9,p5_s10,p5_s11,p5_s12⟩ (λ hS=>?_);clear hK K
        try simp only [pL]
        refine wG 27 hS ?_;refine wpAnyH_done (by kernel_rfl) ?_ _;go_wp2_with fail;go_meet;exact⟨g,rfl,rfl,B5,G5.out,hgl⟩
    . skip
      go_simp;have B2:=Blk.new v1 #[.int .i64 0,.bool false,.bool false,.int .i64 0,.int .i64 0] 53;have G2:Hid (Gr W _):=hid (G1.out.al (.cells #[.int .i64 0,.bool false,.bool false,.int .i64 0,.int .i64 0] 53));have hl:W.heap.size<=v1.heap.size:=G1.out.size;obtain⟨g,hg⟩:∃ g,v1.heap.size=g:=⟨_,rfl⟩;have hgl:W.heap.size<=g:=by rw [<- hg];exact hl
      rw [hg] at B2;generalize v1.alloc (.cells #[.int .i64 0,.bool false,.bool false,.int .i64 0,.int .i64 0] 53)=v2 at B2 G2 ⊢
      try rw [hg]
      clear hg hl;have h2:=H.out.gr G2.out;obtain⟨p2_c0,-,-,-,-,-,-,p2_c7,-,-,-,-⟩:=h2.cells;obtain⟨p2_m0,-,-,-⟩:=h2.mx_ ha;obtain⟨-,-,-,-,-,-,-,-,p2_s8,p2_s9,p2_s10,p2_s11,p2_s12,-⟩:=h2.cl_ hc;clear h2;refine hK.out _ _ ⟨p2_c7,p2_c0,p2_m0,p2_s8,p2_s9,p2_s10,p2_s11,p2_s12⟩ (λ hS=>?_);clear hK K
      try simp only [pL]
      refine wR1 17 (λ K hK=>?_);go_simp;go_at_call 154;refine (cw _).out.mono ?_;rintro ee v3 ⟨rfl,g9⟩;go_wp2_with fail;have G3:=hid (G2.out.trans g9);have B3:=B2.gr g9;clear g9;have h3:=H.out.gr G3.out;obtain⟨p3_c0,-,-,-,-,-,-,p3_c7,-,-,-,-⟩:=h3.cells;obtain⟨p3_m0,-,-,-⟩:=h3.mx_ ha;obtain⟨-,-,-,-,-,-,-,-,p3_s8,p3_s9,p3_s10,p3_s11,p3_s12,-⟩:=h3.cl_ hc;clear h3;refine hK.out _ _ ⟨p3_c7,p3_c0,p3_m0,p3_s8,p3_s9,p3_s10,p3_s11,p3_s12⟩ (λ hS=>?_);clear hK K
      try simp only [pL]
      refine wG 18 hS ?_;refine wG 19 hS ?_;refine wG 20 hS ?_;refine wR1 21 (λ K hK=>?_);go_simp;go_at_call 144;refine (bothOB_yes _ _ _ _ _ _ _).mono ?_;rintro ee v4 ⟨rfl,g9⟩;go_wp2_with fail;have G4:=hid (G3.out.trans g9);have B4:=B3.gr g9;clear g9;have h4:=H.out.gr G4.out;obtain⟨p4_c0,-,-,-,-,-,-,p4_c7,-,-,-,-⟩:=h4.cells;obtain⟨p4_m0,-,-,-⟩:=h4.mx_ ha;obtain⟨-,-,-,-,-,-,-,-,p4_s8,p4_s9,p4_s10,p4_s11,p4_s12,-⟩:=h4.cl_ hc;clear h4;refine hK.out _ _ ⟨p4_c7,p4_c0,p4_m0,p4_s8,p4_s9,p4_s10,p4_s11,p4_s12⟩ (λ hS=>?_);clear hK K
      try simp only [pL]
      refine wG 22 hS ?_;refine wG 23 hS ?_;refine wG 24 hS ?_;refine wR1 26 (λ K hK=>?_);obtain⟨e0,z0⟩:=B4.at_ (k:=0) rfl;obtain⟨e1,z1⟩:=B4.at_ (k:=1) rfl;obtain⟨e2,z2⟩:=B4.at_ (k:=2) rfl;obtain⟨e3,z3⟩:=B4.at_ (k:=3) rfl;obtain⟨e4,z4⟩:=B4.at_ (k:=4) rfl;go_simp;have B5:Blk (((((v4.setCell ⟨g,0,none⟩ (.int .i64 c.since)).setCell ⟨g,1,none⟩ (.bool z)).setCell ⟨g,2,none⟩ (.bool c.aw)).setCell ⟨g,3,none⟩ (.int .i64 c.rounds)).setCell ⟨g,4,none⟩ (.int .i64 a.1)) g #[.int .i64 c.since,.bool z,.bool c.aw,.int .i64 c.rounds,.int .i64 a.1] 53:=(((((B4.set 0 (.int .i64 c.since)).set 1 (.bool z)).set 2 (.bool c.aw)).set 3 (.int .i64 c.rounds)).set 4 (.int .i64 a.1));have G5:Hid (Gr W (((((v4.setCell ⟨g,0,none⟩ (.int .i64 c.since)).setCell ⟨g,1,none⟩ (.bool z)).setCell ⟨g,2,none⟩ (.bool c.aw)).setCell ⟨g,3,none⟩ (.int .i64 c.rounds)).setCell ⟨g,4,none⟩ (.int .i64 a.1))):=hid (((((G4.out.st (p:=⟨g,0,none⟩) hgl (.int .i64 c.since)).st (p:=⟨g,1,none⟩) hgl (.bool z)).st (p:=⟨g,2,none⟩) hgl (.bool c.aw)).st (p:=⟨g,3,none⟩) hgl (.int .i64 c.rounds)).st (p:=⟨g,4,none⟩) hgl (.int .i64 a.1));clear e0 e1 e2 e3 e4 z0 z1 z2 z3 z4;generalize (((((v4.setCell ⟨g,0,none⟩ (.int .i64 c.since)).setCell ⟨g,1,none⟩ (.bool z)).setCell ⟨g,2,none⟩ (.bool c.aw)).setCell ⟨g,3,none⟩ (.int .i64 c.rounds)).setCell ⟨g,4,none⟩ (.int .i64 a.1))=v5 at B5 G5 ⊢;have h5:=H.out.gr G5.out;obtain⟨p5_c0,-,-,-,-,-,-,p5_c7,-,-,-,-⟩:=h5.cells;obtain⟨p5_m0,-,-,-⟩:=h5.mx_ ha;obtain⟨-,-,-,-,-,-,-,-,p5_s8,p5_s9,p5_s10,p5_s11,p5_s12,-⟩:=h5.cl_ hc;clear h5;refine hK.out _ _ ⟨p5_c7,p5_c0,p5_m0,p5_s8,p5_s9,p5_s10,p5_s11,p5_s12⟩ (λ hS=>?_);clear hK K
      try simp only [pL]
      refine wG 27 hS ?_;refine wpAnyH_done (by kernel_rfl) ?_ _;go_wp2_with fail;go_meet;exact⟨g,rfl,rfl,B5,G5.out,hgl⟩
  . skip
    go_simp;have B1:=(Blk.new W #[.int .i64 0,.bool false,.bool false,.int .i64 0,.int .i64 0] 53).gr (zr _).dr;have G1:Hid (Gr W _):=hid ((zr W).al (.cells #[.int .i64 0,.bool false,.bool false,.int .i64 0,.int .i64 0] 53)).dr;obtain⟨g,hg⟩:∃ g,W.heap.size=g:=⟨_,rfl⟩;have hgl:W.heap.size<=g:=Nat.le_of_eq hg;rw [hg] at B1;generalize (W.alloc (.cells #[.int .i64 0,.bool false,.bool false,.int .i64 0,.int .i64 0] 53)).drew=v1 at B1 G1 ⊢
    try rw [hg]
    clear hg;have h1:=H.out.gr G1.out;obtain⟨p1_c0,-,-,-,-,-,-,p1_c7,-,-,-,-⟩:=h1.cells;obtain⟨p1_m0,-,-,-⟩:=h1.mx_ ha;obtain⟨-,-,-,-,-,-,-,-,p1_s8,p1_s9,p1_s10,p1_s11,p1_s12,-⟩:=h1.cl_ hc;clear h1;refine hK.out _ _ ⟨p1_c7,p1_c0,p1_m0,p1_s8,p1_s9,p1_s10,p1_s11,p1_s12⟩ (λ hS=>?_);clear hK K
    try simp only [pL]
    refine wR1 13 (λ K hK=>?_);go_simp;go_at_call 132;refine (cm _ G1.out).out.mono ?_;rintro ee v2 ⟨rfl,g9⟩;go_wp2_with fail;have G2:=hid (G1.out.trans g9);have B2:=B1.gr g9;clear g9;have h2:=H.out.gr G2.out;obtain⟨p2_c0,-,-,-,-,-,-,p2_c7,-,-,-,-⟩:=h2.cells;obtain⟨p2_m0,-,-,-⟩:=h2.mx_ ha;obtain⟨-,-,-,-,-,-,-,-,p2_s8,p2_s9,p2_s10,p2_s11,p2_s12,-⟩:=h2.cl_ hc;clear h2;refine hK.out _ _ ⟨p2_c7,p2_c0,p2_m0,p2_s8,p2_s9,p2_s10,p2_s11,p2_s12⟩ (λ hS=>?_);clear hK K
    try simp only [pL]
    refine wG 14 hS ?_;refine wG 15 hS ?_;refine wG 16 hS ?_;refine wR1 17 (λ K hK=>?_);go_simp;go_at_call 154;refine (cw _).out.mono ?_;rintro ee v3 ⟨rfl,g9⟩;go_wp2_with fail;have G3:=hid (G2.out.trans g9);have B3:=B2.gr g9;clear g9;have h3:=H.out.gr G3.out;obtain⟨p3_c0,-,-,-,-,-,-,p3_c7,-,-,-,-⟩:=h3.cells;obtain⟨p3_m0,-,-,-⟩:=h3.mx_ ha;obtain⟨-,-,-,-,-,-,-,-,p3_s8,p3_s9,p3_s10,p3_s11,p3_s12,-⟩:=h3.cl_ hc;clear h3;refine hK.out _ _ ⟨p3_c7,p3_c0,p3_m0,p3_s8,p3_s9,p3_s10,p3_s11,p3_s12⟩ (λ hS=>?_);clear hK K
    try simp only [pL]
    refine wG 18 hS ?_;refine wG 19 hS ?_;refine wG 20 hS ?_;refine wR1 21 (λ K hK=>?_);go_simp;go_at_call 144;refine (bothOB_yes _ _ _ _ _ _ _).mono ?_;rintro ee v4 ⟨rfl,g9⟩;go_wp2_with fail;have G4:=hid (G3.out.trans g9);have B4:=B3.gr g9;clear g9;have h4:=H.out.gr G4.out;obtain⟨p4_c0,-,-,-,-,-,-,p4_c7,-,-,-,-⟩:=h4.cells;obtain⟨p4_m0,-,-,-⟩:=h4.mx_ ha;obtain⟨-,-,-,-,-,-,-,-,p4_s8,p4_s9,p4_s10,p4_s11,p4_s12,-⟩:=h4.cl_ hc;clear h4;refine hK.out _ _ ⟨p4_c7,p4_c0,p4_m0,p4_s8,p4_s9,p4_s10,p4_s11,p4_s12⟩ (λ hS=>?_);clear hK K
    try simp only [pL]
    refine wG 22 hS ?_;refine wG 23 hS ?_;refine wG 24 hS ?_;refine wR1 26 (λ K hK=>?_);obtain⟨e0,z0⟩:=B4.at_ (k:=0) rfl;obtain⟨e1,z1⟩:=B4.at_ (k:=1) rfl;obtain⟨e2,z2⟩:=B4.at_ (k:=2) rfl;obtain⟨e3,z3⟩:=B4.at_ (k:=3) rfl;obtain⟨e4,z4⟩:=B4.at_ (k:=4) rfl;go_simp;have B5:Blk (((((v4.setCell ⟨g,0,none⟩ (.int .i64 c.since)).setCell ⟨g,1,none⟩ (.bool z)).setCell ⟨g,2,none⟩ (.bool c.aw)).setCell ⟨g,3,none⟩ (.int .i64 c.rounds)).setCell ⟨g,4,none⟩ (.int .i64 a.1)) g #[.int .i64 c.since,.bool z,.bool c.aw,.int .i64 c.rounds,.int .i64 a.1] 53:=(((((B4.set 0 (.int .i64 c.since)).set 1 (.bool z)).set 2 (.bool c.aw)).set 3 (.int .i64 c.rounds)).set 4 (.int .i64 a.1));have G5:Hid (Gr W (((((v4.setCell ⟨g,0,none⟩ (.int .i64 c.since)).setCell ⟨g,1,none⟩ (.bool z)).setCell ⟨g,2,none⟩ (.bool c.aw)).setCell ⟨g,3,none⟩ (.int .i64 c.rounds)).setCell ⟨g,4,none⟩ (.int .i64 a.1))):=hid (((((G4.out.st (p:=⟨g,0,none⟩) hgl (.int .i64 c.since)).st (p:=⟨g,1,none⟩) hgl (.bool z)).st (p:=⟨g,2,none⟩) hgl (.bool c.aw)).st (p:=⟨g,3,none⟩) hgl (.int .i64 c.rounds)).st (p:=⟨g,4,none⟩) hgl (.int .i64 a.1));clear e0 e1 e2 e3 e4 z0 z1 z2 z3 z4;generalize (((((v4.setCell ⟨g,0,none⟩ (.int .i64 c.since)).setCell ⟨g,1,none⟩ (.bool z)).setCell ⟨g,2,none⟩ (.bool c.aw)).setCell ⟨g,3,none⟩ (.int .i64 c.rounds)).setCell ⟨g,4,none⟩ (.int .i64 a.1))=v5 at B5 G5 ⊢;have h5:=H.out.gr G5.out;obtain⟨p5_c0,-,-,-,-,-,-,p5_c7,-,-,-,-⟩:=h5.cells;obtain⟨p5_m0,-,-,-⟩:=h5.mx_ ha;obtain⟨-,-,-,-,-,-,-,-,p5_s8,p5_s9,p5_s10,p5_s11,p5_s12,-⟩:=h5.cl_ hc;clear h5;refine hK.out _ _ ⟨p5_c7,p5_c0,p5_m0,p5_s8,p5_s9,p5_s10,p5_s11,p5_s12⟩ (λ hS=>?_);clear hK K
    try simp only [pL]
    refine wG 27 hS ?_;refine wpAnyH_done (by kernel_rfl) ?_ _;go_wp2_with fail;go_meet;exact⟨g,rfl,rfl,B5,G5.out,hgl⟩
 case rest =>
  obtain⟨g,rfl,rfl,B,G,hgl⟩:=hcut;have h1:=H.out.gr G;obtain⟨-,-,-,-,-,-,-,l7,-,-,-,-⟩:=h1.cells;obtain⟨-,-,-,-,-,-,-,-,m8,m9,m10,m11,m12,sz⟩:=h1.cl_ hc;have y8:=sz 8 (by decide);have y9:=sz 9 (by decide);have y10:=sz 10 (by decide);have y11:=sz 11 (by decide);have y12:=sz 12 (by decide);clear sz;obtain⟨e0,-⟩:=B.at_ (k:=0) rfl;obtain⟨e1,-⟩:=B.at_ (k:=1) rfl;obtain⟨e2,-⟩:=B.at_ (k:=2) rfl;obtain⟨e3,-⟩:=B.at_ (k:=3) rfl;obtain⟨e4,-⟩:=B.at_ (k:=4) rfl;have HB:=hid B;have HG:=hid G;have nb:x.bc≠g:=by have:=H.out.c.lt;omega
  have nb2:x.b≠g:=by have:=H.out.t.lt;omega
  clear h1 B G cm cw;clear pc7 pc0 pm0 ps8 ps9 ps10 ps11 ps12;go_upto_region 1 with fail;refine wp_region_held_drew (S:=(λ w'=>w'.cell? ⟨x.b,7,none⟩=some (.pointer (some ⟨x.bc,x.oc+x.who.toNat*13,none⟩))/\w'.cell? ⟨g,0,none⟩=some (.int .i64 c.since)/\w'.cell? ⟨g,1,none⟩=some (.bool z)/\w'.cell? ⟨g,2,none⟩=some (.bool c.aw)/\w'.cell? ⟨g,3,none⟩=some (.int .i64 c.rounds)/\w'.cell? ⟨g,4,none⟩=some (.int .i64 a.1))) (by kernel_rfl) ⟨l7,e0,e1,e2,e3,e4⟩ (λ hS=>?_);refine wG 0 hS ?_;refine wG 1 hS ?_;refine wG 2 hS ?_;refine wG 3 hS ?_;refine wG 4 hS ?_;refine wG 5 hS ?_;refine wG 6 hS ?_;refine wR1 7 (λ K hK=>?_);go_simp;have H2:Hid (TS x ((((((wc.setCell ⟨x.bc,x.oc+x.who.toNat*13+8,none⟩ (.int .i64 c.since)).setCell ⟨x.bc,x.oc+x.who.toNat*13+8+1,none⟩ (.bool z)).setCell ⟨x.bc,x.oc+x.who.toNat*13+8+2,none⟩ (.bool c.aw)).setCell ⟨x.bc,x.oc+x.who.toNat*13+8+3,none⟩ (.int .i64 c.rounds)).setCell ⟨x.bc,x.oc+x.who.toNat*13+8+4,none⟩ (.int .i64 a.1)).drew) T E (cl.set x.who.toNat { c with st:=z,old:=a.1 }) mx tb ev):=hid (((H.out.gr HG.out).putO hc { c with st:=z,old:=a.1 } { CBc with old:=bo }).gr (zr _).dr);have K2:Hid (Kx x W ((((((wc.setCell ⟨x.bc,x.oc+x.who.toNat*13+8,none⟩ (.int .i64 c.since)).setCell ⟨x.bc,x.oc+x.who.toNat*13+8+1,none⟩ (.bool z)).setCell ⟨x.bc,x.oc+x.who.toNat*13+8+2,none⟩ (.bool c.aw)).setCell ⟨x.bc,x.oc+x.who.toNat*13+8+3,none⟩ (.int .i64 c.rounds)).setCell ⟨x.bc,x.oc+x.who.toNat*13+8+4,none⟩ (.int .i64 a.1)).drew)):=hid (((((((Kx.gr HG.out).trans (Kx.st (.inr (.inl rfl)) _)).trans (Kx.st (.inr (.inl rfl)) _)).trans (Kx.st (.inr (.inl rfl)) _)).trans (Kx.st (.inr (.inl rfl)) _)).trans (Kx.st (.inr (.inl rfl)) _)).trans (Kx.gr (zr _).dr));have B2:Blk ((((((wc.setCell ⟨x.bc,x.oc+x.who.toNat*13+8,none⟩ (.int .i64 c.since)).setCell ⟨x.bc,x.oc+x.who.toNat*13+8+1,none⟩ (.bool z)).setCell ⟨x.bc,x.oc+x.who.toNat*13+8+2,none⟩ (.bool c.aw)).setCell ⟨x.bc,x.oc+x.who.toNat*13+8+3,none⟩ (.int .i64 c.rounds)).setCell ⟨x.bc,x.oc+x.who.toNat*13+8+4,none⟩ (.int .i64 a.1)).drew) g #[.int .i64 c.since,.bool z,.bool c.aw,.int .i64 c.rounds,.int .i64 a.1] 53:=(((((((((((HB.out).st (p:=⟨x.bc,x.oc+x.who.toNat*13+8,none⟩) nb (.int .i64 c.since))).st (p:=⟨x.bc,x.oc+x.who.toNat*13+8+1,none⟩) nb (.bool z))).st (p:=⟨x.bc,x.oc+x.who.toNat*13+8+2,none⟩) nb (.bool c.aw))).st (p:=⟨x.bc,x.oc+x.who.toNat*13+8+3,none⟩) nb (.int .i64 c.rounds))).st (p:=⟨x.bc,x.oc+x.who.toNat*13+8+4,none⟩) nb (.int .i64 a.1))).gr (zr _).dr;generalize (((((wc.setCell ⟨x.bc,x.oc+x.who.toNat*13+8,none⟩ (.int .i64 c.since)).setCell ⟨x.bc,x.oc+x.who.toNat*13+8+1,none⟩ (.bool z)).setCell ⟨x.bc,x.oc+x.who.toNat*13+8+2,none⟩ (.bool c.aw)).setCell ⟨x.bc,x.oc+x.who.toNat*13+8+3,none⟩ (.int .i64 c.rounds)).setCell ⟨x.bc,x.oc+x.who.toNat*13+8+4,none⟩ (.int .i64 a.1)).drew=v7 at H2 K2 B2 ⊢;have hc7:(cl.set x.who.toNat { c with st:=z,old:=a.1 })[x.who.toNat]?=some { c with st:=z,old:=a.1 }:=by rw [zss (zgl hc)]
  have h2:=H2.out;have n1:=h2.n1;have n1':=h2.n1.symm;obtain⟨-,-,-,-,-,-,-,n7,-,-,-,-⟩:=h2.cells;obtain⟨-,-,-,o3,-,-,-,-,-,-,-,-,-,sz⟩:=h2.cl_ hc7;have y3:=sz 3 (by decide);clear sz;dsimp only at o3;obtain⟨f0,-⟩:=B2.at_ (k:=0) rfl;obtain⟨f1,-⟩:=B2.at_ (k:=1) rfl;obtain⟨f2,-⟩:=B2.at_ (k:=2) rfl;obtain⟨f3,-⟩:=B2.at_ (k:=3) rfl;obtain⟨f4,-⟩:=B2.at_ (k:=4) rfl;clear h2 B2;refine hK.out _ _ ⟨n7,f0,f1,f2,f3,f4⟩ (λ hS=>?_);clear hK K
  try simp only [pL]
  refine wpAnyH_done (by kernel_rfl) ?_ _;clear hS l7 m8 m9 m10 m11 m12 y8 y9 y10 y11 y12 e0 e1 e2 e3 e4 f0 f1 f2 f3 f4;go_wp2_with fail
  (first | go_end0 | ((try simp only [Exit.inBlock,Exit.then]);refine bodyPost_ret (results_none rfl _ _ _) rfl ?_))
  have h9:=H2.out.putC2 hc 3 (.int .i64 2) { c with st:=z,old:=a.1,pc:=2 } rfl (by decide) { CBc with old:=bo,pc:=(show B64 2 from ⟨by omega,by omega⟩) };exact⟨rfl,h9.putC2 hc 3 (.int .i64 8) { c with st:=z,old:=a.1,pc:=8 } rfl (by decide) { CBc with old:=bo,pc:=(show B64 8 from ⟨by omega,by omega⟩) },(K2.out.trans (Kx.st (.inr (.inl rfl)) _)).trans (Kx.st (.inr (.inl rfl)) _)⟩
theorem wake_b (h:TS x W T E cl mx tb ev) (hR:Rn x cl c pr) (h0:0<=x.n) (h4:x.n<4) (ha:mx[x.n.toNat]?=some a) (hO:OwnR c) (hu:P4.Tm x.now) (hk:OkW a.1) (hS:(wd a.1).S=false) :
 Calls prog 106 #[.pointer (some ⟨x.b,0,none⟩)] W λ e W'=>e=.returned (.tuple #[])/\TS x W' T E (cl.set x.who.toNat { c with st:=c.st||late c.since x.now,aw:=true,rounds:=0,old:=a.1,pc:=2 }) mx tb ev/\Kx x W W':=by
 have hc:=hR.hc;have CBc:=h.cb c (zmo hc);have bo:B64 a.1:=(h.mb a (zmo ha)).1;have H:=hid h;have cm:=λ W' (g:Gr W W')=>hid (mutex_gr (h.gr g) h0 h4)
 have cw:=λ W=>hid (Wake_b hO hu hk hS W)
 obtain⟨z,hz⟩:∃ z,(c.st||late c.since x.now)=z:=⟨_,rfl⟩;rw [hz] at cw ⊢;obtain⟨pc0,-,-,-,-,-,-,pc7,-,-,-,-⟩:=h.cells;obtain⟨pm0,-,-,-⟩:=h.mx_ ha;obtain⟨-,-,-,-,-,-,-,-,ps8,ps9,ps10,ps11,ps12,-⟩:=h.cl_ hc;clear h hS hk hu hO hz;go_enter func106,ntmps106;go_upto_region 0 with fail
 go_cut [2,3] (λ t v wx=>∃ g,t=.pointer (some ⟨g,0,none⟩)/\v=.bool false/\Blk wx g #[.int .i64 c.since,.bool z,.bool true,.int .i64 0,.int .i64 a.1] 53/\Gr W wx/\W.heap.size<=g)
 case first =>
  refine wp_region_held_drew (S:=(λ w'=>w'.cell? ⟨x.b,7,none⟩=some (.pointer (some ⟨x.bc,x.oc+x.who.toNat*13,none⟩))/\w'.cell? ⟨x.b,0,none⟩=some (.int .i64 x.now)/\w'.cell? ⟨x.bm,x.om+x.n.toNat*3,none⟩=some (.int .i64 a.1)/\w'.cell? ⟨x.bc,x.oc+x.who.toNat*13+8,none⟩=some (.int .i64 c.since)/\w'.cell? ⟨x.bc,x.oc+x.who.toNat*13+8+1,none⟩=some (.bool c.st)/\w'.cell? ⟨x.bc,x.oc+x.who.toNat*13+8+2,none⟩=some (.bool c.aw)/\w'.cell? ⟨x.bc,x.oc+x.who.toNat*13+8+3,none⟩=some (.int .i64 c.rounds)/\w'.cell? ⟨x.bc,x.oc+x.who.toNat*13+8+4,none⟩=some (.int .i64 c.old))) (by kernel_rfl) ⟨pc7,pc0,pm0,ps8,ps9,ps10,ps11,ps12⟩ (λ hS=>?_);refine wG 0 hS ?_;refine wG 1 hS ?_;refine wG 2 hS ?_;refine wG 3 hS ?_;refine wG 4 hS ?_;refine wG 5 hS ?_;refine wG 6 hS ?_;refine wG 7 hS ?_;refine wG 8 hS ?_;refine wG 9 hS ?_;refine wG 10 hS ?_;refine wG 11 hS ?_;refine wG 12 hS ?_;refine wR2 13 25 (λ K hK=>?_) (λ K hK=>?_)
  . skip
    go_simp;go_at_call 132;refine (cm _ ((zr W).dr)).out.mono ?_;rintro ee v1 ⟨rfl,g9⟩;go_wp2_with fail;have G1:=hid (((zr W).dr).trans g9);clear g9;have h1:=H.out.gr G1.out;obtain⟨p1_c0,-,-,-,-,-,-,p1_c7,-,-,-,-⟩:=h1.cells;obtain⟨p1_m0,-,-,-⟩:=h1.mx_ ha;obtain⟨-,-,-,-,-,-,-,-,p1_s8,p1_s9,p1_s10,p1_s11,p1_s12,-⟩:=h1.cl_ hc;clear h1;refine hK.out _ _ ⟨p1_c7,p1_c0,p1_m0,p1_s8,p1_s9,p1_s10,p1_s11,p1_s12⟩ (λ hS=>?_);clear hK K
    try simp only [pL]
    refine wG 14 hS ?_;refine wG 15 hS ?_;refine wG 16 hS ?_;refine wR2 17 25 (λ K hK=>?_) (λ K hK=>?_)
    . skip
      go_simp;go_at_call 154;refine (cw _).out.mono ?_;rintro ee v2 ⟨rfl,g9⟩;go_wp2_with fail;have G2:=hid (G1.out.trans g9);clear g9;have h2:=H.out.gr G2.out;obtain⟨p2_c0,-,-,-,-,-,-,p2_c7,-,-,-,-⟩:=h2.cells;obtain⟨p2_m0,-,-,-⟩:=h2.mx_ ha;obtain⟨-,-,-,-,-,-,-,-,p2_s8,p2_s9,p2_s10,p2_s11,p2_s12,-⟩:=h2.cl_ hc;clear h2;refine hK.out _ _ ⟨p2_c7,p2_c0,p2_m0,p2_s8,p2_s9,p2_s10,p2_s11,p2_s12⟩ (λ hS=>?_);clear hK K
      try simp only [pL]
      refine wG 18 hS ?_;refine wG 19 hS ?_;refine wG 20 hS ?_;refine wR2 21 25 (λ K hK=>?_) (λ K hK=>?_)
      . skip
        go_simp;go_at_call 144;refine (bothOB_yes _ _ _ _ _ _ _).mono ?_;rintro ee v3 ⟨rfl,g9⟩;go_wp2_with fail;have G3:=hid (G2.out.trans g9);clear g9;have h3:=H.out.gr G3.out;obtain⟨p3_c0,-,-,-,-,-,-,p3_c7,-,-,-,-⟩:=h3.cells;obtain⟨p3_m0,-,-,-⟩:=h3.mx_ ha;obtain⟨-,-,-,-,-,-,-,-,p3_s8,p3_s9,p3_s10,p3_s11,p3_s12,-⟩:=h3.cl_ hc;clear h3;refine hK.out _ _ ⟨p3_c7,p3_c0,p3_m0,p3_s8,p3_s9,p3_s10,p3_s11,p3_s12⟩ (λ hS=>?_);clear hK K
        try simp only [pL]
        refine wG 22 hS ?_;refine wG 23 hS ?_;refine wG 24 hS ?_;refine wR1 25 (λ K hK=>?_);go_simp;have B4:=Blk.new v3 #[.int .i64 0,.bool false,.bool false,.int .i64 0,.int .i64 0] 53;have G4:Hid (Gr W _):=hid (G3.out.al (.cells #[.int .i64 0,.bool false,.bool false,.int .i64 0,.int .i64 0] 53));have hl:W.heap.size<=v3.heap.size:=G3.out.size;obtain⟨g,hg⟩:∃ g,v3.heap.size=g:=⟨_,rfl⟩;have hgl:W.heap.size<=g:=by rw [<- hg];exact hl
        rw [hg] at B4;generalize v3.alloc (.cells #[.int .i64 0,.bool false,.bool false,.int .i64 0,.int .i64 0] 53)=v4 at B4 G4 ⊢
        try rw [hg]
        clear hg hl;have h4:=H.out.gr G4.out;obtain⟨p4_c0,-,-,-,-,-,-,p4_c7,-,-,-,-⟩:=h4.cells;obtain⟨p4_m0,-,-,-⟩:=h4.mx_ ha;obtain⟨-,-,-,-,-,-,-,-,p4_s8,p4_s9,p4_s10,p4_s11,p4_s12,-⟩:=h4.cl_ hc;clear h4;refine hK.out _ _ ⟨p4_c7,p4_c0,p4_m0,p4_s8,p4_s9,p4_s10,p4_s11,p4_s12⟩ (λ hS=>?_);clear hK K
        try simp only [pL]
        refine wR1 26 (λ K hK=>?_);obtain⟨e0,z0⟩:=B4.at_ (k:=0) rfl;obtain⟨e1,z1⟩:=B4.at_ (k:=1) rfl;obtain⟨e2,z2⟩:=B4.at_ (k:=2) rfl;obtain⟨e3,z3⟩:=B4.at_ (k:=3) rfl;obtain⟨e4,z4⟩:=B4.at_ (k:=4) rfl;go_simp;have B5:Blk (((((v4.setCell ⟨g,0,none⟩ (.int .i64 c.since)).setCell ⟨g,1,none⟩ (.bool z)).setCell ⟨g,2,none⟩ (.bool true)).setCell ⟨g,3,none⟩ (.int .i64 0)).setCell ⟨g,4,none⟩ (.int .i64 a.1)) g #[.int .i64 c.since,.bool z,.bool true,.int .i64 0,.int .i64 a.1] 53:=(((((B4.set 0 (.int .i64 c.since)).set 1 (.bool z)).set 2 (.bool true)).set 3 (.int .i64 0)).set 4 (.int .i64 a.1));have G5:Hid (Gr W (((((v4.setCell ⟨g,0,none⟩ (.int .i64 c.since)).setCell ⟨g,1,none⟩ (.bool z)).setCell ⟨g,2,none⟩ (.bool true)).setCell ⟨g,3,none⟩ (.int .i64 0)).setCell ⟨g,4,none⟩ (.int .i64 a.1))):=hid (((((G4.out.st (p:=⟨g,0,none⟩) hgl (.int .i64 c.since)).st (p:=⟨g,1,none⟩) hgl (.bool z)).st (p:=⟨g,2,none⟩) hgl (.bool true)).st (p:=⟨g,3,none⟩) hgl (.int .i64 0)).st (p:=⟨g,4,none⟩) hgl (.int .i64 a.1));clear e0 e1 e2 e3 e4 z0 z1 z2 z3 z4;generalize (((((v4.setCell ⟨g,0,none⟩ (.int .i64 c.since)).setCell ⟨g,1,none⟩ (.bool z)).setCell ⟨g,2,none⟩ (.bool true)).setCell ⟨g,3,none⟩ (.int .i64 0)).setCell ⟨g,4,none⟩ (.int .i64 a.1))=v5 at B5 G5 ⊢;have h5:=H.out.gr G5.out;obtain⟨p5_c0,-,-,-,-,-,-,p5_c7,-,-,-,-⟩:=h5.cells;obtain⟨p5_m0,-,-,-⟩:=h5.mx_ ha;obtain⟨-,-,-,-,-,-,-,-,p5_s8,p5_s9,p5_s10,p5_s11,p5_s12,-⟩:=h5.cl_ hc;clear h5;refine hK.out _ _ ⟨p5_c7,p5_c0,p5_m0,p5_s8,p5_s9,p5_s10,p5_s11,p5_s12⟩ (λ hS=>?_);clear hK K
        try simp only [pL]
        refine wG 27 hS ?_;refine wpAnyH_done (by kernel_rfl) ?_ _;go_wp2_with fail;go_meet;exact⟨g,rfl,rfl,B5,G5.out,hgl⟩
      . skip
        go_simp;have B3:=Blk.new v2 #[.int .i64 0,.bool false,.bool false,.int .i64 0,.int .i64 0] 53;have G3:Hid (Gr W _):=hid (G2.out.al (.cells #[.int .i64 0,.bool false,.bool false,.int .i64 0,.int .i64 0] 53));have hl:W.heap.size<=v2.heap.size:=G2.out.size;obtain⟨g,hg⟩:∃ g,v2.heap.size=g:=⟨_,rfl⟩;have hgl:W.heap.size<=g:=by rw [<- hg];exact hl
        rw [hg] at B3;generalize v2.alloc (.cells #[.int .i64 0,.bool false,.bool false,.int .i64 0,.int .i64 0] 53)=v3 at B3 G3 ⊢
        try rw [hg]
        clear hg hl;have h3:=H.out.gr G3.out;obtain⟨p3_c0,-,-,-,-,-,-,p3_c7,-,-,-,-⟩:=h3.cells;obtain⟨p3_m0,-,-,-⟩:=h3.mx_ ha;obtain⟨-,-,-,-,-,-,-,-,p3_s8,p3_s9,p3_s10,p3_s11,p3_s12,-⟩:=h3.cl_ hc;clear h3;refine hK.out _ _ ⟨p3_c7,p3_c0,p3_m0,p3_s8,p3_s9,p3_s10,p3_s11,p3_s12⟩ (λ hS=>?_);clear hK K
        try simp only [pL]
        refine wR1 21 (λ K hK=>?_);go_simp;go_at_call 144;refine (bothOB_yes _ _ _ _ _ _ _).mono ?_;rintro ee v4 ⟨rfl,g9⟩;go_wp2_with fail;have G4:=hid (G3.out.trans g9);have B4:=B3.gr g9;clear g9;have h4:=H.out.gr G4.out;obtain⟨p4_c0,-,-,-,-,-,-,p4_c7,-,-,-,-⟩:=h4.cells;obtain⟨p4_m0,-,-,-⟩:=h4.mx_ ha;obtain⟨-,-,-,-,-,-,-,-,p4_s8,p4_s9,p4_s10,p4_s11,p4_s12,-⟩:=h4.cl_ hc;clear h4;refine hK.out _ _ ⟨p4_c7,p4_c0,p4_m0,p4_s8,p4_s9,p4_s10,p4_s11,p4_s12⟩ (λ hS=>?_);clear hK K
        try simp only [pL]
        refine wG 22 hS ?_;refine wG 23 hS ?_;refine wG 24 hS ?_;refine wR1 26 (λ K hK=>?_);obtain⟨e0,z0⟩:=B4.at_ (k:=0) rfl;obtain⟨e1,z1⟩:=B4.at_ (k:=1) rfl;obtain⟨e2,z2⟩:=B4.at_ (k:=2) rfl;obtain⟨e3,z3⟩:=B4.at_ (k:=3) rfl;obtain⟨e4,z4⟩:=B4.at_ (k:=4) rfl;go_simp;have B5:Blk (((((v4.setCell ⟨g,0,none⟩ (.int .i64 c.since)).setCell ⟨g,1,none⟩ (.bool z)).setCell ⟨g,2,none⟩ (.bool true)).setCell ⟨g,3,none⟩ (.int .i64 0)).setCell ⟨g,4,none⟩ (.int .i64 a.1)) g #[.int .i64 c.since,.bool z,.bool true,.int .i64 0,.int .i64 a.1] 53:=(((((B4.set 0 (.int .i64 c.since)).set 1 (.bool z)).set 2 (.bool true)).set 3 (.int .i64 0)).set 4 (.int .i64 a.1));have G5:Hid (Gr W (((((v4.setCell ⟨g,0,none⟩ (.int .i64 c.since)).setCell ⟨g,1,none⟩ (.bool z)).setCell ⟨g,2,none⟩ (.bool true)).setCell ⟨g,3,none⟩ (.int .i64 0)).setCell ⟨g,4,none⟩ (.int .i64 a.1))):=hid (((((G4.out.st (p:=⟨g,0,none⟩) hgl (.int .i64 c.since)).st (p:=⟨g,1,none⟩) hgl (.bool z)).st (p:=⟨g,2,none⟩) hgl (.bool true)).st (p:=⟨g,3,none⟩) hgl (.int .i64 0)).st (p:=⟨g,4,none⟩) hgl (.int .i64 a.1));clear e0 e1 e2 e3 e4 z0 z1 z2 z3 z4;generalize (((((v4.setCell ⟨g,0,none⟩ (.int .i64 c.since)).setCell ⟨g,1,none⟩ (.bool z)).setCell ⟨g,2,none⟩ (.bool true)).setCell ⟨g,3,none⟩ (.int .i64 0)).setCell ⟨g,4,none⟩ (.int .i64 a.1))=v5 at B5 G5 ⊢;have h5:=H.out.gr G5.out;obtain⟨p5_c0,-,-,-,-,-,-,p5_c7,-,-,-,-⟩:=h5.cells;obtain⟨p5_m0,-,-,-⟩:=h5.mx_ ha;obtain⟨-,-,-,-,-,-,-,-,p5_s8,p5_s9,p5_s10,p5_s11,p5_s12,-⟩:=h5.cl_ hc;clear h5;refine hK.out _ _ ⟨p5_c7,p5_c0,p5_m0,p5_s8,p5_s9,p5_s10,p5_s11,p5_s12⟩ (λ hS=>?_);clear hK K
        try simp only [pL]
        refine wG 27 hS ?_;refine wpAnyH_done (by kernel_rfl) ?_ _;go_wp2_with fail;go_meet;exact⟨g,rfl,rfl,B5,G5.out,hgl⟩
    . skip
      go_simp;have B2:=Blk.new v1 #[.int .i64 0,.bool false,.bool false,.int .i64 0,.int .i64 0] 53;have G2:Hid (Gr W _):=hid (G1.out.al (.cells #[.int .i64 0,.bool false,.bool false,.int .i64 0,.int .i64 0] 53));have hl:W.heap.size<=v1.heap.size:=G1.out.size;obtain⟨g,hg⟩:∃ g,v1.heap.size=g:=⟨_,rfl⟩;have hgl:W.heap.size<=g:=by rw [<- hg];exact hl
      rw [hg] at B2;generalize v1.alloc (.cells #[.int .i64 0,.bool false,.bool false,.int .i64 0,.int .i64 0] 53)=v2 at B2 G2 ⊢
      try rw [hg]
      clear hg hl;have h2:=H.out.gr G2.out;obtain⟨p2_c0,-,-,-,-,-,-,p2_c7,-,-,-,-⟩:=h2.cells;obtain⟨p2_m0,-,-,-⟩:=h2.mx_ ha;obtain⟨-,-,-,-,-,-,-,-,p2_s8,p2_s9,p2_s10,p2_s11,p2_s12,-⟩:=h2.cl_ hc;clear h2;refine hK.out _ _ ⟨p2_c7,p2_c0,p2_m0,p2_s8,p2_s9,p2_s10,p2_s11,p2_s12⟩ (λ hS=>?_);clear hK K
      try simp only [pL]
      refine wR1 17 (λ K hK=>?_);go_simp;go_at_call 154;refine (cw _).out.mono ?_;rintro ee v3 ⟨rfl,g9⟩;go_wp2_with fail;have G3:=hid (G2.out.trans g9);have B3:=B2.gr g9;clear g9;have h3:=H.out.gr G3.out;obtain⟨p3_c0,-,-,-,-,-,-,p3_c7,-,-,-,-⟩:=h3.cells;obtain⟨p3_m0,-,-,-⟩:=h3.mx_ ha;obtain⟨-,-,-,-,-,-,-,-,p3_s8,p3_s9,p3_s10,p3_s11,p3_s12,-⟩:=h3.cl_ hc;clear h3;refine hK.out _ _ ⟨p3_c7,p3_c0,p3_m0,p3_s8,p3_s9,p3_s10,p3_s11,p3_s12⟩ (λ hS=>?_);clear hK K
      try simp only [pL]
      refine wG 18 hS ?_;refine wG 19 hS ?_;refine wG 20 hS ?_;refine wR1 21 (λ K hK=>?_);go_simp;go_at_call 144;refine (bothOB_yes _ _ _ _ _ _ _).mono ?_;rintro ee v4 ⟨rfl,g9⟩;go_wp2_with fail;have G4:=hid (G3.out.trans g9);have B4:=B3.gr g9;clear g9;have h4:=H.out.gr G4.out;obtain⟨p4_c0,-,-,-,-,-,-,p4_c7,-,-,-,-⟩:=h4.cells;obtain⟨p4_m0,-,-,-⟩:=h4.mx_ ha;obtain⟨-,-,-,-,-,-,-,-,p4_s8,p4_s9,p4_s10,p4_s11,p4_s12,-⟩:=h4.cl_ hc;clear h4;refine hK.out _ _ ⟨p4_c7,p4_c0,p4_m0,p4_s8,p4_s9,p4_s10,p4_s11,p4_s12⟩ (λ hS=>?_);clear hK K
      try simp only [pL]
      refine wG 22 hS ?_;refine wG 23 hS ?_;refine wG 24 hS ?_;refine wR1 26 (λ K hK=>?_);obtain⟨e0,z0⟩:=B4.at_ (k:=0) rfl;obtain⟨e1,z1⟩:=B4.at_ (k:=1) rfl;obtain⟨e2,z2⟩:=B4.at_ (k:=2) rfl;obtain⟨e3,z3⟩:=B4.at_ (k:=3) rfl;obtain⟨e4,z4⟩:=B4.at_ (k:=4) rfl;go_simp;have B5:Blk (((((v4.setCell ⟨g,0,none⟩ (.int .i64 c.since)).setCell ⟨g,1,none⟩ (.bool z)).setCell ⟨g,2,none⟩ (.bool true)).setCell ⟨g,3,none⟩ (.int .i64 0)).setCell ⟨g,4,none⟩ (.int .i64 a.1)) g #[.int .i64 c.since,.bool z,.bool true,.int .i64 0,.int .i64 a.1] 53:=(((((B4.set 0 (.int .i64 c.since)).set 1 (.bool z)).set 2 (.bool true)).set 3 (.int .i64 0)).set 4 (.int .i64 a.1));have G5:Hid (Gr W (((((v4.setCell ⟨g,0,none⟩ (.int .i64 c.since)).setCell ⟨g,1,none⟩ (.bool z)).setCell ⟨g,2,none⟩ (.bool true)).setCell ⟨g,3,none⟩ (.int .i64 0)).setCell ⟨g,4,none⟩ (.int .i64 a.1))):=hid (((((G4.out.st (p:=⟨g,0,none⟩) hgl (.int .i64 c.since)).st (p:=⟨g,1,none⟩) hgl (.bool z)).st (p:=⟨g,2,none⟩) hgl (.bool true)).st (p:=⟨g,3,none⟩) hgl (.int .i64 0)).st (p:=⟨g,4,none⟩) hgl (.int .i64 a.1));clear e0 e1 e2 e3 e4 z0 z1 z2 z3 z4;generalize (((((v4.setCell ⟨g,0,none⟩ (.int .i64 c.since)).setCell ⟨g,1,none⟩ (.bool z)).setCell ⟨g,2,none⟩ (.bool true)).setCell ⟨g,3,none⟩ (.int .i64 0)).setCell ⟨g,4,none⟩ (.int .i64 a.1))=v5 at B5 G5 ⊢;have h5:=H.out.gr G5.out;obtain⟨p5_c0,-,-,-,-,-,-,p5_c7,-,-,-,-⟩:=h5.cells;obtain⟨p5_m0,-,-,-⟩:=h5.mx_ ha;obtain⟨-,-,-,-,-,-,-,-,p5_s8,p5_s9,p5_s10,p5_s11,p5_s12,-⟩:=h5.cl_ hc;clear h5;refine hK.out _ _ ⟨p5_c7,p5_c0,p5_m0,p5_s8,p5_s9,p5_s10,p5_s11,p5_s12⟩ (λ hS=>?_);clear hK K
      try simp only [pL]
      refine wG 27 hS ?_;refine wpAnyH_done (by kernel_rfl) ?_ _;go_wp2_with fail;go_meet;exact⟨g,rfl,rfl,B5,G5.out,hgl⟩
  . skip
    go_simp;have B1:=(Blk.new W #[.int .i64 0,.bool false,.bool false,.int .i64 0,.int .i64 0] 53).gr (zr _).dr;have G1:Hid (Gr W _):=hid ((zr W).al (.cells #[.int .i64 0,.bool false,.bool false,.int .i64 0,.int .i64 0] 53)).dr;obtain⟨g,hg⟩:∃ g,W.heap.size=g:=⟨_,rfl⟩;have hgl:W.heap.size<=g:=Nat.le_of_eq hg;rw [hg] at B1;generalize (W.alloc (.cells #[.int .i64 0,.bool false,.bool false,.int .i64 0,.int .i64 0] 53)).drew=v1 at B1 G1 ⊢
    try rw [hg]
    clear hg;have h1:=H.out.gr G1.out;obtain⟨p1_c0,-,-,-,-,-,-,p1_c7,-,-,-,-⟩:=h1.cells;obtain⟨p1_m0,-,-,-⟩:=h1.mx_ ha;obtain⟨-,-,-,-,-,-,-,-,p1_s8,p1_s9,p1_s10,p1_s11,p1_s12,-⟩:=h1.cl_ hc;clear h1;refine hK.out _ _ ⟨p1_c7,p1_c0,p1_m0,p1_s8,p1_s9,p1_s10,p1_s11,p1_s12⟩ (λ hS=>?_);clear hK K
    try simp only [pL]
    refine wR1 13 (λ K hK=>?_);go_simp;go_at_call 132;refine (cm _ G1.out).out.mono ?_;rintro ee v2 ⟨rfl,g9⟩;go_wp2_with fail;have G2:=hid (G1.out.trans g9);have B2:=B1.gr g9;clear g9;have h2:=H.out.gr G2.out;obtain⟨p2_c0,-,-,-,-,-,-,p2_c7,-,-,-,-⟩:=h2.cells;obtain⟨p2_m0,-,-,-⟩:=h2.mx_ ha;obtain⟨-,-,-,-,-,-,-,-,p2_s8,p2_s9,p2_s10,p2_s11,p2_s12,-⟩:=h2.cl_ hc;clear h2;refine hK.out _ _ ⟨p2_c7,p2_c0,p2_m0,p2_s8,p2_s9,p2_s10,p2_s11,p2_s12⟩ (λ hS=>?_);clear hK K
    try simp only [pL]
    refine wG 14 hS ?_;refine wG 15 hS ?_;refine wG 16 hS ?_;refine wR1 17 (λ K hK=>?_);go_simp;go_at_call 154;refine (cw _).out.mono ?_;rintro ee v3 ⟨rfl,g9⟩;go_wp2_with fail;have G3:=hid (G2.out.trans g9);have B3:=B2.gr g9;clear g9;have h3:=H.out.gr G3.out;obtain⟨p3_c0,-,-,-,-,-,-,p3_c7,-,-,-,-⟩:=h3.cells;obtain⟨p3_m0,-,-,-⟩:=h3.mx_ ha;obtain⟨-,-,-,-,-,-,-,-,p3_s8,p3_s9,p3_s10,p3_s11,p3_s12,-⟩:=h3.cl_ hc;clear h3;refine hK.out _ _ ⟨p3_c7,p3_c0,p3_m0,p3_s8,p3_s9,p3_s10,p3_s11,p3_s12⟩ (λ hS=>?_);clear hK K
    try simp only [pL]
    refine wG 18 hS ?_;refine wG 19 hS ?_;refine wG 20 hS ?_;refine wR1 21 (λ K hK=>?_);go_simp;go_at_call 144;refine (bothOB_yes _ _ _ _ _ _ _).mono ?_;rintro ee v4 ⟨rfl,g9⟩;go_wp2_with fail;have G4:=hid (G3.out.trans g9);have B4:=B3.gr g9;clear g9;have h4:=H.out.gr G4.out;obtain⟨p4_c0,-,-,-,-,-,-,p4_c7,-,-,-,-⟩:=h4.cells;obtain⟨p4_m0,-,-,-⟩:=h4.mx_ ha;obtain⟨-,-,-,-,-,-,-,-,p4_s8,p4_s9,p4_s10,p4_s11,p4_s12,-⟩:=h4.cl_ hc;clear h4;refine hK.out _ _ ⟨p4_c7,p4_c0,p4_m0,p4_s8,p4_s9,p4_s10,p4_s11,p4_s12⟩ (λ hS=>?_);clear hK K
    try simp only [pL]
    refine wG 22 hS ?_;refine wG 23 hS ?_;refine wG 24 hS ?_;refine wR1 26 (λ K hK=>?_);obtain⟨e0,z0⟩:=B4.at_ (k:=0) rfl;obtain⟨e1,z1⟩:=B4.at_ (k:=1) rfl;obtain⟨e2,z2⟩:=B4.at_ (k:=2) rfl;obtain⟨e3,z3⟩:=B4.at_ (k:=3) rfl;obtain⟨e4,z4⟩:=B4.at_ (k:=4) rfl;go_simp;have B5:Blk (((((v4.setCell ⟨g,0,none⟩ (.int .i64 c.since)).setCell ⟨g,1,none⟩ (.bool z)).setCell ⟨g,2,none⟩ (.bool true)).setCell ⟨g,3,none⟩ (.int .i64 0)).setCell ⟨g,4,none⟩ (.int .i64 a.1)) g #[.int .i64 c.since,.bool z,.bool true,.int .i64 0,.int .i64 a.1] 53:=(((((B4.set 0 (.int .i64 c.since)).set 1 (.bool z)).set 2 (.bool true)).set 3 (.int .i64 0)).set 4 (.int .i64 a.1));have G5:Hid (Gr W (((((v4.setCell ⟨g,0,none⟩ (.int .i64 c.since)).setCell ⟨g,1,none⟩ (.bool z)).setCell ⟨g,2,none⟩ (.bool true)).setCell ⟨g,3,none⟩ (.int .i64 0)).setCell ⟨g,4,none⟩ (.int .i64 a.1))):=hid (((((G4.out.st (p:=⟨g,0,none⟩) hgl (.int .i64 c.since)).st (p:=⟨g,1,none⟩) hgl (.bool z)).st (p:=⟨g,2,none⟩) hgl (.bool true)).st (p:=⟨g,3,none⟩) hgl (.int .i64 0)).st (p:=⟨g,4,none⟩) hgl (.int .i64 a.1));clear e0 e1 e2 e3 e4 z0 z1 z2 z3 z4;generalize (((((v4.setCell ⟨g,0,none⟩ (.int .i64 c.since)).setCell ⟨g,1,none⟩ (.bool z)).setCell ⟨g,2,none⟩ (.bool true)).setCell ⟨g,3,none⟩ (.int .i64 0)).setCell ⟨g,4,none⟩ (.int .i64 a.1))=v5 at B5 G5 ⊢;have h5:=H.out.gr G5.out;obtain⟨p5_c0,-,-,-,-,-,-,p5_c7,-,-,-,-⟩:=h5.cells;obtain⟨p5_m0,-,-,-⟩:=h5.mx_ ha;obtain⟨-,-,-,-,-,-,-,-,p5_s8,p5_s9,p5_s10,p5_s11,p5_s12,-⟩:=h5.cl_ hc;clear h5;refine hK.out _ _ ⟨p5_c7,p5_c0,p5_m0,p5_s8,p5_s9,p5_s10,p5_s11,p5_s12⟩ (λ hS=>?_);clear hK K
    try simp only [pL]
    refine wG 27 hS ?_;refine wpAnyH_done (by kernel_rfl) ?_ _;go_wp2_with fail;go_meet;exact⟨g,rfl,rfl,B5,G5.out,hgl⟩
 case rest =>
  obtain⟨g,rfl,rfl,B,G,hgl⟩:=hcut;have h1:=H.out.gr G;obtain⟨-,-,-,-,-,-,-,l7,-,-,-,-⟩:=h1.cells;obtain⟨-,-,-,-,-,-,-,-,m8,m9,m10,m11,m12,sz⟩:=h1.cl_ hc;have y8:=sz 8 (by decide);have y9:=sz 9 (by decide);have y10:=sz 10 (by decide);have y11:=sz 11 (by decide);have y12:=sz 12 (by decide);clear sz;obtain⟨e0,-⟩:=B.at_ (k:=0) rfl;obtain⟨e1,-⟩:=B.at_ (k:=1) rfl;obtain⟨e2,-⟩:=B.at_ (k:=2) rfl;obtain⟨e3,-⟩:=B.at_ (k:=3) rfl;obtain⟨e4,-⟩:=B.at_ (k:=4) rfl;have HB:=hid B;have HG:=hid G;have nb:x.bc≠g:=by have:=H.out.c.lt;omega
  have nb2:x.b≠g:=by have:=H.out.t.lt;omega
  clear h1 B G cm cw;clear pc7 pc0 pm0 ps8 ps9 ps10 ps11 ps12;go_upto_region 1 with fail;refine wp_region_held_drew (S:=(λ w'=>w'.cell? ⟨x.b,7,none⟩=some (.pointer (some ⟨x.bc,x.oc+x.who.toNat*13,none⟩))/\w'.cell? ⟨g,0,none⟩=some (.int .i64 c.since)/\w'.cell? ⟨g,1,none⟩=some (.bool z)/\w'.cell? ⟨g,2,none⟩=some (.bool true)/\w'.cell? ⟨g,3,none⟩=some (.int .i64 0)/\w'.cell? ⟨g,4,none⟩=some (.int .i64 a.1))) (by kernel_rfl) ⟨l7,e0,e1,e2,e3,e4⟩ (λ hS=>?_);refine wG 0 hS ?_;refine wG 1 hS ?_;refine wG 2 hS ?_;refine wG 3 hS ?_;refine wG 4 hS ?_;refine wG 5 hS ?_;refine wG 6 hS ?_;refine wR1 7 (λ K hK=>?_);go_simp;have H2:Hid (TS x ((((((wc.setCell ⟨x.bc,x.oc+x.who.toNat*13+8,none⟩ (.int .i64 c.since)).setCell ⟨x.bc,x.oc+x.who.toNat*13+8+1,none⟩ (.bool z)).setCell ⟨x.bc,x.oc+x.who.toNat*13+8+2,none⟩ (.bool true)).setCell ⟨x.bc,x.oc+x.who.toNat*13+8+3,none⟩ (.int .i64 0)).setCell ⟨x.bc,x.oc+x.who.toNat*13+8+4,none⟩ (.int .i64 a.1)).drew) T E (cl.set x.who.toNat { c with st:=z,aw:=true,rounds:=0,old:=a.1 }) mx tb ev):=hid (((H.out.gr HG.out).putO hc { c with st:=z,aw:=true,rounds:=0,old:=a.1 } { CBc with rounds:=b64_0,old:=bo }).gr (zr _).dr);have K2:Hid (Kx x W ((((((wc.setCell ⟨x.bc,x.oc+x.who.toNat*13+8,none⟩ (.int .i64 c.since)).setCell ⟨x.bc,x.oc+x.who.toNat*13+8+1,none⟩ (.bool z)).setCell ⟨x.bc,x.oc+x.who.toNat*13+8+2,none⟩ (.bool true)).setCell ⟨x.bc,x.oc+x.who.toNat*13+8+3,none⟩ (.int .i64 0)).setCell ⟨x.bc,x.oc+x.who.toNat*13+8+4,none⟩ (.int .i64 a.1)).drew)):=hid (((((((Kx.gr HG.out).trans (Kx.st (.inr (.inl rfl)) _)).trans (Kx.st (.inr (.inl rfl)) _)).trans (Kx.st (.inr (.inl rfl)) _)).trans (Kx.st (.inr (.inl rfl)) _)).trans (Kx.st (.inr (.inl rfl)) _)).trans (Kx.gr (zr _).dr));have B2:Blk ((((((wc.setCell ⟨x.bc,x.oc+x.who.toNat*13+8,none⟩ (.int .i64 c.since)).setCell ⟨x.bc,x.oc+x.who.toNat*13+8+1,none⟩ (.bool z)).setCell ⟨x.bc,x.oc+x.who.toNat*13+8+2,none⟩ (.bool true)).setCell ⟨x.bc,x.oc+x.who.toNat*13+8+3,none⟩ (.int .i64 0)).setCell ⟨x.bc,x.oc+x.who.toNat*13+8+4,none⟩ (.int .i64 a.1)).drew) g #[.int .i64 c.since,.bool z,.bool true,.int .i64 0,.int .i64 a.1] 53:=(((((((((((HB.out).st (p:=⟨x.bc,x.oc+x.who.toNat*13+8,none⟩) nb (.int .i64 c.since))).st (p:=⟨x.bc,x.oc+x.who.toNat*13+8+1,none⟩) nb (.bool z))).st (p:=⟨x.bc,x.oc+x.who.toNat*13+8+2,none⟩) nb (.bool true))).st (p:=⟨x.bc,x.oc+x.who.toNat*13+8+3,none⟩) nb (.int .i64 0))).st (p:=⟨x.bc,x.oc+x.who.toNat*13+8+4,none⟩) nb (.int .i64 a.1))).gr (zr _).dr;generalize (((((wc.setCell ⟨x.bc,x.oc+x.who.toNat*13+8,none⟩ (.int .i64 c.since)).setCell ⟨x.bc,x.oc+x.who.toNat*13+8+1,none⟩ (.bool z)).setCell ⟨x.bc,x.oc+x.who.toNat*13+8+2,none⟩ (.bool true)).setCell ⟨x.bc,x.oc+x.who.toNat*13+8+3,none⟩ (.int .i64 0)).setCell ⟨x.bc,x.oc+x.who.toNat*13+8+4,none⟩ (.int .i64 a.1)).drew=v7 at H2 K2 B2 ⊢;have hc7:(cl.set x.who.toNat { c with st:=z,aw:=true,rounds:=0,old:=a.1 })[x.who.toNat]?=some { c with st:=z,aw:=true,rounds:=0,old:=a.1 }:=by rw [zss (zgl hc)]
  have h2:=H2.out;have n1:=h2.n1;have n1':=h2.n1.symm;obtain⟨-,-,-,-,-,-,-,n7,-,-,-,-⟩:=h2.cells;obtain⟨-,-,-,o3,-,-,-,-,-,-,-,-,-,sz⟩:=h2.cl_ hc7;have y3:=sz 3 (by decide);clear sz;dsimp only at o3;obtain⟨f0,-⟩:=B2.at_ (k:=0) rfl;obtain⟨f1,-⟩:=B2.at_ (k:=1) rfl;obtain⟨f2,-⟩:=B2.at_ (k:=2) rfl;obtain⟨f3,-⟩:=B2.at_ (k:=3) rfl;obtain⟨f4,-⟩:=B2.at_ (k:=4) rfl;clear h2 B2;refine hK.out _ _ ⟨n7,f0,f1,f2,f3,f4⟩ (λ hS=>?_);clear hK K
  try simp only [pL]
  refine wpAnyH_done (by kernel_rfl) ?_ _;clear hS l7 m8 m9 m10 m11 m12 y8 y9 y10 y11 y12 e0 e1 e2 e3 e4 f0 f1 f2 f3 f4;go_wp2_with fail
  (first | go_end0 | ((try simp only [Exit.inBlock,Exit.then]);refine bodyPost_ret (results_none rfl _ _ _) rfl ?_))
  exact⟨rfl,H2.out.putC2 hc 3 _ { c with st:=z,aw:=true,rounds:=0,old:=a.1,pc:=2 } rfl (by decide) { CBc with rounds:=b64_0,old:=bo,pc:=(show B64 2 from ⟨by omega,by omega⟩) },K2.out.trans (Kx.st (.inr (.inl rfl)) _)⟩
end
end P16
end
section
namespace P16
open P14 (pan)
open P12 (PV PMem)
theorem rn_runs (cl:List Cl):(P11.rn (cl.map gor)).length=runs cl:=by
 rw [P11.rn_cnt,List.countP_map,List.countP_eq_length_filter];unfold runs
 first
  | rfl
  | (congr 1;apply List.filter_congr;intro c _;simp [gor])
section
variable {x:Cx} {W:World} {T E:Sl} {cl:List Cl} {mx:List T3} {tb:List Sp} {ev:List T3} {c:Cl} {a:T3} {pr:List Ac}variable {v:Int}
theorem want_round (h:TS x W T E cl mx tb ev) (hR:Rn x cl c pr) (h0:0<=x.n) (h4:x.n<4) (ha:mx[x.n.toNat]?=some a) (hO:OwnR c) (hg:goes c (runs cl)=true) :
 Calls prog 101 #[.pointer (some ⟨x.b,0,none⟩)] W λ e W'=>e=.returned (.tuple #[])/\TS x W' T E (cl.set x.who.toNat (rndC c a.1)) (mx.set x.n.toNat (rndM c a.1,a.2)) tb ev/\Kx x W W':=by
 have hc:=hR.hc;have CBc:=h.cb c (zmo hc);have ev':=rn_runs cl;have hrg:=hR.rg;have hnc:=hR.nc;have cg:=hid (gors_is (c:=x.cc) (h.c.cmem h.lenc h.cb) (by omega));obtain⟨u,hu⟩:∃ u,runs cl=u:=⟨_,rfl⟩;rw [hu] at ev' hg;have cr:=λ W' A d hm=>hid (P11.Runnable_at (A:=A) (c:=d) (n:=x.nc) (by omega) hrg ev' W' hm)
 have cs:=λ W=>hid (Spins_c (u:=(u:Int)) hO (by omega) W)
 rw [hg] at cs;have ct:=λ W' (g:Gr W W')=>hid (round_is (h.gr g) hR h0 h4 ha hO)
 have H:=hid h;obtain⟨-,-,c2,-,-,-,-,-,-,-,-,-⟩:=h.cells;clear h hg hu ev' hrg hnc;go_enter func101,ntmps101;go_wp2_with fail;refine cg.out.mono ?_;rintro e w1 ⟨rfl,m1,g1⟩;have G1:=hid g1;have C1:=cr _ _ x.nc m1;clear g1 m1 c2 cg cr;go_wp2_with fail;refine C1.out.mono ?_;rintro e w2 ⟨A2,d2,rfl,-,-,g2⟩;have G2:=hid (G1.out.trans g2);clear g2 G1 C1;go_wp2_with fail;refine (sureN_yes _ _ _ _).mono ?_;rintro e w3 ⟨rfl,rfl⟩;have h3:=H.out.gr G2.out;obtain⟨-,-,-,-,-,-,-,ac7,-,-,-,-⟩:=h3.cells;obtain⟨-,-,-,-,-,-,-,-,as8,as9,as10,as11,as12,-⟩:=h3.cl_ hc;have ao1:w3.cell? ⟨x.bc,x.oc+x.who.toNat*13+8+1,none⟩=some (.bool c.st):=as9;have ao2:w3.cell? ⟨x.bc,x.oc+x.who.toNat*13+8+2,none⟩=some (.bool c.aw):=as10;have ao3:w3.cell? ⟨x.bc,x.oc+x.who.toNat*13+8+3,none⟩=some (.int .i64 c.rounds):=as11;have ao4:w3.cell? ⟨x.bc,x.oc+x.who.toNat*13+8+4,none⟩=some (.int .i64 c.old):=as12;clear as9 as10 as11 as12;clear h3;go_wp2_with fail;refine (cs _).out.mono ?_;rintro e w4 ⟨rfl,g4⟩;have G4:=hid (G2.out.trans g4);clear g4 G2;clear ac7 as8 ao1 ao2 ao3 ao4;go_wp2_with fail;refine (sureB_yes _ _).mono ?_;rintro e w5 ⟨rfl,rfl⟩;have C5:=ct _ G4.out;clear ct;go_wp2_with fail;refine C5.out.mono ?_;rintro e w6 ⟨rfl,h6,k6⟩;have H6:=hid h6;have K6:=hid k6;clear h6 k6;go_wp2_with fail
 (first | go_end0 | ((try simp only [Exit.inBlock,Exit.then]);refine bodyPost_ret (results_none rfl _ _ _) rfl ?_))
 exact⟨rfl,H6.out,(Kx.gr G4.out).trans K6.out⟩
theorem want_bad (h:TS x W T E cl mx tb ev) (hR:Rn x cl c pr) (h0:0<=x.n) (h4:x.n<4) (ha:mx[x.n.toNat]?=some a) (hO:OwnR c) (hg:goes c (runs cl)=false) (hw:wants c=none) :
 Calls prog 101 #[.pointer (some ⟨x.b,0,none⟩)] W λ e W'=>e=.panicked (pan 12)/\Kx x W W':=by
 have hc:=hR.hc;have CBc:=h.cb c (zmo hc);have ev':=rn_runs cl;have hrg:=hR.rg;have hnc:=hR.nc;have cg:=hid (gors_is (c:=x.cc) (h.c.cmem h.lenc h.cb) (by omega));obtain⟨u,hu⟩:∃ u,runs cl=u:=⟨_,rfl⟩;rw [hu] at ev' hg;have cr:=λ W' A d hm=>hid (P11.Runnable_at (A:=A) (c:=d) (n:=x.nc) (by omega) hrg ev' W' hm)
 have cs:=λ W=>hid (Spins_c (u:=(u:Int)) hO (by omega) W)
 rw [hg] at cs;obtain⟨y,hy,cw⟩:=Wants_x hO hw;have H:=hid h;obtain⟨-,-,c2,-,-,-,-,-,-,-,-,-⟩:=h.cells;clear h hg hu ev' hrg hnc;go_enter func101,ntmps101;go_wp2_with fail;refine cg.out.mono ?_;rintro e w1 ⟨rfl,m1,g1⟩;have G1:=hid g1;have C1:=cr _ _ x.nc m1;clear g1 m1 c2 cg cr;go_wp2_with fail;refine C1.out.mono ?_;rintro e w2 ⟨A2,d2,rfl,-,-,g2⟩;have G2:=hid (G1.out.trans g2);clear g2 G1 C1;go_wp2_with fail;refine (sureN_yes _ _ _ _).mono ?_;rintro e w3 ⟨rfl,rfl⟩;have h3:=H.out.gr G2.out;obtain⟨-,-,-,-,-,-,-,ac7,-,-,-,-⟩:=h3.cells;obtain⟨-,-,-,-,-,-,-,-,as8,as9,as10,as11,as12,-⟩:=h3.cl_ hc;have ao1:w3.cell? ⟨x.bc,x.oc+x.who.toNat*13+8+1,none⟩=some (.bool c.st):=as9;have ao2:w3.cell? ⟨x.bc,x.oc+x.who.toNat*13+8+2,none⟩=some (.bool c.aw):=as10;have ao3:w3.cell? ⟨x.bc,x.oc+x.who.toNat*13+8+3,none⟩=some (.int .i64 c.rounds):=as11;have ao4:w3.cell? ⟨x.bc,x.oc+x.who.toNat*13+8+4,none⟩=some (.int .i64 c.old):=as12;clear as9 as10 as11 as12;clear h3;go_wp2_with fail;refine (cs _).out.mono ?_;rintro e w4 ⟨rfl,g4⟩;have G4:=hid (G2.out.trans g4);clear g4 G2;clear ac7 as8 ao1 ao2 ao3 ao4;go_wp2_with fail;refine (sureB_yes _ _).mono ?_;rintro e w5 ⟨rfl,rfl⟩;have h5:=H.out.gr G4.out;obtain⟨-,-,-,-,-,-,-,bc7,-,-,-,-⟩:=h5.cells;obtain⟨-,-,-,-,-,-,-,-,bs8,bs9,bs10,bs11,bs12,-⟩:=h5.cl_ hc;have bo1:w5.cell? ⟨x.bc,x.oc+x.who.toNat*13+8+1,none⟩=some (.bool c.st):=bs9;have bo2:w5.cell? ⟨x.bc,x.oc+x.who.toNat*13+8+2,none⟩=some (.bool c.aw):=bs10;have bo3:w5.cell? ⟨x.bc,x.oc+x.who.toNat*13+8+3,none⟩=some (.int .i64 c.rounds):=bs11;have bo4:w5.cell? ⟨x.bc,x.oc+x.who.toNat*13+8+4,none⟩=some (.int .i64 c.old):=bs12;clear bs9 bs10 bs11 bs12;clear h5;go_wp2_with fail;refine (cw _).mono ?_;rintro e w6 ⟨rfl,g6⟩;have G6:=hid (G4.out.trans g6);clear g6;go_wp2_with fail;refine (sureI_no _ hy _).mono ?_;rintro e w7 ⟨rfl,rfl⟩;go_wp2_with fail;exact bodyPost_pan rfl ⟨rfl,Kx.gr G6.out⟩
theorem want_lost (h:TS x W T E cl mx tb ev) (hR:Rn x cl c pr) (h0:0<=x.n) (h4:x.n<4) (ha:mx[x.n.toNat]?=some a) (hO:OwnR c) (hg:goes c (runs cl)=false) (hw:wants c=some v) (hne:(a.1==c.old)=false) :
 Calls prog 101 #[.pointer (some ⟨x.b,0,none⟩)] W λ e W'=>e=.returned (.tuple #[])/\TS x W' T E (cl.set x.who.toNat { c with pc:=1 }) mx tb ev/\Kx x W W':=by
 have hc:=hR.hc;have CBc:=h.cb c (zmo hc);have ev':=rn_runs cl;have hrg:=hR.rg;have hnc:=hR.nc;have cg:=hid (gors_is (c:=x.cc) (h.c.cmem h.lenc h.cb) (by omega));obtain⟨u,hu⟩:∃ u,runs cl=u:=⟨_,rfl⟩;rw [hu] at ev' hg;have cr:=λ W' A d hm=>hid (P11.Runnable_at (A:=A) (c:=d) (n:=x.nc) (by omega) hrg ev' W' hm)
 have cs:=λ W=>hid (Spins_c (u:=(u:Int)) hO (by omega) W)
 rw [hg] at cs;have cw:=λ W=>hid (Wants_c hO hw W)
 have ct:=λ W' (g:Gr W W')=>hid (swaps_no (h.gr g) h0 h4 ha hc hne v)
 have H:=hid h;obtain⟨-,-,c2,-,-,-,-,-,-,-,-,-⟩:=h.cells;clear h hg hu ev' hrg hnc;go_enter func101,ntmps101;go_wp2_with fail;refine cg.out.mono ?_;rintro e w1 ⟨rfl,m1,g1⟩;have G1:=hid g1;have C1:=cr _ _ x.nc m1;clear g1 m1 c2 cg cr;go_wp2_with fail;refine C1.out.mono ?_;rintro e w2 ⟨A2,d2,rfl,-,-,g2⟩;have G2:=hid (G1.out.trans g2);clear g2 G1 C1;go_wp2_with fail;refine (sureN_yes _ _ _ _).mono ?_;rintro e w3 ⟨rfl,rfl⟩;have h3:=H.out.gr G2.out;obtain⟨-,-,-,-,-,-,-,ac7,-,-,-,-⟩:=h3.cells;obtain⟨-,-,-,-,-,-,-,-,as8,as9,as10,as11,as12,-⟩:=h3.cl_ hc;have ao1:w3.cell? ⟨x.bc,x.oc+x.who.toNat*13+8+1,none⟩=some (.bool c.st):=as9;have ao2:w3.cell? ⟨x.bc,x.oc+x.who.toNat*13+8+2,none⟩=some (.bool c.aw):=as10;have ao3:w3.cell? ⟨x.bc,x.oc+x.who.toNat*13+8+3,none⟩=some (.int .i64 c.rounds):=as11;have ao4:w3.cell? ⟨x.bc,x.oc+x.who.toNat*13+8+4,none⟩=some (.int .i64 c.old):=as12;clear as9 as10 as11 as12;clear h3;go_wp2_with fail;refine (cs _).out.mono ?_;rintro e w4 ⟨rfl,g4⟩;have G4:=hid (G2.out.trans g4);clear g4 G2;clear ac7 as8 ao1 ao2 ao3 ao4;go_wp2_with fail;refine (sureB_yes _ _).mono ?_;rintro e w5 ⟨rfl,rfl⟩;have h5:=H.out.gr G4.out;obtain⟨-,-,-,-,-,-,-,bc7,-,-,-,-⟩:=h5.cells;obtain⟨-,-,-,-,-,-,-,-,bs8,bs9,bs10,bs11,bs12,-⟩:=h5.cl_ hc;have bo1:w5.cell? ⟨x.bc,x.oc+x.who.toNat*13+8+1,none⟩=some (.bool c.st):=bs9;have bo2:w5.cell? ⟨x.bc,x.oc+x.who.toNat*13+8+2,none⟩=some (.bool c.aw):=bs10;have bo3:w5.cell? ⟨x.bc,x.oc+x.who.toNat*13+8+3,none⟩=some (.int .i64 c.rounds):=bs11;have bo4:w5.cell? ⟨x.bc,x.oc+x.who.toNat*13+8+4,none⟩=some (.int .i64 c.old):=bs12;clear bs9 bs10 bs11 bs12;clear h5;go_wp2_with fail;refine (cw _).out.mono ?_;rintro e w6 ⟨rfl,g6⟩;have G6:=hid (G4.out.trans g6);clear g6 G4;clear bc7 bs8 bo1 bo2 bo3 bo4;go_wp2_with fail;refine (sureI_yes _ _).mono ?_;rintro e w7 ⟨rfl,rfl⟩;have C7:=ct _ G6.out;clear ct;go_wp2_with fail;refine C7.out.mono ?_;rintro e w8 ⟨rfl,d,rfl⟩;have h8:=H.out.gr (G6.out.drN d);have k8:Kx x W _:=Kx.gr (G6.out.drN d);have H8:=hid h8;have K8:=hid k8;clear k8;obtain⟨-,-,-,-,-,-,-,q7,-,-,-,-⟩:=h8.cells;obtain⟨-,-,-,r3,-,-,-,-,-,-,-,-,-,sz⟩:=h8.cl_ hc;have y3:=sz 3 (by decide);clear sz;clear h8;generalize w7.drewN d=w8 at *;go_wp2_with fail
 (first | go_end0 | ((try simp only [Exit.inBlock,Exit.then]);refine bodyPost_ret (results_none rfl _ _ _) rfl ?_))
 exact⟨rfl,H8.out.putPc hc ⟨by omega,by omega⟩,K8.out.trans (Kx.st (.inr (.inl rfl)) _)⟩
theorem want_got (h:TS x W T ⟨none,0,0⟩ cl mx tb []) (hR:Rn x cl c pr) (h0:0<=x.n) (h4:x.n<4) (ha:mx[x.n.toNat]?=some a) (hO:OwnR c) (hg:goes c (runs cl)=false) (hw:wants c=some v) (hne:(a.1==c.old)=true) (hq:(!(wd c.old).L&&!(wd c.old).S)=true) :
 Calls prog 101 #[.pointer (some ⟨x.b,0,none⟩)] W λ e W'=>e=.returned (.tuple #[])/\(∃ E,TS x W' T E (cl.set x.who.toNat (over c pr.length)) (mx.set x.n.toNat (v,a.2)) tb [(x.who,0,x.n)])/\Kx x W W':=by
 have hc:=hR.hc;have CBc:=h.cb c (zmo hc);have ev':=rn_runs cl;have hrg:=hR.rg;have hnc:=hR.nc;have cg:=hid (gors_is (c:=x.cc) (h.c.cmem h.lenc h.cb) (by omega));obtain⟨u,hu⟩:∃ u,runs cl=u:=⟨_,rfl⟩;rw [hu] at ev' hg;have cr:=λ W' A d hm=>hid (P11.Runnable_at (A:=A) (c:=d) (n:=x.nc) (by omega) hrg ev' W' hm)
 have cs:=λ W=>hid (Spins_c (u:=(u:Int)) hO (by omega) W)
 rw [hg] at cs;have cw:=λ W=>hid (Wants_c hO hw W)
 have ct:=λ W' (g:Gr W W')=>hid (swaps_yes (h.gr g) h0 h4 ha hc hne (wants_ok hO hw))
 have cq:=λ W=>hid (Got_c hO W)
 rw [hq] at cq;have H:=hid h;obtain⟨-,-,c2,-,-,-,-,-,-,-,-,-⟩:=h.cells;clear h hg hu ev' hrg hnc;go_enter func101,ntmps101;go_wp2_with fail;refine cg.out.mono ?_;rintro e w1 ⟨rfl,m1,g1⟩;have G1:=hid g1;have C1:=cr _ _ x.nc m1;clear g1 m1 c2 cg cr;go_wp2_with fail;refine C1.out.mono ?_;rintro e w2 ⟨A2,d2,rfl,-,-,g2⟩;have G2:=hid (G1.out.trans g2);clear g2 G1 C1;go_wp2_with fail;refine (sureN_yes _ _ _ _).mono ?_;rintro e w3 ⟨rfl,rfl⟩;have h3:=H.out.gr G2.out;obtain⟨-,-,-,-,-,-,-,ac7,-,-,-,-⟩:=h3.cells;obtain⟨-,-,-,-,-,-,-,-,as8,as9,as10,as11,as12,-⟩:=h3.cl_ hc;have ao1:w3.cell? ⟨x.bc,x.oc+x.who.toNat*13+8+1,none⟩=some (.bool c.st):=as9;have ao2:w3.cell? ⟨x.bc,x.oc+x.who.toNat*13+8+2,none⟩=some (.bool c.aw):=as10;have ao3:w3.cell? ⟨x.bc,x.oc+x.who.toNat*13+8+3,none⟩=some (.int .i64 c.rounds):=as11;have ao4:w3.cell? ⟨x.bc,x.oc+x.who.toNat*13+8+4,none⟩=some (.int .i64 c.old):=as12;clear as9 as10 as11 as12;clear h3;go_wp2_with fail;refine (cs _).out.mono ?_;rintro e w4 ⟨rfl,g4⟩;have G4:=hid (G2.out.trans g4);clear g4 G2;clear ac7 as8 ao1 ao2 ao3 ao4;go_wp2_with fail;refine (sureB_yes _ _).mono ?_;rintro e w5 ⟨rfl,rfl⟩;have h5:=H.out.gr G4.out;obtain⟨-,-,-,-,-,-,-,bc7,-,-,-,-⟩:=h5.cells;obtain⟨-,-,-,-,-,-,-,-,bs8,bs9,bs10,bs11,bs12,-⟩:=h5.cl_ hc;have bo1:w5.cell? ⟨x.bc,x.oc+x.who.toNat*13+8+1,none⟩=some (.bool c.st):=bs9;have bo2:w5.cell? ⟨x.bc,x.oc+x.who.toNat*13+8+2,none⟩=some (.bool c.aw):=bs10;have bo3:w5.cell? ⟨x.bc,x.oc+x.who.toNat*13+8+3,none⟩=some (.int .i64 c.rounds):=bs11;have bo4:w5.cell? ⟨x.bc,x.oc+x.who.toNat*13+8+4,none⟩=some (.int .i64 c.old):=bs12;clear bs9 bs10 bs11 bs12;clear h5;go_wp2_with fail;refine (cw _).out.mono ?_;rintro e w6 ⟨rfl,g6⟩;have G6:=hid (G4.out.trans g6);clear g6 G4;clear bc7 bs8 bo1 bo2 bo3 bo4;go_wp2_with fail;refine (sureI_yes _ _).mono ?_;rintro e w7 ⟨rfl,rfl⟩;have C7:=ct _ G6.out;clear ct;go_wp2_with fail;refine C7.out.mono ?_;rintro e w8 ⟨rfl,h8,k8⟩;have H8:=hid h8;have K8:=hid ((Kx.gr G6.out).trans k8);clear k8;obtain⟨-,-,-,-,-,-,-,qc7,-,-,-,-⟩:=h8.cells;obtain⟨-,-,-,-,-,-,-,-,qs8,qs9,qs10,qs11,qs12,-⟩:=h8.cl_ hc;have qo1:w8.cell? ⟨x.bc,x.oc+x.who.toNat*13+8+1,none⟩=some (.bool c.st):=qs9;have qo2:w8.cell? ⟨x.bc,x.oc+x.who.toNat*13+8+2,none⟩=some (.bool c.aw):=qs10;have qo3:w8.cell? ⟨x.bc,x.oc+x.who.toNat*13+8+3,none⟩=some (.int .i64 c.rounds):=qs11;have qo4:w8.cell? ⟨x.bc,x.oc+x.who.toNat*13+8+4,none⟩=some (.int .i64 c.old):=qs12;clear qs9 qs10 qs11 qs12;clear h8;go_wp2_with fail;refine (cq _).out.mono ?_;rintro e w9 ⟨rfl,g9⟩;have h9:=H8.out.gr g9;have K9:=hid (K8.out.trans (Kx.gr g9));have ce:=hid (ends_is h9 hR (v:=0) ⟨by omega,by omega⟩);clear h9 g9;clear qc7 qs8 qo1 qo2 qo3 qo4;go_wp2_with fail;refine (sureB_yes _ _).mono ?_;rintro e w10 ⟨rfl,rfl⟩;go_wp2_with fail;refine ce.out.mono ?_;rintro e w11 ⟨rfl,h11,k11⟩;have H11:=hid h11;have K11:=hid k11;clear h11 k11;go_wp2_with fail
 (first | go_end0 | ((try simp only [Exit.inBlock,Exit.then]);refine bodyPost_ret (results_none rfl _ _ _) rfl ?_))
 exact⟨rfl,H11.out,K9.out.trans K11.out⟩
theorem want_sleep (h:TS x W T E cl mx tb ev) (hR:Rn x cl c pr) (h0:0<=x.n) (h4:x.n<4) (ha:mx[x.n.toNat]?=some a) (hO:OwnR c) (hu2:P4.Tm x.now) (hg:goes c (runs cl)=false) (hw:wants c=some v) (hne:(a.1==c.old)=true) (hq:(!(wd c.old).L&&!(wd c.old).S)=false) :
 Calls prog 101 #[.pointer (some ⟨x.b,0,none⟩)] W λ e W'=>e=.returned (.tuple #[])/\TS x W' T E (cl.set x.who.toNat { c with since:=if c.since=-1 then x.now else c.since,first:=!decide (c.since=-1),pc:=3 }) (mx.set x.n.toNat (v,a.2)) tb ev/\Kx x W W':=by
 have hc:=hR.hc;have CBc:=h.cb c (zmo hc);have ev':=rn_runs cl;have hrg:=hR.rg;have hnc:=hR.nc;have cg:=hid (gors_is (c:=x.cc) (h.c.cmem h.lenc h.cb) (by omega));obtain⟨u,hu⟩:∃ u,runs cl=u:=⟨_,rfl⟩;rw [hu] at ev' hg;have cr:=λ W' A d hm=>hid (P11.Runnable_at (A:=A) (c:=d) (n:=x.nc) (by omega) hrg ev' W' hm)
 have cs:=λ W=>hid (Spins_c (u:=(u:Int)) hO (by omega) W)
 rw [hg] at cs;have cw:=λ W=>hid (Wants_c hO hw W)
 have ct:=λ W' (g:Gr W W')=>hid (swaps_yes (h.gr g) h0 h4 ha hc hne (wants_ok hO hw))
 have cq:=λ W=>hid (Got_c hO W)
 rw [hq] at cq;have cz:=λ W=>hid (Sleep_c hO hu2 W)
 have bs:B64 (if c.since=-1 then x.now else c.since):=by split;exact h.kt;exact CBc.since
 obtain⟨s,hs⟩:∃ s,(if c.since=-1 then x.now else c.since)=s:=⟨_,rfl⟩;obtain⟨f,hf⟩:∃ f,(!decide (c.since=-1))=f:=⟨_,rfl⟩;rw [hs] at bs;rw [hs,hf] at cz ⊢;clear hs hf hu2;have H:=hid h;obtain⟨-,-,c2,-,-,-,-,-,-,-,-,-⟩:=h.cells;clear h hg hu ev' hrg hnc;go_enter func101,ntmps101;go_wp2_with fail;refine cg.out.mono ?_;rintro e w1 ⟨rfl,m1,g1⟩;have G1:=hid g1;have C1:=cr _ _ x.nc m1;clear g1 m1 c2 cg cr;go_wp2_with fail;refine C1.out.mono ?_;rintro e w2 ⟨A2,d2,rfl,-,-,g2⟩;have G2:=hid (G1.out.trans g2);clear g2 G1 C1;go_wp2_with fail;refine (sureN_yes _ _ _ _).mono ?_;rintro e w3 ⟨rfl,rfl⟩;have h3:=H.out.gr G2.out;obtain⟨-,-,-,-,-,-,-,ac7,-,-,-,-⟩:=h3.cells;obtain⟨-,-,-,-,-,-,-,-,as8,as9,as10,as11,as12,-⟩:=h3.cl_ hc;have ao1:w3.cell? ⟨x.bc,x.oc+x.who.toNat*13+8+1,none⟩=some (.bool c.st):=as9;have ao2:w3.cell? ⟨x.bc,x.oc+x.who.toNat*13+8+2,none⟩=some (.bool c.aw):=as10;have ao3:w3.cell? ⟨x.bc,x.oc+x.who.toNat*13+8+3,none⟩=some (.int .i64 c.rounds):=as11;have ao4:w3.cell? ⟨x.bc,x.oc+x.who.toNat*13+8+4,none⟩=some (.int .i64 c.old):=as12;clear as9 as10 as11 as12;clear h3;go_wp2_with fail;refine (cs _).out.mono ?_;rintro e w4 ⟨rfl,g4⟩;have G4:=hid (G2.out.trans g4);clear g4 G2;clear ac7 as8 ao1 ao2 ao3 ao4;go_wp2_with fail;refine (sureB_yes _ _).mono ?_;rintro e w5 ⟨rfl,rfl⟩;have h5:=H.out.gr G4.out;obtain⟨-,-,-,-,-,-,-,bc7,-,-,-,-⟩:=h5.cells;obtain⟨-,-,-,-,-,-,-,-,bs8,bs9,bs10,bs11,bs12,-⟩:=h5.cl_ hc;have bo1:w5.cell? ⟨x.bc,x.oc+x.who.toNat*13+8+1,none⟩=some (.bool c.st):=bs9;have bo2:w5.cell? ⟨x.bc,x.oc+x.who.toNat*13+8+2,none⟩=some (.bool c.aw):=bs10;have bo3:w5.cell? ⟨x.bc,x.oc+x.who.toNat*13+8+3,none⟩=some (.int .i64 c.rounds):=bs11;have bo4:w5.cell? ⟨x.bc,x.oc+x.who.toNat*13+8+4,none⟩=some (.int .i64 c.old):=bs12;clear bs9 bs10 bs11 bs12;clear h5;go_wp2_with fail;refine (cw _).out.mono ?_;rintro e w6 ⟨rfl,g6⟩;have G6:=hid (G4.out.trans g6);clear g6 G4;clear bc7 bs8 bo1 bo2 bo3 bo4;go_wp2_with fail;refine (sureI_yes _ _).mono ?_;rintro e w7 ⟨rfl,rfl⟩;have C7:=ct _ G6.out;clear ct;go_wp2_with fail;refine C7.out.mono ?_;rintro e w8 ⟨rfl,h8,k8⟩;have H8:=hid h8;have K8:=hid ((Kx.gr G6.out).trans k8);clear k8;obtain⟨-,-,-,-,-,-,-,qc7,-,-,-,-⟩:=h8.cells;obtain⟨-,-,-,-,-,-,-,-,qs8,qs9,qs10,qs11,qs12,-⟩:=h8.cl_ hc;have qo1:w8.cell? ⟨x.bc,x.oc+x.who.toNat*13+8+1,none⟩=some (.bool c.st):=qs9;have qo2:w8.cell? ⟨x.bc,x.oc+x.who.toNat*13+8+2,none⟩=some (.bool c.aw):=qs10;have qo3:w8.cell? ⟨x.bc,x.oc+x.who.toNat*13+8+3,none⟩=some (.int .i64 c.rounds):=qs11;have qo4:w8.cell? ⟨x.bc,x.oc+x.who.toNat*13+8+4,none⟩=some (.int .i64 c.old):=qs12;clear qs9 qs10 qs11 qs12;clear h8;go_wp2_with fail;refine (cq _).out.mono ?_;rintro e w9 ⟨rfl,g9⟩;have H9:=hid (H8.out.gr g9);have K9:=hid (K8.out.trans (Kx.gr g9));clear g9 H8 K8;clear qc7 qs8 qo1 qo2 qo3 qo4;go_wp2_with fail;refine (sureB_yes _ _).mono ?_;rintro e w10 ⟨rfl,rfl⟩;have h10:=H9.out;obtain⟨tc0,-,-,-,-,-,-,tc7,-,-,-,-⟩:=h10.cells;obtain⟨-,-,-,-,-,-,-,-,ts8,ts9,ts10,ts11,ts12,-⟩:=h10.cl_ hc;have to1:w10.cell? ⟨x.bc,x.oc+x.who.toNat*13+8+1,none⟩=some (.bool c.st):=ts9;have to2:w10.cell? ⟨x.bc,x.oc+x.who.toNat*13+8+2,none⟩=some (.bool c.aw):=ts10;have to3:w10.cell? ⟨x.bc,x.oc+x.who.toNat*13+8+3,none⟩=some (.int .i64 c.rounds):=ts11;have to4:w10.cell? ⟨x.bc,x.oc+x.who.toNat*13+8+4,none⟩=some (.int .i64 c.old):=ts12;clear ts9 ts10 ts11 ts12;have n1:=h10.n1;have n1':=h10.n1.symm;clear h10;go_upto_region 7 with fail
 refine wp_region_held_drew (S:=(λ w'=>w'.cell? ⟨x.b,7,none⟩=some (.pointer (some ⟨x.bc,x.oc+x.who.toNat*13,none⟩))/\w'.cell? ⟨x.b,0,none⟩=some (.int .i64 x.now))) (by kernel_rfl) ⟨tc7,tc0⟩ (λ hS=>?_);refine wG 0 hS ?_;refine wG 1 hS ?_;refine wG 2 hS ?_;refine wG 3 hS ?_;refine wG 4 hS ?_;refine wG 5 hS ?_;refine wG 6 hS ?_;refine wG 7 hS ?_;refine wG 8 hS ?_;refine wG 9 hS ?_;refine wG 10 hS ?_;refine wG 11 hS ?_;refine wG 12 hS ?_;refine wG 13 hS ?_;refine wG 15 hS ?_;refine wG 16 hS ?_;refine wG 17 hS ?_;refine wG 18 hS ?_;refine wG 19 hS ?_;refine wR1 14 (λ K hK=>?_);go_simp;refine hK.out _ _ ⟨tc7,tc0⟩ (λ hS=>?_);clear hK K
 try simp only [pL]
 refine wR1 20 (λ K hK=>?_);go_simp;go_at_call 145;refine (cz _).out.mono ?_;rintro ee v1 ⟨rfl,g11⟩;go_wp2_with fail;have E1:=hid ((zr w10).dr.trans g11);clear g11;have j1:=H9.out.gr E1.out;obtain⟨l0,-,-,-,-,-,-,l7,-,-,-,-⟩:=j1.cells;clear j1;refine hK.out _ _ ⟨l7,l0⟩ (λ hS=>?_);clear hK K
 try simp only [pL]
 refine wG 21 hS ?_;refine wG 22 hS ?_;refine wG 23 hS ?_;refine wR1 24 (λ K hK=>?_);go_simp;go_at_call 144;refine (bothOB_yes _ _ _ _ _ _ _).mono ?_;rintro ee v2 ⟨rfl,g12⟩;go_wp2_with fail;have E2:=hid (E1.out.trans g12);clear g12 l7 l0;have j2:=H9.out.gr E2.out;obtain⟨l0,-,-,-,-,-,-,l7,-,-,-,-⟩:=j2.cells;obtain⟨-,-,-,-,-,-,-,-,m8,m9,m10,m11,m12,sz⟩:=j2.cl_ hc;have y8:=sz 8 (by decide);have y9:=sz 9 (by decide);have y10:=sz 10 (by decide);have y11:=sz 11 (by decide);have y12:=sz 12 (by decide);clear sz;clear j2;refine hK.out _ _ ⟨l7,l0⟩ (λ hS=>?_);clear hK K
 try simp only [pL]
 refine wG 25 hS ?_;refine wG 26 hS ?_;refine wG 27 hS ?_;refine wG 28 hS ?_;refine wG 29 hS ?_;refine wR1 30 (λ K hK=>?_);go_simp;have H3:Hid (TS x ((((((v2.setCell ⟨x.bc,x.oc+x.who.toNat*13+8,none⟩ (.int .i64 s)).setCell ⟨x.bc,x.oc+x.who.toNat*13+8+1,none⟩ (.bool c.st)).setCell ⟨x.bc,x.oc+x.who.toNat*13+8+2,none⟩ (.bool c.aw)).setCell ⟨x.bc,x.oc+x.who.toNat*13+8+3,none⟩ (.int .i64 c.rounds)).setCell ⟨x.bc,x.oc+x.who.toNat*13+8+4,none⟩ (.int .i64 c.old))) T E (cl.set x.who.toNat { c with since:=s }) (mx.set x.n.toNat (v,a.2)) tb ev):=hid ((H9.out.gr E2.out).putO hc { c with since:=s } { CBc with since:=bs });have K3:Hid (Kx x w10 ((((((v2.setCell ⟨x.bc,x.oc+x.who.toNat*13+8,none⟩ (.int .i64 s)).setCell ⟨x.bc,x.oc+x.who.toNat*13+8+1,none⟩ (.bool c.st)).setCell ⟨x.bc,x.oc+x.who.toNat*13+8+2,none⟩ (.bool c.aw)).setCell ⟨x.bc,x.oc+x.who.toNat*13+8+3,none⟩ (.int .i64 c.rounds)).setCell ⟨x.bc,x.oc+x.who.toNat*13+8+4,none⟩ (.int .i64 c.old)))):=hid ((((((Kx.gr E2.out).trans (Kx.st (.inr (.inl rfl)) _)).trans (Kx.st (.inr (.inl rfl)) _)).trans (Kx.st (.inr (.inl rfl)) _)).trans (Kx.st (.inr (.inl rfl)) _)).trans (Kx.st (.inr (.inl rfl)) _));generalize (((((v2.setCell ⟨x.bc,x.oc+x.who.toNat*13+8,none⟩ (.int .i64 s)).setCell ⟨x.bc,x.oc+x.who.toNat*13+8+1,none⟩ (.bool c.st)).setCell ⟨x.bc,x.oc+x.who.toNat*13+8+2,none⟩ (.bool c.aw)).setCell ⟨x.bc,x.oc+x.who.toNat*13+8+3,none⟩ (.int .i64 c.rounds)).setCell ⟨x.bc,x.oc+x.who.toNat*13+8+4,none⟩ (.int .i64 c.old))=v3 at H3 K3 ⊢;have hc3:(cl.set x.who.toNat { c with since:=s })[x.who.toNat]?=some { c with since:=s }:=by rw [zss (zgl hc)]
 clear l7 l0 m8 m9 m10 m11 m12 y8 y9 y10 y11 y12;have j3:=H3.out;obtain⟨n0,-,-,-,-,-,-,n7,-,-,-,-⟩:=j3.cells;obtain⟨-,-,-,r3,-,-,r6,-,-,-,-,-,-,sz⟩:=j3.cl_ hc3;have y3:=sz 3 (by decide);have y6:=sz 6 (by decide);clear sz;clear j3;refine hK.out _ _ ⟨n7,n0⟩ (λ hS=>?_);clear hK K
 try simp only [pL]
 refine wG 31 hS ?_;refine wG 32 hS ?_;refine wR1 33 (λ K hK=>?_);go_simp;have H4:Hid (TS x (v3.setCell ⟨x.bc,x.oc+x.who.toNat*13+6,none⟩ (.bool f)) T E (cl.set x.who.toNat { c with since:=s,first:=f }) (mx.set x.n.toNat (v,a.2)) tb ev):=hid (H3.out.putC2 hc 6 (.bool f) { c with since:=s,first:=f } rfl (by decide) { CBc with since:=bs });have K4:Hid (Kx x w10 (v3.setCell ⟨x.bc,x.oc+x.who.toNat*13+6,none⟩ (.bool f))):=hid (K3.out.trans (Kx.st (.inr (.inl rfl)) _));generalize (v3.setCell ⟨x.bc,x.oc+x.who.toNat*13+6,none⟩ (.bool f))=v4 at H4 K4 ⊢;have hc4:(cl.set x.who.toNat { c with since:=s,first:=f })[x.who.toNat]?=some { c with since:=s,first:=f }:=by rw [zss (zgl hc)]
 clear n7 n0 r3 r6 y3 y6;have j4:=H4.out;obtain⟨o0,-,-,-,-,-,-,o7,-,-,-,-⟩:=j4.cells;obtain⟨-,-,-,i3,-,-,-,-,-,-,-,-,-,sz⟩:=j4.cl_ hc4;have y3:=sz 3 (by decide);clear sz;clear j4;refine hK.out _ _ ⟨o7,o0⟩ (λ hS=>?_);clear hK K
 try simp only [pL]
 refine wpAnyH_done (by kernel_rfl) ?_ _;clear hS;go_wp2_with fail
 (first | go_end0 | ((try simp only [Exit.inBlock,Exit.then]);refine bodyPost_ret (results_none rfl _ _ _) rfl ?_))
 exact⟨rfl,H4.out.putC2 hc 3 (.int .i64 3) { c with since:=s,first:=f,pc:=3 } rfl (by decide) { CBc with since:=bs,pc:=(show B64 3 from ⟨by omega,by omega⟩) },(K9.out.trans K4.out).trans (Kx.st (.inr (.inl rfl)) _)⟩
end
end P16
end
section
namespace P16
open P14 (pan)
open P12 (PV PMem)
theorem gtA_cnt {tb:List Sp} (h:TabA tb) (j:Nat) (hj:j<4):0<=(gtA tb j).1:=(gt_cnt h.1.2 (key8 hj)).1
theorem gtA_cons {tb:List Sp} (h:TabA tb) (j:Nat) (hj:j<4) {y:Int} {r:List Int} (hl:(gtA tb j).2=y::r):(gtA tb j).1=0:=by
 rcases (gt_cnt h.1.2 (key8 hj)).2.2.2 with q | q
 . exact q
 . have hl:(gt (svs tb) (8*(j:Int))).2=y::r:=hl
   rw [hl] at q;cases q
def cmOf (a:T3) (g:Int×List Int):Cm:=⟨a.1,a.2.1,a.2.2,g.1,g.2⟩
def OutQ (x:Cx) (W:World) (cl:List Cl) (mx:List T3) (tb:List Sp) (R:Res) (e:Ending) (W':World):Prop :=
 Kx x W W'/\match R with
 | .bad=>e=.panicked (pan 12)
 | .fault=>e=.panicked (pan 11)
 | .ok o=>match o.rdy with
  | none=>e=.returned (.tuple #[])/\∃ T' E' tb',TS x W' T' E' (cl.set x.who.toNat o.c) (mx.set x.n.toNat (o.m.word,o.m.nx,o.m.sv)) tb' (o.ev.map λ v=>(x.who,v,x.n)).toList/\GotT tb tb' x.n.toNat (o.m.c,o.m.l)
  | some y=>match ((cl.set x.who.toNat o.c)[y.toNat]?).bind told with
   | none=>e=.panicked (pan 12)
   | some d=>e=.returned (.tuple #[])/\∃ T' E' tb',TS x W' T' E' ((cl.set x.who.toNat o.c).set y.toNat d) (mx.set x.n.toNat (o.m.word,o.m.nx,o.m.sv)) tb' (o.ev.map λ v=>(x.who,v,x.n)).toList/\GotT tb tb' x.n.toNat (o.m.c,o.m.l)
structure Can (x:Cx) (W:World) (cl:List Cl) (mx:List T3) (tb:List Sp) (c:Cl) (a:T3) (pr:List Ac):Prop where
 R:Rn x cl c pr
 n0:0<=x.n
 n4:x.n<4
 ha:mx[x.n.toNat]?=some a
 O:OwnR c
 tm:P4.Tm x.now
 ok:OkW a.1
 nx:0<=a.2.1/\a.2.1<4294967296
 sv:0<=a.2.2/\a.2.2<4294967296
 tab:TabA tb
 ids:∀ y∈(gtA tb x.n.toNat).2,0<=y/\y<(cl.length:Int)
 gors:∀ c∈cl,(c.gst=0\/c.gst=1\/c.gst=2)/\(c.permit=true->c.gst=0)
 gl:P15.Glob W
section
variable {x:Cx} {W W':World} {T E:Sl} {cl:List Cl} {mx mx':List T3} {tb:List Sp} {ev:List T3} {c c':Cl} {a:T3} {pr:List Ac} {m':Cm} {e0:Option Int} {G:Int×List Int}
theorem GotT.refl (h:TabA tb) (j:Nat):GotT tb tb j (gtA tb j):=⟨h,rfl,λ _ _=>rfl⟩
theorem OutQ.go (hT:TabA tb) (hk:Kx x W W') (h:TS x W' T E (cl.set x.who.toNat c') mx' tb ev) (hm:mx'=mx.set x.n.toNat (m'.word,m'.nx,m'.sv)) (hg:gtA tb x.n.toNat=(m'.c,m'.l)) (he:ev=(e0.map λ v=>(x.who,v,x.n)).toList) :
 OutQ x W cl mx tb (go c' m' e0) (.returned (.tuple #[])) W':=by
 refine⟨hk,rfl,T,E,tb,?_,?_⟩
 . rw [<- hm,<- he];exact h
 . have q:=GotT.refl hT x.n.toNat
   rw [hg] at q;exact q
theorem OutQ.got {tb2:List Sp} (hk:Kx x W W') (h:TS x W' T E (cl.set x.who.toNat c') mx' tb2 ev) (hm:mx'=mx.set x.n.toNat (m'.word,m'.nx,m'.sv)) (hg:GotT tb tb2 x.n.toNat (m'.c,m'.l)) (he:ev=(e0.map λ v=>(x.who,v,x.n)).toList) :
 OutQ x W cl mx tb (P16.go c' m' e0) (.returned (.tuple #[])) W':=by
 refine⟨hk,rfl,T,E,tb2,?_,hg⟩;rw [<- hm,<- he];exact h
end
section
variable {x:Cx} {W:World} {T:Sl} {cl:List Cl} {mx:List T3} {tb:List Sp} {c:Cl} {a:T3} {pr:List Ac}
abbrev CM (x:Cx) (tb:List Sp) (a:T3):Cm:=cmOf a (gtA tb x.n.toNat)
abbrev Meth (F:Nat) (x:Cx) (W:World) (cl:List Cl) (mx:List T3) (tb:List Sp) (R:Res):Prop:=Calls prog F #[.pointer (some ⟨x.b,0,none⟩)] W (OutQ x W cl mx tb R)
theorem hands_z {z:Int} (hd:hands c=some z):-11<=z/\z<=-7:=by
 unfold hands at hd;dsimp only at hd
 split at hd
 . cases hd
 . cases hd
   split<;>omega
variable (h:TS x W T ⟨none,0,0⟩ cl mx tb []) (C:Can x W cl mx tb c a pr)
include h C
theorem m_lock:Meth 99 x W cl mx tb (if (CM x tb a).word=0 then go (over c pr.length) { CM x tb a with word:=1 } (some 0) else go { c with pc:=1 } (CM x tb a)):=by
 by_cases hz:a.1=0
 . rw [if_pos (show (CM x tb a).word=0 from hz)]
   refine (lock_yes h C.R C.n0 C.n4 C.ha (by simp [hz])).mono ?_;rintro e W' ⟨rfl,⟨E,q⟩,hk⟩;exact OutQ.go C.tab hk q rfl rfl rfl
 . rw [if_neg (show ¬ (CM x tb a).word=0 from hz)]
   refine (lock_no h C.R C.n0 C.n4 C.ha (by simp [hz])).mono ?_;rintro e W' ⟨rfl,q,hk⟩;exact OutQ.go C.tab hk q (set_same C.ha).symm rfl rfl
theorem m_load:Meth 100 x W cl mx tb (go { c with old:=(CM x tb a).word,pc:=2 } (CM x tb a)):=by
 refine (load_is h C.R C.n0 C.n4 C.ha).mono ?_;rintro e W' ⟨rfl,q,hk⟩;exact OutQ.go C.tab hk q (set_same C.ha).symm rfl rfl
theorem m_see:Meth 112 x W cl mx tb (go { c with old:=(CM x tb a).word,pc:=10 } (CM x tb a)):=by
 refine (see_is h C.R C.n0 C.n4 C.ha).mono ?_;rintro e W' ⟨rfl,q,hk⟩;exact OutQ.go C.tab hk q (set_same C.ha).symm rfl rfl
theorem m_draw (hp:0<=c.pc/\c.pc<=100):Meth 102 x W cl mx tb (draw c (CM x tb a) (c.pc+1)):=by
 unfold draw;by_cases hz:(a.2.1-a.2.2) % 4294967296=4294967295
 . rw [if_pos (show ((CM x tb a).nx-(CM x tb a).sv) % 4294967296=4294967295 from hz)]
   refine (draw_no h C.n0 C.n4 C.ha C.nx C.sv hz).mono ?_;rintro e W' ⟨rfl,hk⟩;exact⟨hk,rfl⟩
 . rw [if_neg (show ¬ ((CM x tb a).nx-(CM x tb a).sv) % 4294967296=4294967295 from hz)]
   refine (draw_yes h C.R C.n0 C.n4 C.ha C.nx C.sv hz hp).mono ?_;rintro e W' ⟨rfl,q,hk⟩;exact OutQ.go C.tab hk q rfl rfl rfl
theorem m_await (hp:0<=c.pc/\c.pc<=100):Meth 103 x W cl mx tb (turn c (CM x tb a) (c.pc+1)):=by
 unfold turn;by_cases hz:c.ticket=a.2.2
 . rw [if_pos (show c.ticket=(CM x tb a).sv from hz)]
   refine (await_yes h C.R C.n0 C.n4 C.ha C.nx C.sv (by simp [hz]) hp).mono ?_;rintro e W' ⟨rfl,q,hk⟩;exact OutQ.go C.tab hk q (set_same C.ha).symm rfl rfl
 . rw [if_neg (show ¬ c.ticket=(CM x tb a).sv from hz)]
   refine (await_no h C.R C.n0 C.n4 C.ha C.nx C.sv (by simp [hz]) hp).mono ?_;rintro e W' ⟨rfl,q,hk⟩;refine OutQ.go C.tab hk (T:=T) (E:=⟨none,0,0⟩) (ev:=[]) ?_ (set_same C.ha).symm rfl rfl;rw [show ({ c with pc:=c.pc }:Cl)=c from rfl,set_same C.R.hc];exact q
theorem m_sleep:Meth 105 x W cl mx tb (rest c (CM x tb a)):=by
 unfold rest;by_cases hz:(a.2.1-a.2.2) % 4294967296=0
 . rw [if_pos (show ((CM x tb a).nx-(CM x tb a).sv) % 4294967296=0 from hz)]
   refine (sleep_bad h C.n0 C.n4 C.ha C.nx C.sv hz).mono ?_;rintro e W' ⟨rfl,hk⟩;exact⟨hk,rfl⟩
 . rw [if_neg (show ¬ ((CM x tb a).nx-(CM x tb a).sv) % 4294967296=0 from hz)]
   dsimp only;by_cases ht:c.told=true
   case neg =>
    rw [if_neg ht];refine (sleep_park h C.R C.n0 C.n4 C.ha C.nx C.sv hz (by simpa using ht)).mono ?_;rintro e W' ⟨rfl,q,hk⟩;exact OutQ.go C.tab hk q rfl rfl rfl
   case pos =>
    rw [if_pos ht];refine (sleep_told h C.R C.n0 C.n4 C.ha C.nx C.sv hz ht).mono ?_;rintro e W' ⟨rfl,q,hk⟩;exact OutQ.go C.tab hk q rfl rfl rfl
theorem m_leave:Meth 114 x W cl mx tb (if ((CM x tb a).nx-(CM x tb a).sv) % 4294967296=0 then .bad else go (over c pr.length) { CM x tb a with sv:=((CM x tb a).sv+1) % 4294967296 }):=by
 by_cases hz:(a.2.1-a.2.2) % 4294967296=0
 . rw [if_pos (show ((CM x tb a).nx-(CM x tb a).sv) % 4294967296=0 from hz)]
   refine (leave_no h C.n0 C.n4 C.ha C.nx C.sv hz).mono ?_;rintro e W' ⟨rfl,hk⟩;exact⟨hk,rfl⟩
 . rw [if_neg (show ¬ ((CM x tb a).nx-(CM x tb a).sv) % 4294967296=0 from hz)]
   refine (leave_yes h C.R C.n0 C.n4 C.ha C.nx C.sv hz).mono ?_;rintro e W' ⟨rfl,q,hk⟩;exact OutQ.go C.tab hk q rfl rfl rfl
theorem m_wake:Meth 106 x W cl mx tb (woken x.now c (CM x tb a)):=by
 unfold woken;dsimp only;cases hS:(wd a.1).S
 . rw [if_neg (show ¬ (wd (CM x tb a).word).S=true from by rw [show (CM x tb a).word=a.1 from rfl,hS];simp)]
   refine (wake_b h C.R C.n0 C.n4 C.ha C.O C.tm C.ok hS).mono ?_;rintro e W' ⟨rfl,q,hk⟩;exact OutQ.go C.tab hk q (set_same C.ha).symm rfl rfl
 . rw [if_pos (show (wd (CM x tb a).word).S=true from hS)]
   refine (wake_h h C.R C.n0 C.n4 C.ha C.O C.tm C.ok hS).mono ?_;rintro e W' ⟨rfl,q,hk⟩;exact OutQ.go C.tab hk q (set_same C.ha).symm rfl rfl
theorem m_take:Meth 107 x W cl mx tb (handed pr.length c (CM x tb a)):=by
 unfold handed
 cases hd:hands c with
 | none =>
  refine (take_none h C.R C.n0 C.n4 C.ha C.O hd).mono ?_;rintro e W' ⟨rfl,hk⟩;exact⟨hk,rfl⟩
 | some z =>
  have hz:=hands_z hd;dsimp only;by_cases hv:OkW (a.1+z)
  . rw [if_pos (show 0<=(CM x tb a).word+z/\(CM x tb a).word+z<2147483648 from hv)]
    refine (take_yes h C.R C.n0 C.n4 C.ha C.O hd C.ok hz hv).mono ?_;rintro e W' ⟨rfl,⟨E,q⟩,hk⟩;exact OutQ.go C.tab hk q rfl rfl rfl
  . rw [if_neg (show ¬ (0<=(CM x tb a).word+z/\(CM x tb a).word+z<2147483648) from hv)]
    refine (take_bad h C.R C.n0 C.n4 C.ha C.O hd C.ok hz hv).mono ?_;rintro e W' ⟨rfl,hk⟩;exact⟨hk,rfl⟩
theorem m_look:Meth 108 x W cl mx tb (if (wd (CM x tb a).word).L=true\/(wd (CM x tb a).word).S=true then go (over c pr.length) (CM x tb a) (some 2) else go { c with old:=(CM x tb a).word,pc:=9 } (CM x tb a)):=by
 by_cases hl:(wd a.1).L=true\/(wd a.1).S=true
 . rw [if_pos (show (wd (CM x tb a).word).L=true\/(wd (CM x tb a).word).S=true from hl)]
   refine (look_no h C.R C.n0 C.n4 C.ha C.ok hl).mono ?_;rintro e W' ⟨rfl,⟨E,q⟩,hk⟩;exact OutQ.go C.tab hk q (set_same C.ha).symm rfl rfl
 . rw [if_neg (show ¬ ((wd (CM x tb a).word).L=true\/(wd (CM x tb a).word).S=true) from hl)]
   have h1:(wd a.1).L=false:=by cases q:(wd a.1).L;rfl;exact absurd (.inl q) hl
   have h2:(wd a.1).S=false:=by cases q:(wd a.1).S;rfl;exact absurd (.inr q) hl
   refine (look_yes h C.R C.n0 C.n4 C.ha C.ok h1 h2).mono ?_;rintro e W' ⟨rfl,q,hk⟩;exact OutQ.go C.tab hk q (set_same C.ha).symm rfl rfl
theorem m_grasp:Meth 109 x W cl mx tb (if (CM x tb a).word≠c.old then go (over c pr.length) (CM x tb a) (some 2) else go (over c pr.length) { CM x tb a with word:=un { wd (CM x tb a).word with L:=true } } (some 1)):=by
 by_cases hz:a.1=c.old
 . rw [if_neg (show ¬ (CM x tb a).word≠c.old from λ q=>q hz)]
   refine (grasp_yes h C.R C.n0 C.n4 C.ha (by simp [hz]) C.O.ol).mono ?_;rintro e W' ⟨rfl,⟨E,q⟩,hk⟩;rw [<- hz] at q;exact OutQ.go C.tab hk q rfl rfl rfl
 . rw [if_pos (show (CM x tb a).word≠c.old from hz)]
   refine (grasp_no h C.R C.n0 C.n4 C.ha (by simp [hz]) C.O.ol).mono ?_;rintro e W' ⟨rfl,⟨E,q⟩,hk⟩;exact OutQ.go C.tab hk q (set_same C.ha).symm rfl rfl
theorem m_unlock:Meth 110 x W cl mx tb (unlock pr.length c (CM x tb a)):=by
 unfold unlock;cases hl:(wd a.1).L
 . rw [if_pos (show (wd (CM x tb a).word).L=false from hl)]
   refine (unlock_fault h C.gl C.n0 C.n4 C.ha C.ok hl).mono ?_;rintro e W' ⟨rfl,hk⟩;exact⟨hk,rfl⟩
 . rw [if_neg (show ¬ (wd (CM x tb a).word).L=false from by rw [show (CM x tb a).word=a.1 from rfl,hl];simp)]
   dsimp only;by_cases hz:a.1-1=0
   . rw [if_pos (show (CM x tb a).word-1=0 from hz)]
     refine (unlock_over h C.gl C.R C.n0 C.n4 C.ha C.ok hl hz).mono ?_;rintro e W' ⟨rfl,⟨E,q⟩,hk⟩;exact OutQ.go C.tab hk q rfl rfl rfl
   . rw [if_neg (show ¬ (CM x tb a).word-1=0 from hz)]
     cases hS:(wd (a.1-1)).S
     . rw [if_neg (show ¬ (wd ((CM x tb a).word-1)).S=true from by rw [show (CM x tb a).word=a.1 from rfl,hS];simp)]
       refine (unlock_wake h C.gl C.R C.n0 C.n4 C.ha C.ok hl hz hS).mono ?_;rintro e W' ⟨rfl,⟨E,q⟩,hk⟩;exact OutQ.go C.tab hk q rfl rfl rfl
     . rw [if_pos (show (wd ((CM x tb a).word-1)).S=true from hS)]
       refine (unlock_hand h C.gl C.R C.n0 C.n4 C.ha C.ok hl hz hS).mono ?_;rintro e W' ⟨rfl,⟨E,q⟩,hk⟩;exact OutQ.go C.tab hk q rfl rfl rfl
theorem m_give:Meth 111 x W cl mx tb (let_ pr.length c (CM x tb a)):=by
 unfold let_;dsimp only;by_cases hn:(wd c.old).L=false/\(wd c.old).K=false/\(wd c.old).S=false/\(wd c.old).n≠0
 . rw [if_neg (λ q=>q hn)]
   obtain⟨k1,k2,k3,kn⟩:=hn;by_cases hz:a.1=c.old
   . rw [if_pos (show (CM x tb a).word=c.old from hz)]
     refine (give_yes h C.gl C.R C.n0 C.n4 C.ha C.O.ol k1 k2 k3 kn (by simp [hz])).mono ?_;rintro e W' ⟨rfl,q,hk⟩;exact OutQ.go C.tab hk q rfl rfl rfl
   . rw [if_neg (show ¬ (CM x tb a).word=c.old from hz)]
     refine (give_no h C.gl C.R C.n0 C.n4 C.ha C.O.ol k1 k2 k3 kn (by simp [hz])).mono ?_;rintro e W' ⟨rfl,q,hk⟩;exact OutQ.go C.tab hk q (set_same C.ha).symm rfl rfl
 . rw [if_pos hn]
   refine (give_none h C.gl C.R C.O.ol hn).mono ?_;rintro e W' ⟨rfl,q,hk⟩;exact OutQ.go C.tab hk q (set_same C.ha).symm rfl rfl
theorem m_ask:Meth 104 x W cl mx tb (ask x.who c (CM x tb a)):=by
 unfold ask;by_cases hm:x.who∈(gtA tb x.n.toNat).2
 . rw [if_pos (show x.who∈(CM x tb a).l from hm)]
   refine (ask_no h C.R C.n0 C.n4 C.tab (.inl hm)).mono ?_;rintro e W' ⟨rfl,hk⟩;exact⟨hk,rfl⟩
 . rw [if_neg (show ¬ x.who∈(CM x tb a).l from hm)]
   by_cases hc:0<(gtA tb x.n.toNat).1
   . rw [if_pos (show 0<(CM x tb a).c from hc)]
     refine (ask_yes h C.R C.n0 C.n4 C.tab (is:=true) (G:=((gtA tb x.n.toNat).1-1,(gtA tb x.n.toNat).2)) ⟨hm,.inl ⟨hc,rfl,rfl⟩⟩).mono ?_;rintro e W' ⟨rfl,⟨T2,tb2,q,g⟩,hk⟩;exact OutQ.got hk q (set_same C.ha).symm g rfl
   . rw [if_neg (show ¬ 0<(CM x tb a).c from hc)]
     by_cases hf:64<=(gtA tb x.n.toNat).2.length
     . rw [if_pos (show 64<=(CM x tb a).l.length from hf)]
       refine (ask_no h C.R C.n0 C.n4 C.tab (.inr ⟨hc,hf⟩)).mono ?_;rintro e W' ⟨rfl,hk⟩;exact⟨hk,rfl⟩
     . rw [if_neg (show ¬ 64<=(CM x tb a).l.length from hf)]
       refine (ask_yes h C.R C.n0 C.n4 C.tab (is:=false) (G:=(0,psh c.first (gtA tb x.n.toNat).2 x.who)) ⟨hm,.inr ⟨hc,by omega,rfl,rfl⟩⟩).mono ?_;rintro e W' ⟨rfl,⟨T2,tb2,q,g⟩,hk⟩;refine OutQ.got hk q (set_same C.ha).symm (m':={ CM x tb a with l:=if c.first then x.who::(CM x tb a).l else (CM x tb a).l++[x.who] }) (e0:=none) ?_ rfl;have hz:(gtA tb x.n.toNat).1=0:=by
        have:=gtA_cnt C.tab x.n.toNat (by have:=C.n0;have:=C.n4;omega);omega
       rw [<- hz] at g;exact g
theorem m_want:Meth 101 x W cl mx tb (want x.now (runs cl) pr.length c (CM x tb a)):=by
 unfold want;dsimp only;by_cases hg:(wd c.old).L=true/\(wd c.old).S=false/\c.rounds<4/\1<runs cl
 . rw [if_pos hg]
   have e:round c (CM x tb a)=go (rndC c a.1) { CM x tb a with word:=rndM c a.1 }:=by
    unfold round rndC rndM;dsimp only;by_cases hs:says c a.1
    . have hs':c.aw=false/\(wd c.old).K=false/\0<(wd c.old).n/\(CM x tb a).word=c.old:=hs
      simp only [if_pos hs,if_pos hs'];rfl
    . have hs':¬ (c.aw=false/\(wd c.old).K=false/\0<(wd c.old).n/\(CM x tb a).word=c.old):=hs
      simp only [if_neg hs,if_neg hs'];rfl
   rw [e];refine (want_round h C.R C.n0 C.n4 C.ha C.O (by unfold goes;exact decide_eq_true ⟨hg.1,hg.2.1,hg.2.2.1,by have:=hg.2.2.2;omega⟩)).mono ?_;rintro e W' ⟨rfl,q,hk⟩;exact OutQ.go C.tab hk q rfl rfl rfl
 . rw [if_neg hg]
   have hg':goes c (runs cl)=false:=by unfold goes;exact decide_eq_false λ q=>hg ⟨q.1,q.2.1,q.2.2.1,by have:=q.2.2.2;omega⟩
   cases hw:wants c with
   | none =>
    refine (want_bad h C.R C.n0 C.n4 C.ha C.O hg' hw).mono ?_;rintro e W' ⟨rfl,hk⟩;exact⟨hk,rfl⟩
   | some v =>
    dsimp only;by_cases hz:a.1=c.old
    . rw [if_neg (show ¬ (CM x tb a).word≠c.old from λ q=>q hz)]
      by_cases hl:(wd c.old).L=false/\(wd c.old).S=false
      . rw [if_pos hl]
        refine (want_got h C.R C.n0 C.n4 C.ha C.O hg' hw (by simp [hz]) (by rw [hl.1,hl.2];rfl)).mono ?_;rintro e W' ⟨rfl,⟨E,q⟩,hk⟩;exact OutQ.go C.tab hk q rfl rfl rfl
      . rw [if_neg hl]
        refine (want_sleep h C.R C.n0 C.n4 C.ha C.O C.tm hg' hw (by simp [hz]) (by
         cases q1:(wd c.old).L
         . cases q2:(wd c.old).S
           . exact absurd ⟨q1,q2⟩ hl
           . rfl
         . rfl)).mono ?_
        rintro e W' ⟨rfl,q,hk⟩;exact OutQ.go C.tab hk q rfl rfl rfl
    . rw [if_pos (show (CM x tb a).word≠c.old from hz)]
      refine (want_lost h C.R C.n0 C.n4 C.ha C.O hg' hw (by simp [hz])).mono ?_;rintro e W' ⟨rfl,q,hk⟩;exact OutQ.go C.tab hk q (set_same C.ha).symm rfl rfl
theorem m_grant:Meth 113 x W cl mx tb (grant c (CM x tb a)):=by
 unfold grant
 cases hl:(gtA tb x.n.toNat).2 with
 | nil =>
  rw [show (CM x tb a).l=[] from hl];dsimp only;by_cases hm:(gtA tb x.n.toNat).1=2147483647
  . rw [if_pos (show (CM x tb a).c=2147483647 from hm)]
    refine (grant_full h C.n0 C.n4 C.tab ⟨hl,hm⟩).mono ?_;rintro e W' ⟨rfl,hk⟩;exact⟨hk,rfl⟩
  . rw [if_neg (show ¬ (CM x tb a).c=2147483647 from hm)]
    refine (grant_more h C.R C.n0 C.n4 C.tab hl hm).mono ?_;rintro e W' ⟨rfl,⟨T2,tb2,q,g⟩,hk⟩;refine OutQ.got hk q (set_same C.ha).symm (m':={ CM x tb a with c:=(CM x tb a).c+1,l:=[] }) (e0:=none) ?_ rfl;exact g
 | cons y r =>
  rw [show (CM x tb a).l=y::r from hl];dsimp only;obtain⟨y0,y1⟩:=C.ids y (by rw [hl];exact List.mem_cons_self ..);obtain⟨cy,hy⟩:∃ cy,cl[y.toNat]?=some cy:=⟨_,zge (by omega)⟩;obtain⟨gs,gp⟩:=C.gors cy (zmo hy);have hc:=C.R.hc;have hlt:=(zgl hc);have hc0:(gtA tb x.n.toNat).1=0:=gtA_cons C.tab x.n.toNat (by have:=C.n0;have:=C.n4;omega) hl;obtain⟨d,hd,hdt⟩:∃ d,(cl.set x.who.toNat { c with pc:=15 })[y.toNat]?=some d/\d.gst=cy.gst/\d.permit=cy.permit/\(y.toNat=x.who.toNat->d={ c with pc:=15 }/\cy=c)/\(y.toNat≠x.who.toNat->d=cy):=by
   by_cases e:y.toNat=x.who.toNat
   . rw [e,hc] at hy
     cases hy;exact⟨{ c with pc:=15 },by rw [e,zss hlt],rfl,rfl,λ _=>⟨rfl,rfl⟩,λ q=>absurd e q⟩
   . exact⟨cy,by rw [zsn (Ne.symm e)];exact hy,rfl,rfl,λ q=>absurd q e,λ _=>rfl⟩
  obtain⟨d1,d2,d3,d4⟩:=hdt;by_cases hb:cy.gst=2\/cy.permit=true
  . refine (grant_bad h C.R C.n0 C.n4 C.tab hl y0 hy hb).mono ?_
    rintro e W' ⟨rfl,hk⟩;refine⟨hk,?_⟩;dsimp only;have ht:told d=none:=by
     unfold told;rw [if_pos];rw [d1,d2];rcases hb with q | q
     . exact .inl q
     . exact .inr ⟨gp q,q⟩
    rw [hd];show match told d with | none=>_ | some d=>_
    rw [ht]
  . have hg:cy.gst≠2:=λ q=>hb (.inl q)
    have hp:cy.permit=false:=by cases q:cy.permit;rfl;exact absurd (.inr q) hb
    refine (grant_tell h C.R C.n0 C.n4 C.tab hl y0 hy hg hp).mono ?_;rintro e W' ⟨rfl,⟨T2,tb2,d',q,hd',g⟩,hk⟩;refine⟨hk,?_⟩;dsimp only;obtain⟨D,hD,hDe⟩:∃ D,told d=some D/\D=withG d (0,cy.gst==0):=by
     refine⟨withG d (0,cy.gst==0),?_,rfl⟩;unfold told;rw [if_neg (by rw [d1,d2];rintro (q | ⟨-,q⟩);exact hg q;rw [hp] at q;cases q)];rcases gs with q | q | q
     . have e0:(cy.gst==0)=true:=by rw [q];rfl
       have hd0:d.gst=0:=d1.trans q;rw [if_pos hd0,e0];show some ({ d with permit:=true }:Cl)=some { d with gst:=0,permit:=true };rw [<- hd0]
     . have e0:(cy.gst==0)=false:=by rw [q];rfl
       have hd0:d.permit=false:=d2.trans hp;rw [if_neg (by rw [d1,q];decide),e0];show some ({ d with gst:=0 }:Cl)=some { d with gst:=0,permit:=false };rw [<- hd0]
     . exact absurd q hg
    rw [hd];show match told d with | none=>_ | some d=>_
    rw [hD];refine⟨rfl,T2,⟨none,0,0⟩,tb2,?_,?_⟩
    . have e2:(cl.set x.who.toNat { c with pc:=15 }).set y.toNat D=(cl.set y.toNat (withG cy (0,cy.gst==0))).set x.who.toNat { d' with pc:=15 }:=by
       by_cases e:y.toNat=x.who.toNat
       . obtain⟨r1,r2⟩:=d3 e
         rw [e,zss hlt] at hd';cases hd';rw [e,List.set_set,List.set_set,hDe,r1,r2];rfl
       . rw [zsn e,hc] at hd'
         cases hd';rw [hDe,d4 e,List.set_comm _ _ (λ q=>e q.symm)]
      rw [e2];show TS x W' T2 _ _ (mx.set x.n.toNat a) _ _;rw [set_same C.ha];exact q
    . show GotT tb tb2 x.n.toNat ((gtA tb x.n.toNat).1,r)
      rw [hc0];exact g
end
end P16
end
end Go.Proofs.YtainfijdhcehlaaGreatDoor
