/-
  A part of the proof.
-/
import Derived.Test.YtainfijdhcehlaaGreatDoorQB1
import Derived.Test.YtainfijdhcehlaaGreatDoorQB3
import Derived.Test.YtainfijdhcehlaaGreatDoorQB12
import Derived.Test.YtainfijdhcehlaaGreatDoorQB13
import Derived.Deep.DeepCutAuto
import Derived.Defers
import Derived.FnLit
set_option linter.unusedVariables false
set_option linter.unusedSimpArgs false
set_option maxRecDepth 100000
set_option maxHeartbeats 8000000
namespace Go.Proofs.YtainfijdhcehlaaGreatDoor
open Lib (hid)
section
open Go.ChangeShapes Go.WideShapes Go.ChangeAt Go.RowKit Go.Shelf
namespace P16
open P14 (pan)
open P12 (PV PMem)
theorem ORow.put13 {W:World} {b o i:Nat} {l:List Cl} {c:Cl} (h:ORow clV 13 W b o l) (hi:l[i]?=some c) (d:Cl) :
 ORow clV 13 (((((((((((((W.setCell ⟨b,o+i*13+0,none⟩ (.int .i64 d.gst)).setCell ⟨b,o+i*13+1,none⟩ (.bool d.permit)).setCell ⟨b,o+i*13+2,none⟩ (.int .i64 d.act)).setCell ⟨b,o+i*13+3,none⟩ (.int .i64 d.pc)).setCell ⟨b,o+i*13+4,none⟩ (.int .i64 d.worked)).setCell ⟨b,o+i*13+5,none⟩ (.int .i64 d.ticket)).setCell ⟨b,o+i*13+6,none⟩ (.bool d.first)).setCell ⟨b,o+i*13+7,none⟩ (.bool d.told)).setCell ⟨b,o+i*13+8,none⟩ (.int .i64 d.since)).setCell ⟨b,o+i*13+9,none⟩ (.bool d.st)).setCell ⟨b,o+i*13+10,none⟩ (.bool d.aw)).setCell ⟨b,o+i*13+11,none⟩ (.int .i64 d.rounds)).setCell ⟨b,o+i*13+12,none⟩ (.int .i64 d.old)) b o (l.set i d):=by
 have hlt:=(List.getElem?_eq_some_iff.1 hi).1
 have h0:=h.put clV_len hi (j:=0) (v:=.int .i64 d.gst) (y:={ c with gst:=d.gst }) (by decide) rfl
 have h1:=h0.put clV_len (i:=i) (x:={ c with gst:=d.gst }) (by rw [List.getElem?_set_self (by simpa using hlt)]) (j:=1) (v:=.bool d.permit) (y:={ c with gst:=d.gst,permit:=d.permit }) (by decide) rfl
 rw [List.set_set] at h1
 have h2:=h1.put clV_len (i:=i) (x:={ c with gst:=d.gst,permit:=d.permit }) (by rw [List.getElem?_set_self (by simpa using hlt)]) (j:=2) (v:=.int .i64 d.act) (y:={ c with gst:=d.gst,permit:=d.permit,act:=d.act }) (by decide) rfl
 rw [List.set_set] at h2
 have h3:=h2.put clV_len (i:=i) (x:={ c with gst:=d.gst,permit:=d.permit,act:=d.act }) (by rw [List.getElem?_set_self (by simpa using hlt)]) (j:=3) (v:=.int .i64 d.pc) (y:={ c with gst:=d.gst,permit:=d.permit,act:=d.act,pc:=d.pc }) (by decide) rfl
 rw [List.set_set] at h3
 have h4:=h3.put clV_len (i:=i) (x:={ c with gst:=d.gst,permit:=d.permit,act:=d.act,pc:=d.pc }) (by rw [List.getElem?_set_self (by simpa using hlt)]) (j:=4) (v:=.int .i64 d.worked) (y:={ c with gst:=d.gst,permit:=d.permit,act:=d.act,pc:=d.pc,worked:=d.worked }) (by decide) rfl
 rw [List.set_set] at h4
 have h5:=h4.put clV_len (i:=i) (x:={ c with gst:=d.gst,permit:=d.permit,act:=d.act,pc:=d.pc,worked:=d.worked }) (by rw [List.getElem?_set_self (by simpa using hlt)]) (j:=5) (v:=.int .i64 d.ticket) (y:={ c with gst:=d.gst,permit:=d.permit,act:=d.act,pc:=d.pc,worked:=d.worked,ticket:=d.ticket }) (by decide) rfl
 rw [List.set_set] at h5
 have h6:=h5.put clV_len (i:=i) (x:={ c with gst:=d.gst,permit:=d.permit,act:=d.act,pc:=d.pc,worked:=d.worked,ticket:=d.ticket }) (by rw [List.getElem?_set_self (by simpa using hlt)]) (j:=6) (v:=.bool d.first) (y:={ c with gst:=d.gst,permit:=d.permit,act:=d.act,pc:=d.pc,worked:=d.worked,ticket:=d.ticket,first:=d.first }) (by decide) rfl
 rw [List.set_set] at h6
 have h7:=h6.put clV_len (i:=i) (x:={ c with gst:=d.gst,permit:=d.permit,act:=d.act,pc:=d.pc,worked:=d.worked,ticket:=d.ticket,first:=d.first }) (by rw [List.getElem?_set_self (by simpa using hlt)]) (j:=7) (v:=.bool d.told) (y:={ c with gst:=d.gst,permit:=d.permit,act:=d.act,pc:=d.pc,worked:=d.worked,ticket:=d.ticket,first:=d.first,told:=d.told }) (by decide) rfl
 rw [List.set_set] at h7
 have h8:=h7.put clV_len (i:=i) (x:={ c with gst:=d.gst,permit:=d.permit,act:=d.act,pc:=d.pc,worked:=d.worked,ticket:=d.ticket,first:=d.first,told:=d.told }) (by rw [List.getElem?_set_self (by simpa using hlt)]) (j:=8) (v:=.int .i64 d.since) (y:={ c with gst:=d.gst,permit:=d.permit,act:=d.act,pc:=d.pc,worked:=d.worked,ticket:=d.ticket,first:=d.first,told:=d.told,since:=d.since }) (by decide) rfl
 rw [List.set_set] at h8
 have h9:=h8.put clV_len (i:=i) (x:={ c with gst:=d.gst,permit:=d.permit,act:=d.act,pc:=d.pc,worked:=d.worked,ticket:=d.ticket,first:=d.first,told:=d.told,since:=d.since }) (by rw [List.getElem?_set_self (by simpa using hlt)]) (j:=9) (v:=.bool d.st) (y:={ c with gst:=d.gst,permit:=d.permit,act:=d.act,pc:=d.pc,worked:=d.worked,ticket:=d.ticket,first:=d.first,told:=d.told,since:=d.since,st:=d.st }) (by decide) rfl
 rw [List.set_set] at h9
 have h10:=h9.put clV_len (i:=i) (x:={ c with gst:=d.gst,permit:=d.permit,act:=d.act,pc:=d.pc,worked:=d.worked,ticket:=d.ticket,first:=d.first,told:=d.told,since:=d.since,st:=d.st }) (by rw [List.getElem?_set_self (by simpa using hlt)]) (j:=10) (v:=.bool d.aw) (y:={ c with gst:=d.gst,permit:=d.permit,act:=d.act,pc:=d.pc,worked:=d.worked,ticket:=d.ticket,first:=d.first,told:=d.told,since:=d.since,st:=d.st,aw:=d.aw }) (by decide) rfl
 rw [List.set_set] at h10
 have h11:=h10.put clV_len (i:=i) (x:={ c with gst:=d.gst,permit:=d.permit,act:=d.act,pc:=d.pc,worked:=d.worked,ticket:=d.ticket,first:=d.first,told:=d.told,since:=d.since,st:=d.st,aw:=d.aw }) (by rw [List.getElem?_set_self (by simpa using hlt)]) (j:=11) (v:=.int .i64 d.rounds) (y:={ c with gst:=d.gst,permit:=d.permit,act:=d.act,pc:=d.pc,worked:=d.worked,ticket:=d.ticket,first:=d.first,told:=d.told,since:=d.since,st:=d.st,aw:=d.aw,rounds:=d.rounds }) (by decide) rfl
 rw [List.set_set] at h11
 have h12:=h11.put clV_len (i:=i) (x:={ c with gst:=d.gst,permit:=d.permit,act:=d.act,pc:=d.pc,worked:=d.worked,ticket:=d.ticket,first:=d.first,told:=d.told,since:=d.since,st:=d.st,aw:=d.aw,rounds:=d.rounds }) (by rw [List.getElem?_set_self (by simpa using hlt)]) (j:=12) (v:=.int .i64 d.old) (y:=d) (by decide) rfl
 rw [List.set_set] at h12
 exact h12
theorem ORow.cmem {W:World} {b o n:Nat} {l:List Cl} (h:ORow clV 13 W b o l) (hl:l.length=n) (hb:∀ c∈l,CB c):CMem W (some ⟨b,o,none⟩) n l :=
 ⟨hl,hb,λ _=>⟨b,o,rfl,h.lt,λ i y hy j v hv=>(h.at_ hy hv).1⟩⟩
theorem okv_len {y:PV} {W:World} (h:y.ok W):y.l.length=y.n:=h.1.1
def anew (c:Cl) (act:Int):Cl:=⟨c.gst,c.permit,act,0,0,0,false,false,-1,false,false,0,0⟩
theorem b64_0:B64 0:=⟨by omega,by omega⟩
theorem anew_cb {c:Cl} {act:Int} (h:CB c) (ha:B64 act):CB (anew c act):=⟨h.gst,ha,b64_0,b64_0,b64_0,(show B64 (-1) from ⟨by omega,by omega⟩),b64_0,b64_0⟩
theorem map_gor_set {cl:List Cl} {i:Nat} {c d:Cl} (hc:cl[i]?=some c) (hd:gor d=gor c):(cl.set i d).map gor=cl.map gor:=by
 rw [List.map_set,hd]
 exact set_same (by rw [List.getElem?_map,hc];rfl)
section
variable {W:World} {b bc oc n cc pn pc:Nat} {pA:Option Addr} {cl:List Cl} {who act:Int} {c:Cl} {progs:List (List Ac)} {pr:List Ac}
theorem pmem_at {A:Option Addr} {n k:Nat} {R:List PV} {W:World} (h:PMem W A n R) (hk:k<n):∃ b off y,A=some ⟨b,off,none⟩/\b<W.heap.size/\R[k]?=some y/\y.ok W/\W.cell? ⟨b,off+k,none⟩=some (.slice y.A y.n y.c):=h.at_ hk
theorem begin_is (c1:W.cell? ⟨b,1,none⟩=some (.slice pA pn pc)) (c2:W.cell? ⟨b,2,none⟩=some (.slice (some ⟨bc,oc,none⟩) n cc)) (hb:b≠bc) (hO:ORow clV 13 W bc oc cl) (hl:cl.length=n) (hn:n<=1000) (hcb:∀ c∈cl,CB c)
 (w0:0<=who) (w1:who<n) (hc:cl[who.toNat]?=some c) (hP:∀ W',Ko bc W W'->∃ R,PMem W' pA pn R/\P12.pl R=progs) (hpn:pn=n) (hp:progs[who.toNat]?=some pr) (hp9:pr.length<=1000) (ha:B64 act) (hg:c.gst=0) (hr:P11.rightB (cl.map gor)=true) :
 Calls Tryz.prog 36 #[.pointer (some ⟨b,0,none⟩),.int .i64 who,.int .i64 act] W λ e W'=>e=.returned (.tuple #[])/\ORow clV 13 W' bc oc (cl.set who.toNat (first c.gst c.permit act pr.length))/\Ko bc W W':=by
 have cf:=λ W=>hid (P14.Fresh_is (w:=W))
 have hbl:=World.block_lt_of_cell? W _ c2
 dsimp only at hbl
 have hbc:=hO.lt
 have HO:=hid hO
 have HL:=hid hl
 have HCB:=hid hcb
 have HC:=hid hc
 have HP:=hid hP
 have HR:=hid hr
 have HPR:=hid hp
 have HG:=hid hg
 obtain⟨e0,f0⟩:=hO.at_ (j:=0) hc rfl
 obtain⟨e1,f1⟩:=hO.at_ (j:=1) hc rfl
 rw [Nat.add_zero] at e0 f0
 have HS:=hid (show (cl.set who.toNat (anew c act))[who.toNat]?=some (anew c act) from by rw [List.getElem?_set_self (List.getElem?_eq_some_iff.1 hc).1])
 have d0:W.drew.cell? ⟨bc,oc+who.toNat*13,none⟩=some (.int .i64 c.gst):=e0
 have d1:W.drew.cell? ⟨bc,oc+who.toNat*13+1,none⟩=some (.bool c.permit):=e1
 clear hO hl hcb hc hP hr hp hg
 go_enter Tryz.func36,Tryz.ntmps36
 go_upto_region 1 with fail
 go_region_held3 (λ w'=>w'.cell? ⟨bc,oc+who.toNat*13,none⟩=some (.int .i64 c.gst)/\w'.cell? ⟨bc,oc+who.toNat*13+1,none⟩=some (.bool c.permit)) (constructor<;>with_reducible assumption) (first | (go_at_call 63;(with_reducible refine (cf _).out.mono ?_);rintro ee w2 ⟨rfl,g2⟩;have O2:=HO.out.gr ((Gr.refl W).dr.trans g2);obtain⟨p0,r0⟩:=O2.at_ (j:=0) HC.out rfl;obtain⟨p1,r1⟩:=O2.at_ (j:=1) HC.out rfl;obtain⟨p2,r2⟩:=O2.at_ (j:=2) HC.out rfl;obtain⟨p3,r3⟩:=O2.at_ (j:=3) HC.out rfl;obtain⟨p4,r4⟩:=O2.at_ (j:=4) HC.out rfl;obtain⟨p5,r5⟩:=O2.at_ (j:=5) HC.out rfl;obtain⟨p6,r6⟩:=O2.at_ (j:=6) HC.out rfl;obtain⟨p7,r7⟩:=O2.at_ (j:=7) HC.out rfl;obtain⟨p8,r8⟩:=O2.at_ (j:=8) HC.out rfl;obtain⟨p9,r9⟩:=O2.at_ (j:=9) HC.out rfl;obtain⟨p10,r10⟩:=O2.at_ (j:=10) HC.out rfl;obtain⟨p11,r11⟩:=O2.at_ (j:=11) HC.out rfl;obtain⟨p12,r12⟩:=O2.at_ (j:=12) HC.out rfl;rw [Nat.add_zero] at p0 r0;have T:ORow clV 13 (((((((((((((w2.setCell ⟨bc,oc+who.toNat*13,none⟩ (.int .i64 c.gst)).setCell ⟨bc,oc+who.toNat*13+1,none⟩ (.bool c.permit)).setCell ⟨bc,oc+who.toNat*13+2,none⟩ (.int .i64 act)).setCell ⟨bc,oc+who.toNat*13+3,none⟩ (.int .i64 0)).setCell ⟨bc,oc+who.toNat*13+4,none⟩ (.int .i64 0)).setCell ⟨bc,oc+who.toNat*13+5,none⟩ (.int .i64 0)).setCell ⟨bc,oc+who.toNat*13+6,none⟩ (.bool false)).setCell ⟨bc,oc+who.toNat*13+7,none⟩ (.bool false)).setCell ⟨bc,oc+who.toNat*13+8,none⟩ (.int .i64 (-1))).setCell ⟨bc,oc+who.toNat*13+9,none⟩ (.bool false)).setCell ⟨bc,oc+who.toNat*13+10,none⟩ (.bool false)).setCell ⟨bc,oc+who.toNat*13+11,none⟩ (.int .i64 0)).setCell ⟨bc,oc+who.toNat*13+12,none⟩ (.int .i64 0)) bc oc (cl.set who.toNat (anew c act)):=O2.put13 HC.out (anew c act);have t0:(((((((((((((w2.setCell ⟨bc,oc+who.toNat*13,none⟩ (.int .i64 c.gst)).setCell ⟨bc,oc+who.toNat*13+1,none⟩ (.bool c.permit)).setCell ⟨bc,oc+who.toNat*13+2,none⟩ (.int .i64 act)).setCell ⟨bc,oc+who.toNat*13+3,none⟩ (.int .i64 0)).setCell ⟨bc,oc+who.toNat*13+4,none⟩ (.int .i64 0)).setCell ⟨bc,oc+who.toNat*13+5,none⟩ (.int .i64 0)).setCell ⟨bc,oc+who.toNat*13+6,none⟩ (.bool false)).setCell ⟨bc,oc+who.toNat*13+7,none⟩ (.bool false)).setCell ⟨bc,oc+who.toNat*13+8,none⟩ (.int .i64 (-1))).setCell ⟨bc,oc+who.toNat*13+9,none⟩ (.bool false)).setCell ⟨bc,oc+who.toNat*13+10,none⟩ (.bool false)).setCell ⟨bc,oc+who.toNat*13+11,none⟩ (.int .i64 0)).setCell ⟨bc,oc+who.toNat*13+12,none⟩ (.int .i64 0)).cell? ⟨bc,oc+who.toNat*13,none⟩=some (.int .i64 c.gst):=(T.at_ (j:=0) HS.out rfl).1;have t1:(((((((((((((w2.setCell ⟨bc,oc+who.toNat*13,none⟩ (.int .i64 c.gst)).setCell ⟨bc,oc+who.toNat*13+1,none⟩ (.bool c.permit)).setCell ⟨bc,oc+who.toNat*13+2,none⟩ (.int .i64 act)).setCell ⟨bc,oc+who.toNat*13+3,none⟩ (.int .i64 0)).setCell ⟨bc,oc+who.toNat*13+4,none⟩ (.int .i64 0)).setCell ⟨bc,oc+who.toNat*13+5,none⟩ (.int .i64 0)).setCell ⟨bc,oc+who.toNat*13+6,none⟩ (.bool false)).setCell ⟨bc,oc+who.toNat*13+7,none⟩ (.bool false)).setCell ⟨bc,oc+who.toNat*13+8,none⟩ (.int .i64 (-1))).setCell ⟨bc,oc+who.toNat*13+9,none⟩ (.bool false)).setCell ⟨bc,oc+who.toNat*13+10,none⟩ (.bool false)).setCell ⟨bc,oc+who.toNat*13+11,none⟩ (.int .i64 0)).setCell ⟨bc,oc+who.toNat*13+12,none⟩ (.int .i64 0)).cell? ⟨bc,oc+who.toNat*13+1,none⟩=some (.bool c.permit):=(T.at_ (j:=1) HS.out rfl).1;have G2:=hid ((Gr.refl W).dr.trans g2);have K3:Hid (Ko bc W (((((((((((((w2.setCell ⟨bc,oc+who.toNat*13,none⟩ (.int .i64 c.gst)).setCell ⟨bc,oc+who.toNat*13+1,none⟩ (.bool c.permit)).setCell ⟨bc,oc+who.toNat*13+2,none⟩ (.int .i64 act)).setCell ⟨bc,oc+who.toNat*13+3,none⟩ (.int .i64 0)).setCell ⟨bc,oc+who.toNat*13+4,none⟩ (.int .i64 0)).setCell ⟨bc,oc+who.toNat*13+5,none⟩ (.int .i64 0)).setCell ⟨bc,oc+who.toNat*13+6,none⟩ (.bool false)).setCell ⟨bc,oc+who.toNat*13+7,none⟩ (.bool false)).setCell ⟨bc,oc+who.toNat*13+8,none⟩ (.int .i64 (-1))).setCell ⟨bc,oc+who.toNat*13+9,none⟩ (.bool false)).setCell ⟨bc,oc+who.toNat*13+10,none⟩ (.bool false)).setCell ⟨bc,oc+who.toNat*13+11,none⟩ (.int .i64 0)).setCell ⟨bc,oc+who.toNat*13+12,none⟩ (.int .i64 0))):=hid ((((((((((((((Ko.gr G2.out).trans (Ko.st (p:=⟨bc,oc+who.toNat*13,none⟩) rfl _)).trans (Ko.st (p:=⟨bc,oc+who.toNat*13+1,none⟩) rfl _)).trans (Ko.st (p:=⟨bc,oc+who.toNat*13+2,none⟩) rfl _)).trans (Ko.st (p:=⟨bc,oc+who.toNat*13+3,none⟩) rfl _)).trans (Ko.st (p:=⟨bc,oc+who.toNat*13+4,none⟩) rfl _)).trans (Ko.st (p:=⟨bc,oc+who.toNat*13+5,none⟩) rfl _)).trans (Ko.st (p:=⟨bc,oc+who.toNat*13+6,none⟩) rfl _)).trans (Ko.st (p:=⟨bc,oc+who.toNat*13+7,none⟩) rfl _)).trans (Ko.st (p:=⟨bc,oc+who.toNat*13+8,none⟩) rfl _)).trans (Ko.st (p:=⟨bc,oc+who.toNat*13+9,none⟩) rfl _)).trans (Ko.st (p:=⟨bc,oc+who.toNat*13+10,none⟩) rfl _)).trans (Ko.st (p:=⟨bc,oc+who.toNat*13+11,none⟩) rfl _)).trans (Ko.st (p:=⟨bc,oc+who.toNat*13+12,none⟩) rfl _));have T2:=hid T;clear T O2 g2))
 clear p0 p1 p2 p3 p4 p5 p6 p7 p8 p9 p10 p11 p12 r0 r1 r2 r3 r4 r5 r6 r7 r8 r9 r10 r11 r12 t0 t1 e0 e1 f0 f1 d0 d1 cf
 rename_i hh
 clear hh
 generalize (((((((((((((w2.setCell ⟨bc,oc+who.toNat*13,none⟩ (.int .i64 c.gst)).setCell ⟨bc,oc+who.toNat*13+1,none⟩ (.bool c.permit)).setCell ⟨bc,oc+who.toNat*13+2,none⟩ (.int .i64 act)).setCell ⟨bc,oc+who.toNat*13+3,none⟩ (.int .i64 0)).setCell ⟨bc,oc+who.toNat*13+4,none⟩ (.int .i64 0)).setCell ⟨bc,oc+who.toNat*13+5,none⟩ (.int .i64 0)).setCell ⟨bc,oc+who.toNat*13+6,none⟩ (.bool false)).setCell ⟨bc,oc+who.toNat*13+7,none⟩ (.bool false)).setCell ⟨bc,oc+who.toNat*13+8,none⟩ (.int .i64 (-1))).setCell ⟨bc,oc+who.toNat*13+9,none⟩ (.bool false)).setCell ⟨bc,oc+who.toNat*13+10,none⟩ (.bool false)).setCell ⟨bc,oc+who.toNat*13+11,none⟩ (.int .i64 0)).setCell ⟨bc,oc+who.toNat*13+12,none⟩ (.int .i64 0))=W3 at T2 K3 ⊢
 have d1':=(K3.out.cell (p:=⟨b,1,none⟩) hbl hb).trans c1
 have d2':=(K3.out.cell (p:=⟨b,2,none⟩) hbl hb).trans c2
 obtain⟨R,hR,eR⟩:=HP.out W3 K3.out
 have hk:who.toNat<pn:=by omega
 obtain⟨b4,o4,y,hA,hb4,hy,oky,ey⟩:=pmem_at hR hk
 have hyl:y.l=pr:=by
  have h1:(P12.pl R)[who.toNat]?=some y.l:=by unfold P12.pl;rw [List.getElem?_map,hy];rfl
  rw [eR,HPR.out] at h1
  cases h1
  rfl
 have hyn:y.n=pr.length:=by rw [<- hyl];exact (okv_len oky).symm
 have hX:=hid hyl
 clear hy oky hR eR hyl
 rw [hyn] at ey
 subst hA
 by_cases hE:act=(pr.length:Int)
 . subst hE
   have E1:(cl.set who.toNat (anew c (pr.length:Int))).length=n:=by rw [List.length_set];exact HL.out
   have E2:(cl.set who.toNat (anew c (pr.length:Int))).map gor=cl.map gor:=map_gor_set HC.out rfl
   have E3:∀ d∈cl.set who.toNat (anew c (pr.length:Int)),CB d:=λ d hd=>(List.mem_or_eq_of_mem_set hd).elim (HCB.out d) (λ e=>e▸anew_cb (HCB.out c (List.mem_of_getElem? HC.out)) ha)
   have E4:P11.outc P11.enG (cl.map gor) who=(0,(cl.map gor).set who.toNat (2,false)):=by
    have q:=P11.outc_at (p:=P11.enG) (k:=who.toNat) (x:=gor c) HR.out (by rw [List.getElem?_map,HC.out];rfl)
    rw [Int.toNat_of_nonneg w0] at q
    have e:P11.enG (gor c)=(0,(2,false)):=if_pos HG.out
    simpa [e] using q
   have E5:ChgG 65 (cl.set who.toNat (anew c (pr.length:Int))) who 0 n (((cl.set who.toNat (anew c (pr.length:Int))).map gor).set who.toNat (2,false)):=λ W A m d hm he=>by
    rw [E2] at hm ⊢
    exact P11.End_at (by omega) E4 (by rw [List.length_set,List.length_map];exact HL.out) W hm
   have hcg:=hid (changeGor_yes (who:=who) (enters_of Tryz.func65 (by kernel_rfl) rfl) (p:=0) d2' hb T2.out E1 hn E3 HS.out E5)
   clear E1 E2 E3 E4 E5
   go_wp2_with fail
   with_reducible refine hcg.out.mono ?_
   rintro e w4 ⟨rfl,o4,k4⟩
   have HO4:=hid o4
   have HK4:=hid k4
   clear o4 k4
   go_wp2_with fail
   go_end0
   have o4:=HO4.out
   rw [List.set_set] at o4
   have e:withG (anew c (pr.length:Int)) (2,false)=first c.gst c.permit (pr.length:Int) pr.length:=by
    unfold first anew withG
    rw [if_pos rfl,if_pos rfl]
   rw [e] at o4
   exact⟨rfl,o4,K3.out.trans HK4.out⟩
 . have hE':(act==(pr.length:Int))=false:=beq_eq_false_iff_ne.2 hE
   have e:anew c act=first c.gst c.permit act pr.length:=by
    unfold first anew
    rw [if_neg hE,if_neg hE]
   have o3:=T2.out
   rw [e] at o3
   have O3:=hid o3
   clear o3 e hE T2 HS
   go_wp2_with fail
   go_end0
   exact⟨rfl,O3.out,K3.out⟩
end
end P16
end
section
open Go.ChangeShapes Go.WideShapes Go.ChangeAt Go.RowKit Go.Shelf
namespace P16
open P14 (pan)
open P12 (PV PMem)
theorem Ko.kx {x:Cx} {W W':World} (h:Ko x.bc W W'):Kx x W W':=⟨h.os,h.tape,h.output,h.size,λ k hk _ h2 _=>h.block k hk h2⟩
theorem first_cb {c:Cl} {act:Int} {n:Nat} (h:CB c) (ha:B64 act):CB (first c.gst c.permit act n):=by
 unfold first
 refine⟨?_,ha,b64_0,b64_0,b64_0,(show B64 (-1) from ⟨by omega,by omega⟩),b64_0,b64_0⟩
 dsimp only
 split
 . exact⟨by omega,by omega⟩
 . exact h.gst
section
variable {x:Cx} {W W':World} {T E:Sl} {cl cl':List Cl} {mx:List T3} {tb:List Sp} {ev:List T3} {c:Cl} {a:T3} {pr:List Ac}
theorem TS.ko (h:TS x W T E cl mx tb ev) (k:Ko x.bc W W') (o:ORow clV 13 W' x.bc x.oc cl') (hl:cl'.length=cl.length) (hb:∀ c∈cl',CB c):TS x W' T E cl' mx tb ev :=
 { h with t:=by unfold Blk;rw [k.block x.b h.t.lt h.n1];exact h.t,c:=o,m:=h.m.kept (k.block x.bm h.m.lt h.n3.symm),cb:=hb,lenc:=hl.trans h.lenc,pr:=λ _ q=>h.pr _ (k.kx.kb.trans q),tb:=λ _ q=>h.tb _ (k.kx.kb.trans q),ev:=λ _ q=>h.ev _ (k.kx.kb.trans q) }
structure Rn (x:Cx) (cl:List Cl) (c:Cl) (pr:List Ac):Prop where
 hc:cl[x.who.toNat]?=some c
 g0:c.gst=0
 rg:P11.rightB (cl.map gor)=true
 hp:x.progs[x.who.toNat]?=some pr
 pl:pr.length<=64
 a0:0<=c.act
 a1:c.act<pr.length
 np:x.p.n=x.nc
 nc:x.nc<=8
theorem Rn.set (h:Rn x cl c pr) {d:Cl} (hg:gor d=gor c) (ha:d.act=c.act):Rn x (cl.set x.who.toNat d) d pr :=
 { h with hc:=by rw [List.getElem?_set_self (List.getElem?_eq_some_iff.1 h.hc).1],g0:=(congrArg Prod.fst hg).trans h.g0,rg:=by rw [map_gor_set h.hc hg];exact h.rg,a0:=by rw [ha];exact h.a0,a1:=by rw [ha];exact h.a1 }
theorem over_is (h:TS x W T E cl mx tb ev) (hR:Rn x cl c pr) :
 Calls Tryz.prog 131 #[.pointer (some ⟨x.b,0,none⟩)] W λ e W'=>e=.returned (.tuple #[])/\TS x W' T E (cl.set x.who.toNat (over c pr.length)) mx tb ev/\Kx x W W':=by
 have hc:=hR.hc
 have h1:=h.gr (Gr.refl W).dr
 obtain⟨A,c1,c2,-⟩:=h1.cells
 have ew:wrap64 (c.act+1)=c.act+1:=by have:=hR.a0;have:=hR.a1;have:=hR.pl;unfold wrap64;omega
 have ew2:IntKind.i64.wrap (c.act+1)=c.act+1:=by rw [IntWalk.i64_left];exact ew
 have hb:=hid (begin_is (who:=x.who) (act:=c.act+1) c1 c2 h1.n1 h1.c h1.lenc (by have:=hR.nc;omega) h1.cb h1.w0 h1.w1 hc (λ W' k=>h1.pr W' k.kx.kb) hR.np hR.hp (by have:=hR.pl;omega) (by have:=hR.a0;have:=hR.a1;have:=hR.pl;exact⟨by omega,by omega⟩) hR.g0 hR.rg)
 have hcb:=hid (show CB (over c pr.length) from first_cb (h.cb c (List.mem_of_getElem? hc)) (by have:=hR.a0;have:=hR.a1;have:=hR.pl;exact⟨by omega,by omega⟩))
 have H:=hid h
 obtain⟨-,-,-,-,-,-,c6,c7,-,-,-,-⟩:=h.cells
 obtain⟨-,-,s2,-⟩:=h.cl_ hc
 clear h h1 A c1 c2
 go_enter Tryz.func131,Tryz.ntmps131
 go_upto_region 0 with fail
 refine wp_region_held_drew (S:=(λ w'=>w'.cell? ⟨x.b,6,none⟩=some (.int .i64 x.who)/\w'.cell? ⟨x.b,7,none⟩=some (.pointer (some ⟨x.bc,x.oc+x.who.toNat*13,none⟩)))) (by kernel_rfl) ⟨c6,c7⟩ (λ hS=>?_)
 refine wG 0 hS ?_
 refine wG 1 hS ?_
 refine wG 2 hS ?_
 refine wG 3 hS ?_
 refine wG 4 hS ?_
 refine wG 5 hS ?_
 refine wG 6 hS ?_
 refine wG 7 hS ?_
 refine wG 8 hS ?_
 refine wG 9 hS ?_
 refine wG 10 hS ?_
 refine wG 11 hS ?_
 refine wG 12 hS ?_
 refine wR1 13 (λ K hK=>?_)
 go_simp
 refine hK.out _ _ ⟨c6,c7⟩ (λ hS=>?_)
 clear hK K
 try simp only [pL]
 refine wG 14 hS ?_
 refine wR1 15 (λ K hK=>?_)
 go_simp;go_at_call 36;with_reducible refine hb.out.mono ?_;rintro ee w2 ⟨rfl,o2,k2⟩;go_wp2_with fail
 have h2:=(H.out.gr (Gr.refl W).dr).ko k2 o2 (List.length_set ..) (λ d hd=>(List.mem_or_eq_of_mem_set hd).elim (H.out.cb d) (λ e=>e▸hcb.out))
 obtain⟨-,-,-,-,-,-,d6,d7,-,-,-,-⟩:=h2.cells
 refine hK.out _ _ ⟨d6,d7⟩ (λ hS=>?_)
 clear hK K
 try simp only [pL]
 refine wpAnyH_done (by kernel_rfl) ?_ _
 go_wp2_with fail
 go_end0
 exact⟨rfl,h2,(Kx.gr (Gr.refl W).dr).trans k2.kx⟩
theorem ends_is (h:TS x W T ⟨none,0,0⟩ cl mx tb []) (hR:Rn x cl c pr) {v:Int} (hv:B64 v) :
 Calls Tryz.prog 134 #[.pointer (some ⟨x.b,0,none⟩),.int .i64 v] W λ e W'=>e=.returned (.tuple #[])/\(∃ E,TS x W' T E (cl.set x.who.toNat (over c pr.length)) mx tb [(x.who,v,x.n)])/\Kx x W W':=by
 have ht:=hid (tell_is h v hv)
 clear h
 go_enter Tryz.func134,Tryz.ntmps134
 go_wp2_with fail
 with_reducible refine ht.out.mono ?_
 rintro e w1 ⟨rfl,⟨E1,h1⟩,k1⟩
 have ho:=hid (over_is h1 hR)
 have K1:=hid k1
 clear h1 k1
 go_wp2_with fail
 with_reducible refine ho.out.mono ?_
 rintro e w2 ⟨rfl,h2,k2⟩
 have H2:=hid h2
 have K2:=hid k2
 clear h2 k2
 go_wp2_with fail
 go_end0
 exact⟨rfl,⟨E1,H2.out⟩,K1.out.trans K2.out⟩
end
end P16
end
section
open Go.ChangeShapes Go.WideShapes Go.ChangeAt Go.RowKit
def wd (k v:Int):Int:=if k=0 then wrap32 v else if k=1 then v % 4294967296 else v
theorem shapeOf_0 (w:World):Calls Tryz.prog 166 #[.int .i64 0] w λ e w'=>e=.returned (.agg #[.int .i64 32,.bool true])/\Gr w w':=by
 go_enter Tryz.func166,Tryz.ntmps166
 go_wp2
 exact bodyPost_ret (v:=.agg #[.int .i64 32,.bool true]) (by simp [results,Tryz.results166,go_sem]) rfl ⟨rfl,((Gr.refl _).al _).al _⟩
theorem shapeOf_1 (w:World):Calls Tryz.prog 166 #[.int .i64 1] w λ e w'=>e=.returned (.agg #[.int .i64 32,.bool false])/\Gr w w':=by
 go_enter Tryz.func166,Tryz.ntmps166
 go_wp2
 exact bodyPost_ret (v:=.agg #[.int .i64 32,.bool false]) (by simp [results,Tryz.results166,go_sem]) rfl ⟨rfl,((Gr.refl _).al _).al _⟩
theorem shapeOf_2 (w:World):Calls Tryz.prog 166 #[.int .i64 2] w λ e w'=>e=.returned (.agg #[.int .i64 64,.bool true])/\Gr w w':=by
 go_enter Tryz.func166,Tryz.ntmps166
 go_wp2
 exact bodyPost_ret (v:=.agg #[.int .i64 64,.bool true]) (by simp [results,Tryz.results166,go_sem]) rfl ⟨rfl,((Gr.refl _).al _).al _⟩
theorem shapeOf_no (k:Int) (w:World) (hk:k<0\/2<k):Calls Tryz.prog 166 #[.int .i64 k] w λ e w'=>e=.returned (.agg #[.int .i64 0,.bool false])/\Gr w w':=by
 have h0:(k==0)=false:=beq_eq_false_iff_ne.2 (by omega)
 have h1:(k==1)=false:=beq_eq_false_iff_ne.2 (by omega)
 have h2:(k==2)=false:=beq_eq_false_iff_ne.2 (by omega)
 clear hk
 go_enter Tryz.func166,Tryz.ntmps166
 go_wp2
 exact bodyPost_ret (v:=.agg #[.int .i64 0,.bool false]) (by simp [results,Tryz.results166,go_sem]) rfl ⟨rfl,((Gr.refl _).al _).al _⟩
theorem wrapA (v:Int):wrap64 (v*4294967296) / 4294967296=wrap32 v:=by unfold wrap64 wrap32;omega
theorem wrapB (v:Int):wrap64 (IntKind.u64.wrap (IntKind.u64.wrap v*4294967296) / 4294967296)=v % 4294967296:=by
 simp only [IntKind.wrap_u64,wrap64];omega
theorem ret_i64 {a b:Int} (h:a=b):Ending.returned (.int .i64 a)=.returned (.int .i64 b):=by rw [h]
theorem swrap_0 (v:Int) (w:World):Calls Tryz.prog 167 #[.agg #[.int .i64 32,.bool true],.int .i64 v] w λ e w'=>e=.returned (.int .i64 (wd 0 v))/\Gr w w':=by
 go_enter Tryz.func167,Tryz.ntmps167
 go_wp2
 go_ret
 exact⟨ret_i64 (wrapA v),(Gr.refl _).al _⟩
theorem swrap_1 (v:Int) (w:World):Calls Tryz.prog 167 #[.agg #[.int .i64 32,.bool false],.int .i64 v] w λ e w'=>e=.returned (.int .i64 (wd 1 v))/\Gr w w':=by
 go_enter Tryz.func167,Tryz.ntmps167
 go_wp2
 go_ret
 exact⟨ret_i64 (wrapB v),(Gr.refl _).al _⟩
theorem swrap_2 (v:Int) (w:World) (h1:-9223372036854775808<=v) (h2:v<=9223372036854775807):Calls Tryz.prog 167 #[.agg #[.int .i64 64,.bool true],.int .i64 v] w λ e w'=>e=.returned (.int .i64 (wd 2 v))/\Gr w w':=by
 go_enter Tryz.func167,Tryz.ntmps167
 go_wp2
 go_ret
 exact⟨ret_i64 (by simp [wd]),(Gr.refl _).al _⟩
theorem Wrap_0 (v:Int) (w:World):Calls Tryz.prog 219 #[.int .i64 0,.int .i64 v] w λ e w'=>e=.returned (.tuple #[.int .i64 (wd 0 v),.int .i64 0])/\Gr w w':=by
 go_enter Tryz.func219,Tryz.ntmps219
 go_wp2_with fail
 refine (shapeOf_0 _).mono ?_
 rintro e w1 ⟨rfl,hb1⟩
 go_wp2_with fail
 refine (swrap_0 v _).mono ?_
 rintro e w2 ⟨rfl,hb2⟩
 go_wp2_with fail
 go_ret2
 exact⟨rfl,(hb1.al _).trans hb2⟩
theorem Wrap_1 (v:Int) (w:World):Calls Tryz.prog 219 #[.int .i64 1,.int .i64 v] w λ e w'=>e=.returned (.tuple #[.int .i64 (wd 1 v),.int .i64 0])/\Gr w w':=by
 go_enter Tryz.func219,Tryz.ntmps219
 go_wp2_with fail
 refine (shapeOf_1 _).mono ?_
 rintro e w1 ⟨rfl,hb1⟩
 go_wp2_with fail
 refine (swrap_1 v _).mono ?_
 rintro e w2 ⟨rfl,hb2⟩
 go_wp2_with fail
 go_ret2
 exact⟨rfl,(hb1.al _).trans hb2⟩
theorem Wrap_2 (v:Int) (w:World) (h1:-9223372036854775808<=v) (h2:v<=9223372036854775807):Calls Tryz.prog 219 #[.int .i64 2,.int .i64 v] w λ e w'=>e=.returned (.tuple #[.int .i64 (wd 2 v),.int .i64 0])/\Gr w w':=by
 go_enter Tryz.func219,Tryz.ntmps219
 go_wp2_with fail
 refine (shapeOf_2 _).mono ?_
 rintro e w1 ⟨rfl,hb1⟩
 go_wp2_with fail
 refine (swrap_2 v _ h1 h2).mono ?_
 rintro e w2 ⟨rfl,hb2⟩
 go_wp2_with fail
 go_ret2
 exact⟨rfl,(hb1.al _).trans hb2⟩
theorem Wrap_ok (k v:Int) (w:World) (hk:0<=k/\k<=2) (hv:-9223372036854775808<=v/\v<=9223372036854775807):Calls Tryz.prog 219 #[.int .i64 k,.int .i64 v] w λ e w'=>e=.returned (.tuple #[.int .i64 (wd k v),.int .i64 0])/\Gr w w':=by
 obtain rfl | rfl | rfl:k=0\/k=1\/k=2:=by omega
 . exact Wrap_0 v w
 . exact Wrap_1 v w
 . exact Wrap_2 v w hv.1 hv.2
theorem wrap64_b (v:Int):-9223372036854775808<=wrap64 v/\wrap64 v<=9223372036854775807:=by unfold wrap64;omega
theorem Add_ok (k a b:Int) (w:World) (hk:0<=k/\k<=2):Calls Tryz.prog 220 #[.int .i64 k,.int .i64 a,.int .i64 b] w λ e w'=>e=.returned (.tuple #[.int .i64 (wd k (wrap64 (a+b))),.int .i64 0])/\Gr w w':=by
 go_enter Tryz.func220,Tryz.ntmps220
 go_wp2_with fail
 refine (Wrap_ok k (wrap64 (a+b)) _ hk (wrap64_b _)).mono ?_
 rintro e w1 ⟨rfl,hb1⟩
 go_wp2_with fail
 go_ret2
 exact⟨rfl,hb1⟩
theorem Fits_0 (v:Int) (w:World):Calls Tryz.prog 122 #[.int .i64 0,.int .i64 v] w λ e w'=>e=.returned (.bool (wd 0 v==v))/\Gr w w':=by
 go_enter Tryz.func122,Tryz.ntmps122
 go_wp2_with fail
 refine (shapeOf_0 _).mono ?_
 rintro e w1 ⟨rfl,hb1⟩
 go_wp2_with fail
 refine (swrap_0 v _).mono ?_
 rintro e w2 ⟨rfl,hb2⟩
 go_wp2_with fail
 go_ret
 exact⟨rfl,(hb1.al _).trans hb2⟩
theorem Fits_1 (v:Int) (w:World):Calls Tryz.prog 122 #[.int .i64 1,.int .i64 v] w λ e w'=>e=.returned (.bool (wd 1 v==v))/\Gr w w':=by
 go_enter Tryz.func122,Tryz.ntmps122
 go_wp2_with fail
 refine (shapeOf_1 _).mono ?_
 rintro e w1 ⟨rfl,hb1⟩
 go_wp2_with fail
 refine (swrap_1 v _).mono ?_
 rintro e w2 ⟨rfl,hb2⟩
 go_wp2_with fail
 go_ret
 exact⟨rfl,(hb1.al _).trans hb2⟩
theorem Fits_2 (v:Int) (w:World) (h1:-9223372036854775808<=v) (h2:v<=9223372036854775807):Calls Tryz.prog 122 #[.int .i64 2,.int .i64 v] w λ e w'=>e=.returned (.bool (wd 2 v==v))/\Gr w w':=by
 go_enter Tryz.func122,Tryz.ntmps122
 go_wp2_with fail
 refine (shapeOf_2 _).mono ?_
 rintro e w1 ⟨rfl,hb1⟩
 go_wp2_with fail
 refine (swrap_2 v _ h1 h2).mono ?_
 rintro e w2 ⟨rfl,hb2⟩
 go_wp2_with fail
 go_ret
 exact⟨rfl,(hb1.al _).trans hb2⟩
theorem Fits_no (k v:Int) (w:World) (hk:k<0\/2<k):Calls Tryz.prog 122 #[.int .i64 k,.int .i64 v] w λ e w'=>e=.returned (.bool false)/\Gr w w':=by
 go_enter Tryz.func122,Tryz.ntmps122
 go_wp2_with fail
 refine (shapeOf_no k _ hk).mono ?_
 rintro e w1 ⟨rfl,hb1⟩
 go_wp2_with fail
 go_ret
 exact⟨rfl,hb1.al _⟩
def fitB (k v:Int):Bool:=decide (0<=k/\k<=2)&&wd k v==v
theorem Fits_ok (k v:Int) (w:World) (hv:-9223372036854775808<=v/\v<=9223372036854775807):Calls Tryz.prog 122 #[.int .i64 k,.int .i64 v] w λ e w'=>e=.returned (.bool (fitB k v))/\Gr w w':=by
 by_cases hk:0<=k/\k<=2
 . have hf:fitB k v=(wd k v==v):=by simp [fitB,hk]
   rw [hf]
   obtain rfl | rfl | rfl:k=0\/k=1\/k=2:=by omega
   . exact Fits_0 v w
   . exact Fits_1 v w
   . exact Fits_2 v w hv.1 hv.2
 . have hf:fitB k v=false:=by simp [fitB,hk]
   rw [hf]
   exact Fits_no k v w (by omega)
end
section
open Go.RowKit
theorem Add_is {k a b r:Int} (hr:wd k (wrap64 (a+b))=r) (hk:0<=k/\k<=2) (w:World):Calls Tryz.prog 220 #[.int .i64 k,.int .i64 a,.int .i64 b] w λ e w'=>e=.returned (.tuple #[.int .i64 r,.int .i64 0])/\Gr w w' :=
 hr▸Add_ok k a b w hk
theorem Wrap_is {k v r:Int} (hr:wd k v=r) (hk:0<=k/\k<=2) (hv:-9223372036854775808<=v/\v<=9223372036854775807) (w:World):Calls Tryz.prog 219 #[.int .i64 k,.int .i64 v] w λ e w'=>e=.returned (.tuple #[.int .i64 r,.int .i64 0])/\Gr w w' :=
 hr▸Wrap_ok k v w hk hv
theorem Fits_is {k v:Int} {r:Bool} (hr:fitB k v=r) (hv:-9223372036854775808<=v/\v<=9223372036854775807) (w:World):Calls Tryz.prog 122 #[.int .i64 k,.int .i64 v] w λ e w'=>e=.returned (.bool r)/\Gr w w' :=
 hr▸Fits_ok k v w hv
end
section
open Go.ChangeShapes Go.WideShapes Go.ChangeAt Go.RowKit
namespace P6
def outT (n s:Int):Int:=wd 1 (wrap64 (n-s))
def up1 (v:Int):Int:=wd 1 (wrap64 (v+1))
def tkB (n s:Int):Bool:=fitB 1 n&&fitB 1 s
def B64 (v:Int):Prop:=-9223372036854775808<=v/\v<=9223372036854775807
def Two (w:World) (g:Nat) (n s:Int):Prop:=w.heap[g]?=some (.cells #[.int .i64 n,.int .i64 s] 46 (0,0))
section
variable {w w':World} {g:Nat} {n s:Int}
theorem Two.lt (h:Two w g n s):g<w.heap.size:=(Array.getElem?_eq_some_iff.1 h).1
theorem Two.new (w:World) (n s:Int):Two (w.alloc (.cells #[.int .i64 n,.int .i64 s] 46)) w.heap.size n s:=heap_alloc_new w _
theorem Two.gr (h:Two w g n s) (G:Gr w w'):Two w' g n s:=(G.block g h.lt).trans h
theorem Two.cells (h:Two w g n s):w.cell? ⟨g,0,none⟩=some (.int .i64 n)/\w.cell? ⟨g,1,none⟩=some (.int .i64 s) :=
 ⟨by rw [cell_of_row w g 0 _ _ (0,0) h];rfl,by rw [cell_of_row w g 1 _ _ (0,0) h];rfl⟩
theorem Two.frozen (h:Two w g n s) (i:Nat):w.frozen? ⟨g,i,none⟩=false:=by
 unfold Two at h
 simp [World.frozen?,h]
theorem Two.far (h:Two w g n s) {p:Addr} (hp:g≠p.block) (u:Value):Two (w.setCell p u) g n s:=(Below.heap_setCell w p u g hp).trans h
theorem Two.set0 (h:Two w g n s) (x:Int):Two (w.setCell ⟨g,0,none⟩ (.int .i64 x)) g x s:=by
 unfold Two at h ⊢
 simp [World.setCell,Array.getElem?_modify,h]
theorem Two.set1 (h:Two w g n s) (x:Int):Two (w.setCell ⟨g,1,none⟩ (.int .i64 x)) g n x:=by
 unfold Two at h ⊢
 simp [World.setCell,Array.getElem?_modify,h]
end
theorem Right_is {n s:Int} {r:Bool} (hr:tkB n s=r) (hn:B64 n) (hs:B64 s) (w:World) :
 Calls Tryz.prog 90 #[.agg #[.int .i64 n,.int .i64 s]] w λ e w'=>e=.returned (.bool r)/\Gr w w':=by
 obtain⟨a,ha⟩:∃ a,fitB 1 n=a:=⟨_,rfl⟩
 obtain⟨b,hb⟩:∃ b,fitB 1 s=b:=⟨_,rfl⟩
 unfold tkB at hr
 rw [ha,hb] at hr
 subst hr
 have c1:=λ w=>hid (Fits_is ha hn w)
 have c2:=λ w=>hid (Fits_is hb hs w)
 clear ha hb
 cases a
 . go_enter Tryz.func90,Tryz.ntmps90
   go_wp2_with fail
   refine (c1 _).out.mono ?_
   rintro e w1 ⟨rfl,hb1⟩
   go_wp2_with fail
   go_ret
   exact⟨rfl,((Gr.refl w).al _).trans hb1⟩
 . go_enter Tryz.func90,Tryz.ntmps90
   go_wp2_with fail
   refine (c1 _).out.mono ?_
   rintro e w1 ⟨rfl,hb1⟩
   have X:=(Two.new w n s).gr hb1
   obtain⟨q0,q1⟩:=X.cells
   go_wp2_with fail
   refine (c2 _).out.mono ?_
   rintro e w2 ⟨rfl,hb2⟩
   go_wp2_with fail
   go_ret
   exact⟨rfl,(((Gr.refl w).al _).trans hb1).trans hb2⟩
theorem out_is {n s r:Int} (hr:outT n s=r) (w:World) :
 Calls Tryz.prog 210 #[.agg #[.int .i64 n,.int .i64 s]] w λ e w'=>e=.returned (.int .i64 r)/\Gr w w':=by
 have c1:=λ w=>hid (Wrap_is (k:=1) (v:=wrap64 (n-s)) hr (by omega) (wrap64_b _) w)
 clear hr
 go_enter Tryz.func210,Tryz.ntmps210
 go_wp2_with fail
 refine (c1 _).out.mono ?_
 rintro e w1 ⟨rfl,hb1⟩
 go_wp2_with fail
 go_ret
 exact⟨rfl,((Gr.refl w).al _).trans hb1⟩
theorem served_is {n s m:Int} {r:Bool} (hr:(m==s)=r) (w:World) :
 Calls Tryz.prog 189 #[.agg #[.int .i64 n,.int .i64 s,.int .i64 m]] w λ e w'=>e=.returned (.bool r)/\Gr w w':=by
 go_enter Tryz.func189,Tryz.ntmps189
 go_wp2_with fail
 go_ret
 exact⟨rfl,(Gr.refl w).al _⟩
theorem toldI_yes {n s r:Int} (hr:tkB n s=true) (ho:outT n s=r) (hn:B64 n) (hs:B64 s) (w:World) :
 Calls Tryz.prog 209 #[.agg #[.int .i64 n,.int .i64 s],.func (.func 210) #[.agg #[.int .i64 n,.int .i64 s]] #[]] w λ e w'=>e=.returned (.tuple #[.int .i64 r,.int .i64 0])/\Gr w w':=by
 have c1:=λ w=>hid (Right_is hr hn hs w)
 have c2:=λ w=>hid (out_is ho w)
 clear hr ho
 go_enter Tryz.func209,Tryz.ntmps209
 go_wp2_with fail
 refine (c1 _).out.mono ?_
 rintro e w1 ⟨rfl,hb1⟩
 go_wp2_with fail
 refine (c2 _).out.mono ?_
 rintro e w2 ⟨rfl,hb2⟩
 go_wp2_with fail
 go_ret2
 exact⟨rfl,(((Gr.refl w).al _).trans hb1).trans hb2⟩
theorem toldI_no {n s:Int} (hr:tkB n s=false) (hn:B64 n) (hs:B64 s) (f:Value) (w:World) :
 Calls Tryz.prog 209 #[.agg #[.int .i64 n,.int .i64 s],f] w λ e w'=>e=.returned (.tuple #[.int .i64 0,.int .i64 1])/\Gr w w':=by
 have c1:=λ w=>hid (Right_is hr hn hs w)
 clear hr
 go_enter Tryz.func209,Tryz.ntmps209
 go_wp2_with fail
 refine (c1 _).out.mono ?_
 rintro e w1 ⟨rfl,hb1⟩
 go_wp2_with fail
 go_ret2
 exact⟨rfl,((Gr.refl w).al _).trans hb1⟩
theorem toldB_yes {n s m:Int} {r:Bool} (hr:tkB n s=true) (ho:(m==s)=r) (hn:B64 n) (hs:B64 s) (w:World) :
 Calls Tryz.prog 188 #[.agg #[.int .i64 n,.int .i64 s],.func (.func 189) #[.agg #[.int .i64 n,.int .i64 s,.int .i64 m]] #[]] w λ e w'=>e=.returned (.tuple #[.bool r,.int .i64 0])/\Gr w w':=by
 have c1:=λ w=>hid (Right_is hr hn hs w)
 have c2:=λ w=>hid (served_is (n:=n) ho w)
 clear hr ho
 go_enter Tryz.func188,Tryz.ntmps188
 go_wp2_with fail
 refine (c1 _).out.mono ?_
 rintro e w1 ⟨rfl,hb1⟩
 go_wp2_with fail
 refine (c2 _).out.mono ?_
 rintro e w2 ⟨rfl,hb2⟩
 go_wp2_with fail
 go_ret2
 exact⟨rfl,(((Gr.refl w).al _).trans hb1).trans hb2⟩
theorem toldB_no {n s:Int} (hr:tkB n s=false) (hn:B64 n) (hs:B64 s) (f:Value) (w:World) :
 Calls Tryz.prog 188 #[.agg #[.int .i64 n,.int .i64 s],f] w λ e w'=>e=.returned (.tuple #[.bool false,.int .i64 1])/\Gr w w':=by
 have c1:=λ w=>hid (Right_is hr hn hs w)
 clear hr
 go_enter Tryz.func188,Tryz.ntmps188
 go_wp2_with fail
 refine (c1 _).out.mono ?_
 rintro e w1 ⟨rfl,hb1⟩
 go_wp2_with fail
 go_ret2
 exact⟨rfl,((Gr.refl w).al _).trans hb1⟩
def OutIs (n s v q:Int):Prop:=(tkB n s=true/\outT n s=v/\q=0)\/(tkB n s=false/\v=0/\q=1)
def TurnIs (n s m:Int) (v:Bool) (q:Int):Prop:=(tkB n s=true/\(m==s)=v/\q=0)\/(tkB n s=false/\v=false/\q=1)
theorem Out_is {n s v q:Int} (h:OutIs n s v q) (hn:B64 n) (hs:B64 s) (w:World) :
 Calls Tryz.prog 186 #[.agg #[.int .i64 n,.int .i64 s]] w λ e w'=>e=.returned (.tuple #[.int .i64 v,.int .i64 q])/\Gr w w':=by
 have hmf:=mkF
 have c:∀ w,Hid (Calls Tryz.prog 209 #[.agg #[.int .i64 n,.int .i64 s],.func (.func 210) #[.agg #[.int .i64 n,.int .i64 s]] #[]] w λ e w'=>e=.returned (.tuple #[.int .i64 v,.int .i64 q])/\Gr w w'):=λ w=>by
  rcases h with ⟨h1,h2,rfl⟩ | ⟨h1,rfl,rfl⟩
  . exact hid (toldI_yes h1 h2 hn hs w)
  . exact hid (toldI_no h1 hn hs _ w)
 clear h
 go_enter Tryz.func186,Tryz.ntmps186
 go_wp2_with fail
 refine (c _).out.mono ?_
 rintro e w1 ⟨rfl,hb1⟩
 go_wp2_with fail
 go_ret2
 exact⟨rfl,((Gr.refl w).al _).trans hb1⟩
theorem Turn_is {n s m:Int} {v:Bool} {q:Int} (h:TurnIs n s m v q) (hn:B64 n) (hs:B64 s) (w:World) :
 Calls Tryz.prog 148 #[.agg #[.int .i64 n,.int .i64 s],.int .i64 m] w λ e w'=>e=.returned (.tuple #[.bool v,.int .i64 q])/\Gr w w':=by
 have hmf:=mkF
 have c:∀ w,Hid (Calls Tryz.prog 188 #[.agg #[.int .i64 n,.int .i64 s],.func (.func 189) #[.agg #[.int .i64 n,.int .i64 s,.int .i64 m]] #[]] w λ e w'=>e=.returned (.tuple #[.bool v,.int .i64 q])/\Gr w w'):=λ w=>by
  rcases h with ⟨h1,h2,rfl⟩ | ⟨h1,rfl,rfl⟩
  . exact hid (toldB_yes h1 h2 hn hs w)
  . exact hid (toldB_no h1 hn hs _ w)
 clear h
 go_enter Tryz.func148,Tryz.ntmps148
 go_wp2_with fail
 refine (c _).out.mono ?_
 rintro e w1 ⟨rfl,hb1⟩
 go_wp2_with fail
 go_ret2
 exact⟨rfl,((Gr.refl w).al _).trans hb1⟩
theorem advance_is {v x:Int} (hx:up1 v=x) (b o:Nat) (w:World) (hc:w.cell? ⟨b,o,none⟩=some (.int .i64 v)) (hz:w.frozen? ⟨b,o,none⟩=false) (hl:b<w.heap.size) :
 Calls Tryz.prog 211 #[.pointer (some ⟨b,o,none⟩)] w λ e w'=>e=.returned (.tuple #[])/\∃ w1,Gr w w1/\w'=w1.setCell ⟨b,o,none⟩ (.int .i64 x):=by
 have c1:=λ w=>hid (Add_is (k:=1) (a:=v) (b:=1) hx (by omega) w)
 clear hx
 go_enter Tryz.func211,Tryz.ntmps211
 go_wp2_with fail
 refine (c1 _).out.mono ?_
 rintro e w1 ⟨rfl,hb1⟩
 have hc1:=(hb1.cell (p:=⟨b,o,none⟩) hl).trans hc
 have hz1:=(hb1.frozen (p:=⟨b,o,none⟩) hl).trans hz
 go_wp2_with fail
 go_end0
 exact⟨rfl,w1,hb1,rfl⟩
theorem advance_d {v x:Int} (hx:up1 v=x) (b o:Nat) (u:FrameMode) (w:World) (hc:w.cell? ⟨b,o,none⟩=some (.int .i64 v)) (hz:w.frozen? ⟨b,o,none⟩=false) (hl:b<w.heap.size) :
 CallsD Tryz.prog 211 #[.pointer (some ⟨b,o,none⟩)] u w λ e u' w'=>u'=u/\(e=.returned (.tuple #[])/\∃ w1,Gr w w1/\w'=w1.setCell ⟨b,o,none⟩ (.int .i64 x)):=by
 have c1:=λ w=>hid (Add_is (k:=1) (a:=v) (b:=1) hx (by omega) w)
 clear hx
 go_enter_d Tryz.func211,Tryz.ntmps211
 go_wp2_with fail
 refine (c1 _).out.mono ?_
 rintro e w1 ⟨rfl,hb1⟩
 have hc1:=(hb1.cell (p:=⟨b,o,none⟩) hl).trans hc
 have hz1:=(hb1.frozen (p:=⟨b,o,none⟩) hl).trans hz
 go_wp2_with fail
 go_end0
 exact⟨rfl,w1,hb1,rfl⟩
theorem take_is {v x:Int} (hx:up1 v=x) (b o:Nat) (w:World) (hc:w.cell? ⟨b,o,none⟩=some (.int .i64 v)) (hz:w.frozen? ⟨b,o,none⟩=false) (hl:b<w.heap.size) :
 Calls Tryz.prog 187 #[.pointer (some ⟨b,o,none⟩)] w λ e w'=>e=.returned (.int .i64 v)/\∃ w1,Gr w w1/\w'=w1.setCell ⟨b,o,none⟩ (.int .i64 x):=by
 go_enter_defers Tryz.func187,Tryz.ntmps187
 go_wp2
 refine leaves_cons (f:=211) (args:=#[.pointer (some ⟨b,o,none⟩)]) (by simp) (by simp [go_sem]) ?_
 refine (advance_d hx b o .returning _ (by simpa using hc) (by simpa using hz) (by simpa using hl)).mono ?_
 rintro e u' w'' ⟨rfl,rfl,w1,hg,rfl⟩
 exact⟨_,results_tmp rfl _ _ _,rfl,w1,hg,rfl⟩
theorem Draw_no {n s:Int} (h:tkB n s=false) (hn:B64 n) (hs:B64 s) (w:World) :
 Calls Tryz.prog 147 #[.agg #[.int .i64 n,.int .i64 s]] w λ e w'=>e=.returned (.tuple #[.agg #[.int .i64 0,.int .i64 0],.int .i64 0,.int .i64 1])/\Gr w w':=by
 have c1:=λ w=>hid (Out_is (.inr ⟨h,rfl,rfl⟩) hn hs w)
 go_enter Tryz.func147,Tryz.ntmps147
 go_wp2_with fail
 refine (c1 _).out.mono ?_
 rintro e w1 ⟨rfl,hb1⟩
 have X:=(Two.new (w.alloc (.cells #[.int .i64 n,.int .i64 s] 46)) 0 0).gr hb1
 have G:=(((Gr.refl w).al _).al _).trans hb1
 obtain⟨q0,q1⟩:=X.cells
 have f0:=X.frozen 0
 have f1:=X.frozen 1
 simp at q0 q1 f0 f1
 go_wp2_with fail
 refine bodyPost_ret (v:=.tuple #[.agg #[.int .i64 0,.int .i64 0],.int .i64 0,.int .i64 1]) (by simp [results,Tryz.results147,go_sem,q0,q1]) rfl ⟨rfl,?_⟩
 exact (G.st (by simp) _).st (by simp) _
theorem Draw_full {n s:Int} (h:tkB n s=true) (ho:outT n s=4294967295) (hn:B64 n) (hs:B64 s) (w:World) :
 Calls Tryz.prog 147 #[.agg #[.int .i64 n,.int .i64 s]] w λ e w'=>e=.returned (.tuple #[.agg #[.int .i64 0,.int .i64 0],.int .i64 0,.int .i64 5])/\Gr w w':=by
 have c1:=λ w=>hid (Out_is (.inl ⟨h,ho,rfl⟩) hn hs w)
 clear ho
 go_enter Tryz.func147,Tryz.ntmps147
 go_wp2_with fail
 refine (c1 _).out.mono ?_
 rintro e w1 ⟨rfl,hb1⟩
 have X:=(Two.new (w.alloc (.cells #[.int .i64 n,.int .i64 s] 46)) 0 0).gr hb1
 have G:=(((Gr.refl w).al _).al _).trans hb1
 obtain⟨q0,q1⟩:=X.cells
 have f0:=X.frozen 0
 have f1:=X.frozen 1
 simp at q0 q1 f0 f1
 go_wp2_with fail
 refine bodyPost_ret (v:=.tuple #[.agg #[.int .i64 0,.int .i64 0],.int .i64 0,.int .i64 5]) (by simp [results,Tryz.results147,go_sem,q0,q1]) rfl ⟨rfl,?_⟩
 exact (G.st (by simp) _).st (by simp) _
theorem Draw_yes {n s x:Int} (h:tkB n s=true) (ho:outT n s≠4294967295) (hx:up1 n=x) (hn:B64 n) (hs:B64 s) (w:World) :
 Calls Tryz.prog 147 #[.agg #[.int .i64 n,.int .i64 s]] w λ e w'=>e=.returned (.tuple #[.agg #[.int .i64 x,.int .i64 s],.int .i64 n,.int .i64 0])/\Gr w w':=by
 obtain⟨v,hv⟩:∃ v,outT n s=v:=⟨_,rfl⟩
 rw [hv] at ho
 have hne:(v==4294967295)=false:=beq_eq_false_iff_ne.2 ho
 have c1:=λ w=>hid (Out_is (.inl ⟨h,hv,rfl⟩) hn hs w)
 have HX:=hid hx
 clear ho hv hx
 go_enter Tryz.func147,Tryz.ntmps147
 go_wp2_with fail
 refine (c1 _).out.mono ?_
 rintro e w1 ⟨rfl,hb1⟩
 have X:=(Two.new (w.alloc (.cells #[.int .i64 n,.int .i64 s] 46)) 0 0).gr hb1
 have Y:=((Two.new w n s).gr ((Gr.refl _).al (.cells #[.int .i64 0,.int .i64 0] 46))).gr hb1
 have G:=(((Gr.refl w).al _).al _).trans hb1
 rw [show (w.alloc (.cells #[.int .i64 n,.int .i64 s] 46)).heap.size=w.heap.size+1 from by simp] at X
 go_wp2_with fail
 refine (take_is HX.out w.heap.size 0 _ Y.cells.1 (Y.frozen 0) Y.lt).mono ?_
 rintro e w2 ⟨rfl,w3,hb3,rfl⟩
 replace Y:=(Y.gr hb3).set0 x
 replace X:=(X.gr hb3).far (p:=⟨w.heap.size,0,none⟩) (by simp) (.int .i64 x)
 replace G:=(G.trans hb3).st (p:=⟨w.heap.size,0,none⟩) (Nat.le_refl _) (.int .i64 x)
 generalize hW:w3.setCell ⟨w.heap.size,0,none⟩ (.int .i64 x)=W at *
 obtain⟨y0,y1⟩:=Y.cells
 obtain⟨q0,q1⟩:=X.cells
 have f0:=X.frozen 0
 have f1:=X.frozen 1
 have e1:w.heap.size+1≠w.heap.size:=by omega
 clear hW
 go_wp2_with fail
 refine bodyPost_ret (v:=.tuple #[.agg #[.int .i64 x,.int .i64 s],.int .i64 n,.int .i64 0]) (by simp [results,Tryz.results147,go_sem,q0,q1]) rfl ⟨rfl,?_⟩
 exact (G.st (by simp) _).st (by simp) _
theorem Done_none {n s:Int} (h:tkB n s=true) (ho:outT n s=0) (hn:B64 n) (hs:B64 s) (w:World) :
 Calls Tryz.prog 193 #[.agg #[.int .i64 n,.int .i64 s]] w λ e w'=>e=.returned (.tuple #[.agg #[.int .i64 0,.int .i64 0],.int .i64 6])/\Gr w w':=by
 have c1:=λ w=>hid (Out_is (.inl ⟨h,ho,rfl⟩) hn hs w)
 clear ho
 go_enter Tryz.func193,Tryz.ntmps193
 go_wp2_with fail
 refine (c1 _).out.mono ?_
 rintro e w1 ⟨rfl,hb1⟩
 have X:=(Two.new (w.alloc (.cells #[.int .i64 n,.int .i64 s] 46)) 0 0).gr hb1
 have G:=(((Gr.refl w).al _).al _).trans hb1
 obtain⟨q0,q1⟩:=X.cells
 have f0:=X.frozen 0
 have f1:=X.frozen 1
 simp at q0 q1 f0 f1
 go_wp2_with fail
 refine bodyPost_ret (v:=.tuple #[.agg #[.int .i64 0,.int .i64 0],.int .i64 6]) (by simp [results,Tryz.results193,go_sem,q0,q1]) rfl ⟨rfl,?_⟩
 exact (G.st (by simp) _).st (by simp) _
theorem Done_yes {n s x:Int} (h:tkB n s=true) (ho:outT n s≠0) (hx:up1 s=x) (hn:B64 n) (hs:B64 s) (w:World) :
 Calls Tryz.prog 193 #[.agg #[.int .i64 n,.int .i64 s]] w λ e w'=>e=.returned (.tuple #[.agg #[.int .i64 n,.int .i64 x],.int .i64 0])/\Gr w w':=by
 obtain⟨v,hv⟩:∃ v,outT n s=v:=⟨_,rfl⟩
 rw [hv] at ho
 have hne:(v==0)=false:=beq_eq_false_iff_ne.2 ho
 have c1:=λ w=>hid (Out_is (.inl ⟨h,hv,rfl⟩) hn hs w)
 have HX:=hid hx
 clear ho hv hx
 go_enter Tryz.func193,Tryz.ntmps193
 go_wp2_with fail
 refine (c1 _).out.mono ?_
 rintro e w1 ⟨rfl,hb1⟩
 have X:=(Two.new (w.alloc (.cells #[.int .i64 n,.int .i64 s] 46)) 0 0).gr hb1
 have Y:=((Two.new w n s).gr ((Gr.refl _).al (.cells #[.int .i64 0,.int .i64 0] 46))).gr hb1
 have G:=(((Gr.refl w).al _).al _).trans hb1
 rw [show (w.alloc (.cells #[.int .i64 n,.int .i64 s] 46)).heap.size=w.heap.size+1 from by simp] at X
 go_wp2_with fail
 refine (advance_is HX.out w.heap.size 1 _ Y.cells.2 (Y.frozen 1) Y.lt).mono ?_
 rintro e w2 ⟨rfl,w3,hb3,rfl⟩
 replace Y:=(Y.gr hb3).set1 x
 replace X:=(X.gr hb3).far (p:=⟨w.heap.size,1,none⟩) (by simp) (.int .i64 x)
 replace G:=(G.trans hb3).st (p:=⟨w.heap.size,1,none⟩) (Nat.le_refl _) (.int .i64 x)
 generalize hW:w3.setCell ⟨w.heap.size,1,none⟩ (.int .i64 x)=W at *
 obtain⟨y0,y1⟩:=Y.cells
 obtain⟨q0,q1⟩:=X.cells
 have f0:=X.frozen 0
 have f1:=X.frozen 1
 have e1:w.heap.size+1≠w.heap.size:=by omega
 clear hW
 go_wp2_with fail
 refine bodyPost_ret (v:=.tuple #[.agg #[.int .i64 n,.int .i64 x],.int .i64 0]) (by simp [results,Tryz.results193,go_sem,q0,q1]) rfl ⟨rfl,?_⟩
 exact (G.st (by simp) _).st (by simp) _
end P6
end
end Go.Proofs.YtainfijdhcehlaaGreatDoor
