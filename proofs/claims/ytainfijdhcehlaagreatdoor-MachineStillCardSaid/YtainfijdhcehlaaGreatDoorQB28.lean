/-
  A part of the proof.
-/
import Derived.Test.YtainfijdhcehlaaGreatDoorQB8
import Derived.Test.YtainfijdhcehlaaGreatDoorQB10
import Derived.Test.YtainfijdhcehlaaGreatDoorQB24
import Derived.Test.YtainfijdhcehlaaGreatDoorQB26
import Derived.Test.YtainfijdhcehlaaGreatDoorQB27
set_option linter.unusedVariables false
set_option linter.unusedSimpArgs false
set_option maxRecDepth 100000
set_option maxHeartbeats 8000000
namespace Go.Proofs.YtainfijdhcehlaaGreatDoor
open Lib (hid)
section
open Go.ChangeShapes Go.WideShapes Go.ChangeAt Go.RowKit Go.Shelf
namespace P16
open P12 (PV PMem)
theorem tabA_iff {T:List SV} {N:Int}:(TabA (T.map SV.pl)/\∀ s∈T.map SV.pl,∀ x∈s.2.2,x<N)↔Tab T/\T.all (okSp N)=true:=by
 have e:=svs_pl (T.map SV.pl)
 constructor
 . rintro⟨⟨h1,h2⟩,h3⟩
   have ht:Tab T:=Tab.pl e h1
   refine⟨ht,List.all_eq_true.2 λ x hx=>?_⟩
   have hm:=List.mem_map_of_mem (f:=SV.pl) hx
   obtain⟨m,hm4,ea⟩:=h2 _ hm
   have ea:x.addr=8*(m:Int):=ea
   have h3:=h3 _ hm
   unfold okSp
   simp only [Bool.and_eq_true,decide_eq_true_eq,List.all_eq_true]
   refine⟨⟨by omega,by omega⟩,λ y hy=>?_⟩
   have:y<N:=h3 y hy
   unfold okI
   simp;omega
 . rintro⟨h1,h2⟩
   rw [List.all_eq_true] at h2
   refine⟨⟨Tab.pl e.symm h1,λ s hs=>?_⟩,λ s hs y hy=>?_⟩
   . obtain⟨x,hx,rfl⟩:=List.mem_map.1 hs
     have hk:=Tab.key h1.2 hx
     unfold IsKey at hk
     have:=h2 x hx
     unfold okSp at this
     simp only [Bool.and_eq_true,decide_eq_true_eq] at this
     refine⟨(x.addr / 8).toNat,by omega,?_⟩
     show x.addr=_
     omega
   . obtain⟨x,hx,rfl⟩:=List.mem_map.1 hs
     have:=h2 x hx
     unfold okSp at this
     simp only [Bool.and_eq_true,decide_eq_true_eq,List.all_eq_true] at this
     have:=this.2 y hy
     unfold okI at this
     simp at this
     omega
theorem cright_iff {p:List Ac} {c:Cl} (h0:0<=c.gst):CRight p c↔CliOk p c:=by
 constructor
 . intro h
   refine⟨h.tk,⟨h.sc,h.rd,h.ol⟩,?_⟩
   by_cases e:c.act=p.length
   . exact .inl ⟨e,h.dn.1 e,(h.fin e).1,(h.fin e).2⟩
   . exact .inr ⟨h.a0,by have:=h.a1;omega,λ q=>e (h.dn.2 q),h.at_⟩
 . rintro⟨h1,h2,h3⟩
   rcases h3 with ⟨e1,e2,e3,e4⟩ | ⟨e1,e2,e3,e4⟩
   . exact⟨by omega,by omega,⟨λ _=>e2,λ _=>e1⟩,h1,h2.sc,h2.rd,h2.ol,λ _=>⟨e3,e4⟩,λ k n hk=>by
      have:=(List.getElem?_eq_some_iff.1 hk).1
      omega⟩
   . exact⟨e1,by omega,⟨λ q=>by omega,λ q=>absurd q e3⟩,h1,h2.sc,h2.rd,h2.ol,λ q=>by omega,e4⟩
theorem gor_iff {l:List Cl} (h8:l.length<=8):(∀ c∈l,(c.gst=0\/c.gst=1\/c.gst=2)/\(c.permit=true->c.gst=0))↔P11.rightB (l.map gor)=true:=by
 unfold P11.rightB
 simp only [Bool.and_eq_true,decide_eq_true_eq,List.all_eq_true,List.length_map,List.mem_map,forall_exists_index,and_imp,forall_apply_eq_imp_iff₂]
 constructor
 . intro h
   refine⟨h8,λ c hc=>?_⟩
   obtain⟨h1,h2⟩:=h c hc
   unfold P11.okG gor
   cases hp:c.permit
   . simp;omega
   . have:=h2 hp
     simp;omega
 . rintro⟨-,h⟩ c hc
   have:=h c hc
   unfold P11.okG gor at this
   simp only [Bool.and_eq_true,decide_eq_true_eq,Bool.or_eq_true,Bool.not_eq_true',beq_iff_eq] at this
   refine⟨by omega,λ hp=>?_⟩
   rw [hp] at this
   simpa using this.2
theorem okM_iff {x:T3}:okM x=true↔OkW x.1/\(0<=x.2.1/\x.2.1<4294967296)/\(0<=x.2.2/\x.2.2<4294967296):=by
 have h1:P6.tkB x.2.1 x.2.2=(P6.tkB x.2.1 0&&P6.tkB x.2.2 0):=by
  have e0:fitB 1 0=true:=by decide
  unfold P6.tkB
  rw [e0]
  simp
 unfold okM
 rw [h1,Bool.and_eq_true,Bool.and_eq_true,decide_eq_true_eq,P6.tk_iff,P6.tk_iff]
theorem near_iff {t:Int}:(t==P4.near t)=true↔0<=t/\t<=4611686018427387904:=by
 constructor
 . intro h
   by_cases q:P4.Tm t
   . exact q
   . rw [P4.near_ne q] at h;cases h
 . intro h
   rw [P4.near_eq h]
   simp
section
variable {W:World} {r:WR} {ω:Wv}
theorem Right_is (h:WIs W r ω) {v:Bool} (hv:v=true↔RightW ω) :
 Calls Tryz.prog 39 #[r.v] W λ e w'=>e=.returned (.bool v)/\Gr W w':=by
 obtain⟨R,hR,hpl⟩:=h.p
 obtain⟨T,hT,htb⟩:=h.t
 obtain⟨l1,l2,l3,l4⟩:=h.lens
 have hnow:=h.now
 have hstop:=h.stop
 have N0:Hid (Blk (W.alloc (.cells r.a 29)) W.heap.size r.a 29):=hid (Blk.new W r.a _)
 obtain⟨b1,e1⟩:∃ b,(r.now==P4.near r.now)=b:=⟨_,rfl⟩
 obtain⟨b2,e2⟩:∃ b,P12.rightB (P12.pl R)=b:=⟨_,rfl⟩
 obtain⟨b5,e5⟩:∃ b,ω.mx.all okM=b:=⟨_,rfl⟩
 obtain⟨b6,e6⟩:∃ b:Bool,b=true↔Tab T/\T.all (okSp (r.c.n:Int))=true:=⟨@decide _ (Classical.propDecidable _),@decide_eq_true_iff _ (Classical.propDecidable _)⟩
 obtain⟨b7,e7⟩:∃ b,P11.rightB (ω.cl.map gor)=b:=⟨_,rfl⟩
 obtain⟨b9,e9⟩:∃ b:Bool,b=true↔∀ (i:Nat) (c:Cl) (p:List Ac),ω.cl[i]?=some c->(P12.pl R)[i]?=some p->CliOk p c:=⟨@decide _ (Classical.propDecidable _),@decide_eq_true_iff _ (Classical.propDecidable _)⟩
 have hfew:(r.c.n:Int)=(r.p.n:Int)->b2=true->r.c.n<=8/\(r.c.n=r.p.n)/\∀ p∈P12.pl R,∀ a∈p,P12.okA a=true:=by
  intro q1 q2
  rw [<- e2] at q2
  obtain⟨g1,g2⟩:=right_facts q2
  rw [hpl,l1] at g1
  exact⟨by omega,by omega,λ p hp a ha=>(g2 p hp).2 a ha⟩
 have c1:=λ W'=>hid (P4.Right_ok r.now b1 e1 W')
 have c2:=λ W' (g:Gr W W')=>hid (P12.Right_is (c:=r.p.c) e2 h.op.lt W' (hR.gr g))
 have c5:=λ W' (g:Gr W W')=>hid (ContainsFuncM_ok r.m.A r.m.n r.m.c ω.mx W' (h.m.gr g) h.om.lt)
 rw [e5] at c5
 have hk:Tab T->∀ x∈T,0<=x.addr/\x.addr<=9223372036854775807:=λ ht x hx=>by
  have:=Tab.key ht.2 hx
  unfold IsKey at this
  omega
 have c6:=λ W' (g:Gr W W')=>hid (rightTable_is (c:=r.t.c) (N:=(r.c.n:Int)) (hT.gr g) h.ot.lt hk e6)
 have c7:(r.c.n:Int)=(r.p.n:Int)->b2=true->∀ W',Gr W W'->Hid (Calls Tryz.prog 70 #[.slice r.c.A r.c.n r.c.c] W' λ e w'=>∃ G,e=.returned (.slice G r.c.n r.c.n)/\Gr W' w'/\Hid (∀ w'',Gr w' w''->Hid (Calls Tryz.prog 47 #[.slice G r.c.n r.c.n] w'' λ e w3=>e=.returned (.bool b7)/\Gr w'' w3))) :=
  λ q1 q2 W' g=>hid ((gors_is (c:=r.c.c) (h.c.gr g) (by have:=(hfew q1 q2).1;omega)).mono λ e w' q=>⟨_,q.1,q.2.2,hid λ w'' g'=>hid (P11.Right_is e7 h.oc.lt w'' (q.2.1.gr g'))⟩)
 have c9:(r.c.n:Int)=(r.p.n:Int)->b2=true->∀ W',Gr W W'->Hid (Calls Tryz.prog 71 #[.slice r.c.A r.c.n r.c.c,.slice r.p.A r.p.n r.p.c] W' λ e w'=>e=.returned (.bool b9)/\Gr W' w') :=
  λ q1 q2 W' g=>by
   obtain⟨g1,g2,g3⟩:=hfew q1 q2
   have hp:=hR.gr g
   rw [<- g2] at hp ⊢
   exact hid (rightClients_is (c:=r.c.c) (d:=r.p.c) (h.c.gr g) hp (by omega) g3 e9)
 have f3:((r.c.n:Int)==(r.p.n:Int))=true↔ω.cl.length=ω.progs.length:=by rw [l1,l2,beq_iff_eq];omega
 have f4:((r.m.n:Int)==4)=true↔ω.mx.length=4:=by rw [l3,beq_iff_eq];omega
 have f1:b1=true↔0<=ω.now/\ω.now<=4611686018427387904:=by rw [<- e1,near_iff,hnow]
 have f2:b2=true↔P12.rightB ω.progs=true:=by rw [<- e2,hpl]
 have f5:b5=true↔∀ x∈ω.mx,OkW x.1/\(0<=x.2.1/\x.2.1<4294967296)/\(0<=x.2.2/\x.2.2<4294967296):=by
  rw [<- e5,List.all_eq_true]
  exact⟨λ q x hx=>okM_iff.1 (q x hx),λ q x hx=>okM_iff.2 (q x hx)⟩
 have f6:b6=true↔TabA ω.tb/\∀ s∈ω.tb,∀ x∈s.2.2,x<(ω.cl.length:Int):=by rw [e6,<- tabA_iff,htb,l2]
 have f7:ω.cl.length<=8->(b7=true↔∀ c∈ω.cl,(c.gst=0\/c.gst=1\/c.gst=2)/\(c.permit=true->c.gst=0)):=λ q=>by rw [<- e7,gor_iff q]
 rw [hpl] at e9
 have hw:RightW ω↔b1=true/\b2=true/\((r.c.n:Int)==(r.p.n:Int))=true/\((r.m.n:Int)==4)=true/\b5=true/\b6=true/\b7=true/\(ω.stop=0\/ω.stop=11\/ω.stop=12)/\b9=true:=by
  constructor
  . intro q
    have h8:ω.cl.length<=8:=by rw [q.len];exact (right_facts q.progs).1
    refine⟨f1.2 q.now,f2.2 q.progs,f3.2 q.len,f4.2 q.m4,f5.2 q.mxs,f6.2 ⟨q.tab,q.ids⟩,(f7 h8).2 q.gors,q.stop,e9.2 λ i c p hc hp=>?_⟩
    have:=(q.gors c (List.mem_of_getElem? hc)).1
    exact (cright_iff (by omega)).1 (q.cls i c p hc hp)
  . rintro⟨q1,q2,q3,q4,q5,q6,q7,q8,q9⟩
    have hl:=f3.1 q3
    have h8:ω.cl.length<=8:=by rw [hl];exact (right_facts (f2.1 q2)).1
    have hg:=(f7 h8).1 q7
    refine⟨f1.1 q1,f2.1 q2,hl,f4.1 q4,(f6.1 q6).1,(f6.1 q6).2,hg,λ i c p hc hp=>?_,f5.1 q5,q8⟩
    have:=(hg c (List.mem_of_getElem? hc)).1
    exact (cright_iff (by omega)).2 (e9.1 q9 i c p hc hp)
 clear f1 f2 f3 f4 f5 f6 f7 e1 e2 e5 e6 e7 e9 hk hfew
 have hv2:v=(b1&&b2&&((r.c.n:Int)==(r.p.n:Int))&&((r.m.n:Int)==4)&&b5&&b6&&b7&&((r.stop==0)||(r.stop==11)||(r.stop==12))&&b9):=by
  rw [Bool.eq_iff_iff,hv,hw,<- hstop]
  simp only [Bool.and_eq_true,Bool.or_eq_true,beq_iff_eq,and_assoc,or_assoc]
 rw [hv2]
 exact right_all N0 c1 c2 c5 c6 c7 c9
end
end P16
end
section
open Go.ChangeShapes Go.WideShapes Go.ChangeAt Go.RowKit Go.Shelf
namespace P16
open P14 (pan)
open P12 (PV PMem)
section
variable {x:Cx} {W:World} {T E:Sl} {cl:List Cl} {mx:List T3} {tb:List Sp} {ev:List T3} {ω:Wv} {who:Int} {c:Cl} {pr:List Ac} {k n:Int} {a:T3}
abbrev Cx.wr (x:Cx) (T:Sl):WR:=⟨x.now,x.p,⟨some ⟨x.bc,x.oc,none⟩,x.nc,x.cc⟩,⟨some ⟨x.bm,x.om,none⟩,4,x.cm⟩,T,x.st⟩
theorem TS.new (h:TS x W T E cl mx tb ev) (hb:B64 x.st):WNew x.B W (x.wr T) ⟨x.now,x.progs,cl,mx,tb,x.st⟩:=λ W' f =>
 ⟨rfl,rfl,h.kt,hb,h.pr W' f.kb,orow_rmem (h.c.kept (f.2 _ h.lc h.c.lt)) h.lenc h.cb,orow_rmem (h.m.kept (f.2 _ h.lm h.m.lt)) h.lenm h.mb,h.tb W' f.kb,h.op,h.oc,h.om,h.ot⟩
theorem TS.enew (h:TS x W T E cl mx tb ev):ENew x.B W E.A E.n ev:=λ W' f=>h.ev W' f.kb
theorem TS.putS (h:TS x W T E cl mx tb ev) (y:Int):TS { x with st:=y } (W.setCell ⟨x.b,5,none⟩ (.int .i64 y)) T E cl mx tb ev :=
 have k:Kx x W (W.setCell ⟨x.b,5,none⟩ (.int .i64 y)):=Kx.st (.inl rfl) _
 { lb:=h.lb,lc:=h.lc,lm:=h.lm,n1:=h.n1,n2:=h.n2,n3:=h.n3,t:=h.t.set 5 _,c:=h.c.st (p:=⟨x.b,5,none⟩) h.n1 _,m:=h.m.st (p:=⟨x.b,5,none⟩) h.n2 _,cb:=h.cb,mb:=h.mb,lenc:=h.lenc,lenm:=h.lenm,pr:=λ _ q=>h.pr _ (k.kb.trans q),tb:=λ _ q=>h.tb _ (k.kb.trans q),ev:=λ _ q=>h.ev _ (k.kb.trans q),op:=h.op,ot:=h.ot,oe:=h.oe,oc:=h.oc,om:=h.om,w0:=h.w0,w1:=h.w1,wi:=h.wi,ni:=h.ni,kt:=h.kt }
theorem tab_len {tb:List Sp} (h:TabA tb):tb.length<=64:=by have:=h.1.1;unfold svs at this;rwa [List.length_map] at this
theorem tab_line {tb:List Sp} (h:TabA tb):∀ s∈tb,s.2.2.length<=64:=λ s hs=>by
 have:=((h.1.2.1 ⟨s.1,s.2.1,none,0,0,s.2.2⟩ (List.mem_map.2 ⟨s,hs,rfl⟩)).1.2.2.2.1).1
 exact this
theorem RightW.few (h:RightW ω):Few ω:=by
 obtain⟨h1,h2⟩:=right_facts h.progs
 exact⟨by omega,λ p hp=>by have:=(h2 p hp).1;omega,by rw [h.len];omega,by rw [h.m4];omega,by have:=tab_len h.tab;omega,λ s hs=>by have:=tab_line h.tab s hs;omega⟩
theorem mem_gtA {tb:List Sp} {m:Nat} {y:Int} (hy:y∈(gtA tb m).2):∃ s∈tb,y∈s.2.2:=by
 unfold gtA gt at hy
 cases hf:(svs tb).find? (λ x=>decide (x.addr=8*(m:Int))) with
 | none=>rw [hf] at hy;cases hy
 | some z =>
  rw [hf] at hy
  have hm:=List.mem_of_find?_eq_some hf
  unfold svs at hm
  obtain⟨s,hs,rfl⟩:=List.mem_map.1 hm
  exact⟨s,hs,hy⟩
theorem line_pos {tb:List Sp} (h:TabA tb) {s:Sp} (hs:s∈tb) {y:Int} (hy:y∈s.2.2):0<=y:=by
 have:=((h.1.2.1 ⟨s.1,s.2.1,none,0,0,s.2.2⟩ (List.mem_map.2 ⟨s,hs,rfl⟩)).1.2.2.2.1).2.1
 exact this y hy
theorem steps_at (hr:RightW ω) (hs:¬ Still ω who):∃ c pr k n,ω.cl[who.toNat]?=some c/\ω.progs[who.toNat]?=some pr/\pr[c.act.toNat]?=some (k,n)/\0<=who/\who<(ω.cl.length:Int)/\c.gst=0/\ω.stop=0/\CRight pr c/\c.act<pr.length:=by
 have h0:ω.stop=0:=Classical.byContradiction λ q=>hs (.inl q)
 have h1:0<=who:=Classical.byContradiction λ q=>hs (.inr (.inl (by omega)))
 have h2:who<(ω.cl.length:Int):=Classical.byContradiction λ q=>hs (.inr (.inr (.inl (by omega))))
 obtain⟨c,hc⟩:∃ c,ω.cl[who.toNat]?=some c:=⟨_,List.getElem?_eq_getElem (by omega)⟩
 have hg:c.gst=0:=Classical.byContradiction λ q=>hs (.inr (.inr (.inr ⟨c,hc,q⟩)))
 have hl:=hr.len
 obtain⟨pr,hp⟩:∃ p,ω.progs[who.toNat]?=some p:=⟨_,List.getElem?_eq_getElem (by omega)⟩
 have hcr:=hr.cls _ c pr hc hp
 have ha1:c.act<pr.length:=by
  have h1:=hcr.a1
  by_cases q:c.act=pr.length
  . have:=hcr.dn.1 q;omega
  . omega
 obtain⟨⟨k,n⟩,ha⟩:∃ a,pr[c.act.toNat]?=some a:=⟨_,List.getElem?_eq_getElem (by have:=hcr.a0;omega)⟩
 exact⟨c,pr,k,n,hc,hp,ha,h1,h2,hg,h0,hcr,ha1⟩
theorem act_ok (hr:RightW ω) {i:Nat} (hp:ω.progs[i]?=some pr) {j:Nat} (ha:pr[j]?=some (k,n)):(0<=k/\k<=3)/\0<=n/\(k=3->n<=1000)/\(k≠3->n<4):=by
 have h1:=((right_facts hr.progs).2 pr (List.mem_of_getElem? hp)).2 (k,n) (List.mem_of_getElem? ha)
 have h2:=P12.okA_iff.1 h1
 dsimp only at h2
 omega
theorem rn_of (hr:RightW ω) (h:TS x W T E ω.cl mx tb ev) (hc:ω.cl[x.who.toNat]?=some c) (hp:ω.progs[x.who.toNat]?=some pr) (hg:c.gst=0) (hcr:CRight pr c) (ha:c.act<pr.length) (hpr:x.progs=ω.progs) (hnp:x.p.n=x.nc):Rn x ω.cl c pr:=by
 obtain⟨f1,f2⟩:=right_facts hr.progs
 have hl:=hr.len
 have hn:=h.lenc
 exact⟨hc,hg,(gor_iff (by omega)).1 hr.gors,by rw [hpr];exact hp,(f2 pr (List.mem_of_getElem? hp)).1,hcr.a0,ha,hnp,by omega⟩
theorem can_of (hr:RightW ω) (h:TS x W T E ω.cl ω.mx ω.tb ev) (R:Rn x ω.cl c pr) (hcr:CRight pr c) (hn:0<=x.n/\x.n<4) (ha:ω.mx[x.n.toNat]?=some a) (hnow:x.now=ω.now) (gl:P15.Glob W):Can x W ω.cl ω.mx ω.tb c a pr:=by
 have hm:=hr.mxs a (List.mem_of_getElem? ha)
 refine⟨R,hn.1,hn.2,ha,⟨hcr.sc,hcr.rd,hcr.ol⟩,by rw [hnow];exact hr.now,hm.1,hm.2.1,hm.2.2,hr.tab,λ y hy=>?_,hr.gors,gl⟩
 obtain⟨s,hs,hys⟩:=mem_gtA hy
 exact⟨line_pos hr.tab hs hys,hr.ids s hs y hys⟩
theorem stp_at {w:Mw} {i:Nat} {p:List Ac} (hc:w.cl[i]?=some c) (hp:w.progs[i]?=some p) (hs:w.stop=0) (hg:c.gst=0) (ha:p[c.act.toNat]?=some (k,n)) :
 stp w i=if k=3 then ({ w with cl:=w.cl.set i (work n p.length c) },none)
  else match touch w.now (runs w.cl) p.length i k c (w.cm n.toNat) with
   | .bad=>({ w with stop:=12 },none)
   | .fault=>({ w with stop:=11 },some ((i:Int),4,n))
   | .ok o =>
    let cl:=w.cl.set i o.c
    let cm:=λ j=>if j=n.toNat then o.m else w.cm j
    match o.rdy with
    | none=>({ w with cl:=cl,cm:=cm },o.ev.map λ e=>((i:Int),e,n))
    | some y =>
     match (cl[y.toNat]?).bind told with
     | none=>({ w with stop:=12 },none)
     | some d=>({ w with cl:=cl.set y.toNat d,cm:=cm },o.ev.map λ e=>((i:Int),e,n)):=by
 unfold stp
 rw [hc,hp]
 dsimp only
 rw [if_neg (by omega),ha]
 rfl
theorem mxAt_set {l:List T3} {m:Nat} (hm:m<l.length) (v:T3) (j:Nat):mxAt (l.set m v) j=if j=m then v else mxAt l j:=by
 unfold mxAt
 by_cases e:j=m
 . subst e
   rw [if_pos rfl,List.getElem?_set_self hm]
   rfl
 . rw [if_neg e,List.getElem?_set_ne (Ne.symm e)]
theorem cm_set {mx:List T3} {tb tb':List Sp} {m:Nat} (o:Cm) (hm:m<mx.length) (hg:GotT tb tb' m (o.c,o.l)) :
 (λ j=>(⟨(mxAt (mx.set m (o.word,o.nx,o.sv)) j).1,(mxAt (mx.set m (o.word,o.nx,o.sv)) j).2.1,(mxAt (mx.set m (o.word,o.nx,o.sv)) j).2.2,(gtA tb' j).1,(gtA tb' j).2⟩:Cm)) =
   λ j=>if j=m then o else ⟨(mxAt mx j).1,(mxAt mx j).2.1,(mxAt mx j).2.2,(gtA tb j).1,(gtA tb j).2⟩:=by
 funext j
 rw [mxAt_set hm]
 by_cases e:j=m
 . subst e
   rw [if_pos rfl,if_pos rfl,hg.2.1]
 . rw [if_neg e,if_neg e,hg.2.2 j e]
def TryS (x:Cx) (ω:Wv) (who:Int) (e:Ending) (W':World):Prop :=
 (e=.returned (.int .i64 0)/\∃ T' E' cl' mx' tb' ev',TS x W' T' E' cl' mx' tb' ev'/\TabA tb'/\mw ⟨ω.now,ω.progs,cl',mx',tb',ω.stop⟩=(stp (mw ω) who.toNat).1/\ev'=(stp (mw ω) who.toNat).2.toList) \/
 (e=.returned (.int .i64 12)/\stp (mw ω) who.toNat=({ mw ω with stop:=12 },none)) \/
 (e=.returned (.int .i64 11)/\stp (mw ω) who.toNat=({ mw ω with stop:=11 },some (who,4,x.n)))
theorem try_stp (hr:RightW ω) (h:TS x W T ⟨none,0,0⟩ ω.cl ω.mx ω.tb []) (hc:ω.cl[who.toNat]?=some c) (hp:ω.progs[who.toNat]?=some pr) (ha:pr[c.act.toNat]?=some (k,n)) (w0:0<=who) (hg:c.gst=0) (hst:ω.stop=0) (hcr:CRight pr c) (ha1:c.act<pr.length)
 (e1:x.now=ω.now) (e2:x.who=who) (e3:x.k=k) (e4:x.n=n) (e5:x.progs=ω.progs) (e6:x.p.n=x.nc) (gl:P15.Glob W) :
 Calls Tryz.prog 42 #[.pointer (some ⟨x.b,0,none⟩)] W λ e W'=>Kx x W W'/\TryS x ω who e W':=by
 obtain⟨hk,hn0,hn3,hn4⟩:=act_ok hr hp ha
 subst e2 e3 e4
 have R:=rn_of hr h hc hp hg hcr ha1 e5 e6
 obtain⟨hpc,hwk⟩:=hcr.at_ _ _ ha
 have hS:=stp_at (w:=mw ω) hc hp hst hg ha
 have hi:((x.who.toNat:Nat):Int)=x.who:=Int.toNat_of_nonneg w0
 by_cases h3:x.k=3
 . rw [if_pos h3] at hS
   have hp0:c.pc=0:=by unfold OkPc at hpc;omega
   refine (try_work h R h3 hp0 (by omega) hn0 (hn3 h3)).mono ?_
   rintro e W' ⟨q1,q2,q3⟩
   exact⟨q1,.inl ⟨q2,_,_,_,_,_,_,q3,hr.tab,by rw [hS];rfl,by rw [hS];rfl⟩⟩
 . rw [if_neg h3] at hS
   have h4:=hn4 h3
   have hm4:=hr.m4
   have hml:x.n.toNat<ω.mx.length:=by omega
   obtain⟨a,hma⟩:∃ a,ω.mx[x.n.toNat]?=some a:=⟨_,List.getElem?_eq_getElem hml⟩
   have C:=can_of hr h R hcr ⟨hn0,h4⟩ hma e1 gl
   have hcm:(mw ω).cm x.n.toNat=CM x ω.tb a:=by
    unfold mw CM cmOf
    dsimp only
    rw [mxAt_get hma]
   rw [hcm,hi] at hS
   have hS:stp (mw ω) x.who.toNat=_:=hS
   refine (try_is h C (by omega) hpc).mono ?_
   rintro e W' ⟨q1,q2⟩
   refine⟨q1,?_⟩
   unfold TryQ touchR at q2
   have hT:touch (mw ω).now (runs (mw ω).cl) pr.length x.who x.k c (CM x ω.tb a)=touch x.now (runs ω.cl) pr.length x.who x.k c (CM x ω.tb a):=by rw [e1];rfl
   rw [hT] at hS
   revert q2 hS
   generalize touch x.now (runs ω.cl) pr.length x.who x.k c (CM x ω.tb a)=Z
   intro hS q2
   cases Z with
   | bad=>exact .inr (.inl ⟨q2,hS⟩)
   | fault=>exact .inr (.inr ⟨q2,hS⟩)
   | ok o =>
    obtain⟨oc,om,rdy,oev⟩:=o
    cases rdy with
    | none =>
     obtain⟨q3,T',E',tb',q4,q5⟩:=q2
     exact .inl ⟨q3,_,_,_,_,_,_,q4,q5.1,by
      rw [hS]
      show (⟨ω.now,ω.progs,ω.cl.set x.who.toNat oc,_,ω.stop⟩:Mw)=⟨ω.now,ω.progs,ω.cl.set x.who.toNat oc,_,ω.stop⟩
      congr 1
      exact cm_set om hml q5,by rw [hS]⟩
    | some y =>
     have hcl:(mw ω).cl=ω.cl:=rfl
     dsimp only at q2 hS
     rw [hcl] at hS
     cases hd:((ω.cl.set x.who.toNat oc)[y.toNat]?).bind told with
     | none =>
      rw [hd] at q2 hS
      exact .inr (.inl ⟨q2,hS⟩)
     | some d =>
      rw [hd] at q2 hS
      obtain⟨q3,T',E',tb',q4,q5⟩:=q2
      exact .inl ⟨q3,_,_,_,_,_,_,q4,q5.1,by
       rw [hS]
       show (⟨ω.now,ω.progs,(ω.cl.set x.who.toNat oc).set y.toNat d,_,ω.stop⟩:Mw)=⟨ω.now,ω.progs,(ω.cl.set x.who.toNat oc).set y.toNat d,_,ω.stop⟩
       congr 1
       exact cm_set om hml q5,by rw [hS]⟩
end
end P16
end
section
open Go.ChangeShapes Go.WideShapes Go.ChangeAt Go.RowKit Go.Shelf
namespace P16
section
variable {W:World} {r:WR} {ω:Wv} {who:Int}
theorem goes_no (h:(r.stop==0)=false\/((r.stop==0)=true/\decide (0<=who)=false)\/((r.stop==0)=true/\decide (0<=who)=true/\decide (who<(r.c.n:Int))=false)) :
 Calls Tryz.prog 40 #[r.v,.int .i64 who] W λ e w'=>e=.returned (.bool false)/\Gr W w':=by
 rcases h with h1 | ⟨h1,h2⟩ | ⟨h1,h2,h3⟩
 all_goals (
  go_enter Tryz.func40,Tryz.ntmps40
  go_wp2_with fail
  go_ret
  exact⟨rfl,(Gr.refl W).al _⟩)
theorem goes_at {b off:Nat} {g:Int} (h1:(r.stop==0)=true) (h2:decide (0<=who)=true) (h3:decide (who<(r.c.n:Int))=true) (hA:r.c.A=some ⟨b,off,none⟩) (hb:b<W.heap.size) (c0:W.cell? ⟨b,off+who.toNat*13,none⟩=some (.int .i64 g)) :
 Calls Tryz.prog 40 #[r.v,.int .i64 who] W λ e w'=>e=.returned (.bool (g==0))/\Gr W w':=by
 have a0:0<=who:=by simpa using h2
 have a1:who<(r.c.n:Int):=by simpa using h3
 obtain⟨now,p,c,m,t,stop⟩:=r
 obtain⟨A,n,d⟩:=c
 dsimp only at hA h1 h3 a1 ⊢
 subst hA
 go_enter Tryz.func40,Tryz.ntmps40
 go_wp2_with fail
 go_ret
 exact⟨rfl,(Gr.refl W).al _⟩
theorem goes_is (h:WIs W r ω) {v:Bool} (hv:v=true↔¬ Still ω who) :
 Calls Tryz.prog 40 #[r.v,.int .i64 who] W λ e w'=>e=.returned (.bool v)/\Gr W w':=by
 have hl:ω.cl.length=r.c.n:=h.lens.2.1
 have hs:r.stop=ω.stop:=h.stop
 by_cases h0:ω.stop≠0\/who<0\/(ω.cl.length:Int)<=who
 . have e:v=false:=by
    cases q:v
    . rfl
    . refine absurd ?_ (hv.1 q)
      rcases h0 with q | q | q
      . exact .inl q
      . exact .inr (.inl q)
      . exact .inr (.inr (.inl q))
   rw [e]
   refine goes_no ?_
   by_cases q1:r.stop=0
   . by_cases q2:0<=who
     . refine .inr (.inr ⟨by simpa using q1,by simpa using q2,?_⟩)
       have:¬ who<(r.c.n:Int):=by omega
       simpa using this
     . exact .inr (.inl ⟨by simpa using q1,by simpa using q2⟩)
   . exact .inl (by simpa using q1)
 . have w0:0<=who:=by omega
   have w1:who<(r.c.n:Int):=by omega
   obtain⟨b,off,y,hA,hb,hy,okx,c0,-⟩:=CMem.cells h.c (k:=who.toNat) (by omega)
   have e:v=(y.gst==0):=by
    rw [Bool.eq_iff_iff,hv]
    unfold Still
    simp only [beq_iff_eq]
    constructor
    . intro q
      by_cases g:y.gst=0
      . exact g
      . exact absurd (.inr (.inr (.inr ⟨y,hy,g⟩))) q
    . rintro g (q | q | q | ⟨c,q1,q2⟩)
      . exact h0 (.inl q)
      . omega
      . omega
      . rw [hy] at q1;cases q1;exact q2 g
   rw [e]
   refine goes_at ?_ (by simpa using w0) (by simpa using w1) hA hb c0
   have:r.stop=0:=by rw [hs];omega
   simpa using this
end
end P16
end
end Go.Proofs.YtainfijdhcehlaaGreatDoor
