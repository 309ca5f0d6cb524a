/-
  A part of the proof.
-/
import Derived.Test.YtainfijdhcehlaaGreatDoorRR3
set_option linter.unusedVariables false
set_option linter.unusedSimpArgs false
set_option maxRecDepth 100000
set_option maxHeartbeats 8000000
namespace Go.Proofs.YtainfijdhcehlaaGreatDoor
open Lib (hid)
section
open Go.ChangeShapes Go.WideShapes Go.ChangeAt Go.RowKit
namespace P17
open P16
open P13 (rd pk okP rd_ok)
def OneR (ω:Wv) (p:P13.Pk) (ψ:Wv) (ev:List T3):Prop :=
 (p.1=0/\∃ x,StepM ω p.2 ψ ev x)\/(p.1=1/\ev=[]/\∃ τ y,TickM ω p.2 τ y/\((y=0/\ψ=τ)\/(y≠0/\ψ=ω)))
theorem okP_b {p:P13.Pk} (h:okP p):B64 p.2:=by
 rcases h with h | h<;>exact⟨by omega,by omega⟩
theorem goOn_is (hM:Mach) {w:World} {r:WR} {ω:Wv} {p:P13.Pk} (hg:P15.Glob w) (h:WIs w r ω) (hp:okP p) :
 Calls Tryz.prog 49 #[r.v,pk p] w λ e w'=>(∃ (s:WR) (ψ:Wv) (A:Option Addr) (n c:Nat) (ev:List T3),e=.returned (.tuple #[s.v,.slice A n c])/\OneR ω p ψ ev/\((s=r/\ψ=ω)\/WNew w.heap.size w' s ψ)/\ENew w.heap.size w' A n ev)/\Gr w w':=by
 obtain⟨k,m⟩:=p;have hW:=hid h;have hb:=okP_b hp;rcases hp with ⟨hk,-⟩ | ⟨hk,-⟩
 . dsimp only at hk hb
   subst hk;clear h;have BW:=((Blk.new w r.a 29).al (.cells #[.int .i64 0,.int .i64 m] 108)).al (.cells #[.int .i64 0,.slice none 0 0,.slice none 0 0,.slice none 0 0,.slice none 0 0,.int .i64 0] 29);have BP:=(Blk.new (w.alloc (.cells r.a 29)) #[.int .i64 0,.int .i64 m] 108).al (.cells #[.int .i64 0,.slice none 0 0,.slice none 0 0,.slice none 0 0,.slice none 0 0,.int .i64 0] 29);have BZ:=Blk.new ((w.alloc (.cells r.a 29)).alloc (.cells #[.int .i64 0,.int .i64 m] 108)) #[.int .i64 0,.slice none 0 0,.slice none 0 0,.slice none 0 0,.slice none 0 0,.int .i64 0] 29;simp only [World.size_alloc] at BP BZ;have G0:=hid ((((Gr.refl w).al (.cells r.a 29)).al (.cells #[.int .i64 0,.int .i64 m] 108)).al (.cells #[.int .i64 0,.slice none 0 0,.slice none 0 0,.slice none 0 0,.slice none 0 0,.int .i64 0] 29));go_enter Tryz.func49,Tryz.ntmps49;go_upto_region 1 with fail;generalize ((w.alloc (.cells r.a 29)).alloc (.cells #[.int .i64 0,.int .i64 m] 108)).alloc (.cells #[.int .i64 0,.slice none 0 0,.slice none 0 0,.slice none 0 0,.slice none 0 0,.int .i64 0] 29)=V at BW BP BZ G0 ⊢;generalize hgw:w.heap.size=gw at BW BP BZ ⊢;have HB:=hid (show w.heap.size<=gw by omega);have HG:=hid (show w.heap.size<=gw+1+1 by omega);clear hgw;have ltw:=BW.lt;have ltp:=BP.lt;have ltz:=BZ.lt;have HL:=hid (show gw+1+1<V.heap.size from ltz);obtain⟨b0,bz0⟩:=BW.at_ (k:=0) (v:=.int .i64 r.now) rfl;obtain⟨b1,bz1⟩:=BW.at_ (k:=1) (v:=.slice r.p.A r.p.n r.p.c) rfl;obtain⟨b2,bz2⟩:=BW.at_ (k:=2) (v:=.slice r.c.A r.c.n r.c.c) rfl;obtain⟨b3,bz3⟩:=BW.at_ (k:=3) (v:=.slice r.m.A r.m.n r.m.c) rfl;obtain⟨b4,bz4⟩:=BW.at_ (k:=4) (v:=.slice r.t.A r.t.n r.t.c) rfl;obtain⟨b5,bz5⟩:=BW.at_ (k:=5) (v:=.int .i64 r.stop) rfl;obtain⟨p0,pz0⟩:=BP.at_ (k:=0) (v:=.int .i64 0) rfl;obtain⟨p1,pz1⟩:=BP.at_ (k:=1) (v:=.int .i64 m) rfl;have WI:=hid (hW.out.gr G0.out);have cS:=hid (hM.step V r ω m (hg.gr G0.out) WI.out hb);go_wp2_with fail;with_reducible refine cS.out.mono ?_
   rintro e w2 ⟨⟨s,ψ,A,n,c,ev,x,rfl,hS,hWn,hE,hnc,hcm⟩,g2⟩;replace BZ:=(BZ.gr g2).al (.cells s.a 29);have BS:=Blk.new w2 s.a 29;have GW:=hid ((G0.out.trans g2).al (.cells s.a 29));have NW:=hid (hWn.gr ((Gr.refl w2).al (.cells s.a 29)));have NE:=hid (hE.gr ((Gr.refl w2).al (.cells s.a 29)));have k2:=g2.size;clear b0 bz0 b1 bz1 b2 bz2 b3 bz3 b4 bz4 b5 bz5 p0 pz0 p1 pz1 ltw ltp ltz;clear cS WI hE hWn g2 BW BP;go_upto_region 3 with fail;generalize w2.alloc (.cells s.a 29)=V2 at BZ BS GW NW NE ⊢;generalize w2.heap.size=gs at BS k2 ⊢;have ltz:=BZ.lt;have lts:=BS.lt;have hne:gs≠gw+1+1:=by have:=HL.out;omega
   obtain⟨b0,bz0⟩:=BS.at_ (k:=0) (v:=.int .i64 s.now) rfl;obtain⟨b1,bz1⟩:=BS.at_ (k:=1) (v:=.slice s.p.A s.p.n s.p.c) rfl;obtain⟨b2,bz2⟩:=BS.at_ (k:=2) (v:=.slice s.c.A s.c.n s.c.c) rfl;obtain⟨b3,bz3⟩:=BS.at_ (k:=3) (v:=.slice s.m.A s.m.n s.m.c) rfl;obtain⟨b4,bz4⟩:=BS.at_ (k:=4) (v:=.slice s.t.A s.t.n s.t.c) rfl;obtain⟨b5,bz5⟩:=BS.at_ (k:=5) (v:=.int .i64 s.stop) rfl;obtain⟨z0,zz0⟩:=BZ.at_ (k:=0) (v:=.int .i64 0) rfl;obtain⟨z1,zz1⟩:=BZ.at_ (k:=1) (v:=.slice none 0 0) rfl;obtain⟨z2,zz2⟩:=BZ.at_ (k:=2) (v:=.slice none 0 0) rfl;obtain⟨z3,zz3⟩:=BZ.at_ (k:=3) (v:=.slice none 0 0) rfl;obtain⟨z4,zz4⟩:=BZ.at_ (k:=4) (v:=.slice none 0 0) rfl;obtain⟨z5,zz5⟩:=BZ.at_ (k:=5) (v:=.int .i64 0) rfl;have WF:=hid (put6_blk BZ rfl (.int .i64 s.now) (.slice s.p.A s.p.n s.p.c) (.slice s.c.A s.c.n s.c.c) (.slice s.m.A s.m.n s.m.c) (.slice s.t.A s.t.n s.t.c) (.int .i64 s.stop));have GF:=hid (put6_gr (x0:=.int .i64 s.now) (x1:=.slice s.p.A s.p.n s.p.c) (x2:=.slice s.c.A s.c.n s.c.c) (x3:=.slice s.m.A s.m.n s.m.c) (x4:=.slice s.t.A s.t.n s.t.c) (x5:=.int .i64 s.stop) (b:=gw+1+1) GW.out HG.out);have NF:=hid ((NW.out.to (FromB.put6 (b:=gw+1+1) HL.out (.int .i64 s.now) (.slice s.p.A s.p.n s.p.c) (.slice s.c.A s.c.n s.c.c) (.slice s.m.A s.m.n s.m.c) (.slice s.t.A s.t.n s.t.c) (.int .i64 s.stop))).low (show w.heap.size<=V.heap.size by have:=HL.out;have:=HB.out;omega));have EF:=hid ((NE.out.to (FromB.put6 (b:=gw+1+1) HL.out (.int .i64 s.now) (.slice s.p.A s.p.n s.p.c) (.slice s.c.A s.c.n s.c.c) (.slice s.m.A s.m.n s.m.c) (.slice s.t.A s.t.n s.t.c) (.int .i64 s.stop))).low (show w.heap.size<=V.heap.size by have:=HL.out;have:=HB.out;omega));go_wp2_with fail;generalize (((((V2.setCell ⟨gw+1+1,0,none⟩ (.int .i64 s.now)).setCell ⟨gw+1+1,1,none⟩ (.slice s.p.A s.p.n s.p.c)).setCell ⟨gw+1+1,2,none⟩ (.slice s.c.A s.c.n s.c.c)).setCell ⟨gw+1+1,3,none⟩ (.slice s.m.A s.m.n s.m.c)).setCell ⟨gw+1+1,4,none⟩ (.slice s.t.A s.t.n s.t.c)).setCell ⟨gw+1+1,5,none⟩ (.int .i64 s.stop)=Wf at WF GF NF EF ⊢;clear b0 bz0 z0 zz0 b1 bz1 z1 zz1 b2 bz2 z2 zz2 b3 bz3 z3 zz3 b4 bz4 z4 zz4 b5 bz5 z5 zz5 BZ BS ltz lts;have f0:=(WF.out.at_ (k:=0) (v:=.int .i64 s.now) rfl).1;have f1:=(WF.out.at_ (k:=1) (v:=.slice s.p.A s.p.n s.p.c) rfl).1;have f2:=(WF.out.at_ (k:=2) (v:=.slice s.c.A s.c.n s.c.c) rfl).1;have f3:=(WF.out.at_ (k:=3) (v:=.slice s.m.A s.m.n s.m.c) rfl).1;have f4:=(WF.out.at_ (k:=4) (v:=.slice s.t.A s.t.n s.t.c) rfl).1;have f5:=(WF.out.at_ (k:=5) (v:=.int .i64 s.stop) rfl).1;exact bodyPost_ret (v:=.tuple #[s.v,.slice A n c]) (by simp [results,Tryz.results49,go_sem,f0,f1,f2,f3,f4,f5,WR.v]) rfl ⟨⟨s,ψ,A,n,c,ev,rfl,.inl ⟨rfl,x,hS⟩,.inr NF.out,EF.out⟩,GF.out⟩
 . dsimp only at hk hb
   subst hk;clear h;have BW:=((Blk.new w r.a 29).al (.cells #[.int .i64 1,.int .i64 m] 108)).al (.cells #[.int .i64 0,.slice none 0 0,.slice none 0 0,.slice none 0 0,.slice none 0 0,.int .i64 0] 29);have BP:=(Blk.new (w.alloc (.cells r.a 29)) #[.int .i64 1,.int .i64 m] 108).al (.cells #[.int .i64 0,.slice none 0 0,.slice none 0 0,.slice none 0 0,.slice none 0 0,.int .i64 0] 29);have BZ:=Blk.new ((w.alloc (.cells r.a 29)).alloc (.cells #[.int .i64 1,.int .i64 m] 108)) #[.int .i64 0,.slice none 0 0,.slice none 0 0,.slice none 0 0,.slice none 0 0,.int .i64 0] 29;simp only [World.size_alloc] at BP BZ;have G0:=hid ((((Gr.refl w).al (.cells r.a 29)).al (.cells #[.int .i64 1,.int .i64 m] 108)).al (.cells #[.int .i64 0,.slice none 0 0,.slice none 0 0,.slice none 0 0,.slice none 0 0,.int .i64 0] 29));go_enter Tryz.func49,Tryz.ntmps49;go_upto_region 1 with fail;generalize ((w.alloc (.cells r.a 29)).alloc (.cells #[.int .i64 1,.int .i64 m] 108)).alloc (.cells #[.int .i64 0,.slice none 0 0,.slice none 0 0,.slice none 0 0,.slice none 0 0,.int .i64 0] 29)=V at BW BP BZ G0 ⊢;generalize hgw:w.heap.size=gw at BW BP BZ ⊢;have HB:=hid (show w.heap.size<=gw by omega);have HG:=hid (show w.heap.size<=gw+1+1 by omega);clear hgw;have ltw:=BW.lt;have ltp:=BP.lt;have ltz:=BZ.lt;have HL:=hid (show gw+1+1<V.heap.size from ltz);obtain⟨b0,bz0⟩:=BW.at_ (k:=0) (v:=.int .i64 r.now) rfl;obtain⟨b1,bz1⟩:=BW.at_ (k:=1) (v:=.slice r.p.A r.p.n r.p.c) rfl;obtain⟨b2,bz2⟩:=BW.at_ (k:=2) (v:=.slice r.c.A r.c.n r.c.c) rfl;obtain⟨b3,bz3⟩:=BW.at_ (k:=3) (v:=.slice r.m.A r.m.n r.m.c) rfl;obtain⟨b4,bz4⟩:=BW.at_ (k:=4) (v:=.slice r.t.A r.t.n r.t.c) rfl;obtain⟨b5,bz5⟩:=BW.at_ (k:=5) (v:=.int .i64 r.stop) rfl;obtain⟨p0,pz0⟩:=BP.at_ (k:=0) (v:=.int .i64 1) rfl;obtain⟨p1,pz1⟩:=BP.at_ (k:=1) (v:=.int .i64 m) rfl;have WI:=hid (hW.out.gr G0.out);have cS:=hid (hM.tick V r ω m (hg.gr G0.out) WI.out hb);go_wp2_with fail;with_reducible refine cS.out.mono ?_
   rintro e w2 ⟨⟨s,ψ,x,rfl,hS,hWn⟩,g2⟩;replace BZ:=(BZ.gr g2).al (.cells s.a 29);replace BW:=(BW.gr g2).al (.cells s.a 29);have BS:=Blk.new w2 s.a 29;have GW:=hid ((G0.out.trans g2).al (.cells s.a 29));have NW:=hid (hWn.gr ((Gr.refl w2).al (.cells s.a 29)));have k2:=g2.size;clear b0 bz0 b1 bz1 b2 bz2 b3 bz3 b4 bz4 b5 bz5 p0 pz0 p1 pz1 ltw ltp ltz;clear cS WI hWn g2 BP;go_upto_region 5 with fail;generalize w2.alloc (.cells s.a 29)=V2 at BZ BW BS GW NW ⊢;generalize w2.heap.size=gs at BS k2 ⊢;have ltz:=BZ.lt;have lts:=BS.lt;have ltw:=BW.lt;have hne:gs≠gw+1+1:=by have:=HL.out;omega
   have hnw:gw≠gw+1+1:=by omega
   obtain⟨z0,zz0⟩:=BZ.at_ (k:=0) (v:=.int .i64 0) rfl;obtain⟨z1,zz1⟩:=BZ.at_ (k:=1) (v:=.slice none 0 0) rfl;obtain⟨z2,zz2⟩:=BZ.at_ (k:=2) (v:=.slice none 0 0) rfl;obtain⟨z3,zz3⟩:=BZ.at_ (k:=3) (v:=.slice none 0 0) rfl;obtain⟨z4,zz4⟩:=BZ.at_ (k:=4) (v:=.slice none 0 0) rfl;obtain⟨z5,zz5⟩:=BZ.at_ (k:=5) (v:=.int .i64 0) rfl;by_cases hx:x=0
   . subst hx
     obtain⟨b0,bz0⟩:=BS.at_ (k:=0) (v:=.int .i64 s.now) rfl;obtain⟨b1,bz1⟩:=BS.at_ (k:=1) (v:=.slice s.p.A s.p.n s.p.c) rfl;obtain⟨b2,bz2⟩:=BS.at_ (k:=2) (v:=.slice s.c.A s.c.n s.c.c) rfl;obtain⟨b3,bz3⟩:=BS.at_ (k:=3) (v:=.slice s.m.A s.m.n s.m.c) rfl;obtain⟨b4,bz4⟩:=BS.at_ (k:=4) (v:=.slice s.t.A s.t.n s.t.c) rfl;obtain⟨b5,bz5⟩:=BS.at_ (k:=5) (v:=.int .i64 s.stop) rfl;have WF:=hid (put6_blk BZ rfl (.int .i64 s.now) (.slice s.p.A s.p.n s.p.c) (.slice s.c.A s.c.n s.c.c) (.slice s.m.A s.m.n s.m.c) (.slice s.t.A s.t.n s.t.c) (.int .i64 s.stop));have GF:=hid (put6_gr (x0:=.int .i64 s.now) (x1:=.slice s.p.A s.p.n s.p.c) (x2:=.slice s.c.A s.c.n s.c.c) (x3:=.slice s.m.A s.m.n s.m.c) (x4:=.slice s.t.A s.t.n s.t.c) (x5:=.int .i64 s.stop) (b:=gw+1+1) GW.out HG.out);have NF:=hid ((NW.out.to (FromB.put6 (b:=gw+1+1) HL.out (.int .i64 s.now) (.slice s.p.A s.p.n s.p.c) (.slice s.c.A s.c.n s.c.c) (.slice s.m.A s.m.n s.m.c) (.slice s.t.A s.t.n s.t.c) (.int .i64 s.stop))).low (show w.heap.size<=V.heap.size by have:=HL.out;have:=HB.out;omega));go_wp2_with fail;generalize (((((V2.setCell ⟨gw+1+1,0,none⟩ (.int .i64 s.now)).setCell ⟨gw+1+1,1,none⟩ (.slice s.p.A s.p.n s.p.c)).setCell ⟨gw+1+1,2,none⟩ (.slice s.c.A s.c.n s.c.c)).setCell ⟨gw+1+1,3,none⟩ (.slice s.m.A s.m.n s.m.c)).setCell ⟨gw+1+1,4,none⟩ (.slice s.t.A s.t.n s.t.c)).setCell ⟨gw+1+1,5,none⟩ (.int .i64 s.stop)=Wf at WF GF NF ⊢;clear b0 bz0 z0 zz0 b1 bz1 z1 zz1 b2 bz2 z2 zz2 b3 bz3 z3 zz3 b4 bz4 z4 zz4 b5 bz5 z5 zz5 BZ BS BW ltz lts ltw;have f0:=(WF.out.at_ (k:=0) (v:=.int .i64 s.now) rfl).1;have f1:=(WF.out.at_ (k:=1) (v:=.slice s.p.A s.p.n s.p.c) rfl).1;have f2:=(WF.out.at_ (k:=2) (v:=.slice s.c.A s.c.n s.c.c) rfl).1;have f3:=(WF.out.at_ (k:=3) (v:=.slice s.m.A s.m.n s.m.c) rfl).1;have f4:=(WF.out.at_ (k:=4) (v:=.slice s.t.A s.t.n s.t.c) rfl).1;have f5:=(WF.out.at_ (k:=5) (v:=.int .i64 s.stop) rfl).1;exact bodyPost_ret (v:=.tuple #[s.v,.slice none 0 0]) (by simp [results,Tryz.results49,go_sem,f0,f1,f2,f3,f4,f5,WR.v]) rfl ⟨⟨s,ψ,none,0,0,[],rfl,.inr ⟨rfl,rfl,ψ,0,hS,.inl ⟨rfl,rfl⟩⟩,.inr NF.out,ENew.nil⟩,GF.out⟩
   . have hxb:(x != 0)=true:=by simpa using hx
     obtain⟨b0,bz0⟩:=BW.at_ (k:=0) (v:=.int .i64 r.now) rfl;obtain⟨b1,bz1⟩:=BW.at_ (k:=1) (v:=.slice r.p.A r.p.n r.p.c) rfl;obtain⟨b2,bz2⟩:=BW.at_ (k:=2) (v:=.slice r.c.A r.c.n r.c.c) rfl;obtain⟨b3,bz3⟩:=BW.at_ (k:=3) (v:=.slice r.m.A r.m.n r.m.c) rfl;obtain⟨b4,bz4⟩:=BW.at_ (k:=4) (v:=.slice r.t.A r.t.n r.t.c) rfl;obtain⟨b5,bz5⟩:=BW.at_ (k:=5) (v:=.int .i64 r.stop) rfl;have WF:=hid (put6_blk BZ rfl (.int .i64 r.now) (.slice r.p.A r.p.n r.p.c) (.slice r.c.A r.c.n r.c.c) (.slice r.m.A r.m.n r.m.c) (.slice r.t.A r.t.n r.t.c) (.int .i64 r.stop));have GF:=hid (put6_gr (x0:=.int .i64 r.now) (x1:=.slice r.p.A r.p.n r.p.c) (x2:=.slice r.c.A r.c.n r.c.c) (x3:=.slice r.m.A r.m.n r.m.c) (x4:=.slice r.t.A r.t.n r.t.c) (x5:=.int .i64 r.stop) (b:=gw+1+1) GW.out HG.out);go_wp2_with fail;generalize (((((V2.setCell ⟨gw+1+1,0,none⟩ (.int .i64 r.now)).setCell ⟨gw+1+1,1,none⟩ (.slice r.p.A r.p.n r.p.c)).setCell ⟨gw+1+1,2,none⟩ (.slice r.c.A r.c.n r.c.c)).setCell ⟨gw+1+1,3,none⟩ (.slice r.m.A r.m.n r.m.c)).setCell ⟨gw+1+1,4,none⟩ (.slice r.t.A r.t.n r.t.c)).setCell ⟨gw+1+1,5,none⟩ (.int .i64 r.stop)=Wf at WF GF ⊢;clear b0 bz0 z0 zz0 b1 bz1 z1 zz1 b2 bz2 z2 zz2 b3 bz3 z3 zz3 b4 bz4 z4 zz4 b5 bz5 z5 zz5 BZ BS BW ltz lts ltw;have f0:=(WF.out.at_ (k:=0) (v:=.int .i64 r.now) rfl).1;have f1:=(WF.out.at_ (k:=1) (v:=.slice r.p.A r.p.n r.p.c) rfl).1;have f2:=(WF.out.at_ (k:=2) (v:=.slice r.c.A r.c.n r.c.c) rfl).1;have f3:=(WF.out.at_ (k:=3) (v:=.slice r.m.A r.m.n r.m.c) rfl).1;have f4:=(WF.out.at_ (k:=4) (v:=.slice r.t.A r.t.n r.t.c) rfl).1;have f5:=(WF.out.at_ (k:=5) (v:=.int .i64 r.stop) rfl).1;exact bodyPost_ret (v:=.tuple #[r.v,.slice none 0 0]) (by simp [results,Tryz.results49,go_sem,f0,f1,f2,f3,f4,f5,WR.v]) rfl ⟨⟨r,ω,none,0,0,[],rfl,.inr ⟨rfl,rfl,ψ,x,hS,.inr ⟨hx,rfl⟩⟩,.inl ⟨rfl,rfl⟩,ENew.nil⟩,GF.out⟩
end P17
end
section
open Go.ChangeShapes Go.WideShapes Go.ChangeAt Go.RowKit
namespace P17
open P16
def Off (S:Nat->Prop) (W W':World):Prop:=W.heap.size<=W'.heap.size/\∀ k,k<W.heap.size->¬ S k->W'.heap[k]?=W.heap[k]?
def WOff (S:Nat->Prop) (W:World) (r:WR) (ω:Wv):Prop:=∀ W',Off S W W'->WIs W' r ω
section
variable {S S':Nat->Prop} {W W' W'':World} {r:WR} {ω:Wv} {B:Nat}
theorem Off.refl:Off S W W:=⟨Nat.le_refl _,λ _ _ _=>rfl⟩
theorem Off.trans (h:Off S W W') (k:Off S W' W''):Off S W W'' :=
 ⟨Nat.le_trans h.1 k.1,λ j h1 h2=>(k.2 j (Nat.lt_of_lt_of_le h1 h.1) h2).trans (h.2 j h1 h2)⟩
theorem Off.join (h:Off S W W') (k:Off S' W' W'') (hs:∀ j,j<W.heap.size->S' j->S j):Off S W W'' :=
 ⟨Nat.le_trans h.1 k.1,λ j h1 h2=>(k.2 j (Nat.lt_of_lt_of_le h1 h.1) λ q=>h2 (hs j h1 q)).trans (h.2 j h1 h2)⟩
theorem Off.mono (h:Off S W W') (hs:∀ k,k<W.heap.size->S k->S' k):Off S' W W':=⟨h.1,λ k h1 h2=>h.2 k h1 λ q=>h2 (hs k h1 q)⟩
theorem Off.gr (g:Gr W W'):Off S W W':=⟨g.size,λ k h _=>g.block k h⟩
theorem Off.st {p:Addr} (hp:S p.block) (u:Value):Off S W (W.setCell p u) :=
 ⟨by simp [World.setCell],λ k h1 h2=>Below.heap_setCell W p u k (λ e=>h2 (e▸hp))⟩
theorem off6 {b:Nat} (hb:S b) (x0 x1 x2 x3 x4 x5:Value):Off S W ((((((W.setCell ⟨b,0,none⟩ x0).setCell ⟨b,1,none⟩ x1).setCell ⟨b,2,none⟩ x2).setCell ⟨b,3,none⟩ x3).setCell ⟨b,4,none⟩ x4).setCell ⟨b,5,none⟩ x5) :=
 ((((((Off.st (p:=⟨b,0,none⟩) hb x0).trans (Off.st (p:=⟨b,1,none⟩) hb x1)).trans (Off.st (p:=⟨b,2,none⟩) hb x2)).trans (Off.st (p:=⟨b,3,none⟩) hb x3)).trans (Off.st (p:=⟨b,4,none⟩) hb x4)).trans (Off.st (p:=⟨b,5,none⟩) hb x5))
theorem Off.ch {c:Nat} (hc:S c) (cap:Nat) (buf:Array Value) (cl:Bool) (s r:Nat) (tm:Bool):Off S W (W.setChan c cap buf cl s r tm) :=
 ⟨by simp [World.setChan],λ k h1 h2=>by
   have hk:c≠k:=by rintro rfl;exact h2 hc
   simp only [World.setChan];rw [Array.getElem?_setIfInBounds_ne hk]⟩
theorem Off.gb {R:Option Nat} (hg:W.grownBy W' R) (hr:∀ k,R=some k->S k):Off S W W' :=
 ⟨hg.size,λ k h1 h2=>hg.block k h1 (λ e=>h2 (hr k e.symm))⟩
theorem Off.fromB (h:Off S W W') (hs:∀ k,S k->k<B):FromB B W W':=⟨h.1,λ k h1 h2=>h.2 k h2 λ q=>by have:=hs k q;omega⟩
theorem WOff.is (h:WOff S W r ω):WIs W r ω:=h W Off.refl
theorem WOff.to (h:WOff S W r ω) (g:Off S W W'):WOff S W' r ω:=λ _ k=>h _ (g.trans k)
theorem WOff.gr (h:WOff S W r ω) (g:Gr W W'):WOff S W' r ω:=h.to (Off.gr g)
theorem WOff.sub (h:WOff S W r ω) (hs:∀ k,k<W.heap.size->S' k->S k):WOff S' W r ω:=λ _ k=>h _ (k.mono hs)
theorem WOff.new (h:WNew B W r ω) (hs:∀ k,S k->k<B):WOff S W r ω:=λ _ k=>h _ (k.fromB hs)
theorem blk_off {b:Nat} {cs:Array Value} {t:TypeId} (h:Blk W b cs t) (g:Off S W W') (hb:¬ S b):Blk W' b cs t:=(g.2 b h.lt hb).trans h
theorem obj_off {b:Nat} {o:Obj} (h:W.heap[b]?=some o) (g:Off S W W') (hb:¬ S b):W'.heap[b]?=some o:=(g.2 b (Array.getElem?_eq_some_iff.1 h).1 hb).trans h
theorem own_off {base q n:Nat} {e:TypeId} {v:Value} {xs:List Value} (h:W.ownsRow base e q v n xs) (g:Off S W W') (hb:∀ k,v.ownBlock=some k->¬ S k):W'.ownsRow base e q v n xs:=by
 refine⟨h.1,?_⟩;rcases h.2 with ⟨hv,h0⟩ | ⟨g',cap,cur,hv,hbg,hg,hnc,hcm,hs,ht⟩
 . exact .inl ⟨hv,h0⟩
 . subst hv
   refine .inr ⟨g',cap,cur,rfl,hbg,obj_off hg g (hb g' rfl),hnc,hcm,hs,ht⟩
end
theorem own_low {w:World} {base b2 q n:Nat} {e:TypeId} {v:Value} {xs:List Value} (h:w.ownsRow base e q v n xs) (hb:b2<=base):w.ownsRow b2 e q v n xs:=by
 refine⟨h.1,?_⟩;rcases h.2 with ⟨hv,h0⟩ | ⟨g',cap,cur,hv,hbg,hg,hnc,hcm,hs,ht⟩
 . exact .inl ⟨hv,h0⟩
 . exact .inr ⟨g',cap,cur,hv,Nat.le_trans hb hbg,hg,hnc,hcm,hs,ht⟩
abbrev Hp:=Int×Int×T3
def hpV (x:Hp):List Value:=[.int .i64 x.1,.int .i64 x.2.1,.int .i64 x.2.2.1,.int .i64 x.2.2.2.1,.int .i64 x.2.2.2.2]
theorem hpV_len (x:Hp):(hpV x).length=5:=rfl
abbrev HOwn (w:World) (base:Nat) (v:Value) (l:List Hp):Prop:=w.ownsRow base 77 5 v l.length (l.flatMap hpV)
theorem infoHp:(Tryz.prog.info? 77).map (λ i=>(i.zero,i.size,i.bytes))=some (some (.agg #[.int .i64 0,.int .i64 0,.int .i64 0,.int .i64 0,.int .i64 0]),5,40):=by kernel_rfl
theorem HOwn.nil (w:World) (base:Nat):HOwn w base (.slice none 0 0) []:=World.ownsRow_nil w base _ 5
theorem append_where {P:Program} {w:World} {base:Nat} {t ty e:TypeId} {i:TypeInfo} {z:Value} {size bytes:Nat} (ht:P.underlying t=some (.slice e)) (hi:P.info? e=some i) (hz:i.zero=some z)
 (hsize:i.size=size) (hby:i.bytes=bytes) {v:Value} {n:Nat} {xs:List Value} (hown:w.ownsRow base e size v n xs)
 {a:Addr} {m c:Nat} {news:List Value} (hl:news.length=m*size) (hnews:∀ j u,news[j]?=some u->w.cell? (a.add j)=some u) (h1:∀ u∈news,u.oneCell'=true) (hm:0<m)
 (h63:n+m<=maxLen) (hbytes:(n+m)*bytes<=140737488355328) {v':Value} {w':World} (hr:(Builtin.append_ #[t,t] ty #[v,.slice (some a) m c]).run P w=.ok v' w') :
 ∀ k,v'.ownBlock=some k->v.ownBlock=some k\/w.heap.size<=k:=by
 subst hsize;subst hby;have hsmall:n+m<=9223372036854775807:=by simp only [maxLen] at h63;omega
 rcases hown.2 with ⟨rfl,rfl⟩ | ⟨g,cap,cur,rfl,hbg,hg,hnc,hcm,hcs,htake⟩
 . have h:=run_append_nil (P:=P) w t ty e i z ht hi hz a m c news hl hnews hm (by omega) (by have hb:=hbytes;simp only [Nat.zero_add] at hb;omega)
   rw [h] at hr;cases hr;exact λ k hk=>.inr (by simp [Value.ownBlock] at hk;omega)
 . by_cases hroom:n+m<=cap
   . have hfit:n*i.size+news.length<=cur.size:=by rw [hl,hcs,<- Nat.add_mul];exact Nat.mul_le_mul_right _ hroom
     have h:=run_append_room (P:=P) w t ty e i ht hi g n cap cur hg a m c news hl hnews h1 hroom hfit;rw [h] at hr;cases hr;exact λ k hk=>.inl (by simpa [Value.ownBlock] using hk)
   . have holds:∀ j u,xs[j]?=some u->w.cell? ((⟨g,0,none⟩:Addr).add j)=some u:=hown.cells (g:=g) rfl
     have h:=run_append_grow (P:=P) w t ty e i z ht hi hz ⟨g,0,none⟩ n cap xs hown.1 holds a m c news hl hnews (by omega) (by omega) (growslice_fits (by omega) hbytes);rw [h] at hr;cases hr;exact λ k hk=>.inr (by simp [Value.ownBlock] at hk;omega)
theorem hpV_one (x:Hp):∀ u∈hpV x,u.oneCell'=true:=by
 intro u hu;simp [hpV] at hu;rcases hu with rfl | rfl | rfl | rfl | rfl<;>rfl
theorem hps_len:∀ l:List Hp,(l.flatMap hpV).length=l.length*5:=flat_len' (λ _=>rfl)
theorem run_append_hps {w:World} {base:Nat} {v:Value} {l N:List Hp} (h:HOwn w base v l) {ad:Addr} {m c:Nat} (hN:N.length=m) (hm:0<m) (hx:∀ j u,(N.flatMap hpV)[j]?=some u->w.cell? (ad.add j)=some u)
 (hl:l.length+m<=1000000) (hbase:base<=w.heap.size) (ty:TypeId) :
 ∃ v' w',(Builtin.append_ #[72,72] ty #[v,.slice (some ad) m c]).run Tryz.prog w=.ok v' w'/\HOwn w' base v' (l++N)/\w.grownBy w' v.ownBlock/\∀ k,v'.ownBlock=some k->v.ownBlock=some k\/w.heap.size<=k:=by
 obtain⟨i,hi,hz,hs,hb⟩:=P13.info_parts infoHp;have hs:i.size=5:=hs;have hb:i.bytes=40:=hb;subst hN;have ho:∀ u∈N.flatMap hpV,u.oneCell'=true:=flat_one_of hpV_one N;obtain⟨v',w',hr,h2,h3,_⟩:=run_append_own (P:=Tryz.prog) w base 72 ty 77 i (.agg #[.int .i64 0,.int .i64 0,.int .i64 0,.int .i64 0,.int .i64 0]) 5 40 Tryz.underlying72 hi hz hs hb rfl (by decide) v _ _ h ad N.length c (N.flatMap hpV) (hps_len N) hx ho (by unfold maxLen;omega) (by omega) hbase;refine⟨v',w',hr,?_,h3,append_where Tryz.underlying72 hi hz hs hb h (hps_len N) hx ho hm (by unfold maxLen;omega) (by omega) hr⟩;unfold HOwn;rw [List.length_append,List.flatMap_append];exact h2
theorem wp_append_hps {o:Oper} {a:Act} {K:Act->World->Prop} {Q:Exit->Act->World->Prop} {w:World} {base:Nat} {v:Value} {l:List Hp} {ad:Addr} {m c:Nat} (s x:Operand) (N:List Hp)
 (ho:o.op=.call { callee:=.builtin .append,args:=#[s,x],argTypes:=#[72,72] }) (hs:a.eval s=v) (hx:a.eval x=.slice (some ad) m c)
 (h:HOwn w base v l) (hN:N.length=m) (hm:0<m) (hc:∀ j u,(N.flatMap hpV)[j]?=some u->w.cell? (ad.add j)=some u) (hl:l.length+m<=1000000) (hbase:base<=w.heap.size)
 (hK:∀ v' w',HOwn w' base v' (l++N)->w.grownBy w' v.ownBlock->(∀ k,v'.ownBlock=some k->v.ownBlock=some k\/w.heap.size<=k)->K (a.put o.dst v') w'):o.wp Tryz.prog a w K Q:=by
 obtain⟨v',w',h1,h2,h3,h4⟩:=run_append_hps (c:=c) h hN hm hc hl hbase o.type;unfold Oper.wp execOp;simp only [ho,resolve,invoke,builtin,Sem.run_bind,Sem.run_pure,Result.andThen_ok,List.map_toArray,List.map_cons,List.map_nil,hs,hx,h1];exact hK v' w' h2 h3 h4
theorem wpList_append_hps {ops:Array Oper} {rest:List Oper} {o:Oper} {a:Act} {Q:Exit->Act->World->Prop} {w:World} {base:Nat} {v:Value} {l:List Hp} {ad:Addr} {m c:Nat} (hgd:o.guard=none) (s x:Operand) (N:List Hp)
 (ho:o.op=.call { callee:=.builtin .append,args:=#[s,x],argTypes:=#[72,72] }) (hs:a.eval s=v) (hx:a.eval x=.slice (some ad) m c)
 (h:HOwn w base v l) (hN:N.length=m) (hm:0<m) (hc:∀ j u,(N.flatMap hpV)[j]?=some u->w.cell? (ad.add j)=some u) (hl:l.length+m<=1000000) (hbase:base<=w.heap.size)
 (hK:∀ v' w',HOwn w' base v' (l++N)->w.grownBy w' v.ownBlock->(∀ k,v'.ownBlock=some k->v.ownBlock=some k\/w.heap.size<=k)->wpList Tryz.prog ops Q rest (a.put o.dst v') w'):wpList Tryz.prog ops Q (o::rest) a w :=
 wpList_plain hgd λ _ hK'=>wp_append_hps s x N ho hs hx h hN hm hc hl hbase λ v' w' h1 h2 h3=>hK' _ _ (hK v' w' h1 h2 h3)
def happ (k:Nat) (now:Int) (ev:List T3):List Hp:=ev.map λ e=>((k:Int),now,e)
inductive GoW (ω:Wv):List P13.Pk->Wv->List Hp->Prop where
 | nil:GoW ω [] ω []
 | snoc {l:List P13.Pk} {χ ψ:Wv} {H:List Hp} {p:P13.Pk} {ev:List T3}:GoW ω l χ H->OneR χ p ψ ev->GoW ω (l++[p]) ψ (H++happ l.length ψ.now ev)
theorem OneR.few {ω ψ:Wv} {p:P13.Pk} {ev:List T3} (h:OneR ω p ψ ev):ev=[]\/∃ e,ev=[e]:=by
 rcases h with ⟨_,x,⟨_,_,q,_⟩ | ⟨_,_,_,q,_⟩ | ⟨_,_,_,_,_,q,_⟩⟩ | ⟨_,q,_⟩
 . exact .inl q
 . exact .inl q
 . rw [q];cases (P16.stp (mw ω) p.2.toNat).2 with
   | none=>exact .inl rfl
   | some e=>exact .inr ⟨e,rfl⟩
 . exact .inl q
theorem GoW.few {ω ψ:Wv} {l:List P13.Pk} {H:List Hp} (h:GoW ω l ψ H):H.length<=l.length:=by
 induction h with
 | nil=>exact Nat.le_refl _
 | snoc h1 h2 ih =>
  rcases h2.few with rfl | ⟨e,rfl⟩<;>simp [happ]<;>omega
end P17
end
section
open Go.ChangeShapes Go.WideShapes Go.ChangeAt Go.RowKit
namespace P17
open P16
theorem z32:(0:Int)<=0/\(0:Int)<4294967296:=by decide
theorem z4:(0:Int)<=0/\(0:Int)<=4:=by decide
theorem zw:OkW 0:=by unfold OkW;decide
theorem first_right (p:List Ac):CRight p (first 0 false 0 p.length):=by
 unfold first;refine⟨Int.le_refl _,by show (0:Int)<=p.length;omega,?_,z32,.inl rfl,z4,zw,λ _=>⟨rfl,rfl⟩,λ k n _=>⟨.inl rfl,.inl rfl⟩⟩;dsimp only;by_cases h:(0:Int)=p.length<;>simp [h]
theorem new_right {l:List (List Ac)} (h:P12.rightB l=true):RightW (newW l):=by
 have hl:(newW l).cl.length=(newW l).progs.length:=by unfold newW;simp
 have h0:0<=(newW l).now/\(newW l).now<=4611686018427387904:=by show (0:Int)<=0/\(0:Int)<=4611686018427387904;decide
 refine⟨h0,h,hl,rfl,⟨Tab.nil,λ s hs=>nomatch hs⟩,λ s hs=>(nomatch hs),λ c hc=>?_,λ i c p hc hp=>?_,λ x hx=>?_,.inl rfl⟩
 . obtain⟨p,_,rfl⟩:=List.mem_map.1 hc
   unfold first;dsimp only;split
   . exact⟨.inr (.inr rfl),λ q=>by cases q⟩
   . exact⟨.inl rfl,λ q=>by cases q⟩
 . have hc:(l.map λ p=>first 0 false 0 p.length)[i]?=some c:=hc
   have hp:l[i]?=some p:=hp;rw [List.getElem?_map,hp] at hc;cases hc;exact first_right p
 . have hx:x∈[((0:Int),(0:Int),(0:Int)),(0,0,0),(0,0,0),(0,0,0)]:=hx
   simp at hx;subst hx;exact⟨zw,z32,z32⟩
theorem one_right {p:List Ac} (hp:P12.rightB [p]=true) {χ:Wv} {a:Nat} {hd:Option Nat} {now:Int} (he:mw χ=W1 p a 0 hd now) (h4:χ.mx.length=4) (tab:TabA χ.tb) (hn:0<=now/\now<=4611686018427387904) (ha:a<p.length):RightW χ:=by
 have e1:χ.now=now:=congrArg Mw.now he;have e2:χ.progs=[p]:=congrArg Mw.progs he;have e3:χ.cl=[cAt a 0 p.length]:=congrArg Mw.cl he;have e4:χ.stop=0:=congrArg Mw.stop he;have ec:∀ m,(mw χ).cm m=⟨if hd=some m then 1 else 0,0,0,0,[]⟩:=λ m=>by rw [he];rfl
 have et:∀ s,s∈χ.tb->False:=λ s hs=>by
  obtain⟨m,_,hm⟩:=tab.2 s hs;have h1:gt (svs χ.tb) s.1≠(0,[]):=(gt_has tab.1.2).1 ⟨_,List.mem_map.2 ⟨s,hs,rfl⟩,rfl⟩;rw [hm] at h1;have a1:(gtA χ.tb m).1=0:=congrArg Cm.c (ec m);have a2:(gtA χ.tb m).2=[]:=congrArg Cm.l (ec m);exact h1 (Prod.ext a1 a2)
 refine⟨by rw [e1];exact hn,by rw [e2];exact hp,by rw [e2,e3];rfl,h4,tab,λ s hs=>(et s hs).elim,λ c hc=>?_,λ i c q hc hq=>?_,λ x hx=>?_,.inl e4⟩
 . rw [e3] at hc
   obtain rfl:=List.mem_singleton.1 hc;rw [cAt_lt ha];exact⟨.inl rfl,λ q=>by cases q⟩
 . rw [e3] at hc
   rw [e2] at hq
   cases i with
   | succ i=>simp at hc
   | zero =>
    simp at hc hq;subst hq;subst hc;rw [cAt_lt ha];refine⟨by show (0:Int)<=a;omega,by show (a:Int)<=p.length;omega,?_,z32,.inl rfl,z4,zw,λ _=>⟨rfl,rfl⟩,λ k n _=>⟨.inl rfl,.inl rfl⟩⟩;constructor
    . intro h;have h:(a:Int)=p.length:=h;omega
    . intro h;exact absurd (show (0:Int)=2 from h) (by decide)
 . obtain⟨m,hx⟩:=List.getElem?_of_mem hx
   have e:=mxAt_get hx;have a1:(mxAt χ.mx m).1=(if hd=some m then 1 else 0):=congrArg Cm.word (ec m);have a2:(mxAt χ.mx m).2.1=0:=congrArg Cm.nx (ec m);have a3:(mxAt χ.mx m).2.2=0:=congrArg Cm.sv (ec m);rw [e] at a1 a2 a3;rw [a1,a2,a3];refine⟨?_,z32,z32⟩;unfold OkW;split<;>decide
theorem one_step {p:List Ac} (hp:P12.rightB [p]=true) {χ ψ:Wv} {a:Nat} {hd:Option Nat} {now:Int} {ev:List T3} {x:Int} (hr:RightW χ) (he:mw χ=W1 p a 0 hd now) (ha:a<p.length) (h:StepM χ 0 ψ ev x) :
 ψ.mx.length=4/\TabA ψ.tb/\mw ψ=(P16.stp (W1 p a 0 hd now) 0).1/\ev=(P16.stp (W1 p a 0 hd now) 0).2.toList:=by
 have e3:χ.cl=[cAt a 0 p.length]:=congrArg Mw.cl he;have e4:χ.stop=0:=congrArg Mw.stop he;rcases h with ⟨q,_⟩ | ⟨_,q,_⟩ | ⟨_,_,h1,h2,h3,h5,_⟩
 . exact absurd hr q
 . rcases q with q | q | q | ⟨c,q,q2⟩
   . exact absurd e4 q
   . omega
   . rw [e3] at q;simp at q
   . rw [e3] at q
     simp at q;subst q;rw [cAt_lt ha] at q2;exact absurd rfl q2
 . rw [he] at h3 h5
   exact⟨h1,h2,h3,h5⟩
end P17
end
section
open Go.ChangeShapes Go.WideShapes Go.ChangeAt Go.RowKit
namespace P17
open P16
section
variable {ω ψ χ:Wv} {p:P13.Pk} {ev:List T3} {l r:List P13.Pk} {H:List Hp}
theorem GoW.empty (h:GoW ω [] ψ H):ψ=ω/\H=[]:=by
 generalize e:([]:List P13.Pk)=l at h
 cases h with
 | nil=>exact⟨rfl,rfl⟩
 | snoc h1 h2=>simp at e
theorem GoW.last (h:GoW ω (l++[p]) ψ H):∃ χ H' ev,GoW ω l χ H'/\OneR χ p ψ ev/\H=H'++happ l.length ψ.now ev:=by
 generalize e:l++[p]=r at h
 cases h with
 | nil=>simp at e
 | snoc h1 h2 =>
  obtain⟨rfl,e2⟩:=List.append_inj' e rfl;cases e2;exact⟨_,_,_,h1,h2,rfl⟩
def later (k:Nat) (H:List Hp):List Hp:=H.map λ x=>(x.1+(k:Int),x.2)
end
theorem alive17 {ψ:Wv} {H:List Hp} (h:GoW (newW [p0]) ([0,-5,0].map P13.rd) ψ H):ψ.now=5/\H=[(0,0,0,0,0),(2,5,0,3,0)]:=by
 have e:([0,-5,0]:List Int).map P13.rd=(([]++[(0,0)])++[(1,5)])++[(0,0)]:=by decide
 rw [e] at h;obtain⟨χ2,H2,ev3,h2,k3,rfl⟩:=GoW.last h;clear h;obtain⟨χ1,H1,ev2,h1,k2,rfl⟩:=GoW.last h2;clear h2;obtain⟨χ0,H0,ev1,h0,k1,rfl⟩:=GoW.last h1;clear h1;obtain⟨rfl,rfl⟩:=GoW.empty h0;have a0:mw (newW [p0])=W1 p0 0 0 none 0:=by rw [mw_new];exact new_one
 have s1:P16.stp (W1 p0 0 0 none 0) 0=(W1 p0 1 0 (some 0) 0,some (0,0,0)):=alone_lock (p:=p0) (a:=0) (n:=0) rfl;rcases k1 with ⟨_,x1,k1⟩ | ⟨q,_⟩
 case inr=>exact absurd q (by decide)
 obtain⟨m1,t1,e1,rfl⟩:=one_step p0_right (new_right p0_right) a0 (by decide) k1;rw [s1] at e1 ⊢;have e1:mw χ1=W1 p0 1 0 (some 0) 0:=e1;have r1:RightW χ1:=one_right p0_right e1 m1 t1 (by decide) (by decide);rcases k2 with ⟨q,_⟩ | ⟨_,rfl,τ,y,k2,hy⟩
 . exact absurd q (by decide)
 have n1:χ1.now=0:=congrArg Mw.now e1;have st1:χ1.stop=0:=congrArg Mw.stop e1;obtain rfl:χ2={ χ1 with now:=χ1.now+5 }:=by
  rcases k2 with ⟨q,_⟩ | ⟨_,_,q,_⟩ | ⟨_,_,_,_,q,q2⟩ | ⟨_,_,_,q,_⟩
  . exact absurd ⟨r1,by unfold Tim;decide⟩ q
  . exact absurd st1 q
  . rcases hy with ⟨_,e⟩ | ⟨e,_⟩
    . exact e.trans q
    . exact absurd q2 e
  . rw [n1] at q
    exact absurd q (by decide)
 have e2:mw { χ1 with now:=χ1.now+5 }=W1 p0 1 0 (some 0) 5:=by
  have:mw { χ1 with now:=χ1.now+5 }={ mw χ1 with now:=χ1.now+5 }:=rfl;rw [this,e1,n1];rfl
 have r2:RightW { χ1 with now:=χ1.now+5 }:=one_right p0_right e2 m1 t1 (by decide) (by decide);rcases k3 with ⟨_,x3,k3⟩ | ⟨q,_⟩
 case inr=>exact absurd q (by decide)
 obtain⟨_,_,e3,rfl⟩:=one_step p0_right r2 e2 (by decide) k3;have s2:P16.stp (W1 p0 1 0 (some 0) 5) 0=(W1 p0 2 0 none 5,some (0,3,0)):=alone_give (p:=p0) (a:=1) (n:=0) rfl;rw [s2] at e3 ⊢;have n3:ψ.now=5:=congrArg Mw.now e3;refine⟨n3,?_⟩;rw [n3,n1];rfl
end P17
end
section
open Go.ChangeShapes Go.WideShapes Go.ChangeAt Go.RowKit
namespace P17
open P16
theorem RightW.at_now {ω:Wv} (h:RightW ω) {t:Int} (ht:0<=t/\t<=4611686018427387904):RightW { ω with now:=t } :=
 ⟨ht,h.progs,h.len,h.m4,h.tab,h.ids,h.gors,h.cls,h.mxs,h.stop⟩
def ptk (p:P13.Pk):Int:=if p.1=1 then p.2 else 0
def ptot (l:List P13.Pk):Int:=(l.map ptk).sum
theorem ptot_snoc (l:List P13.Pk) (p:P13.Pk):ptot (l++[p])=ptot l+ptk p:=by unfold ptot;simp
theorem tick_near {χ ψ τ:Wv} {d y:Int} (hr:RightW χ) (h:TickM χ d τ y) (hy:(y=0/\ψ=τ)\/(y≠0/\ψ=χ)) :
 ψ={ χ with now:=ψ.now }/\RightW ψ/\(χ.stop=0->Tim d->χ.now+d<=4611686018427387904->ψ.now=χ.now+d):=by
 rcases h with ⟨q,rfl,rfl⟩ | ⟨_,_,q,rfl,rfl⟩ | ⟨_,t,q,q2,rfl,rfl⟩ | ⟨_,_,q,q2,rfl,rfl⟩
 . obtain rfl:ψ=χ:=by rcases hy with ⟨e,_⟩ | ⟨_,e⟩;(· omega);exact e
   exact⟨rfl,hr,λ _ h2 _=>absurd ⟨hr,h2⟩ q⟩
 . obtain rfl:ψ=τ:=by rcases hy with ⟨_,e⟩ | ⟨_,e⟩<;>exact e
   exact⟨rfl,hr,λ h=>absurd h q⟩
 . obtain rfl:ψ={ χ with now:=χ.now+d }:=by rcases hy with ⟨_,e⟩ | ⟨e,_⟩;(· exact e);exact absurd rfl e
   exact⟨rfl,RightW.at_now hr ⟨by have:=hr.now;have:=t.1;omega,q2⟩,λ _ _ _=>rfl⟩
 . obtain rfl:ψ=χ:=by rcases hy with ⟨e,_⟩ | ⟨_,e⟩;(· omega);exact e
   exact⟨rfl,hr,λ _ _ h=>by omega⟩
theorem ticks_go {ω:Wv} (hr:RightW ω) {l:List P13.Pk} {ψ:Wv} {H:List Hp} (h:GoW ω l ψ H) :
 (∀ p∈l,(p.1=1/\0<p.2/\p.2<=1000000)\/(p.1=0/\8<=p.2)) ->
 H=[]/\ψ={ ω with now:=ψ.now }/\RightW ψ/\0<=ptot l/\(ω.stop=0->ω.now+ptot l<=4611686018427387904->ψ.now=ω.now+ptot l):=by
 induction h with
 | nil=>exact λ _=>⟨rfl,rfl,hr,Int.le_refl _,λ _ _=>by unfold ptot;simp⟩
 | @snoc l χ ψ H p ev h1 h2 ih =>
  intro hp;obtain⟨rfl,e1,r1,p0,t1⟩:=ih λ q hq=>hp q (List.mem_append_left _ hq)
  have hlen:χ.cl.length<=8:=by rw [r1.len];exact (right_facts r1.progs).1
  rw [ptot_snoc];rcases h2 with ⟨a,x,h2⟩ | ⟨a,rfl,τ,y,h2,hy⟩
  . rcases hp p (by simp) with ⟨q,_⟩ | ⟨_,q⟩
    . omega
    have hs:Still χ p.2:=.inr (.inr (.inl (by omega)));have e0:ptk p=0:=if_neg (by omega);rcases h2 with ⟨q,_⟩ | ⟨_,_,rfl,rfl,_⟩ | ⟨_,q,_⟩
    . exact absurd r1 q
    . exact⟨rfl,e1,r1,by omega,λ s0 le=>by rw [e0,Int.add_zero] at *;exact t1 s0 le⟩
    . exact absurd hs q
  . rcases hp p (by simp) with ⟨_,d0,d1⟩ | ⟨q,_⟩
    case inr=>omega
    have e0:ptk p=p.2:=if_pos a;obtain⟨k1,k2,k3⟩:=tick_near r1 h2 hy;refine⟨rfl,?_,k2,by omega,λ s0 le=>?_⟩
    . rw [k1,e1]
    . rw [e0] at le ⊢
      have s1:χ.stop=0:=by rw [e1];exact s0
      have n1:=t1 s0 (by omega);rw [k3 s1 ⟨by omega,by omega⟩ (by omega),n1];omega
theorem done_go {ω:Wv} (hr:RightW ω) (hd:∀ c∈ω.cl,c.gst=2) {l:List P13.Pk} {ψ:Wv} {H:List Hp} (h:GoW ω l ψ H) :
 H=[]/\ψ={ ω with now:=ψ.now }/\RightW ψ:=by
 induction h with
 | nil=>exact⟨rfl,rfl,hr⟩
 | @snoc l χ ψ H p ev h1 h2 ih =>
  obtain⟨rfl,e1,r1⟩:=ih;rcases h2 with ⟨a,x,h2⟩ | ⟨a,rfl,τ,y,h2,hy⟩
  . have hcl:χ.cl=ω.cl:=by rw [e1]
    have hs:Still χ p.2:=by
     by_cases h0:p.2<0
     . exact .inr (.inl h0)
     . by_cases h1:(χ.cl.length:Int)<=p.2
       . exact .inr (.inr (.inl h1))
       . have hlt:p.2.toNat<χ.cl.length:=by omega
         refine .inr (.inr (.inr ⟨_,List.getElem?_eq_getElem hlt,?_⟩));have:=hd (χ.cl[p.2.toNat]) (by rw [<- hcl];exact List.getElem_mem hlt);omega
    rcases h2 with ⟨q,_⟩ | ⟨_,_,rfl,rfl,_⟩ | ⟨_,q,_⟩
    . exact absurd r1 q
    . exact⟨rfl,e1,r1⟩
    . exact absurd hs q
  . obtain⟨k1,k2,_⟩:=tick_near r1 h2 hy
    exact⟨rfl,by rw [k1,e1],k2⟩
def dv (v:Int):Int:=1+v % 18446744073709551616 % 1000000
theorem dv_b (v:Int):1<=dv v/\dv v<=1000000:=by unfold dv;omega
def dts (l:List Int):List Int:=l.flatMap λ v=>[-dv v,9,15]
theorem dts_snoc (l:List Int) (v:Int):dts (l++[v])=dts l++[-dv v,9,15]:=by unfold dts;simp
theorem dts_len:∀ l:List Int,(dts l).length=l.length*3
 | []=>rfl
 | v::r=>by
  have:=dts_len r;unfold dts at this ⊢;rw [List.flatMap_cons,List.length_append,this];simp;omega
def dsum (l:List Int):Int:=(l.map dv).sum
theorem dsum_snoc (l:List Int) (v:Int):dsum (l++[v])=dsum l+dv v:=by unfold dsum;simp
theorem dsum_b:∀ l:List Int,0<=dsum l/\dsum l<=(l.length:Int)*1000000
 | []=>⟨Int.le_refl _,Int.le_refl _⟩
 | v::r=>by
  obtain⟨h1,h2⟩:=dsum_b r;have h3:=dv_b v;have e:dsum (v::r)=dv v+dsum r:=by unfold dsum;simp
  rw [e,List.length_cons];omega
theorem dts_b {l:List Int}:∀ x∈dts l,B64 x:=by
 intro x hx;unfold dts at hx;obtain⟨v,_,hv⟩:=List.mem_flatMap.1 hx;have:=dv_b v;simp at hv;unfold B64;omega
theorem dts_rd (l:List Int):∀ p∈(dts l).map P13.rd,(p.1=1/\0<p.2/\p.2<=1000000)\/(p.1=0/\8<=p.2):=by
 intro p hp;obtain⟨x,hx,rfl⟩:=List.mem_map.1 hp;unfold dts at hx;obtain⟨v,_,hv⟩:=List.mem_flatMap.1 hx;have hb:=dv_b v;simp at hv;rcases hv with rfl | rfl | rfl
 . rw [P13.rd_tick (by omega)]
   left;refine⟨rfl,?_,?_⟩<;>dsimp only<;>omega
 . right;exact⟨rfl,by decide⟩
 . right;exact⟨rfl,by decide⟩
theorem dts_tot:∀ l:List Int,ptot ((dts l).map P13.rd)=dsum l
 | []=>rfl
 | v::r=>by
  have ih:=dts_tot r;have hb:=dv_b v;have e:dsum (v::r)=dv v+dsum r:=by unfold dsum;simp
  have e1:dts (v::r)=-dv v::9::15::dts r:=by unfold dts;simp
  have e2:ptk (P13.rd (-dv v))=dv v:=by
   rw [P13.rd_tick (by omega)];unfold ptk;rw [if_pos rfl];dsimp only;omega
  have e3:ptk (P13.rd 9)=0:=by decide
  have e4:ptk (P13.rd 15)=0:=by decide
  rw [e,<- ih,e1];unfold ptot;simp only [List.map_cons,List.sum_cons,e2,e3,e4];omega
end P17
end
end Go.Proofs.YtainfijdhcehlaaGreatDoor
