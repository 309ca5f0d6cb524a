/-
  A part of the proof.
-/
import Derived.Test.YtainfijdhcehlaaGreatDoorQB3
import Derived.Test.YtainfijdhcehlaaGreatDoorQB8
import Derived.Test.YtainfijdhcehlaaGreatDoorQB17
import Derived.Shelf.Abstract
set_option linter.unusedVariables false
set_option linter.unusedSimpArgs false
set_option maxRecDepth 100000
set_option maxHeartbeats 8000000
namespace Go.Proofs.YtainfijdhcehlaaGreatDoor
open Lib (hid)
section
open Go.ChangeShapes Go.WideShapes Go.ChangeAt Go.RowKit
def Told (A:Option Addr) (n:Nat) (s:Int×Int×List Int) (x e:Int) (W:World) (ee:Ending) (W':World):Prop :=
 ∃ z:SV,ee=.returned (.tuple #[.agg #[.int .i64 z.addr,.int .i64 z.cnt,.slice z.A z.n z.c],.int .i64 x,.int .i64 e])/\z.ok W'/\z.pl=s/\Gr W W'/\((z.A=A/\z.n=n)\/∀ k,z.A.map (·.block)=some k->W.heap.size<=k)
def ComeR (a q:Int) (l:List Int) (who:Int) (first:Bool) (s:Int×Int×List Int) (x e:Int):Prop :=
 (e≠0/\L7.PushR l who first [] e/\s=(0,0,[])/\x=0)\/(0<q/\(∃ r,L7.PushR l who first r 0)/\s=(a,q-1,l)/\x=who/\e=0)\/(¬ 0<q/\(∃ r,L7.PushR l who first r 0/\s=(a,q,r))/\x=-1/\e=0)
section
variable {w:World} {a q:Int} {A:Option Addr} {n c:Nat} {l:List Int} {b1 b2:Nat} {who:Int} {first:Bool}
theorem coming1_is (ha:B64 a) (hq:B64 q) (hm:IMem w A n l) (hnc:n<=c) (hcm:c<=9223372036854775807) (hw:B64 who)
 (c1:w.cell? ⟨b1,0,none⟩=some (.int .i64 who)) (c2:w.cell? ⟨b2,0,none⟩=some (.bool first)) (l1:b1<w.heap.size) (l2:b2<w.heap.size)
 {s:Int×Int×List Int} {x e:Int} (h:ComeR a q l who first s x e) :
 Calls Tryz.prog 214 #[.agg #[.int .i64 a,.int .i64 q,.slice A n c],.pointer (some ⟨b1,0,none⟩),.pointer (some ⟨b2,0,none⟩)] w (Told A n s x e w):=by
 have g0:=((Gr.refl w).al (.cells #[.int .i64 a,.int .i64 q,.slice A n c] 91)).al (.cells #[.int .i64 0,.int .i64 0,.slice none 0 0] 91)
 have B0:=(Blk.new w #[.int .i64 a,.int .i64 q,.slice A n c] 91).al (.cells #[.int .i64 0,.int .i64 0,.slice none 0 0] 91)
 have B1:=Blk.new (w.alloc (.cells #[.int .i64 a,.int .i64 q,.slice A n c] 91)) #[.int .i64 0,.int .i64 0,.slice none 0 0] 91
 simp only [World.size_alloc] at B1
 have e1:((w.alloc (.cells #[.int .i64 a,.int .i64 q,.slice A n c] 91)).alloc (.cells #[.int .i64 0,.int .i64 0,.slice none 0 0] 91)).cell? ⟨b1,0,none⟩=some (.int .i64 who):=(g0.cell (p:=⟨b1,0,none⟩) l1).trans c1
 have e2:((w.alloc (.cells #[.int .i64 a,.int .i64 q,.slice A n c] 91)).alloc (.cells #[.int .i64 0,.int .i64 0,.slice none 0 0] 91)).cell? ⟨b2,0,none⟩=some (.bool first):=(g0.cell (p:=⟨b2,0,none⟩) l2).trans c2
 have HN:Hid (n<=9223372036854775807):=hid (Nat.le_trans hnc hcm)
 have HNC:=hid hnc
 have HCM:=hid hcm
 have HA:=hid ha
 have HQ:=hid hq
 have HM:=hid hm
 have HW:=hid hw
 have C1:=hid c1
 have L1:=hid l1
 rcases h with ⟨he,hp,rfl,rfl⟩ | ⟨h0,⟨r,hp⟩,rfl,rfl,rfl⟩ | ⟨h0,⟨r,hp,rfl⟩,rfl,rfl⟩
 . have KP:=hid (L7.Push_is (c:=c) (hm.gr g0) hnc HN.out hw hp)
   have ne:(e==0)=false:=beq_eq_false_iff_ne.2 he
   have nb:(e != 0)=true:=by simp [bne,ne]
   have HB0:=hid B0
   have HB1:=hid B1
   have G0:=hid g0
   have p2:=(B0.at_ (k:=2) rfl).1
   clear hp hm hnc hcm ha hq hw c1 c2 l1 l2 B0 B1 g0 he
   go_enter Tryz.func214,Tryz.ntmps214
   go_wp2_with fail
   with_reducible refine KP.out.mono ?_
   rintro ee w1 ⟨C,k,rfl,own1,h1⟩
   have D1:=HB1.out.gr h1
   have G1:=hid (G0.out.trans h1)
   obtain⟨q0,z0⟩:=D1.at_ (k:=0) rfl
   obtain⟨q1,z1⟩:=D1.at_ (k:=1) rfl
   obtain⟨q2,z2⟩:=D1.at_ (k:=2) rfl
   have HF:=hid (spot_stored D1 rfl (.int .i64 0) (.int .i64 0) (.slice none 0 0))
   have hge:w.heap.size<=w.heap.size+1:=Nat.le_succ _
   have HG:=hid (((G1.out.st (p:=⟨w.heap.size+1,0,none⟩) hge (.int .i64 0)).st (p:=⟨w.heap.size+1,1,none⟩) hge (.int .i64 0)).st (p:=⟨w.heap.size+1,2,none⟩) hge (.slice none 0 0))
   clear own1 h1 D1 p2 e1 e2 KP hge
   go_wp2_with fail
   have F:=HF.out
   have GF:=HG.out
   clear q0 z0 q1 z1 q2 z2 HF HG
   generalize ((w1.setCell _ _).setCell _ _).setCell _ _=WF at F GF ⊢
   have q0:WF.cell? ⟨w.heap.size+1,0,none⟩=some (.int .i64 0):=(F.at_ (k:=0) rfl).1
   have q1:WF.cell? ⟨w.heap.size+1,1,none⟩=some (.int .i64 0):=(F.at_ (k:=1) rfl).1
   have q2:WF.cell? ⟨w.heap.size+1,2,none⟩=some (.slice none 0 0):=(F.at_ (k:=2) rfl).1
   exact bodyPost_ret (v:=.tuple #[.agg #[.int .i64 0,.int .i64 0,.slice none 0 0],.int .i64 0,.int .i64 e]) (by simp [results,Tryz.results214,go_sem,q0,q1,q2]) rfl
    ⟨⟨0,0,none,0,0,[]⟩,rfl,ok_zero _ b64_zero,rfl,GF,.inr (λ _ h=>by cases h)⟩
 . have KP:=hid (L7.Push_is (c:=c) (hm.gr g0) hnc HN.out hw hp)
   have HB0:=hid B0
   have HB1:=hid B1
   have G0:=hid g0
   have p2:=(B0.at_ (k:=2) rfl).1
   have hw1:wrap64 (q-1)=q-1:=by have:=hq.2;unfold wrap64;omega
   have HQ1:Hid (B64 (q-1)):=hid ⟨by omega,by have:=hq.2;omega⟩
   clear hp hm hnc hcm ha hq hw c1 c2 l1 l2 B0 B1 g0
   go_enter Tryz.func214,Tryz.ntmps214
   go_wp2_with fail
   with_reducible refine KP.out.mono ?_
   rintro ee w1 ⟨C,k,rfl,own1,h1⟩
   have D0:=HB0.out.gr h1
   have D1:=HB1.out.gr h1
   have G1:=hid (G0.out.trans h1)
   obtain⟨p1,y1⟩:=D0.at_ (k:=1) rfl
   have HD0:=hid D0
   have HD1:=hid D1
   have HW1:=hid hw1
   clear own1 h1 D0 D1 p2 e1 e2 KP hw1
   go_wp2_with fail
   rw [HW1.out]
   have DX0:Blk (w1.setCell ⟨w.heap.size,1,none⟩ (.int .i64 (q-1))) w.heap.size #[.int .i64 a,.int .i64 (q-1),.slice A n c] 91:=by simpa using HD0.out.set 1 (.int .i64 (q-1))
   have DX1:Blk (w1.setCell ⟨w.heap.size,1,none⟩ (.int .i64 (q-1))) (w.heap.size+1) #[.int .i64 0,.int .i64 0,.slice none 0 0] 91:=HD1.out.st (by show w.heap.size≠w.heap.size+1;omega) _
   have GX:Gr w (w1.setCell ⟨w.heap.size,1,none⟩ (.int .i64 (q-1))):=G1.out.st (p:=⟨w.heap.size,1,none⟩) (Nat.le_refl _) _
   clear p1 y1 HD0 HD1 G1
   generalize w1.setCell ⟨w.heap.size,1,none⟩ (.int .i64 (q-1))=X at *
   have r1:X.cell? ⟨b1,0,none⟩=some (.int .i64 x):=(GX.cell (p:=⟨b1,0,none⟩) L1.out).trans C1.out
   have p0:X.cell? ⟨w.heap.size,0,none⟩=some (.int .i64 a):=(DX0.at_ (k:=0) rfl).1
   have p1:X.cell? ⟨w.heap.size,1,none⟩=some (.int .i64 (q-1)):=(DX0.at_ (k:=1) rfl).1
   have p2:X.cell? ⟨w.heap.size,2,none⟩=some (.slice A n c):=(DX0.at_ (k:=2) rfl).1
   obtain⟨q0,z0⟩:=DX1.at_ (k:=0) rfl
   obtain⟨q1,z1⟩:=DX1.at_ (k:=1) rfl
   obtain⟨q2,z2⟩:=DX1.at_ (k:=2) rfl
   have hge:w.heap.size<=w.heap.size+1:=Nat.le_succ _
   have hne1:b1≠w.heap.size+1:=by have:=L1.out;omega
   have hlt:w.heap.size+1<X.heap.size:=DX1.lt
   have HF:=hid ((spot_stored DX1 rfl (.int .i64 a) (.int .i64 (q-1)) (.slice A n c)).gr (Gr.refl _).dr)
   have HG:=hid ((((GX.st (p:=⟨w.heap.size+1,0,none⟩) hge (.int .i64 a)).st (p:=⟨w.heap.size+1,1,none⟩) hge (.int .i64 (q-1))).st (p:=⟨w.heap.size+1,2,none⟩) hge (.slice A n c)).dr)
   clear DX0 DX1 GX hge
   go_region
   go_wp2_with fail
   have F:=HF.out
   have GF:=HG.out
   clear q0 z0 q1 z1 q2 z2 p0 p1 p2 r1 HF HG
   generalize (((X.setCell _ _).setCell _ _).setCell _ _).drew=WF at F GF ⊢
   have q0:WF.cell? ⟨w.heap.size+1,0,none⟩=some (.int .i64 a):=(F.at_ (k:=0) rfl).1
   have q1:WF.cell? ⟨w.heap.size+1,1,none⟩=some (.int .i64 (q-1)):=(F.at_ (k:=1) rfl).1
   have q2:WF.cell? ⟨w.heap.size+1,2,none⟩=some (.slice A n c):=(F.at_ (k:=2) rfl).1
   exact bodyPost_ret (v:=.tuple #[.agg #[.int .i64 a,.int .i64 (q-1),.slice A n c],.int .i64 x,.int .i64 0]) (by simp [results,Tryz.results214,go_sem,q0,q1,q2]) rfl
    ⟨⟨a,q-1,A,n,c,l⟩,rfl,⟨HA.out,HQ1.out,HM.out.gr GF,HNC.out,HCM.out⟩,rfl,GF,.inl ⟨rfl,rfl⟩⟩
 . have KP:=hid (L7.Push_is (c:=c) (hm.gr g0) hnc HN.out hw hp)
   have HB0:=hid B0
   have HB1:=hid B1
   have G0:=hid g0
   have p2:=(B0.at_ (k:=2) rfl).1
   clear hp hm hnc hcm ha hq hw c1 c2 l1 l2 B0 B1 g0
   go_enter Tryz.func214,Tryz.ntmps214
   go_wp2_with fail
   with_reducible refine KP.out.mono ?_
   rintro ee w1 ⟨C,k,rfl,own1,h1⟩
   have D0:=HB0.out.gr h1
   have D1:=HB1.out.gr h1
   have G1:=hid (G0.out.trans h1)
   have b01:w.heap.size≠w.heap.size+1:=by omega
   have hge:w.heap.size<=w.heap.size+1:=Nat.le_succ _
   have s0:w.heap.size<((w.alloc (.cells #[.int .i64 a,.int .i64 q,.slice A n c] 91)).alloc (.cells #[.int .i64 0,.int .i64 0,.slice none 0 0] 91)).heap.size:=by simp;omega
   have s1:w.heap.size+1<((w.alloc (.cells #[.int .i64 a,.int .i64 q,.slice A n c] 91)).alloc (.cells #[.int .i64 0,.int .i64 0,.slice none 0 0] 91)).heap.size:=by simp
   obtain⟨p0,y0⟩:=D0.at_ (k:=0) rfl
   obtain⟨p1,y1⟩:=D0.at_ (k:=1) rfl
   obtain⟨p2',y2⟩:=D0.at_ (k:=2) rfl
   obtain⟨q0,z0⟩:=D1.at_ (k:=0) rfl
   obtain⟨q1,z1⟩:=D1.at_ (k:=1) rfl
   obtain⟨q2,z2⟩:=D1.at_ (k:=2) rfl
   have hlt1:=D1.lt
   have DX1:Blk (w1.setCell ⟨w.heap.size,2,none⟩ (.slice C r.length k)) (w.heap.size+1) #[.int .i64 0,.int .i64 0,.slice none 0 0] 91:=D1.st b01 _
   have HF:=hid (spot_stored DX1 rfl (.int .i64 a) (.int .i64 q) (.slice C r.length k))
   have HG:=hid ((((G1.out.st (p:=⟨w.heap.size,2,none⟩) (Nat.le_refl _) (.slice C r.length k)).st (p:=⟨w.heap.size+1,0,none⟩) hge (.int .i64 a)).st (p:=⟨w.heap.size+1,1,none⟩) hge (.int .i64 q)).st (p:=⟨w.heap.size+1,2,none⟩) hge (.slice C r.length k))
   have HO:=hid ((((own1.st (p:=⟨w.heap.size,2,none⟩) s0 (.slice C r.length k)).st (p:=⟨w.heap.size+1,0,none⟩) s1 (.int .i64 a)).st (p:=⟨w.heap.size+1,1,none⟩) s1 (.int .i64 q)).st (p:=⟨w.heap.size+1,2,none⟩) s1 (.slice C r.length k))
   clear own1 h1 D0 D1 DX1 p2 e1 e2 KP hge s0 s1 G1
   go_wp2_with fail
   have F:=HF.out
   have GF:=HG.out
   have OF:=HO.out
   clear q0 z0 q1 z1 q2 z2 p0 p1 p2' y0 y1 y2 HF HG HO
   generalize (((w1.setCell _ _).setCell _ _).setCell _ _).setCell _ _=WF at F GF OF ⊢
   have q0:WF.cell? ⟨w.heap.size+1,0,none⟩=some (.int .i64 a):=(F.at_ (k:=0) rfl).1
   have q1:WF.cell? ⟨w.heap.size+1,1,none⟩=some (.int .i64 q):=(F.at_ (k:=1) rfl).1
   have q2:WF.cell? ⟨w.heap.size+1,2,none⟩=some (.slice C r.length k):=(F.at_ (k:=2) rfl).1
   exact bodyPost_ret (v:=.tuple #[.agg #[.int .i64 a,.int .i64 q,.slice C r.length k],.int .i64 (-1),.int .i64 0]) (by simp [results,Tryz.results214,go_sem,q0,q1,q2]) rfl
    ⟨⟨a,q,C,r.length,k,r⟩,rfl,⟨HA.out,HQ.out,OF.mem,OF.le,by have:=OF.max;unfold maxLen at this;exact this⟩,rfl,GF,.inr (λ k hk=>Nat.le_trans (by simp only [World.size_alloc];omega) (OF.lt k hk).1)⟩
end
end
section
open Go.ChangeShapes Go.WideShapes Go.ChangeAt Go.RowKit
def GiveR (a q:Int) (l:List Int) (s:Int×Int×List Int) (x e:Int):Prop :=
 (∃ r,l=x::r/\s=(a,q,r)/\e=0)\/(l=[]/\q=2147483647/\s=(0,0,[])/\x=0/\e=10)\/(l=[]/\q<2147483647/\s=(a,q+1,[])/\x=-1/\e=0)
section
variable {w:World} {a q:Int} {A:Option Addr} {n c:Nat} {l:List Int}
theorem granted_is (ha:B64 a) (hq0:0<=q) (hq1:q<=2147483647) (hm:IMem w A n l) (hnc:n<=c) (hcm:c<=9223372036854775807) (hl:L7.Ln l)
 {s:Int×Int×List Int} {x e:Int} (h:GiveR a q l s x e) :
 Calls Tryz.prog 201 #[.agg #[.int .i64 a,.int .i64 q,.slice A n c]] w (Told A n s x e w):=by
 have g0:=((Gr.refl w).al (.cells #[.int .i64 a,.int .i64 q,.slice A n c] 91)).al (.cells #[.int .i64 0,.int .i64 0,.slice none 0 0] 91)
 have B0:=(Blk.new w #[.int .i64 a,.int .i64 q,.slice A n c] 91).al (.cells #[.int .i64 0,.int .i64 0,.slice none 0 0] 91)
 have B1:=Blk.new (w.alloc (.cells #[.int .i64 a,.int .i64 q,.slice A n c] 91)) #[.int .i64 0,.int .i64 0,.slice none 0 0] 91
 simp only [World.size_alloc] at B1
 have HN:Hid (n<=9223372036854775807):=hid (Nat.le_trans hnc hcm)
 have HCM:=hid hcm
 have HA:=hid ha
 have HQ:Hid (B64 q):=hid ⟨by omega,by omega⟩
 have HM:=hid hm
 have hlen:=hm.1
 have b01:w.heap.size≠w.heap.size+1:=by omega
 have hge:w.heap.size<=w.heap.size+1:=Nat.le_succ _
 rcases h with ⟨r,rfl,rfl,rfl⟩ | ⟨rfl,rfl,rfl,rfl,rfl⟩ | ⟨rfl,h1,rfl,rfl,rfl⟩
 . have KP:=hid (L7.Pop_is (c:=c) (hm.gr g0) hnc HN.out (.inr (.inr ⟨hl,rfl,rfl⟩)))
   have hn0:(0:Int)<(n:Int):=by simp at hlen;omega
   have HB0:=hid B0
   have HB1:=hid B1
   have G0:=hid g0
   have p2:=(B0.at_ (k:=2) rfl).1
   have s0:w.heap.size<((w.alloc (.cells #[.int .i64 a,.int .i64 q,.slice A n c] 91)).alloc (.cells #[.int .i64 0,.int .i64 0,.slice none 0 0] 91)).heap.size:=by simp;omega
   have s1:w.heap.size+1<((w.alloc (.cells #[.int .i64 a,.int .i64 q,.slice A n c] 91)).alloc (.cells #[.int .i64 0,.int .i64 0,.slice none 0 0] 91)).heap.size:=by simp
   have HS0:=hid s0
   have HS1:=hid s1
   clear hm hnc hcm ha hl B0 B1 g0 hlen s0 s1
   go_enter Tryz.func201,Tryz.ntmps201
   go_wp2_with fail
   with_reducible refine KP.out.mono ?_
   rintro ee w1 ⟨C,k,rfl,own1,h1⟩
   have D0:=HB0.out.gr h1
   have D1:=HB1.out.gr h1
   have G1:=hid (G0.out.trans h1)
   have s0:=HS0.out
   have s1:=HS1.out
   obtain⟨p0,y0⟩:=D0.at_ (k:=0) rfl
   obtain⟨p1,y1⟩:=D0.at_ (k:=1) rfl
   obtain⟨p2',y2⟩:=D0.at_ (k:=2) rfl
   obtain⟨q0,z0⟩:=D1.at_ (k:=0) rfl
   obtain⟨q1,z1⟩:=D1.at_ (k:=1) rfl
   obtain⟨q2,z2⟩:=D1.at_ (k:=2) rfl
   have hlt1:=D1.lt
   have DX1:Blk (w1.setCell ⟨w.heap.size,2,none⟩ (.slice C r.length k)) (w.heap.size+1) #[.int .i64 0,.int .i64 0,.slice none 0 0] 91:=D1.st b01 _
   have HF:=hid (spot_stored DX1 rfl (.int .i64 a) (.int .i64 q) (.slice C r.length k))
   have HG:=hid ((((G1.out.st (p:=⟨w.heap.size,2,none⟩) (Nat.le_refl _) (.slice C r.length k)).st (p:=⟨w.heap.size+1,0,none⟩) hge (.int .i64 a)).st (p:=⟨w.heap.size+1,1,none⟩) hge (.int .i64 q)).st (p:=⟨w.heap.size+1,2,none⟩) hge (.slice C r.length k))
   have HO:=hid ((((own1.st (p:=⟨w.heap.size,2,none⟩) s0 (.slice C r.length k)).st (p:=⟨w.heap.size+1,0,none⟩) s1 (.int .i64 a)).st (p:=⟨w.heap.size+1,1,none⟩) s1 (.int .i64 q)).st (p:=⟨w.heap.size+1,2,none⟩) s1 (.slice C r.length k))
   clear own1 h1 D0 D1 DX1 p2 KP hge s0 s1 G1
   go_wp2_with fail
   have F:=HF.out
   have GF:=HG.out
   have OF:=HO.out
   clear q0 z0 q1 z1 q2 z2 p0 p1 p2' y0 y1 y2 HF HG HO
   generalize (((w1.setCell _ _).setCell _ _).setCell _ _).setCell _ _=WF at F GF OF ⊢
   have q0:WF.cell? ⟨w.heap.size+1,0,none⟩=some (.int .i64 a):=(F.at_ (k:=0) rfl).1
   have q1:WF.cell? ⟨w.heap.size+1,1,none⟩=some (.int .i64 q):=(F.at_ (k:=1) rfl).1
   have q2:WF.cell? ⟨w.heap.size+1,2,none⟩=some (.slice C r.length k):=(F.at_ (k:=2) rfl).1
   exact bodyPost_ret (v:=.tuple #[.agg #[.int .i64 a,.int .i64 q,.slice C r.length k],.int .i64 x,.int .i64 0]) (by simp [results,Tryz.results201,go_sem,q0,q1,q2]) rfl
    ⟨⟨a,q,C,r.length,k,r⟩,rfl,⟨HA.out,HQ.out,OF.mem,OF.le,by have:=OF.max;unfold maxLen at this;exact this⟩,rfl,GF,.inr (λ k hk=>Nat.le_trans (by simp only [World.size_alloc];omega) (OF.lt k hk).1)⟩
 . obtain rfl:n=0:=by simpa using hlen.symm
   obtain⟨q0,z0⟩:=B1.at_ (k:=0) rfl
   obtain⟨q1,z1⟩:=B1.at_ (k:=1) rfl
   obtain⟨q2,z2⟩:=B1.at_ (k:=2) rfl
   obtain⟨p1,y1⟩:=B0.at_ (k:=1) rfl
   obtain⟨p2,y2⟩:=B0.at_ (k:=2) rfl
   clear hm hnc hcm ha hl B0 B1 g0 hlen hq0 hq1
   go_enter Tryz.func201,Tryz.ntmps201
   go_wp2_with fail
   exact bodyPost_ret (v:=.tuple #[.agg #[.int .i64 0,.int .i64 0,.slice none 0 0],.int .i64 0,.int .i64 10]) (by simp [results,Tryz.results201,go_sem]) rfl
    ⟨⟨0,0,none,0,0,[]⟩,rfl,ok_zero _ b64_zero,rfl,((Gr.refl w).al _).al _,.inr (λ _ h=>by cases h)⟩
 . obtain rfl:n=0:=by simpa using hlen.symm
   have ne:(q==2147483647)=false:=beq_eq_false_iff_ne.2 (by omega)
   have hw1:wrap64 (q+1)=q+1:=by unfold wrap64;omega
   have HQ1:Hid (B64 (q+1)):=hid ⟨by omega,by omega⟩
   have HW1:=hid hw1
   clear hm hnc hcm ha hl B0 B1 g0 hlen hq0 hq1 h1 hw1
   go_enter Tryz.func201,Tryz.ntmps201
   go_wp2_with fail
   rw [HW1.out]
   exact bodyPost_ret (v:=.tuple #[.agg #[.int .i64 a,.int .i64 (q+1),.slice A 0 c],.int .i64 (-1),.int .i64 0]) (by simp [results,Tryz.results201,go_sem]) rfl
    ⟨⟨a,q+1,A,0,c,[]⟩,rfl,⟨HA.out,HQ1.out,EMem.nil_,Nat.zero_le _,HCM.out⟩,rfl,((Gr.refl w).al _).al _,.inl ⟨rfl,rfl⟩⟩
end
end
section
open Go.ChangeShapes Go.WideShapes Go.ChangeAt Go.RowKit Go.Shelf
theorem getR_gt {L:List SV} {a:Int} (ht:Tab L) (hk:IsKey a):GetR L a (a,(gt L a).1,(gt L a).2) 0:=by
 refine .inr ⟨hk,ht,rfl,?_⟩
 by_cases hh:Has L a
 . obtain⟨x,hx,rfl⟩:=hh
   exact .inl ⟨x,hx,rfl,by rw [gt_mem ht.2 hx];rfl⟩
 . exact .inr ⟨hh,by rw [gt_no hh]⟩
def AftR (L:List SV) (a:Int) (s:Int×Int×List Int) (x1 e1:Int) (Q:List (Int×Int×List Int)) (x e:Int):Prop :=
 ((¬ IsKey a\/¬ Tab L)/\Q=[]/\x=0/\e=1)\/(IsKey a/\Tab L/\e1≠0/\Q=[]/\x=0/\e=e1) \/
 (IsKey a/\Tab L/\e1=0/\∃ Q2 e2,SetR L (sp s.1 s.2.1 s.2.2) Q2 e2/\((e2≠0/\Q=[]/\x=0/\e=e2)\/(e2=0/\Q=Q2/\x=x1/\e=0)))
def Gave (Q:List (Int×Int×List Int)) (vs:Array Value) (W:World) (ee:Ending) (W':World):Prop :=
 ∃ B m T,ee=.returned (.tuple (#[.slice B T.length m]++vs))/\SMem W' B T.length T/\T.length<=m/\m<=9223372036854775807/\T.map SV.pl=Q/\Gr W W'/\SOwn W' W.heap.size (.slice B T.length m) T
section
variable {w:World} {A:Option Addr} {n c:Nat} {L:List SV} {a:Int} {F:Nat} {caps:Array Value}
theorem after_is (eg:∀ args w,(callFunc F args).run Tryz.prog w=.ok (.enter F args) w) (hm:SMem w A n L) (hnc:n<=c) (hcm:c<=9223372036854775807) (ha:B64 a) {s:Int×Int×List Int} {x1 e1:Int}
 (hC:Tab L->IsKey a->∀ W (y:SV),Gr w W->y.ok W->y.pl=(a,(gt L a).1,(gt L a).2)->Calls Tryz.prog F (#[.agg #[.int .i64 y.addr,.int .i64 y.cnt,.slice y.A y.n y.c]]++caps) W (Told y.A y.n s x1 e1 W))
 {Q:List (Int×Int×List Int)} {x e:Int} (h:AftR L a s x1 e1 Q x e) :
 Calls Tryz.prog 190 #[.slice A n c,.int .i64 a,.func (.func F) #[] caps] w (Gave Q #[.int .i64 x,.int .i64 e] w):=by
 have HM:=hid hm
 rcases h with ⟨hbad,rfl,rfl,rfl⟩ | ⟨hk,ht,he,rfl,rfl,rfl⟩ | ⟨hk,ht,rfl,Q2,e2,hS,hcase⟩
 . have KG:=hid (Get_is (c:=c) hm ha (.inl ⟨hbad,rfl,rfl⟩))
   clear hm hC hbad
   go_enter Tryz.func190,Tryz.ntmps190
   go_wp2_with fail
   with_reducible refine KG.out.mono ?_
   rintro ee w1 ⟨y,rfl,hy,hp,h1⟩
   have G1:=hid (h1.al (.cells #[.int .i64 y.addr,.int .i64 y.cnt,.slice y.A y.n y.c] 91))
   clear hy hp h1
   go_wp2_with fail
   go_ret3
   exact⟨none,0,[],rfl,SMem.nil_,Nat.le_refl _,by omega,rfl,G1.out,SOwn.nil _ _⟩
 . have KG:=hid (Get_is (c:=c) hm ha (getR_gt ht hk))
   have KC:=hid (hC ht hk)
   have ne:(e==0)=false:=beq_eq_false_iff_ne.2 he
   have nb:(e != 0)=true:=by simp [bne,ne]
   clear hm hC hk ht he
   go_enter Tryz.func190,Tryz.ntmps190
   go_wp2_with fail
   with_reducible refine KG.out.mono ?_
   rintro ee w1 ⟨y,rfl,hy,hp,h1⟩
   have G1:=hid (h1.al (.cells #[.int .i64 y.addr,.int .i64 y.cnt,.slice y.A y.n y.c] 91))
   have B1:=hid (Blk.new w1 #[.int .i64 y.addr,.int .i64 y.cnt,.slice y.A y.n y.c] 91)
   have KC1:=hid (KC.out _ y G1.out (hy.gr ((Gr.refl w1).al _)) hp)
   have hle:=h1.size
   have HY:Hid (0<y.n->∀ k,y.A.map (·.block)=some k->k<w1.heap.size):=hid λ hn k hk=>by
    obtain⟨b,off,e,hb,_⟩:=hy.2.2.1.2.2 hn
    rw [e] at hk;cases hk;exact hb
   clear hy hp h1 KC KG
   go_wp2_with fail
   with_reducible refine KC1.out.mono ?_
   rintro ee w2 ⟨z,rfl,hz,hzp,h2,hkin⟩
   have D:=B1.out.gr h2
   have G2:=G1.out.trans h2
   obtain⟨q0,z0⟩:=D.at_ (k:=0) rfl
   obtain⟨q1,z1⟩:=D.at_ (k:=1) rfl
   obtain⟨q2,z2⟩:=D.at_ (k:=2) rfl
   have GF:=hid (((G2.st (p:=⟨w1.heap.size,0,none⟩) hle (.int .i64 z.addr)).st (p:=⟨w1.heap.size,1,none⟩) hle (.int .i64 z.cnt)).st (p:=⟨w1.heap.size,2,none⟩) hle (.slice z.A z.n z.c))
   clear D G2 h2 hz hzp hkin KC1 G1 B1 hle
   go_wp2_with fail
   go_ret3
   exact⟨none,0,[],rfl,SMem.nil_,Nat.le_refl _,by omega,rfl,GF.out,SOwn.nil _ _⟩
 . have KG:=hid (Get_is (c:=c) hm ha (getR_gt ht hk))
   have KC:=hid (hC ht hk)
   have HS:=hid hS
   have HNC:=hid hnc
   have HCM:=hid hcm
   clear hm hC hk ht hS
   go_enter Tryz.func190,Tryz.ntmps190
   go_wp2_with fail
   with_reducible refine KG.out.mono ?_
   rintro ee w1 ⟨y,rfl,hy,hp,h1⟩
   have G1:=hid (h1.al (.cells #[.int .i64 y.addr,.int .i64 y.cnt,.slice y.A y.n y.c] 91))
   have B1:=hid (Blk.new w1 #[.int .i64 y.addr,.int .i64 y.cnt,.slice y.A y.n y.c] 91)
   have KC1:=hid (KC.out _ y G1.out (hy.gr ((Gr.refl w1).al _)) hp)
   have hle:=h1.size
   have HY:Hid (0<y.n->∀ k,y.A.map (·.block)=some k->k<w1.heap.size):=hid λ hn k hk=>by
    obtain⟨b,off,e,hb,_⟩:=hy.2.2.1.2.2 hn
    rw [e] at hk;cases hk;exact hb
   clear hy hp h1 KC KG
   go_wp2_with fail
   with_reducible refine KC1.out.mono ?_
   rintro ee w2 ⟨z,rfl,hz,hzp,h2,hkin⟩
   have D:=B1.out.gr h2
   have G2:=G1.out.trans h2
   obtain⟨q0,z0⟩:=D.at_ (k:=0) rfl
   obtain⟨q1,z1⟩:=D.at_ (k:=1) rfl
   obtain⟨q2,z2⟩:=D.at_ (k:=2) rfl
   have GF:=hid (((G2.st (p:=⟨w1.heap.size,0,none⟩) hle (.int .i64 z.addr)).st (p:=⟨w1.heap.size,1,none⟩) hle (.int .i64 z.cnt)).st (p:=⟨w1.heap.size,2,none⟩) hle (.slice z.A z.n z.c))
   have BF:=hid (spot_stored D rfl (.int .i64 z.addr) (.int .i64 z.cnt) (.slice z.A z.n z.c))
   have hne:z.n≠0->∀ k,z.A.map (·.block)=some k->k≠w1.heap.size:=λ hn k hk e=>by
    rcases hkin with ⟨e1,e2⟩ | h
    . rw [e1] at hk
      have:=HY.out (by omega) k hk
      omega
    . have:=h k hk
      simp only [World.size_alloc] at this
      omega
   have himem:∀ (W:World) (o:Nat) (u:Value),IMem W z.A z.n z.line->IMem (W.setCell ⟨w1.heap.size,o,none⟩ u) z.A z.n z.line:=λ W o u hi=>by
    by_cases h0:z.n=0
    . have hl:=hz.len
      rw [h0] at hl
      rw [h0,List.eq_nil_of_length_eq_zero hl]
      exact EMem.nil_
    . exact imem_kept hi (grownBy_cell W w1.heap.size o u) λ k hk _ e=>hne h0 k hk (by cases e;rfl)
   have hzi:=himem _ 2 (.slice z.A z.n z.c) (himem _ 1 (.int .i64 z.cnt) (himem _ 0 (.int .i64 z.addr) hz.2.2.1))
   obtain⟨X,hX⟩:∃ X,((w2.setCell ⟨w1.heap.size,0,none⟩ (.int .i64 z.addr)).setCell ⟨w1.heap.size,1,none⟩ (.int .i64 z.cnt)).setCell ⟨w1.heap.size,2,none⟩ (.slice z.A z.n z.c)=X:=⟨_,rfl⟩
   rw [hX] at GF BF hzi
   have hzX:z.ok X:=⟨hz.1,hz.2.1,hzi,hz.2.2.2⟩
   obtain⟨r0,y0⟩:=BF.out.at_ (k:=0) rfl
   obtain⟨r1,y1⟩:=BF.out.at_ (k:=1) rfl
   obtain⟨r2,y2⟩:=BF.out.at_ (k:=2) rfl
   have KS:=hid (Set_isO (HM.out.gr GF.out) HNC.out HCM.out hzX (setR_pl (s':=z) (by rw [sp_pl];exact hzp.symm) HS.out))
   have HXX:=hid hX
   have HSR:=HS.out
   clear D G2 h2 hz hzp hkin KC1 G1 B1 hle hne himem hzi hzX hX y0 y1 y2 HY HS
   go_upto_region 7 with fail
   rw [HXX.out]
   clear q0 z0 q1 z1 q2 z2 HXX
   rcases hcase with ⟨hne,rfl,rfl,rfl⟩ | ⟨rfl,rfl,rfl,rfl⟩
   . have ne:(e==0)=false:=beq_eq_false_iff_ne.2 hne
     have nb:(e != 0)=true:=by simp [bne,ne]
     clear hne HSR
     go_wp2_with fail
     with_reducible refine KS.out.mono ?_
     rintro ee w3 ⟨B,m,T,rfl,hT,hTm,hmx,hTp,h3,hso⟩
     have GG:=hid (GF.out.trans h3)
     clear hT hTm hmx hTp h3 hso
     go_wp2_with fail
     go_ret3
     exact⟨none,0,[],rfl,SMem.nil_,Nat.le_refl _,by omega,rfl,GG.out,SOwn.nil _ _⟩
   . clear HSR
     go_wp2_with fail
     with_reducible refine KS.out.mono ?_
     rintro ee w3 ⟨B,m,T,rfl,hT,hTm,hmx,hTp,h3,hso⟩
     have HSO:=hid (hso.low GF.out.size)
     have GG:=hid (GF.out.trans h3)
     have HT:=hid hT
     have HTM:=hid hTm
     have HMX:=hid hmx
     have HTP:=hid hTp
     clear hT hTm hmx hTp h3 hso
     generalize hN:T.length=N at *
     go_wp2_with fail
     go_ret3
     exact⟨B,m,T,by rw [hN];rfl,hN▸HT.out,hN▸HTM.out,HMX.out,HTP.out,GG.out,hN▸HSO.out⟩
end
end
section
open Go.ChangeShapes Go.WideShapes Go.ChangeAt Go.RowKit Go.Shelf
theorem coming_is (w:World) (who:Int) (first:Bool):Calls Tryz.prog 191 #[.int .i64 who,.bool first] w λ e w' =>
 e=.returned (.func (.func 214) #[] #[.pointer (some ⟨w.heap.size,0,none⟩),.pointer (some ⟨w.heap.size+1,0,none⟩)])/\w'=(w.alloc (.cells #[.int .i64 who] 3)).alloc (.cells #[.bool first] 4):=by
 have hmf:=mkF
 go_enter Tryz.func191,Tryz.ntmps191
 go_wp2_with fail
 go_ret
 exact⟨rfl,rfl⟩
section
variable {w:World} {A:Option Addr} {n c:Nat} {L:List SV} {a:Int}
theorem acq_aft {who:Int} {first:Bool} {Q:List (Int×Int×List Int)} {is:Bool} {e:Int} (h:AcqR L a who first Q is e) :
 ∃ s x1 e1 x,(Tab L->IsKey a->ComeR a (gt L a).1 (gt L a).2 who first s x1 e1)/\AftR L a s x1 e1 Q x e/\(is=true↔e=0/\x=who):=by
 rcases h with ⟨h,rfl,rfl,rfl⟩ | ⟨ht,hk,h0,h⟩
 . by_cases hb:Tab L/\IsKey a
   . have hw:who<0:=by
      rcases h with h | h | h
      . exact absurd hb.1 h
      . exact absurd hb.2 h
      . exact h
     exact⟨(0,0,[]),0,1,0,λ _ _=>.inl ⟨by decide,.inl ⟨.inl hw,rfl,rfl⟩,rfl,rfl⟩,.inr (.inl ⟨hb.2,hb.1,by decide,rfl,rfl,rfl⟩),by simp⟩
   . refine⟨(0,0,[]),0,1,0,λ h1 h2=>absurd ⟨h1,h2⟩ hb,.inl ⟨?_,rfl,rfl,rfl⟩,by simp⟩
     by_cases ht:Tab L
     . exact .inl λ hk=>hb ⟨ht,hk⟩
     . exact .inr ht
 . obtain⟨k1,k2,k3,k4⟩:=gt_cnt ht.2 hk
   rcases h with ⟨hm,rfl,rfl,rfl⟩ | ⟨hm,hc,rfl,rfl,rfl⟩ | ⟨hm,hc,hl,rfl,rfl,rfl⟩ | ⟨hm,hc,hl,hs,rfl,rfl,rfl⟩ | ⟨hm,hc,hl,hs,rfl,rfl,rfl⟩
   . exact⟨(0,0,[]),0,7,0,λ _ _=>.inl ⟨by decide,.inr (.inl ⟨h0,k3,hm,rfl,rfl⟩),rfl,rfl⟩,.inr (.inl ⟨hk,ht,by decide,rfl,rfl,rfl⟩),by simp⟩
   . have hl:(gt L a).2=[]:=k4.resolve_left (by omega)
     have hh:Has L a:=(gt_has ht.2).2 λ e=>by rw [e] at hc;simp at hc
     have hok:SOk (sp a ((gt L a).1-1) (gt L a).2):=⟨hk,by show 0<=(gt L a).1-1;omega,by show (gt L a).1-1<=2147483647;omega,k3,.inr hl⟩
     have h64:(setl L (sp a ((gt L a).1-1) (gt L a).2)).length<=64:=Nat.le_trans (setl_len ht.2 (.inl hh)) ht.1
     exact⟨(a,(gt L a).1-1,(gt L a).2),who,0,who,λ _ _=>.inr (.inl ⟨hc,⟨_,.inr (.inr (.inr ⟨h0,k3,hm,by rw [hl];decide,rfl,rfl⟩))⟩,rfl,rfl,rfl⟩),
      .inr (.inr ⟨hk,ht,rfl,_,0,.inr ⟨hok,ht,.inr ⟨h64,rfl,rfl⟩⟩,.inr ⟨rfl,rfl,rfl,rfl⟩⟩),by simp⟩
   . exact⟨(0,0,[]),0,5,0,λ _ _=>.inl ⟨by decide,.inr (.inr (.inl ⟨h0,k3,hm,hl,rfl,rfl⟩)),rfl,rfl⟩,.inr (.inl ⟨hk,ht,by decide,rfl,rfl,rfl⟩),by simp⟩
   . have hok:SOk (sp a 0 (psh first (gt L a).2 who)):=⟨hk,Int.le_refl _,(by decide:(0:Int)<=2147483647),psh_ok k3 h0 hm hl,.inl rfl⟩
     exact⟨(a,0,psh first (gt L a).2 who),-1,0,0,λ _ _=>.inr (.inr ⟨by omega,⟨_,.inr (.inr (.inr ⟨h0,k3,hm,hl,rfl,rfl⟩)),by rw [hc];rfl⟩,rfl,rfl⟩),
      .inr (.inr ⟨hk,ht,rfl,[],5,.inr ⟨hok,ht,.inl ⟨hs,rfl,rfl⟩⟩,.inl ⟨by decide,rfl,rfl,rfl⟩⟩),by simp⟩
   . have hok:SOk (sp a 0 (psh first (gt L a).2 who)):=⟨hk,Int.le_refl _,(by decide:(0:Int)<=2147483647),psh_ok k3 h0 hm hl,.inl rfl⟩
     exact⟨(a,0,psh first (gt L a).2 who),-1,0,-1,λ _ _=>.inr (.inr ⟨by omega,⟨_,.inr (.inr (.inr ⟨h0,k3,hm,hl,rfl,rfl⟩)),by rw [hc];rfl⟩,rfl,rfl⟩),
      .inr (.inr ⟨hk,ht,rfl,_,0,.inr ⟨hok,ht,.inr ⟨hs,rfl,rfl⟩⟩,.inr ⟨rfl,rfl,rfl,rfl⟩⟩),by simp;omega⟩
theorem rel_aft {Q:List (Int×Int×List Int)} {x e:Int} (h:RelR L a Q x e) :
 ∃ s x1 e1,(Tab L->IsKey a->GiveR a (gt L a).1 (gt L a).2 s x1 e1)/\AftR L a s x1 e1 Q x e:=by
 rcases h with ⟨h,rfl,rfl,rfl⟩ | ⟨ht,hk,h⟩
 . exact⟨(0,0,[]),0,1,λ h1 h2=>absurd h (by simp [h1,h2]),.inl ⟨h.symm,rfl,rfl,rfl⟩⟩
 . obtain⟨k1,k2,k3,k4⟩:=gt_cnt ht.2 hk
   rcases h with ⟨r,hl,rfl,rfl⟩ | ⟨hl,hc,rfl,rfl,rfl⟩ | ⟨hl,hc,hs,rfl,rfl,rfl⟩ | ⟨hl,hc,hs,rfl,rfl,rfl⟩
   . have hc:(gt L a).1=0:=k4.resolve_right (by rw [hl];simp)
     have hh:Has L a:=(gt_has ht.2).2 λ e=>by rw [e] at hl;simp at hl
     have hr:L7.Ln r:=by
      rw [hl] at k3
      exact⟨by have:=k3.1;simp at this;omega,(L7.good_cons.1 k3.2).2.2⟩
     have hok:SOk (sp a 0 r):=⟨hk,Int.le_refl _,(by decide:(0:Int)<=2147483647),hr,.inl rfl⟩
     have h64:(setl L (sp a 0 r)).length<=64:=Nat.le_trans (setl_len ht.2 (.inl hh)) ht.1
     exact⟨(a,0,r),x,0,λ _ _=>.inl ⟨r,hl,by rw [hc],rfl⟩,.inr (.inr ⟨hk,ht,rfl,_,0,.inr ⟨hok,ht,.inr ⟨h64,rfl,rfl⟩⟩,.inr ⟨rfl,rfl,rfl,rfl⟩⟩)⟩
   . exact⟨(0,0,[]),0,10,λ _ _=>.inr (.inl ⟨hl,hc,rfl,rfl,rfl⟩),.inr (.inl ⟨hk,ht,by decide,rfl,rfl,rfl⟩)⟩
   . have hok:SOk (sp a ((gt L a).1+1) []):=⟨hk,by show 0<=(gt L a).1+1;omega,by show (gt L a).1+1<=2147483647;omega,L7.Ln.nil,.inr rfl⟩
     exact⟨(a,(gt L a).1+1,[]),-1,0,λ _ _=>.inr (.inr ⟨hl,hc,rfl,rfl,rfl⟩),.inr (.inr ⟨hk,ht,rfl,[],5,.inr ⟨hok,ht,.inl ⟨hs,rfl,rfl⟩⟩,.inl ⟨by decide,rfl,rfl,rfl⟩⟩)⟩
   . have hok:SOk (sp a ((gt L a).1+1) []):=⟨hk,by show 0<=(gt L a).1+1;omega,by show (gt L a).1+1<=2147483647;omega,L7.Ln.nil,.inr rfl⟩
     exact⟨(a,(gt L a).1+1,[]),-1,0,λ _ _=>.inr (.inr ⟨hl,hc,rfl,rfl,rfl⟩),.inr (.inr ⟨hk,ht,rfl,_,0,.inr ⟨hok,ht,.inr ⟨hs,rfl,rfl⟩⟩,.inr ⟨rfl,rfl,rfl,rfl⟩⟩)⟩
theorem Acquire_is (hm:SMem w A n L) (hnc:n<=c) (hcm:c<=9223372036854775807) (ha:B64 a) {who:Int} (hw:B64 who) {first:Bool} {Q:List (Int×Int×List Int)} {is:Bool} {e:Int} (h:AcqR L a who first Q is e) :
 Calls Tryz.prog 150 #[.slice A n c,.int .i64 a,.int .i64 who,.bool first] w (Gave Q #[.bool is,.int .i64 e] w):=by
 obtain⟨s,x1,e1,x,hcome,haft,his⟩:=acq_aft h
 have g0:=((Gr.refl w).al (.cells #[.int .i64 who] 3)).al (.cells #[.bool first] 4)
 have B0:=(Blk.new w #[.int .i64 who] 3).al (.cells #[.bool first] 4)
 have B1:=Blk.new (w.alloc (.cells #[.int .i64 who] 3)) #[.bool first] 4
 simp only [World.size_alloc] at B1
 have KC:=hid (coming_is w who first)
 have KA:=hid (after_is (F:=214) (caps:=#[.pointer (some ⟨w.heap.size,0,none⟩),.pointer (some ⟨w.heap.size+1,0,none⟩)]) (enters_of Tryz.func214 (by kernel_rfl) rfl) (hm.gr g0) hnc hcm ha
  (λ ht hk W y hg hy hp=>by
    obtain⟨h1,h2,h3⟩:=(show y.addr=a/\y.cnt=(gt L a).1/\y.line=(gt L a).2 by simpa [SV.pl] using hp)
    have hc:=hcome ht hk
    rw [<- h2,<- h3,<- h1] at hc
    exact coming1_is hy.1 hy.2.1 hy.2.2.1 hy.2.2.2.1 hy.2.2.2.2 hw ((B0.gr hg).at_ (k:=0) rfl).1 ((B1.gr hg).at_ (k:=0) rfl).1 (B0.gr hg).lt (B1.gr hg).lt hc) haft)
 have G0:=hid g0
 clear hm hnc hcm ha hw h hcome haft g0 B0 B1
 have hdec:(e=0/\x=who/\is=true)\/(e=0/\(x==who)=false/\is=false)\/((e==0)=false/\is=false):=by
  by_cases he:e=0
  . by_cases hx:x=who
    . exact .inl ⟨he,hx,his.2 ⟨he,hx⟩⟩
    . exact .inr (.inl ⟨he,beq_eq_false_iff_ne.2 hx,by cases is;rfl;exact absurd (his.1 rfl).2 hx⟩)
  . exact .inr (.inr ⟨beq_eq_false_iff_ne.2 he,by cases is;rfl;exact absurd (his.1 rfl).1 he⟩)
 clear his
 rcases hdec with ⟨rfl,rfl,rfl⟩ | ⟨rfl,hx,rfl⟩ | ⟨he,rfl⟩
 all_goals (
  go_enter Tryz.func150,Tryz.ntmps150
  go_wp2_with fail
  with_reducible refine KC.out.mono ?_
  rintro ee w1 ⟨rfl,rfl⟩
  go_wp2_with fail
  with_reducible refine KA.out.mono ?_
  rintro ee w2 ⟨B,m,T,rfl,hT,hTm,hmx,hTp,h2,hso⟩
  have HSO:=hid (hso.low G0.out.size)
  have GG:=hid (G0.out.trans h2)
  have HT:=hid hT
  have HTM:=hid hTm
  have HMX:=hid hmx
  have HTP:=hid hTp
  clear hT hTm hmx hTp h2 hso
  generalize hN:T.length=N at *
  simp only [Array.append_assoc,List.append_toArray,List.cons_append,List.nil_append]
  go_wp2_with fail
  go_ret3
  exact⟨B,m,T,by rw [hN];rfl,hN▸HT.out,hN▸HTM.out,HMX.out,HTP.out,GG.out,hN▸HSO.out⟩)
theorem Release_is (hm:SMem w A n L) (hnc:n<=c) (hcm:c<=9223372036854775807) (ha:B64 a) {Q:List (Int×Int×List Int)} {x e:Int} (h:RelR L a Q x e) :
 Calls Tryz.prog 161 #[.slice A n c,.int .i64 a] w (Gave Q #[.int .i64 x,.int .i64 e] w):=by
 obtain⟨s,x1,e1,hgive,haft⟩:=rel_aft h
 have KA:=hid (after_is (F:=201) (caps:=#[]) (enters_of Tryz.func201 (by kernel_rfl) rfl) hm hnc hcm ha
  (λ ht hk W y hg hy hp=>by
    obtain⟨h1,h2,h3⟩:=(show y.addr=a/\y.cnt=(gt L a).1/\y.line=(gt L a).2 by simpa [SV.pl] using hp)
    have hc:=hgive ht hk
    obtain⟨k1,k2,k3,k4⟩:=gt_cnt ht.2 hk
    rw [<- h2,<- h3,<- h1] at hc
    rw [<- h2] at k1 k2
    rw [<- h3] at k3
    exact granted_is hy.1 k1 k2 hy.2.2.1 hy.2.2.2.1 hy.2.2.2.2 k3 hc) haft)
 clear hm hnc hcm ha h hgive haft
 go_enter Tryz.func161,Tryz.ntmps161
 go_wp2_with fail
 with_reducible refine KA.out.mono ?_
 rintro ee w2 ⟨B,m,T,rfl,hT,hTm,hmx,hTp,h2,hso⟩
 have HSO:=hid hso
 have GG:=hid h2
 have HT:=hid hT
 have HTM:=hid hTm
 have HMX:=hid hmx
 have HTP:=hid hTp
 clear hT hTm hmx hTp h2 hso
 generalize hN:T.length=N at *
 simp only [Array.append_assoc,List.append_toArray,List.cons_append,List.nil_append]
 go_wp2_with fail
 go_ret3
 exact⟨B,m,T,by rw [hN];rfl,hN▸HT.out,hN▸HTM.out,HMX.out,HTP.out,GG.out,hN▸HSO.out⟩
end
end
section
open Go.ChangeShapes Go.WideShapes Go.ChangeAt Go.RowKit
structure Stp (L:List SV) (a q:Int) (l:List Int) (T:List SV):Prop where
 tab:Tab T
 got:gt T a=(q,l)
 other:∀ b,b≠a->gt T b=gt L b
section
variable {L T:List SV} {a q who x e:Int} {l:List Int} {first is:Bool} {Q:List (Int×Int×List Int)}
theorem stp (ht:Tab L) (hs:SOk (sp a q l)) (h64:(setl L (sp a q l)).length<=64) (hp:T.map SV.pl=(setl L (sp a q l)).map SV.pl):Stp L a q l T:=by
 have hok:=setl_ok ht.2 hs
 refine⟨Tab.pl hp.symm ⟨h64,hok⟩,?_,λ b hb=>?_⟩
 . rw [<- gt_pl hok hp.symm];exact gt_set ht.2 hs
 . rw [<- gt_pl hok hp.symm];exact gt_other ht.2 hs hb
theorem AcqR.plain (h:AcqR L a who first (T.map SV.pl) is e) :
 (e≠0/\is=false/\T=[]/\(e=7↔(Tab L/\IsKey a/\0<=who/\who∈(gt L a).2))) \/
 (e=0/\Tab L/\IsKey a/\0<=who/\who ∉ (gt L a).2/\((0<(gt L a).1/\is=true/\Stp L a ((gt L a).1-1) (gt L a).2 T)\/((gt L a).1=0/\(gt L a).2.length<64/\is=false/\Stp L a 0 (psh first (gt L a).2 who) T))):=by
 rcases h with ⟨h,hT,rfl,rfl⟩ | ⟨ht,hk,h0,h⟩
 . refine .inl ⟨by decide,rfl,List.map_eq_nil_iff.1 hT,λ hc=>absurd hc (by decide),λ ⟨h1,h2,h3,_⟩=>?_⟩
   rcases h with h | h | h
   . exact absurd h1 h
   . exact absurd h2 h
   . omega
 . obtain⟨k1,k2,k3,k4⟩:=gt_cnt ht.2 hk
   rcases h with ⟨hm,hT,rfl,rfl⟩ | ⟨hm,hc,hT,rfl,rfl⟩ | ⟨hm,hc,hl,hT,rfl,rfl⟩ | ⟨hm,hc,hl,hs,hT,rfl,rfl⟩ | ⟨hm,hc,hl,hs,hT,rfl,rfl⟩
   . exact .inl ⟨by decide,rfl,List.map_eq_nil_iff.1 hT,λ _=>⟨ht,hk,h0,hm⟩,λ _=>rfl⟩
   . have hh:Has L a:=(gt_has ht.2).2 λ e=>by rw [e] at hc;simp at hc
     have hok:SOk (sp a ((gt L a).1-1) (gt L a).2):=⟨hk,by show 0<=(gt L a).1-1;omega,by show (gt L a).1-1<=2147483647;omega,k3,.inr (k4.resolve_left (by omega))⟩
     exact .inr ⟨rfl,ht,hk,h0,hm,.inl ⟨hc,rfl,stp ht hok (Nat.le_trans (setl_len ht.2 (.inl hh)) ht.1) hT⟩⟩
   . exact .inl ⟨by decide,rfl,List.map_eq_nil_iff.1 hT,λ hc=>absurd hc (by decide),λ ⟨_,_,_,h⟩=>absurd h hm⟩
   . exact .inl ⟨by decide,rfl,List.map_eq_nil_iff.1 hT,λ hc=>absurd hc (by decide),λ ⟨_,_,_,h⟩=>absurd h hm⟩
   . have hok:SOk (sp a 0 (psh first (gt L a).2 who)):=⟨hk,Int.le_refl _,(by decide:(0:Int)<=2147483647),psh_ok k3 h0 hm hl,.inl rfl⟩
     exact .inr ⟨rfl,ht,hk,h0,hm,.inr ⟨hc,hl,rfl,stp ht hok hs hT⟩⟩
theorem RelR.plain (h:RelR L a (T.map SV.pl) x e) :
 (e≠0/\x=0/\T=[]) \/
 (e=0/\Tab L/\IsKey a/\((∃ r,(gt L a).1=0/\(gt L a).2=x::r/\Stp L a 0 r T)\/((gt L a).2=[]/\(gt L a).1<2147483647/\x=-1/\Stp L a ((gt L a).1+1) [] T))):=by
 rcases h with ⟨h,hT,rfl,rfl⟩ | ⟨ht,hk,h⟩
 . exact .inl ⟨by decide,rfl,List.map_eq_nil_iff.1 hT⟩
 . obtain⟨k1,k2,k3,k4⟩:=gt_cnt ht.2 hk
   rcases h with ⟨r,hl,hT,rfl⟩ | ⟨hl,hc,hT,rfl,rfl⟩ | ⟨hl,hc,hs,hT,rfl,rfl⟩ | ⟨hl,hc,hs,hT,rfl,rfl⟩
   . have hh:Has L a:=(gt_has ht.2).2 λ e=>by rw [e] at hl;simp at hl
     have hr:L7.Ln r:=by
      rw [hl] at k3
      exact⟨by have:=k3.1;simp at this;omega,(L7.good_cons.1 k3.2).2.2⟩
     have hok:SOk (sp a 0 r):=⟨hk,Int.le_refl _,(by decide:(0:Int)<=2147483647),hr,.inl rfl⟩
     exact .inr ⟨rfl,ht,hk,.inl ⟨r,k4.resolve_right (by rw [hl];simp),hl,stp ht hok (Nat.le_trans (setl_len ht.2 (.inl hh)) ht.1) hT⟩⟩
   . exact .inl ⟨by decide,rfl,List.map_eq_nil_iff.1 hT⟩
   . exact .inl ⟨by decide,rfl,List.map_eq_nil_iff.1 hT⟩
   . have hok:SOk (sp a ((gt L a).1+1) []):=⟨hk,by show 0<=(gt L a).1+1;omega,by show (gt L a).1+1<=2147483647;omega,L7.Ln.nil,.inr rfl⟩
     exact .inr ⟨rfl,ht,hk,.inr ⟨hl,hc,rfl,stp ht hok hs hT⟩⟩
theorem AcqR.must (h:AcqR L a who first (T.map SV.pl) is e) (ht:Tab L) (hk:IsKey a) (h0:0<=who) (hn:who ∉ (gt L a).2) (hl:(gt L a).2.length<64) (hroom:Has L a\/L.length<64):e=0:=by
 rcases h with ⟨h,_⟩ | ⟨_,_,_,h⟩
 . rcases h with h | h | h
   . exact absurd ht h
   . exact absurd hk h
   . omega
 . rcases h with ⟨hm,_⟩ | ⟨_,_,_,_,h⟩ | ⟨_,_,h64,_⟩ | ⟨_,_,_,hs,_⟩ | ⟨_,_,_,_,_,_,h⟩
   . exact absurd hm hn
   . exact h
   . omega
   . exfalso
     rcases hroom with hh | hlt
     . have:=setl_len (s:=sp a 0 (psh first (gt L a).2 who)) ht.2 (.inl hh)
       have:=ht.1
       omega
     . have:=setl_more (s:=sp a 0 (psh first (gt L a).2 who)) ht.2
       omega
   . exact h
theorem RelR.must (h:RelR L a (T.map SV.pl) x e) (ht:Tab L) (hk:IsKey a) (hc:(gt L a).1<2147483647) (hroom:Has L a\/L.length<64):e=0:=by
 rcases h with ⟨h,_⟩ | ⟨_,_,h⟩
 . rcases h with h | h
   . exact absurd ht h
   . exact absurd hk h
 . rcases h with ⟨_,_,_,h⟩ | ⟨_,hc',_⟩ | ⟨_,_,hs,_⟩ | ⟨_,_,_,_,_,h⟩
   . exact h
   . omega
   . exfalso
     rcases hroom with hh | hlt
     . have:=setl_len (s:=sp a ((gt L a).1+1) []) ht.2 (.inl hh)
       have:=ht.1
       omega
     . have:=setl_more (s:=sp a ((gt L a).1+1) []) ht.2
       omega
   . exact h
end
end
section
open Go.ChangeShapes Go.WideShapes Go.ChangeAt Go.RowKit
section
variable {w:World} {A:Option Addr} {n c:Nat} {L:List SV} {a who:Int} {first:Bool}
theorem Acquire_own (hm:SMem w A n L) (hnc:n<=c) (hcm:c<=9223372036854775807) (ha:B64 a) (hw:B64 who) :
 Calls Tryz.prog 150 #[.slice A n c,.int .i64 a,.int .i64 who,.bool first] w λ ee w'=>∃ B m N is e,ee=.returned (.tuple #[.slice B N m,.bool is,.int .i64 e]) /\
  ∃ T:List SV,T.length=N/\SMem w' B N T/\N<=m/\m<=9223372036854775807/\AcqR L a who first (T.map SV.pl) is e/\Gr w w'/\SOwn w' w.heap.size (.slice B N m) T:=by
 obtain⟨Q,is,e,h⟩:=AcqR.any L a who first
 refine (Acquire_is hm hnc hcm ha hw h).mono ?_
 rintro ee w' ⟨B,m,T,rfl,h1,h2,h3,h4,h5,h6⟩
 exact⟨B,m,T.length,is,e,rfl,T,rfl,h1,h2,h3,h4▸h,h5,h6⟩
theorem Release_own (hm:SMem w A n L) (hnc:n<=c) (hcm:c<=9223372036854775807) (ha:B64 a) :
 Calls Tryz.prog 161 #[.slice A n c,.int .i64 a] w λ ee w'=>∃ B m N x e,ee=.returned (.tuple #[.slice B N m,.int .i64 x,.int .i64 e]) /\
  ∃ T:List SV,T.length=N/\SMem w' B N T/\N<=m/\m<=9223372036854775807/\RelR L a (T.map SV.pl) x e/\Gr w w'/\SOwn w' w.heap.size (.slice B N m) T:=by
 obtain⟨Q,x,e,h⟩:=RelR.any L a
 refine (Release_is hm hnc hcm ha h).mono ?_
 rintro ee w' ⟨B,m,T,rfl,h1,h2,h3,h4,h5,h6⟩
 exact⟨B,m,T.length,x,e,rfl,T,rfl,h1,h2,h3,h4▸h,h5,h6⟩
end
end
section
open Go.ChangeShapes Go.WideShapes Go.ChangeAt Go.RowKit Go.Shelf
namespace P16
theorem imem_at {W W':World} {A:Option Addr} {n:Nat} {l:List Int} (h:IMem W A n l) (hs:W.heap.size<=W'.heap.size) (hk:∀ k,A.map (·.block)=some k->k<W.heap.size->W'.heap[k]?=W.heap[k]?):IMem W' A n l :=
 ⟨h.1,h.2.1,λ hn=>by
   obtain⟨b,off,rfl,hb,hc⟩:=h.2.2 hn
   refine⟨b,off,rfl,Nat.lt_of_lt_of_le hb hs,λ j x hj=>?_⟩
   exact (World.cell?_of_block (a:=⟨b,off+j,none⟩) (hk b rfl hb)).trans (hc j x hj)⟩
theorem smem_at {W W':World} {A:Option Addr} {n:Nat} {L:List SV} (hm:SMem W A n L) (hs:W.heap.size<=W'.heap.size)
 (h1:0<n->∀ k,A.map (·.block)=some k->k<W.heap.size->W'.heap[k]?=W.heap[k]?) (h2:∀ x∈L,∀ k,x.A.map (·.block)=some k->k<W.heap.size->W'.heap[k]?=W.heap[k]?):SMem W' A n L:=by
 refine⟨hm.1,λ x hx=>?_,λ hn=>?_⟩
 . obtain⟨a1,a2,a3,a4⟩:=hm.2.1 x hx
   exact⟨a1,a2,imem_at a3 hs (h2 x hx),a4⟩
 . obtain⟨b,off,rfl,hlt,hc⟩:=hm.2.2 hn
   refine⟨b,off,rfl,Nat.lt_of_lt_of_le hlt hs,λ j x hj=>?_⟩
   have e:=h1 hn b rfl hlt
   rw [World.cell?_of_block (a:=⟨b,off+j*3,none⟩) e,World.cell?_of_block (a:=⟨b,off+j*3+1,none⟩) e,World.cell?_of_block (a:=⟨b,off+j*3+2,none⟩) e]
   exact hc j x hj
theorem sown_kb {x:Cx} {W:World} {base m:Nat} {B:Option Addr} {T:List SV} (h:SOwn W base (.slice B T.length m) T) (hb:x.B<=base) (h1:x.b<base) (h2:x.bc<base) (h3:x.bm<base) :
 ∀ W',Kb x W W'->∃ S,SMem W' B T.length S/\S.map SV.pl=T.map SV.pl:=by
 intro W' k
 obtain⟨B',m',e,hm,_,_⟩:=h.mem
 cases e
 refine⟨T,smem_at hm k.1 (λ hn g hg hlt=>?_) (λ y hy g hg hlt=>?_),rfl⟩
 . have:base<=g:=by
    rcases h.row.2 with ⟨e1,_⟩ | ⟨g',cap,cur,e1,q1,_⟩
    . injection e1 with e1;subst e1;cases hg
    . injection e1 with e1;subst e1;simp only [Option.map_some,Option.some.injEq] at hg;omega
   exact k.2 g (by omega) hlt (by omega) (by omega) (by omega)
 . have:=(h.off y hy g hg).1
   exact k.2 g (by omega) hlt (by omega) (by omega) (by omega)
section
variable {L T:List SV} {tb:List Sp} {m:Nat} {l:List Int} {who x e:Int} {first is:Bool}
theorem svs_of (h:L.map SV.pl=tb):L.map SV.pl=(svs tb).map SV.pl:=by rw [svs_pl];exact h
theorem gtA_of (ht:Tab L) (h:L.map SV.pl=tb) (j:Nat):gt L (8*(j:Int))=gtA tb j:=gt_pl ht.2 (svs_of h) _
theorem tabA_of (ht:Tab L) (ha:∀ y∈L,∃ m:Nat,m<4/\y.addr=8*(m:Int)):TabA (L.map SV.pl) :=
 ⟨Tab.pl (svs_of rfl) ht,λ s hs=>by obtain⟨y,hy,rfl⟩:=List.mem_map.1 hs;exact ha y hy⟩
theorem tabA_to (ht:TabA tb) (h:L.map SV.pl=tb):Tab L/\∀ y∈L,∃ m:Nat,m<4/\y.addr=8*(m:Int) :=
 ⟨Tab.pl (svs_of h).symm ht.1,λ y hy=>ht.2 _ (by rw [<- h];exact List.mem_map.2 ⟨y,hy,rfl⟩)⟩
theorem few_spots (ht:Tab L) (ha:∀ y∈L,∃ m:Nat,m<4/\y.addr=8*(m:Int)):L.length<=4:=by
 have hnd:(L.map SV.addr).Nodup:=by
  rw [List.Nodup,List.pairwise_map]
  exact ht.2.2.imp λ h e=>by rw [e] at h;exact h.irrefl
 have hsub:L.map SV.addr ⊆ [0,8,16,24]:=by
  intro z hz
  obtain⟨y,hy,rfl⟩:=List.mem_map.1 hz
  obtain⟨m,hm,e⟩:=ha y hy
  rw [e]
  have:m=0\/m=1\/m=2\/m=3:=by omega
  rcases this with rfl | rfl | rfl | rfl<;>simp
 have:=hnd.length_le_of_subset hsub
 rwa [List.length_map] at this
theorem key8 (hm:m<4):IsKey (8*(m:Int)):=by unfold IsKey;omega
theorem stp_tabA (hs:Stp L (8*(m:Int)) e l T) (hm:m<4) (ht:Tab L) (ha:∀ y∈L,∃ m:Nat,m<4/\y.addr=8*(m:Int)):TabA (T.map SV.pl):=by
 refine tabA_of hs.tab λ y hy=>?_
 by_cases e:y.addr=8*(m:Int)
 . exact⟨m,hm,e⟩
 . have h1:Has T y.addr:=⟨y,hy,rfl⟩
   have h2:=(gt_has hs.tab.2).1 h1
   rw [hs.other _ e] at h2
   obtain⟨z,hz,e2⟩:=(gt_has ht.2).2 h2
   obtain⟨j,hj,e3⟩:=ha z hz
   exact⟨j,hj,by rw [<- e2,e3]⟩
theorem stp_other (hs:Stp L (8*(m:Int)) e l T) (ht:Tab L) (h:L.map SV.pl=tb) (j:Nat) (hj:j≠m):gtA (T.map SV.pl) j=gtA tb j:=by
 rw [<- gtA_of ht h,<- gtA_of hs.tab rfl]
 exact hs.other _ (by omega)
theorem stp_got (hs:Stp L (8*(m:Int)) e l T):gtA (T.map SV.pl) m=(e,l):=by
 rw [<- gtA_of hs.tab rfl]
 exact hs.got
theorem ask_cases (ht:TabA tb) (hL:L.map SV.pl=tb) (hm:m<4) (h0:0<=who) (h:AcqR L (8*(m:Int)) who first (T.map SV.pl) is e) :
 (e≠0/\is=false/\(who∈(gtA tb m).2\/(¬ 0<(gtA tb m).1/\64<=(gtA tb m).2.length))) \/
 (e=0/\who ∉ (gtA tb m).2/\TabA (T.map SV.pl)/\(∀ j,j≠m->gtA (T.map SV.pl) j=gtA tb j) /\
   ((0<(gtA tb m).1/\is=true/\gtA (T.map SV.pl) m=((gtA tb m).1-1,(gtA tb m).2))\/(¬ 0<(gtA tb m).1/\(gtA tb m).1=0/\(gtA tb m).2.length<64/\is=false/\gtA (T.map SV.pl) m=(0,psh first (gtA tb m).2 who)))):=by
 obtain⟨hT,ha⟩:=tabA_to ht hL
 have hg:=gtA_of hT hL m
 have hk:=gt_cnt hT.2 (key8 hm)
 rw [hg] at hk
 rcases h.plain with ⟨h1,h2,_,_⟩ | ⟨h1,_,_,_,h2,h3⟩
 . refine .inl ⟨h1,h2,?_⟩
   by_cases hw:who∈(gtA tb m).2
   . exact .inl hw
   . right
     refine Classical.byContradiction λ hh=>?_
     have hl:(gt L (8*(m:Int))).2.length<64:=by
      rw [hg]
      by_cases hc:0<(gtA tb m).1
      . rcases hk.2.2.2 with q | q
        . omega
        . rw [q];decide
      . exact Nat.lt_of_not_le λ q=>hh ⟨hc,q⟩
     exact h1 (h.must hT (key8 hm) h0 (by rw [hg];exact hw) hl (.inr (by have:=few_spots hT ha;omega)))
 . rw [hg] at h2 h3
   refine .inr ⟨h1,h2,?_⟩
   rcases h3 with ⟨q1,q2,q3⟩ | ⟨q1,q2,q3,q4⟩
   . exact⟨stp_tabA q3 hm hT ha,stp_other q3 hT hL,.inl ⟨q1,q2,stp_got q3⟩⟩
   . exact⟨stp_tabA q4 hm hT ha,stp_other q4 hT hL,.inr ⟨by omega,q1,q2,q3,stp_got q4⟩⟩
theorem rel_cases (ht:TabA tb) (hL:L.map SV.pl=tb) (hm:m<4) (h:RelR L (8*(m:Int)) (T.map SV.pl) x e) :
 (e≠0/\(gtA tb m).2=[]/\(gtA tb m).1=2147483647) \/
 (e=0/\TabA (T.map SV.pl)/\(∀ j,j≠m->gtA (T.map SV.pl) j=gtA tb j) /\
   ((∃ r,(gtA tb m).1=0/\(gtA tb m).2=x::r/\gtA (T.map SV.pl) m=(0,r))\/((gtA tb m).2=[]/\(gtA tb m).1≠2147483647/\x=-1/\gtA (T.map SV.pl) m=((gtA tb m).1+1,[])))):=by
 obtain⟨hT,ha⟩:=tabA_to ht hL
 have hg:=gtA_of hT hL m
 have hk:=gt_cnt hT.2 (key8 hm)
 rw [hg] at hk
 have hp:=h.plain
 rcases hp with ⟨h1,_,_⟩ | ⟨h1,_,_,h3⟩
 . left
   have hc:¬ (gt L (8*(m:Int))).1<2147483647:=λ hc=>h1 (h.must hT (key8 hm) hc (.inr (by have:=few_spots hT ha;omega)))
   rw [hg] at hc
   have hmax:(gtA tb m).1=2147483647:=by omega
   exact⟨h1,hk.2.2.2.resolve_left (by omega),hmax⟩
 . rw [hg] at h3
   refine .inr ⟨h1,?_⟩
   rcases h3 with ⟨r,q1,q2,q3⟩ | ⟨q1,q2,q3,q4⟩
   . exact⟨stp_tabA q3 hm hT ha,stp_other q3 hT hL,.inl ⟨r,q1,q2,stp_got q3⟩⟩
   . exact⟨stp_tabA q4 hm hT ha,stp_other q4 hT hL,.inr ⟨q1,by omega,q3,stp_got q4⟩⟩
end
end P16
end
end Go.Proofs.YtainfijdhcehlaaGreatDoor
