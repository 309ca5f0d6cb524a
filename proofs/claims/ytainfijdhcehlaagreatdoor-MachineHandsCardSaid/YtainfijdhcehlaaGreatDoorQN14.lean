/-
  A part of the proof.
-/
import Derived.Test.YtainfijdhcehlaaGreatDoorQN13
import Derived.Defers
import Derived.FnLit
set_option linter.all false
set_option maxRecDepth 100000
set_option maxHeartbeats 8000000
namespace Go.Proofs.YtainfijdhcehlaaGreatDoor
open Lib (hid)
section
open Go.ChangeShapes Go.WideShapes Go.ChangeAt Go.RowKit Go.Shelf
namespace P16
open P14 (pan)
open P12 (PV PMem)
theorem Ko.kx {x:Cx} {W W':World} (h:Ko x.bc W W'):Kx x W W':=⟨h.os,h.tape,h.output,h.size,λ k hk _ h2 _=>h.block k hk h2⟩
theorem first_cb {c:Cl} {act:Int} {n:Nat} (h:CB c) (ha:B64 act):CB (first c.gst c.permit act n):=by
 unfold first
 refine⟨?_,ha,b64_0,b64_0,b64_0,(show B64 (-1) from ⟨by omega,by omega⟩),b64_0,b64_0⟩
 dsimp only
 split
 . exact⟨by omega,by omega⟩
 . exact h.gst
section
variable {x:Cx} {W W':World} {T E:Sl} {cl cl':List Cl} {mx:List T3} {tb:List Sp} {ev:List T3} {c:Cl} {a:T3} {pr:List Ac}
theorem TS.ko (h:TS x W T E cl mx tb ev) (k:Ko x.bc W W') (o:ORow clV 13 W' x.bc x.oc cl') (hl:cl'.length=cl.length) (hb:∀ c∈cl',CB c):TS x W' T E cl' mx tb ev :=
 { h with t:=by unfold Blk;rw [k.block x.b h.t.lt h.n1];exact h.t,c:=o,m:=h.m.kept (k.block x.bm h.m.lt h.n3.symm),cb:=hb,lenc:=hl.trans h.lenc,pr:=λ _ q=>h.pr _ (k.kx.kb.trans q),tb:=λ _ q=>h.tb _ (k.kx.kb.trans q),ev:=λ _ q=>h.ev _ (k.kx.kb.trans q) }
structure Rn (x:Cx) (cl:List Cl) (c:Cl) (pr:List Ac):Prop where
 hc:cl[x.who.toNat]?=some c
 g0:c.gst=0
 rg:P11.rightB (cl.map gor)=true
 hp:x.progs[x.who.toNat]?=some pr
 pl:pr.length<=64
 a0:0<=c.act
 a1:c.act<pr.length
 np:x.p.n=x.nc
 nc:x.nc<=8
theorem Rn.set (h:Rn x cl c pr) {d:Cl} (hg:gor d=gor c) (ha:d.act=c.act):Rn x (cl.set x.who.toNat d) d pr :=
 { h with hc:=by rw [List.getElem?_set_self (List.getElem?_eq_some_iff.1 h.hc).1],g0:=(congrArg Prod.fst hg).trans h.g0,rg:=by rw [map_gor_set h.hc hg];exact h.rg,a0:=by rw [ha];exact h.a0,a1:=by rw [ha];exact h.a1 }
theorem over_is (h:TS x W T E cl mx tb ev) (hR:Rn x cl c pr) :
 Calls Tryz.prog 131 #[.pointer (some ⟨x.b,0,none⟩)] W λ e W'=>e=.returned (.tuple #[])/\TS x W' T E (cl.set x.who.toNat (over c pr.length)) mx tb ev/\Kx x W W':=by
 have hc:=hR.hc
 have h1:=h.gr (Gr.refl W).dr
 obtain⟨A,c1,c2,-⟩:=h1.cells
 have ew:wrap64 (c.act+1)=c.act+1:=by have:=hR.a0;have:=hR.a1;have:=hR.pl;unfold wrap64;omega
 have ew2:IntKind.i64.wrap (c.act+1)=c.act+1:=by rw [IntWalk.i64_left];exact ew
 have hb:=hid (begin_is (who:=x.who) (act:=c.act+1) c1 c2 h1.n1 h1.c h1.lenc (by have:=hR.nc;omega) h1.cb h1.w0 h1.w1 hc (λ W' k=>h1.pr W' k.kx.kb) hR.np hR.hp (by have:=hR.pl;omega) (by have:=hR.a0;have:=hR.a1;have:=hR.pl;exact⟨by omega,by omega⟩) hR.g0 hR.rg)
 have hcb:=hid (show CB (over c pr.length) from first_cb (h.cb c (List.mem_of_getElem? hc)) (by have:=hR.a0;have:=hR.a1;have:=hR.pl;exact⟨by omega,by omega⟩))
 have H:=hid h
 obtain⟨-,-,-,-,-,-,c6,c7,-,-,-,-⟩:=h.cells
 obtain⟨-,-,s2,-⟩:=h.cl_ hc
 clear h h1 A c1 c2
 go_enter Tryz.func131,Tryz.ntmps131
 go_upto_region 0 with fail
 refine wp_region_held_drew (S:=(λ w'=>w'.cell? ⟨x.b,6,none⟩=some (.int .i64 x.who)/\w'.cell? ⟨x.b,7,none⟩=some (.pointer (some ⟨x.bc,x.oc+x.who.toNat*13,none⟩)))) (by kernel_rfl) ⟨c6,c7⟩ (λ hS=>?_)
 refine wG 0 hS ?_
 refine wG 1 hS ?_
 refine wG 2 hS ?_
 refine wG 3 hS ?_
 refine wG 4 hS ?_
 refine wG 5 hS ?_
 refine wG 6 hS ?_
 refine wG 7 hS ?_
 refine wG 8 hS ?_
 refine wG 9 hS ?_
 refine wG 10 hS ?_
 refine wG 11 hS ?_
 refine wG 12 hS ?_
 refine wR1 13 (λ K hK=>?_)
 go_simp
 refine hK.out _ _ ⟨c6,c7⟩ (λ hS=>?_)
 clear hK K
 try simp only [pL]
 refine wG 14 hS ?_
 refine wR1 15 (λ K hK=>?_)
 go_simp;go_at_call 36;with_reducible refine hb.out.mono ?_;rintro ee w2 ⟨rfl,o2,k2⟩;go_wp2_with fail
 have h2:=(H.out.gr (Gr.refl W).dr).ko k2 o2 (List.length_set ..) (λ d hd=>(List.mem_or_eq_of_mem_set hd).elim (H.out.cb d) (λ e=>e▸hcb.out))
 obtain⟨-,-,-,-,-,-,d6,d7,-,-,-,-⟩:=h2.cells
 refine hK.out _ _ ⟨d6,d7⟩ (λ hS=>?_)
 clear hK K
 try simp only [pL]
 refine wpAnyH_done (by kernel_rfl) ?_ _
 go_wp2_with fail
 go_end0
 exact⟨rfl,h2,(Kx.gr (Gr.refl W).dr).trans k2.kx⟩
theorem ends_is (h:TS x W T ⟨none,0,0⟩ cl mx tb []) (hR:Rn x cl c pr) {v:Int} (hv:B64 v) :
 Calls Tryz.prog 134 #[.pointer (some ⟨x.b,0,none⟩),.int .i64 v] W λ e W'=>e=.returned (.tuple #[])/\(∃ E,TS x W' T E (cl.set x.who.toNat (over c pr.length)) mx tb [(x.who,v,x.n)])/\Kx x W W':=by
 have ht:=hid (tell_is h v hv)
 clear h
 go_enter Tryz.func134,Tryz.ntmps134
 go_wp2_with fail
 with_reducible refine ht.out.mono ?_
 rintro e w1 ⟨rfl,⟨E1,h1⟩,k1⟩
 have ho:=hid (over_is h1 hR)
 have K1:=hid k1
 clear h1 k1
 go_wp2_with fail
 with_reducible refine ho.out.mono ?_
 rintro e w2 ⟨rfl,h2,k2⟩
 have H2:=hid h2
 have K2:=hid k2
 clear h2 k2
 go_wp2_with fail
 go_end0
 exact⟨rfl,⟨E1,H2.out⟩,K1.out.trans K2.out⟩
end
end P16
end
section
open Go.ChangeShapes Go.WideShapes Go.ChangeAt Go.RowKit
def wd (k v:Int):Int:=if k=0 then wrap32 v else if k=1 then v % 4294967296 else v
theorem shapeOf_0 (w:World):Calls Tryz.prog 166 #[.int .i64 0] w λ e w'=>e=.returned (.agg #[.int .i64 32,.bool true])/\Gr w w':=by
 go_enter Tryz.func166,Tryz.ntmps166
 go_wp2
 exact bodyPost_ret (v:=.agg #[.int .i64 32,.bool true]) (by simp [results,Tryz.results166,go_sem]) rfl ⟨rfl,((Gr.refl _).al _).al _⟩
theorem shapeOf_1 (w:World):Calls Tryz.prog 166 #[.int .i64 1] w λ e w'=>e=.returned (.agg #[.int .i64 32,.bool false])/\Gr w w':=by
 go_enter Tryz.func166,Tryz.ntmps166
 go_wp2
 exact bodyPost_ret (v:=.agg #[.int .i64 32,.bool false]) (by simp [results,Tryz.results166,go_sem]) rfl ⟨rfl,((Gr.refl _).al _).al _⟩
theorem shapeOf_2 (w:World):Calls Tryz.prog 166 #[.int .i64 2] w λ e w'=>e=.returned (.agg #[.int .i64 64,.bool true])/\Gr w w':=by
 go_enter Tryz.func166,Tryz.ntmps166
 go_wp2
 exact bodyPost_ret (v:=.agg #[.int .i64 64,.bool true]) (by simp [results,Tryz.results166,go_sem]) rfl ⟨rfl,((Gr.refl _).al _).al _⟩
theorem shapeOf_no (k:Int) (w:World) (hk:k<0\/2<k):Calls Tryz.prog 166 #[.int .i64 k] w λ e w'=>e=.returned (.agg #[.int .i64 0,.bool false])/\Gr w w':=by
 have h0:(k==0)=false:=beq_eq_false_iff_ne.2 (by omega)
 have h1:(k==1)=false:=beq_eq_false_iff_ne.2 (by omega)
 have h2:(k==2)=false:=beq_eq_false_iff_ne.2 (by omega)
 clear hk
 go_enter Tryz.func166,Tryz.ntmps166
 go_wp2
 exact bodyPost_ret (v:=.agg #[.int .i64 0,.bool false]) (by simp [results,Tryz.results166,go_sem]) rfl ⟨rfl,((Gr.refl _).al _).al _⟩
theorem wrapA (v:Int):wrap64 (v*4294967296) / 4294967296=wrap32 v:=by unfold wrap64 wrap32;omega
theorem wrapB (v:Int):wrap64 (IntKind.u64.wrap (IntKind.u64.wrap v*4294967296) / 4294967296)=v % 4294967296:=by
 simp only [IntKind.wrap_u64,wrap64];omega
theorem ret_i64 {a b:Int} (h:a=b):Ending.returned (.int .i64 a)=.returned (.int .i64 b):=by rw [h]
theorem swrap_0 (v:Int) (w:World):Calls Tryz.prog 167 #[.agg #[.int .i64 32,.bool true],.int .i64 v] w λ e w'=>e=.returned (.int .i64 (wd 0 v))/\Gr w w':=by
 go_enter Tryz.func167,Tryz.ntmps167
 go_wp2
 go_ret
 exact⟨ret_i64 (wrapA v),(Gr.refl _).al _⟩
theorem swrap_1 (v:Int) (w:World):Calls Tryz.prog 167 #[.agg #[.int .i64 32,.bool false],.int .i64 v] w λ e w'=>e=.returned (.int .i64 (wd 1 v))/\Gr w w':=by
 go_enter Tryz.func167,Tryz.ntmps167
 go_wp2
 go_ret
 exact⟨ret_i64 (wrapB v),(Gr.refl _).al _⟩
theorem swrap_2 (v:Int) (w:World) (h1:-9223372036854775808<=v) (h2:v<=9223372036854775807):Calls Tryz.prog 167 #[.agg #[.int .i64 64,.bool true],.int .i64 v] w λ e w'=>e=.returned (.int .i64 (wd 2 v))/\Gr w w':=by
 go_enter Tryz.func167,Tryz.ntmps167
 go_wp2
 go_ret
 exact⟨ret_i64 (by simp [wd]),(Gr.refl _).al _⟩
theorem Wrap_0 (v:Int) (w:World):Calls Tryz.prog 219 #[.int .i64 0,.int .i64 v] w λ e w'=>e=.returned (.tuple #[.int .i64 (wd 0 v),.int .i64 0])/\Gr w w':=by
 go_enter Tryz.func219,Tryz.ntmps219
 go_wp2_with fail
 refine (shapeOf_0 _).mono ?_
 rintro e w1 ⟨rfl,hb1⟩
 go_wp2_with fail
 refine (swrap_0 v _).mono ?_
 rintro e w2 ⟨rfl,hb2⟩
 go_wp2_with fail
 go_ret2
 exact⟨rfl,(hb1.al _).trans hb2⟩
theorem Wrap_1 (v:Int) (w:World):Calls Tryz.prog 219 #[.int .i64 1,.int .i64 v] w λ e w'=>e=.returned (.tuple #[.int .i64 (wd 1 v),.int .i64 0])/\Gr w w':=by
 go_enter Tryz.func219,Tryz.ntmps219
 go_wp2_with fail
 refine (shapeOf_1 _).mono ?_
 rintro e w1 ⟨rfl,hb1⟩
 go_wp2_with fail
 refine (swrap_1 v _).mono ?_
 rintro e w2 ⟨rfl,hb2⟩
 go_wp2_with fail
 go_ret2
 exact⟨rfl,(hb1.al _).trans hb2⟩
theorem Wrap_2 (v:Int) (w:World) (h1:-9223372036854775808<=v) (h2:v<=9223372036854775807):Calls Tryz.prog 219 #[.int .i64 2,.int .i64 v] w λ e w'=>e=.returned (.tuple #[.int .i64 (wd 2 v),.int .i64 0])/\Gr w w':=by
 go_enter Tryz.func219,Tryz.ntmps219
 go_wp2_with fail
 refine (shapeOf_2 _).mono ?_
 rintro e w1 ⟨rfl,hb1⟩
 go_wp2_with fail
 refine (swrap_2 v _ h1 h2).mono ?_
 rintro e w2 ⟨rfl,hb2⟩
 go_wp2_with fail
 go_ret2
 exact⟨rfl,(hb1.al _).trans hb2⟩
theorem Wrap_ok (k v:Int) (w:World) (hk:0<=k/\k<=2) (hv:-9223372036854775808<=v/\v<=9223372036854775807):Calls Tryz.prog 219 #[.int .i64 k,.int .i64 v] w λ e w'=>e=.returned (.tuple #[.int .i64 (wd k v),.int .i64 0])/\Gr w w':=by
 obtain rfl | rfl | rfl:k=0\/k=1\/k=2:=by omega
 . exact Wrap_0 v w
 . exact Wrap_1 v w
 . exact Wrap_2 v w hv.1 hv.2
theorem wrap64_b (v:Int):-9223372036854775808<=wrap64 v/\wrap64 v<=9223372036854775807:=by unfold wrap64;omega
theorem Add_ok (k a b:Int) (w:World) (hk:0<=k/\k<=2):Calls Tryz.prog 220 #[.int .i64 k,.int .i64 a,.int .i64 b] w λ e w'=>e=.returned (.tuple #[.int .i64 (wd k (wrap64 (a+b))),.int .i64 0])/\Gr w w':=by
 go_enter Tryz.func220,Tryz.ntmps220
 go_wp2_with fail
 refine (Wrap_ok k (wrap64 (a+b)) _ hk (wrap64_b _)).mono ?_
 rintro e w1 ⟨rfl,hb1⟩
 go_wp2_with fail
 go_ret2
 exact⟨rfl,hb1⟩
theorem Fits_0 (v:Int) (w:World):Calls Tryz.prog 122 #[.int .i64 0,.int .i64 v] w λ e w'=>e=.returned (.bool (wd 0 v==v))/\Gr w w':=by
 go_enter Tryz.func122,Tryz.ntmps122
 go_wp2_with fail
 refine (shapeOf_0 _).mono ?_
 rintro e w1 ⟨rfl,hb1⟩
 go_wp2_with fail
 refine (swrap_0 v _).mono ?_
 rintro e w2 ⟨rfl,hb2⟩
 go_wp2_with fail
 go_ret
 exact⟨rfl,(hb1.al _).trans hb2⟩
theorem Fits_1 (v:Int) (w:World):Calls Tryz.prog 122 #[.int .i64 1,.int .i64 v] w λ e w'=>e=.returned (.bool (wd 1 v==v))/\Gr w w':=by
 go_enter Tryz.func122,Tryz.ntmps122
 go_wp2_with fail
 refine (shapeOf_1 _).mono ?_
 rintro e w1 ⟨rfl,hb1⟩
 go_wp2_with fail
 refine (swrap_1 v _).mono ?_
 rintro e w2 ⟨rfl,hb2⟩
 go_wp2_with fail
 go_ret
 exact⟨rfl,(hb1.al _).trans hb2⟩
theorem Fits_2 (v:Int) (w:World) (h1:-9223372036854775808<=v) (h2:v<=9223372036854775807):Calls Tryz.prog 122 #[.int .i64 2,.int .i64 v] w λ e w'=>e=.returned (.bool (wd 2 v==v))/\Gr w w':=by
 go_enter Tryz.func122,Tryz.ntmps122
 go_wp2_with fail
 refine (shapeOf_2 _).mono ?_
 rintro e w1 ⟨rfl,hb1⟩
 go_wp2_with fail
 refine (swrap_2 v _ h1 h2).mono ?_
 rintro e w2 ⟨rfl,hb2⟩
 go_wp2_with fail
 go_ret
 exact⟨rfl,(hb1.al _).trans hb2⟩
theorem Fits_no (k v:Int) (w:World) (hk:k<0\/2<k):Calls Tryz.prog 122 #[.int .i64 k,.int .i64 v] w λ e w'=>e=.returned (.bool false)/\Gr w w':=by
 go_enter Tryz.func122,Tryz.ntmps122
 go_wp2_with fail
 refine (shapeOf_no k _ hk).mono ?_
 rintro e w1 ⟨rfl,hb1⟩
 go_wp2_with fail
 go_ret
 exact⟨rfl,hb1.al _⟩
def fitB (k v:Int):Bool:=decide (0<=k/\k<=2)&&wd k v==v
theorem Fits_ok (k v:Int) (w:World) (hv:-9223372036854775808<=v/\v<=9223372036854775807):Calls Tryz.prog 122 #[.int .i64 k,.int .i64 v] w λ e w'=>e=.returned (.bool (fitB k v))/\Gr w w':=by
 by_cases hk:0<=k/\k<=2
 . have hf:fitB k v=(wd k v==v):=by simp [fitB,hk]
   rw [hf]
   obtain rfl | rfl | rfl:k=0\/k=1\/k=2:=by omega
   . exact Fits_0 v w
   . exact Fits_1 v w
   . exact Fits_2 v w hv.1 hv.2
 . have hf:fitB k v=false:=by simp [fitB,hk]
   rw [hf]
   exact Fits_no k v w (by omega)
end
section
open Go.RowKit
theorem Add_is {k a b r:Int} (hr:wd k (wrap64 (a+b))=r) (hk:0<=k/\k<=2) (w:World):Calls Tryz.prog 220 #[.int .i64 k,.int .i64 a,.int .i64 b] w λ e w'=>e=.returned (.tuple #[.int .i64 r,.int .i64 0])/\Gr w w' :=
 hr▸Add_ok k a b w hk
theorem Wrap_is {k v r:Int} (hr:wd k v=r) (hk:0<=k/\k<=2) (hv:-9223372036854775808<=v/\v<=9223372036854775807) (w:World):Calls Tryz.prog 219 #[.int .i64 k,.int .i64 v] w λ e w'=>e=.returned (.tuple #[.int .i64 r,.int .i64 0])/\Gr w w' :=
 hr▸Wrap_ok k v w hk hv
theorem Fits_is {k v:Int} {r:Bool} (hr:fitB k v=r) (hv:-9223372036854775808<=v/\v<=9223372036854775807) (w:World):Calls Tryz.prog 122 #[.int .i64 k,.int .i64 v] w λ e w'=>e=.returned (.bool r)/\Gr w w' :=
 hr▸Fits_ok k v w hv
end
section
open Go.ChangeShapes Go.WideShapes Go.ChangeAt Go.RowKit
namespace P6
def outT (n s:Int):Int:=wd 1 (wrap64 (n-s))
def up1 (v:Int):Int:=wd 1 (wrap64 (v+1))
def tkB (n s:Int):Bool:=fitB 1 n&&fitB 1 s
def B64 (v:Int):Prop:=-9223372036854775808<=v/\v<=9223372036854775807
def Two (w:World) (g:Nat) (n s:Int):Prop:=w.heap[g]?=some (.cells #[.int .i64 n,.int .i64 s] 46 (0,0))
section
variable {w w':World} {g:Nat} {n s:Int}
theorem Two.lt (h:Two w g n s):g<w.heap.size:=(Array.getElem?_eq_some_iff.1 h).1
theorem Two.new (w:World) (n s:Int):Two (w.alloc (.cells #[.int .i64 n,.int .i64 s] 46)) w.heap.size n s:=heap_alloc_new w _
theorem Two.gr (h:Two w g n s) (G:Gr w w'):Two w' g n s:=(G.block g h.lt).trans h
theorem Two.cells (h:Two w g n s):w.cell? ⟨g,0,none⟩=some (.int .i64 n)/\w.cell? ⟨g,1,none⟩=some (.int .i64 s) :=
 ⟨by rw [cell_of_row w g 0 _ _ (0,0) h];rfl,by rw [cell_of_row w g 1 _ _ (0,0) h];rfl⟩
theorem Two.frozen (h:Two w g n s) (i:Nat):w.frozen? ⟨g,i,none⟩=false:=by
 unfold Two at h
 simp [World.frozen?,h]
theorem Two.far (h:Two w g n s) {p:Addr} (hp:g≠p.block) (u:Value):Two (w.setCell p u) g n s:=(Below.heap_setCell w p u g hp).trans h
theorem Two.set0 (h:Two w g n s) (x:Int):Two (w.setCell ⟨g,0,none⟩ (.int .i64 x)) g x s:=by
 unfold Two at h ⊢
 simp [World.setCell,Array.getElem?_modify,h]
theorem Two.set1 (h:Two w g n s) (x:Int):Two (w.setCell ⟨g,1,none⟩ (.int .i64 x)) g n x:=by
 unfold Two at h ⊢
 simp [World.setCell,Array.getElem?_modify,h]
end
theorem Right_is {n s:Int} {r:Bool} (hr:tkB n s=r) (hn:B64 n) (hs:B64 s) (w:World) :
 Calls Tryz.prog 90 #[.agg #[.int .i64 n,.int .i64 s]] w λ e w'=>e=.returned (.bool r)/\Gr w w':=by
 obtain⟨a,ha⟩:∃ a,fitB 1 n=a:=⟨_,rfl⟩
 obtain⟨b,hb⟩:∃ b,fitB 1 s=b:=⟨_,rfl⟩
 unfold tkB at hr
 rw [ha,hb] at hr
 subst hr
 have c1:=λ w=>hid (Fits_is ha hn w)
 have c2:=λ w=>hid (Fits_is hb hs w)
 clear ha hb
 cases a
 . go_enter Tryz.func90,Tryz.ntmps90
   go_wp2_with fail
   refine (c1 _).out.mono ?_
   rintro e w1 ⟨rfl,hb1⟩
   go_wp2_with fail
   go_ret
   exact⟨rfl,((Gr.refl w).al _).trans hb1⟩
 . go_enter Tryz.func90,Tryz.ntmps90
   go_wp2_with fail
   refine (c1 _).out.mono ?_
   rintro e w1 ⟨rfl,hb1⟩
   have X:=(Two.new w n s).gr hb1
   obtain⟨q0,q1⟩:=X.cells
   go_wp2_with fail
   refine (c2 _).out.mono ?_
   rintro e w2 ⟨rfl,hb2⟩
   go_wp2_with fail
   go_ret
   exact⟨rfl,(((Gr.refl w).al _).trans hb1).trans hb2⟩
theorem out_is {n s r:Int} (hr:outT n s=r) (w:World) :
 Calls Tryz.prog 210 #[.agg #[.int .i64 n,.int .i64 s]] w λ e w'=>e=.returned (.int .i64 r)/\Gr w w':=by
 have c1:=λ w=>hid (Wrap_is (k:=1) (v:=wrap64 (n-s)) hr (by omega) (wrap64_b _) w)
 clear hr
 go_enter Tryz.func210,Tryz.ntmps210
 go_wp2_with fail
 refine (c1 _).out.mono ?_
 rintro e w1 ⟨rfl,hb1⟩
 go_wp2_with fail
 go_ret
 exact⟨rfl,((Gr.refl w).al _).trans hb1⟩
theorem served_is {n s m:Int} {r:Bool} (hr:(m==s)=r) (w:World) :
 Calls Tryz.prog 189 #[.agg #[.int .i64 n,.int .i64 s,.int .i64 m]] w λ e w'=>e=.returned (.bool r)/\Gr w w':=by
 go_enter Tryz.func189,Tryz.ntmps189
 go_wp2_with fail
 go_ret
 exact⟨rfl,(Gr.refl w).al _⟩
theorem toldI_yes {n s r:Int} (hr:tkB n s=true) (ho:outT n s=r) (hn:B64 n) (hs:B64 s) (w:World) :
 Calls Tryz.prog 209 #[.agg #[.int .i64 n,.int .i64 s],.func (.func 210) #[.agg #[.int .i64 n,.int .i64 s]] #[]] w λ e w'=>e=.returned (.tuple #[.int .i64 r,.int .i64 0])/\Gr w w':=by
 have c1:=λ w=>hid (Right_is hr hn hs w)
 have c2:=λ w=>hid (out_is ho w)
 clear hr ho
 go_enter Tryz.func209,Tryz.ntmps209
 go_wp2_with fail
 refine (c1 _).out.mono ?_
 rintro e w1 ⟨rfl,hb1⟩
 go_wp2_with fail
 refine (c2 _).out.mono ?_
 rintro e w2 ⟨rfl,hb2⟩
 go_wp2_with fail
 go_ret2
 exact⟨rfl,(((Gr.refl w).al _).trans hb1).trans hb2⟩
theorem toldI_no {n s:Int} (hr:tkB n s=false) (hn:B64 n) (hs:B64 s) (f:Value) (w:World) :
 Calls Tryz.prog 209 #[.agg #[.int .i64 n,.int .i64 s],f] w λ e w'=>e=.returned (.tuple #[.int .i64 0,.int .i64 1])/\Gr w w':=by
 have c1:=λ w=>hid (Right_is hr hn hs w)
 clear hr
 go_enter Tryz.func209,Tryz.ntmps209
 go_wp2_with fail
 refine (c1 _).out.mono ?_
 rintro e w1 ⟨rfl,hb1⟩
 go_wp2_with fail
 go_ret2
 exact⟨rfl,((Gr.refl w).al _).trans hb1⟩
theorem toldB_yes {n s m:Int} {r:Bool} (hr:tkB n s=true) (ho:(m==s)=r) (hn:B64 n) (hs:B64 s) (w:World) :
 Calls Tryz.prog 188 #[.agg #[.int .i64 n,.int .i64 s],.func (.func 189) #[.agg #[.int .i64 n,.int .i64 s,.int .i64 m]] #[]] w λ e w'=>e=.returned (.tuple #[.bool r,.int .i64 0])/\Gr w w':=by
 have c1:=λ w=>hid (Right_is hr hn hs w)
 have c2:=λ w=>hid (served_is (n:=n) ho w)
 clear hr ho
 go_enter Tryz.func188,Tryz.ntmps188
 go_wp2_with fail
 refine (c1 _).out.mono ?_
 rintro e w1 ⟨rfl,hb1⟩
 go_wp2_with fail
 refine (c2 _).out.mono ?_
 rintro e w2 ⟨rfl,hb2⟩
 go_wp2_with fail
 go_ret2
 exact⟨rfl,(((Gr.refl w).al _).trans hb1).trans hb2⟩
theorem toldB_no {n s:Int} (hr:tkB n s=false) (hn:B64 n) (hs:B64 s) (f:Value) (w:World) :
 Calls Tryz.prog 188 #[.agg #[.int .i64 n,.int .i64 s],f] w λ e w'=>e=.returned (.tuple #[.bool false,.int .i64 1])/\Gr w w':=by
 have c1:=λ w=>hid (Right_is hr hn hs w)
 clear hr
 go_enter Tryz.func188,Tryz.ntmps188
 go_wp2_with fail
 refine (c1 _).out.mono ?_
 rintro e w1 ⟨rfl,hb1⟩
 go_wp2_with fail
 go_ret2
 exact⟨rfl,((Gr.refl w).al _).trans hb1⟩
def OutIs (n s v q:Int):Prop:=(tkB n s=true/\outT n s=v/\q=0)\/(tkB n s=false/\v=0/\q=1)
def TurnIs (n s m:Int) (v:Bool) (q:Int):Prop:=(tkB n s=true/\(m==s)=v/\q=0)\/(tkB n s=false/\v=false/\q=1)
theorem Out_is {n s v q:Int} (h:OutIs n s v q) (hn:B64 n) (hs:B64 s) (w:World) :
 Calls Tryz.prog 186 #[.agg #[.int .i64 n,.int .i64 s]] w λ e w'=>e=.returned (.tuple #[.int .i64 v,.int .i64 q])/\Gr w w':=by
 have hmf:=mkF
 have c:∀ w,Hid (Calls Tryz.prog 209 #[.agg #[.int .i64 n,.int .i64 s],.func (.func 210) #[.agg #[.int .i64 n,.int .i64 s]] #[]] w λ e w'=>e=.returned (.tuple #[.int .i64 v,.int .i64 q])/\Gr w w'):=λ w=>by
  rcases h with ⟨h1,h2,rfl⟩ | ⟨h1,rfl,rfl⟩
  . exact hid (toldI_yes h1 h2 hn hs w)
  . exact hid (toldI_no h1 hn hs _ w)
 clear h
 go_enter Tryz.func186,Tryz.ntmps186
 go_wp2_with fail
 refine (c _).out.mono ?_
 rintro e w1 ⟨rfl,hb1⟩
 go_wp2_with fail
 go_ret2
 exact⟨rfl,((Gr.refl w).al _).trans hb1⟩
theorem Turn_is {n s m:Int} {v:Bool} {q:Int} (h:TurnIs n s m v q) (hn:B64 n) (hs:B64 s) (w:World) :
 Calls Tryz.prog 148 #[.agg #[.int .i64 n,.int .i64 s],.int .i64 m] w λ e w'=>e=.returned (.tuple #[.bool v,.int .i64 q])/\Gr w w':=by
 have hmf:=mkF
 have c:∀ w,Hid (Calls Tryz.prog 188 #[.agg #[.int .i64 n,.int .i64 s],.func (.func 189) #[.agg #[.int .i64 n,.int .i64 s,.int .i64 m]] #[]] w λ e w'=>e=.returned (.tuple #[.bool v,.int .i64 q])/\Gr w w'):=λ w=>by
  rcases h with ⟨h1,h2,rfl⟩ | ⟨h1,rfl,rfl⟩
  . exact hid (toldB_yes h1 h2 hn hs w)
  . exact hid (toldB_no h1 hn hs _ w)
 clear h
 go_enter Tryz.func148,Tryz.ntmps148
 go_wp2_with fail
 refine (c _).out.mono ?_
 rintro e w1 ⟨rfl,hb1⟩
 go_wp2_with fail
 go_ret2
 exact⟨rfl,((Gr.refl w).al _).trans hb1⟩
theorem advance_is {v x:Int} (hx:up1 v=x) (b o:Nat) (w:World) (hc:w.cell? ⟨b,o,none⟩=some (.int .i64 v)) (hz:w.frozen? ⟨b,o,none⟩=false) (hl:b<w.heap.size) :
 Calls Tryz.prog 211 #[.pointer (some ⟨b,o,none⟩)] w λ e w'=>e=.returned (.tuple #[])/\∃ w1,Gr w w1/\w'=w1.setCell ⟨b,o,none⟩ (.int .i64 x):=by
 have c1:=λ w=>hid (Add_is (k:=1) (a:=v) (b:=1) hx (by omega) w)
 clear hx
 go_enter Tryz.func211,Tryz.ntmps211
 go_wp2_with fail
 refine (c1 _).out.mono ?_
 rintro e w1 ⟨rfl,hb1⟩
 have hc1:=(hb1.cell (p:=⟨b,o,none⟩) hl).trans hc
 have hz1:=(hb1.frozen (p:=⟨b,o,none⟩) hl).trans hz
 go_wp2_with fail
 go_end0
 exact⟨rfl,w1,hb1,rfl⟩
theorem advance_d {v x:Int} (hx:up1 v=x) (b o:Nat) (u:FrameMode) (w:World) (hc:w.cell? ⟨b,o,none⟩=some (.int .i64 v)) (hz:w.frozen? ⟨b,o,none⟩=false) (hl:b<w.heap.size) :
 CallsD Tryz.prog 211 #[.pointer (some ⟨b,o,none⟩)] u w λ e u' w'=>u'=u/\(e=.returned (.tuple #[])/\∃ w1,Gr w w1/\w'=w1.setCell ⟨b,o,none⟩ (.int .i64 x)):=by
 have c1:=λ w=>hid (Add_is (k:=1) (a:=v) (b:=1) hx (by omega) w)
 clear hx
 go_enter_d Tryz.func211,Tryz.ntmps211
 go_wp2_with fail
 refine (c1 _).out.mono ?_
 rintro e w1 ⟨rfl,hb1⟩
 have hc1:=(hb1.cell (p:=⟨b,o,none⟩) hl).trans hc
 have hz1:=(hb1.frozen (p:=⟨b,o,none⟩) hl).trans hz
 go_wp2_with fail
 go_end0
 exact⟨rfl,w1,hb1,rfl⟩
theorem take_is {v x:Int} (hx:up1 v=x) (b o:Nat) (w:World) (hc:w.cell? ⟨b,o,none⟩=some (.int .i64 v)) (hz:w.frozen? ⟨b,o,none⟩=false) (hl:b<w.heap.size) :
 Calls Tryz.prog 187 #[.pointer (some ⟨b,o,none⟩)] w λ e w'=>e=.returned (.int .i64 v)/\∃ w1,Gr w w1/\w'=w1.setCell ⟨b,o,none⟩ (.int .i64 x):=by
 go_enter_defers Tryz.func187,Tryz.ntmps187
 go_wp2
 refine leaves_cons (f:=211) (args:=#[.pointer (some ⟨b,o,none⟩)]) (by simp) (by simp [go_sem]) ?_
 refine (advance_d hx b o .returning _ (by simpa using hc) (by simpa using hz) (by simpa using hl)).mono ?_
 rintro e u' w'' ⟨rfl,rfl,w1,hg,rfl⟩
 exact⟨_,results_tmp rfl _ _ _,rfl,w1,hg,rfl⟩
theorem Draw_no {n s:Int} (h:tkB n s=false) (hn:B64 n) (hs:B64 s) (w:World) :
 Calls Tryz.prog 147 #[.agg #[.int .i64 n,.int .i64 s]] w λ e w'=>e=.returned (.tuple #[.agg #[.int .i64 0,.int .i64 0],.int .i64 0,.int .i64 1])/\Gr w w':=by
 have c1:=λ w=>hid (Out_is (.inr ⟨h,rfl,rfl⟩) hn hs w)
 go_enter Tryz.func147,Tryz.ntmps147
 go_wp2_with fail
 refine (c1 _).out.mono ?_
 rintro e w1 ⟨rfl,hb1⟩
 have X:=(Two.new (w.alloc (.cells #[.int .i64 n,.int .i64 s] 46)) 0 0).gr hb1
 have G:=(((Gr.refl w).al _).al _).trans hb1
 obtain⟨q0,q1⟩:=X.cells
 have f0:=X.frozen 0
 have f1:=X.frozen 1
 simp at q0 q1 f0 f1
 go_wp2_with fail
 refine bodyPost_ret (v:=.tuple #[.agg #[.int .i64 0,.int .i64 0],.int .i64 0,.int .i64 1]) (by simp [results,Tryz.results147,go_sem,q0,q1]) rfl ⟨rfl,?_⟩
 exact (G.st (by simp) _).st (by simp) _
theorem Draw_full {n s:Int} (h:tkB n s=true) (ho:outT n s=4294967295) (hn:B64 n) (hs:B64 s) (w:World) :
 Calls Tryz.prog 147 #[.agg #[.int .i64 n,.int .i64 s]] w λ e w'=>e=.returned (.tuple #[.agg #[.int .i64 0,.int .i64 0],.int .i64 0,.int .i64 5])/\Gr w w':=by
 have c1:=λ w=>hid (Out_is (.inl ⟨h,ho,rfl⟩) hn hs w)
 clear ho
 go_enter Tryz.func147,Tryz.ntmps147
 go_wp2_with fail
 refine (c1 _).out.mono ?_
 rintro e w1 ⟨rfl,hb1⟩
 have X:=(Two.new (w.alloc (.cells #[.int .i64 n,.int .i64 s] 46)) 0 0).gr hb1
 have G:=(((Gr.refl w).al _).al _).trans hb1
 obtain⟨q0,q1⟩:=X.cells
 have f0:=X.frozen 0
 have f1:=X.frozen 1
 simp at q0 q1 f0 f1
 go_wp2_with fail
 refine bodyPost_ret (v:=.tuple #[.agg #[.int .i64 0,.int .i64 0],.int .i64 0,.int .i64 5]) (by simp [results,Tryz.results147,go_sem,q0,q1]) rfl ⟨rfl,?_⟩
 exact (G.st (by simp) _).st (by simp) _
theorem Draw_yes {n s x:Int} (h:tkB n s=true) (ho:outT n s≠4294967295) (hx:up1 n=x) (hn:B64 n) (hs:B64 s) (w:World) :
 Calls Tryz.prog 147 #[.agg #[.int .i64 n,.int .i64 s]] w λ e w'=>e=.returned (.tuple #[.agg #[.int .i64 x,.int .i64 s],.int .i64 n,.int .i64 0])/\Gr w w':=by
 obtain⟨v,hv⟩:∃ v,outT n s=v:=⟨_,rfl⟩
 rw [hv] at ho
 have hne:(v==4294967295)=false:=beq_eq_false_iff_ne.2 ho
 have c1:=λ w=>hid (Out_is (.inl ⟨h,hv,rfl⟩) hn hs w)
 have HX:=hid hx
 clear ho hv hx
 go_enter Tryz.func147,Tryz.ntmps147
 go_wp2_with fail
 refine (c1 _).out.mono ?_
 rintro e w1 ⟨rfl,hb1⟩
 have X:=(Two.new (w.alloc (.cells #[.int .i64 n,.int .i64 s] 46)) 0 0).gr hb1
 have Y:=((Two.new w n s).gr ((Gr.refl _).al (.cells #[.int .i64 0,.int .i64 0] 46))).gr hb1
 have G:=(((Gr.refl w).al _).al _).trans hb1
 rw [show (w.alloc (.cells #[.int .i64 n,.int .i64 s] 46)).heap.size=w.heap.size+1 from by simp] at X
 go_wp2_with fail
 refine (take_is HX.out w.heap.size 0 _ Y.cells.1 (Y.frozen 0) Y.lt).mono ?_
 rintro e w2 ⟨rfl,w3,hb3,rfl⟩
 replace Y:=(Y.gr hb3).set0 x
 replace X:=(X.gr hb3).far (p:=⟨w.heap.size,0,none⟩) (by simp) (.int .i64 x)
 replace G:=(G.trans hb3).st (p:=⟨w.heap.size,0,none⟩) (Nat.le_refl _) (.int .i64 x)
 generalize hW:w3.setCell ⟨w.heap.size,0,none⟩ (.int .i64 x)=W at *
 obtain⟨y0,y1⟩:=Y.cells
 obtain⟨q0,q1⟩:=X.cells
 have f0:=X.frozen 0
 have f1:=X.frozen 1
 have e1:w.heap.size+1≠w.heap.size:=by omega
 clear hW
 go_wp2_with fail
 refine bodyPost_ret (v:=.tuple #[.agg #[.int .i64 x,.int .i64 s],.int .i64 n,.int .i64 0]) (by simp [results,Tryz.results147,go_sem,q0,q1]) rfl ⟨rfl,?_⟩
 exact (G.st (by simp) _).st (by simp) _
theorem Done_none {n s:Int} (h:tkB n s=true) (ho:outT n s=0) (hn:B64 n) (hs:B64 s) (w:World) :
 Calls Tryz.prog 193 #[.agg #[.int .i64 n,.int .i64 s]] w λ e w'=>e=.returned (.tuple #[.agg #[.int .i64 0,.int .i64 0],.int .i64 6])/\Gr w w':=by
 have c1:=λ w=>hid (Out_is (.inl ⟨h,ho,rfl⟩) hn hs w)
 clear ho
 go_enter Tryz.func193,Tryz.ntmps193
 go_wp2_with fail
 refine (c1 _).out.mono ?_
 rintro e w1 ⟨rfl,hb1⟩
 have X:=(Two.new (w.alloc (.cells #[.int .i64 n,.int .i64 s] 46)) 0 0).gr hb1
 have G:=(((Gr.refl w).al _).al _).trans hb1
 obtain⟨q0,q1⟩:=X.cells
 have f0:=X.frozen 0
 have f1:=X.frozen 1
 simp at q0 q1 f0 f1
 go_wp2_with fail
 refine bodyPost_ret (v:=.tuple #[.agg #[.int .i64 0,.int .i64 0],.int .i64 6]) (by simp [results,Tryz.results193,go_sem,q0,q1]) rfl ⟨rfl,?_⟩
 exact (G.st (by simp) _).st (by simp) _
theorem Done_yes {n s x:Int} (h:tkB n s=true) (ho:outT n s≠0) (hx:up1 s=x) (hn:B64 n) (hs:B64 s) (w:World) :
 Calls Tryz.prog 193 #[.agg #[.int .i64 n,.int .i64 s]] w λ e w'=>e=.returned (.tuple #[.agg #[.int .i64 n,.int .i64 x],.int .i64 0])/\Gr w w':=by
 obtain⟨v,hv⟩:∃ v,outT n s=v:=⟨_,rfl⟩
 rw [hv] at ho
 have hne:(v==0)=false:=beq_eq_false_iff_ne.2 ho
 have c1:=λ w=>hid (Out_is (.inl ⟨h,hv,rfl⟩) hn hs w)
 have HX:=hid hx
 clear ho hv hx
 go_enter Tryz.func193,Tryz.ntmps193
 go_wp2_with fail
 refine (c1 _).out.mono ?_
 rintro e w1 ⟨rfl,hb1⟩
 have X:=(Two.new (w.alloc (.cells #[.int .i64 n,.int .i64 s] 46)) 0 0).gr hb1
 have Y:=((Two.new w n s).gr ((Gr.refl _).al (.cells #[.int .i64 0,.int .i64 0] 46))).gr hb1
 have G:=(((Gr.refl w).al _).al _).trans hb1
 rw [show (w.alloc (.cells #[.int .i64 n,.int .i64 s] 46)).heap.size=w.heap.size+1 from by simp] at X
 go_wp2_with fail
 refine (advance_is HX.out w.heap.size 1 _ Y.cells.2 (Y.frozen 1) Y.lt).mono ?_
 rintro e w2 ⟨rfl,w3,hb3,rfl⟩
 replace Y:=(Y.gr hb3).set1 x
 replace X:=(X.gr hb3).far (p:=⟨w.heap.size,1,none⟩) (by simp) (.int .i64 x)
 replace G:=(G.trans hb3).st (p:=⟨w.heap.size,1,none⟩) (Nat.le_refl _) (.int .i64 x)
 generalize hW:w3.setCell ⟨w.heap.size,1,none⟩ (.int .i64 x)=W at *
 obtain⟨y0,y1⟩:=Y.cells
 obtain⟨q0,q1⟩:=X.cells
 have f0:=X.frozen 0
 have f1:=X.frozen 1
 have e1:w.heap.size+1≠w.heap.size:=by omega
 clear hW
 go_wp2_with fail
 refine bodyPost_ret (v:=.tuple #[.agg #[.int .i64 n,.int .i64 x],.int .i64 0]) (by simp [results,Tryz.results193,go_sem,q0,q1]) rfl ⟨rfl,?_⟩
 exact (G.st (by simp) _).st (by simp) _
end P6
end
section
open Go.ChangeShapes Go.WideShapes Go.ChangeAt Go.RowKit Go.Shelf
namespace P16
open P14 (pan)
open P12 (PV PMem)
section
variable {x:Cx} {W:World} {T E:Sl} {cl:List Cl} {mx:List T3} {tb:List Sp} {ev:List T3} {c:Cl} {a:T3} {pr:List Ac}
theorem TS.putPc (h:TS x W T E cl mx tb ev) (hc:cl[x.who.toNat]?=some c) {v:Int} (hv:B64 v):TS x (W.setCell ⟨x.bc,x.oc+x.who.toNat*13+3,none⟩ (.int .i64 v)) T E (cl.set x.who.toNat { c with pc:=v }) mx tb ev :=
 h.putC hc 3 _ { c with pc:=v } rfl (by decide) { h.cb c (List.mem_of_getElem? hc) with pc:=hv }
theorem work_is (h:TS x W T E cl mx tb ev) (hR:Rn x cl c pr) (hw:c.worked=0\/(0<c.worked/\c.worked<x.n)) (hn0:0<=x.n) (hn:x.n<=1000) :
 Calls Tryz.prog 98 #[.pointer (some ⟨x.b,0,none⟩)] W λ e W'=>e=.returned (.tuple #[])/\TS x W' T E (cl.set x.who.toNat (work x.n pr.length c)) mx tb ev/\Kx x W W':=by
 have hc:=hR.hc
 have H:=hid h
 have CBc:=h.cb c (List.mem_of_getElem? hc)
 obtain⟨-,-,-,-,-,-,-,c7,-,c9,-,-⟩:=h.cells
 obtain⟨-,-,-,-,s4,-,-,-,-,-,-,-,-,sz⟩:=h.cl_ hc
 have y4:=sz 4 (by decide)
 clear sz
 have l0:0<=c.worked:=by omega
 have l1:c.worked<=1000:=by omega
 have hb1:B64 (c.worked+1):=⟨by omega,by omega⟩
 have h1:=h.putC hc 4 (.int .i64 (c.worked+1)) { c with worked:=c.worked+1 } rfl (by decide) { CBc with worked:=hb1 }
 have k1:Kx x W _:=Kx.st (p:=⟨x.bc,x.oc+x.who.toNat*13+4,none⟩) (.inr (.inl rfl)) (.int .i64 (c.worked+1))
 have hR2:Rn x (cl.set x.who.toNat { c with worked:=c.worked+1 }) { c with worked:=c.worked+1 } pr:=hR.set rfl rfl
 clear h
 go_enter Tryz.func98,Tryz.ntmps98
 go_upto_region 1 with fail
 generalize W.setCell ⟨x.bc,x.oc+x.who.toNat*13+4,none⟩ (.int .i64 (c.worked+1))=W1 at h1 k1 ⊢
 clear c7 c9 s4 y4
 have H1:=hid h1
 have K1:=hid k1
 obtain⟨-,-,-,-,-,-,-,c7,-,c9,-,-⟩:=h1.cells
 obtain⟨-,-,-,-,t4,-⟩:=h1.cl_ hR2.hc
 dsimp only at t4
 have HW:=hid hw
 clear h1 k1 hw
 by_cases hge:c.worked+1 ≥ x.n
 . have K:work x.n pr.length c=over { c with worked:=c.worked+1 } pr.length:=by have:=HW.out;unfold work;rw [if_pos (by omega)]
   go_quiet (fail)
   go_wp2_with fail
   with_reducible refine (over_is (H1.out.gr ((Gr.refl _).drN _)) hR2).mono ?_
   rintro e w2 ⟨rfl,h2,k2⟩
   have H2:=hid h2
   have K2:=hid k2
   clear h2 k2
   go_wp2_with fail
   go_end0
   have h2:=H2.out
   rw [List.set_set,<- K] at h2
   exact⟨rfl,h2,(K1.out.trans (Kx.gr ((Gr.refl _).drN _))).trans K2.out⟩
 . have K:work x.n pr.length c={ c with worked:=c.worked+1 }:=by have:=HW.out;unfold work;rw [if_neg (by omega)]
   go_quiet (fail)
   go_wp2_with fail
   go_end0
   exact⟨rfl,H1.out.gr ((Gr.refl _).drN _),K1.out.trans (Kx.gr ((Gr.refl _).drN _))⟩
theorem lock_no (h:TS x W T E cl mx tb ev) (hR:Rn x cl c pr) (h0:0<=x.n) (h4:x.n<4) (ha:mx[x.n.toNat]?=some a) (hne:(a.1==0)=false) :
 Calls Tryz.prog 99 #[.pointer (some ⟨x.b,0,none⟩)] W λ e W'=>e=.returned (.tuple #[])/\TS x W' T E (cl.set x.who.toNat { c with pc:=1 }) mx tb ev/\Kx x W W':=by
 have hc:=hR.hc
 go_enter Tryz.func99,Tryz.ntmps99
 go_wp2_with fail
 with_reducible refine (mutex_is h h0 h4).mono ?_
 rintro e w1 ⟨rfl,d,rfl⟩
 have h1:=h.gr ((Gr.refl W).drN d)
 have H1:=hid h1
 obtain⟨-,-,-,-,-,-,-,c7,-,-,-,-⟩:=h1.cells
 obtain⟨-,-,-,s3,-,-,-,-,-,-,-,-,-,sz⟩:=h1.cl_ hc
 have y3:=sz 3 (by decide)
 clear sz
 obtain⟨m0,-,-,-⟩:=h1.mx_ ha
 clear h h1
 go_wp2_with fail
 (try simp only [Exit.inBlock,Exit.then])
 refine bodyPost_ret (results_none rfl _ _ _) rfl ?_
 exact⟨rfl,H1.out.putPc hc ⟨by omega,by omega⟩,(Kx.gr ((Gr.refl W).drN d)).trans (Kx.st (.inr (.inl rfl)) _)⟩
theorem lock_yes (h:TS x W T ⟨none,0,0⟩ cl mx tb []) (hR:Rn x cl c pr) (h0:0<=x.n) (h4:x.n<4) (ha:mx[x.n.toNat]?=some a) (hne:(a.1==0)=true) :
 Calls Tryz.prog 99 #[.pointer (some ⟨x.b,0,none⟩)] W λ e W'=>e=.returned (.tuple #[])/\(∃ E,TS x W' T E (cl.set x.who.toNat (over c pr.length)) (mx.set x.n.toNat (1,a.2)) tb [(x.who,0,x.n)])/\Kx x W W':=by
 have hc:=hR.hc
 go_enter Tryz.func99,Tryz.ntmps99
 go_wp2_with fail
 with_reducible refine (mutex_is h h0 h4).mono ?_
 rintro e w1 ⟨rfl,d,rfl⟩
 have h1:=h.gr ((Gr.refl W).drN d)
 have H1:=hid h1
 obtain⟨m0,-,-,-⟩:=h1.mx_ ha
 have hp:=hid (put_yes h1 h0 h4 ha (v:=1) ⟨by omega,by omega⟩)
 clear h h1
 go_wp2_with fail
 with_reducible refine hp.out.mono ?_
 rintro e w2 ⟨rfl,h2,k2⟩
 have K2:=hid k2
 have he:=hid (ends_is h2 hR (v:=0) b64_0)
 clear h2 k2
 go_wp2_with fail
 with_reducible refine he.out.mono ?_
 rintro e w3 ⟨rfl,h3,k3⟩
 have H3:=hid h3
 have K3:=hid k3
 clear h3 k3
 go_wp2_with fail
 go_end0
 exact⟨rfl,H3.out,((Kx.gr ((Gr.refl W).drN d)).trans K2.out).trans K3.out⟩
theorem load_is (h:TS x W T E cl mx tb ev) (hR:Rn x cl c pr) (h0:0<=x.n) (h4:x.n<4) (ha:mx[x.n.toNat]?=some a) :
 Calls Tryz.prog 100 #[.pointer (some ⟨x.b,0,none⟩)] W λ e W'=>e=.returned (.tuple #[])/\TS x W' T E (cl.set x.who.toNat { c with old:=a.1,pc:=2 }) mx tb ev/\Kx x W W':=by
 have hr:=hid (remember_is h h0 h4 ha hR.hc (v:=2) ⟨by omega,by omega⟩)
 clear h
 go_enter Tryz.func100,Tryz.ntmps100
 go_wp2_with fail
 with_reducible refine hr.out.mono ?_
 rintro e w1 ⟨rfl,h1,k1⟩
 have H1:=hid h1
 have K1:=hid k1
 clear h1 k1
 go_wp2_with fail
 go_end0
 exact⟨rfl,H1.out,K1.out⟩
theorem see_is (h:TS x W T E cl mx tb ev) (hR:Rn x cl c pr) (h0:0<=x.n) (h4:x.n<4) (ha:mx[x.n.toNat]?=some a) :
 Calls Tryz.prog 112 #[.pointer (some ⟨x.b,0,none⟩)] W λ e W'=>e=.returned (.tuple #[])/\TS x W' T E (cl.set x.who.toNat { c with old:=a.1,pc:=10 }) mx tb ev/\Kx x W W':=by
 have hr:=hid (remember_is h h0 h4 ha hR.hc (v:=10) ⟨by omega,by omega⟩)
 clear h
 go_enter Tryz.func112,Tryz.ntmps112
 go_wp2_with fail
 with_reducible refine hr.out.mono ?_
 rintro e w1 ⟨rfl,h1,k1⟩
 have H1:=hid h1
 have K1:=hid k1
 clear h1 k1
 go_wp2_with fail
 go_end0
 exact⟨rfl,H1.out,K1.out⟩
end
end P16
namespace P6
theorem tk_up {s:Int} (h:0<=s/\s<4294967296):up1 s=(s+1) % 4294967296:=by unfold up1 wrap64;simp [wd];omega
theorem tk_out {n s:Int} (hn:0<=n/\n<4294967296) (hs:0<=s/\s<4294967296):outT n s=(n-s) % 4294967296:=by unfold outT wrap64;simp [wd];omega
theorem tk_ok {n s:Int} (hn:0<=n/\n<4294967296) (hs:0<=s/\s<4294967296):tkB n s=true:=by unfold tkB;simp [fitB,wd];omega
end P6
namespace P16
open P14 (pan)
open P12 (PV PMem)
section
variable {x:Cx} {W:World} {T E:Sl} {cl:List Cl} {mx:List T3} {tb:List Sp} {ev:List T3} {c:Cl} {a:T3} {pr:List Ac}
theorem TS.putL (h:TS x W T E cl mx tb ev) {i:Nat} (ha:mx[i]?=some a) {u v:Int} (hu:B64 u) (hv:B64 v):TS x ((W.setCell ⟨x.bm,x.om+i*3+1,none⟩ (.int .i64 u)).setCell ⟨x.bm,x.om+i*3+2,none⟩ (.int .i64 v)) T E cl (mx.set i (a.1,u,v)) tb ev:=by
 have A:=h.mb a (List.mem_of_getElem? ha)
 have h1:=h.putM (a:=a) ha 1 (.int .i64 u) (a.1,u,a.2.2) rfl (by decide) ⟨A.1,hu,A.2.2⟩
 have h2:=h1.putM (a:=(a.1,u,a.2.2)) (i:=i) (by rw [List.getElem?_set_self (List.getElem?_eq_some_iff.1 ha).1]) 2 (.int .i64 v) (a.1,u,v) rfl (by decide) ⟨A.1,hu,hv⟩
 rwa [List.set_set] at h2
theorem serve_yes (h:TS x W T E cl mx tb ev) (h0:0<=x.n) (h4:x.n<4) (ha:mx[x.n.toNat]?=some a) (hn:0<=a.2.1/\a.2.1<4294967296) (hs:0<=a.2.2/\a.2.2<4294967296) (ho:(a.2.1-a.2.2) % 4294967296≠0) :
 Calls Tryz.prog 152 #[.pointer (some ⟨x.b,0,none⟩)] W λ e W'=>e=.returned (.tuple #[])/\TS x W' T E cl (mx.set x.n.toNat (a.1,a.2.1,(a.2.2+1) % 4294967296)) tb ev/\Kx x W W':=by
 have cd:=λ W=>hid (P6.Done_yes (P6.tk_ok hn hs) (by rw [P6.tk_out hn hs];exact ho) (P6.tk_up hs) ⟨by omega,by omega⟩ ⟨by omega,by omega⟩ W)
 have bu:B64 a.2.1:=⟨by omega,by omega⟩
 have bv:B64 ((a.2.2+1) % 4294967296):=⟨by omega,by omega⟩
 obtain⟨v,hv⟩:∃ v,(a.2.2+1) % 4294967296=v:=⟨_,rfl⟩
 rw [hv] at cd bv ⊢
 clear hv ho hn hs
 go_enter Tryz.func152,Tryz.ntmps152
 go_wp2_with fail
 with_reducible refine (mutex_is h h0 h4).mono ?_
 rintro e w1 ⟨rfl,d,rfl⟩
 have h1:=h.gr ((Gr.refl W).drN d)
 obtain⟨-,m1,m2,-⟩:=h1.mx_ ha
 have H1:=hid h1
 clear h h1
 go_wp2_with fail
 with_reducible refine (cd _).out.mono ?_
 rintro e w2 ⟨rfl,g2⟩
 have G2:=hid g2
 clear g2
 go_wp2_with fail
 with_reducible refine (sureT_yes _ _ _).mono ?_
 rintro e w3 ⟨rfl,g3⟩
 have h3:=H1.out.gr (G2.out.trans g3)
 have H3:=hid h3
 have G3:=hid (G2.out.trans g3)
 clear m1 m2
 obtain⟨-,m1,m2,mz⟩:=h3.mx_ ha
 have x1:=mz 1 (by decide)
 have x2:=mz 2 (by decide)
 clear mz
 clear h3 g3
 go_wp2_with fail
 go_end0
 exact⟨rfl,H3.out.putL ha bu bv,(((Kx.gr ((Gr.refl W).drN d)).trans (Kx.gr G3.out)).trans (Kx.st (.inr (.inr rfl)) _)).trans (Kx.st (.inr (.inr rfl)) _)⟩
theorem serve_no (h:TS x W T E cl mx tb ev) (h0:0<=x.n) (h4:x.n<4) (ha:mx[x.n.toNat]?=some a) (hn:0<=a.2.1/\a.2.1<4294967296) (hs:0<=a.2.2/\a.2.2<4294967296) (ho:(a.2.1-a.2.2) % 4294967296=0) :
 Calls Tryz.prog 152 #[.pointer (some ⟨x.b,0,none⟩)] W λ e W'=>e=.panicked (pan 12)/\Kx x W W':=by
 have cd:=λ W=>hid (P6.Done_none (P6.tk_ok hn hs) (by rw [P6.tk_out hn hs];exact ho) ⟨by omega,by omega⟩ ⟨by omega,by omega⟩ W)
 clear ho hn hs
 go_enter Tryz.func152,Tryz.ntmps152
 go_wp2_with fail
 with_reducible refine (mutex_is h h0 h4).mono ?_
 rintro e w1 ⟨rfl,d,rfl⟩
 have h1:=h.gr ((Gr.refl W).drN d)
 obtain⟨-,m1,m2,-⟩:=h1.mx_ ha
 clear h h1
 go_wp2_with fail
 with_reducible refine (cd _).out.mono ?_
 rintro e w2 ⟨rfl,g2⟩
 have G2:=hid g2
 clear g2
 go_wp2_with fail
 with_reducible refine (sureT_no _ _ (by decide) _).mono ?_
 rintro e w3 ⟨rfl,g3⟩
 go_wp2_with fail
 exact bodyPost_pan rfl ⟨rfl,Kx.gr (((Gr.refl W).drN d).trans (G2.out.trans g3))⟩
theorem leave_yes (h:TS x W T E cl mx tb ev) (hR:Rn x cl c pr) (h0:0<=x.n) (h4:x.n<4) (ha:mx[x.n.toNat]?=some a) (hn:0<=a.2.1/\a.2.1<4294967296) (hs:0<=a.2.2/\a.2.2<4294967296) (ho:(a.2.1-a.2.2) % 4294967296≠0) :
 Calls Tryz.prog 114 #[.pointer (some ⟨x.b,0,none⟩)] W λ e W'=>e=.returned (.tuple #[])/\TS x W' T E (cl.set x.who.toNat (over c pr.length)) (mx.set x.n.toNat (a.1,a.2.1,(a.2.2+1) % 4294967296)) tb ev/\Kx x W W':=by
 have cs:=hid (serve_yes h h0 h4 ha hn hs ho)
 clear h ho hn hs
 go_enter Tryz.func114,Tryz.ntmps114
 go_wp2_with fail
 with_reducible refine cs.out.mono ?_
 rintro e w1 ⟨rfl,h1,k1⟩
 have co:=hid (over_is h1 hR)
 have K1:=hid k1
 clear h1 k1
 go_wp2_with fail
 with_reducible refine co.out.mono ?_
 rintro e w2 ⟨rfl,h2,k2⟩
 have H2:=hid h2
 have K2:=hid k2
 clear h2 k2
 go_wp2_with fail
 go_end0
 exact⟨rfl,H2.out,K1.out.trans K2.out⟩
theorem leave_no (h:TS x W T E cl mx tb ev) (h0:0<=x.n) (h4:x.n<4) (ha:mx[x.n.toNat]?=some a) (hn:0<=a.2.1/\a.2.1<4294967296) (hs:0<=a.2.2/\a.2.2<4294967296) (ho:(a.2.1-a.2.2) % 4294967296=0) :
 Calls Tryz.prog 114 #[.pointer (some ⟨x.b,0,none⟩)] W λ e W'=>e=.panicked (pan 12)/\Kx x W W':=by
 have cs:=hid (serve_no h h0 h4 ha hn hs ho)
 clear h ho hn hs
 go_enter Tryz.func114,Tryz.ntmps114
 go_wp2_with fail
 with_reducible refine cs.out.mono ?_
 rintro e w1 ⟨rfl,k1⟩
 go_wp2_with fail
 exact bodyPost_pan rfl ⟨rfl,k1⟩
end
end P16
end
section
open Go.ChangeShapes Go.WideShapes Go.ChangeAt Go.RowKit
namespace P15
open P3 (fl pw lowI)
def OkN (n:Int):Prop:=0<=n/\n<268435456
section
variable {a b c:Bool} {n v:Int} {w:World}
theorem state_is (hg:Glob w) (hn:OkN n):Calls Tryz.prog 199 #[.int .i64 (pw a b c n)] w λ e w'=>e=.returned (.int .i64 (st a b c))/\w'=w :=
 state_of hg (P3.and7 (by unfold OkN at hn;omega))
theorem state_neg (hg:Glob w):Calls Tryz.prog 199 #[.int .i64 (-1)] w λ e w'=>e=.returned (.int .i64 3)/\w'=w :=
 state_of (a:=true) (b:=true) (c:=true) hg (by decide)
theorem Left_neg (hg:Glob w):Calls Tryz.prog 157 #[.int .i64 (-1)] w λ e w'=>e=.returned (.tuple #[.bool false,.bool false,.int .i64 11])/\Gr w w':=by
 have U:=λ w=>hid (P3.Unpack_no (-1) (by decide) w)
 have SS:=λ W (g:Gr w W)=>hid (state_neg (hg.gr g))
 go_enter Tryz.func157,Tryz.ntmps157
 go_wp2_with fail
 with_reducible refine (U _).out.mono ?_
 rintro e w1 ⟨rfl,g1⟩
 go_wp2_with fail
 with_reducible refine (SS _ (g1.al _)).out.mono ?_
 rintro e w2 ⟨rfl,rfl⟩
 go_wp2_with fail
 go_ret3
 exact⟨rfl,g1.al _⟩
theorem Left_held (hg:Glob w) (hn:OkN n):Calls Tryz.prog 157 #[.int .i64 (pw true b c n)] w λ e w'=>e=.returned (.tuple #[.bool false,.bool false,.int .i64 11])/\Gr w w':=by
 have U:=λ w=>hid (P3.Unpack_ok true b c n hn w)
 have SS:=λ W (g:Gr w W)=>hid (state_is (a:=true) (b:=b) (c:=c) (hg.gr g) hn)
 simp only [st,if_true] at SS
 clear hn
 generalize pw true b c n=v at *
 go_enter Tryz.func157,Tryz.ntmps157
 go_wp2_with fail
 with_reducible refine (U _).out.mono ?_
 rintro e w1 ⟨rfl,g1⟩
 go_wp2_with fail
 with_reducible refine (SS _ (g1.al _)).out.mono ?_
 rintro e w2 ⟨rfl,rfl⟩
 go_wp2_with fail
 go_ret3
 exact⟨rfl,g1.al _⟩
theorem Left_free (hg:Glob w) (hn:OkN n) {z:Bool} (hz:(pw false b c n==0)=z):Calls Tryz.prog 157 #[.int .i64 (pw false b c n)] w λ e w'=>e=.returned (.tuple #[.bool z,.bool c,.int .i64 0])/\Gr w w':=by
 have U:=λ w=>hid (P3.Unpack_ok false b c n hn w)
 have SS:=λ W (g:Gr w W)=>hid (state_is (a:=false) (b:=b) (c:=c) (hg.gr g) hn)
 obtain⟨k,hk,h3,h2⟩:∃ k,st false b c=k/\(k==3)=false/\(k==2)=c:=⟨_,rfl,by cases b<;>cases c<;>rfl,by cases b<;>cases c<;>rfl⟩
 rw [hk] at SS
 clear hn hk
 generalize pw false b c n=v at *
 go_enter Tryz.func157,Tryz.ntmps157
 go_wp2_with fail
 with_reducible refine (U _).out.mono ?_
 rintro e w1 ⟨rfl,g1⟩
 go_wp2_with fail
 with_reducible refine (SS _ (g1.al _)).out.mono ?_
 rintro e w2 ⟨rfl,rfl⟩
 go_wp2_with fail
 go_ret3
 exact⟨rfl,g1.al _⟩
theorem Wakes_none (hg:Glob w) (hn:OkN n) (h:n=0\/st a b c≠0):Calls Tryz.prog 159 #[.int .i64 (pw a b c n)] w λ e w'=>e=.returned (.tuple #[.bool false,.int .i64 0,.int .i64 0])/\Gr w w':=by
 have U:=λ w=>hid (P3.Unpack_ok a b c n hn w)
 have SS:=λ W (g:Gr w W)=>hid (state_is (a:=a) (b:=b) (c:=c) (hg.gr g) hn)
 generalize st a b c=k at *
 generalize pw a b c n=v at *
 clear hn
 by_cases h0:n=0
 . subst h0
   clear h
   go_enter Tryz.func159,Tryz.ntmps159
   go_wp2_with fail
   with_reducible refine (U _).out.mono ?_
   rintro e w1 ⟨rfl,g1⟩
   go_wp2_with fail
   go_ret3
   exact⟨rfl,g1.al _⟩
 . have hk:(k != 0)=true:=by simpa using h.resolve_left h0
   have hn0:(n==0)=false:=by simpa using h0
   clear h h0
   go_enter Tryz.func159,Tryz.ntmps159
   go_wp2_with fail
   with_reducible refine (U _).out.mono ?_
   rintro e w1 ⟨rfl,g1⟩
   go_wp2_with fail
   with_reducible refine (SS _ (g1.al _)).out.mono ?_
   rintro e w2 ⟨rfl,rfl⟩
   go_wp2_with fail
   go_ret3
   exact⟨rfl,g1.al _⟩
theorem Wakes_yes (hg:Glob w) (hn:OkN n) (h0:0<n) {m:Int} (hm:n-1=m):Calls Tryz.prog 159 #[.int .i64 (pw false false false n)] w λ e w'=>e=.returned (.tuple #[.bool true,.int .i64 (pw false true false m),.int .i64 0])/\Gr w w':=by
 have U:=λ w=>hid (P3.Unpack_ok false false false n hn w)
 have SS:=λ W (g:Gr w W)=>hid (state_is (a:=false) (b:=false) (c:=false) (hg.gr g) hn)
 have WW:=λ w=>hid (P3.Waits_ok false false false n (-1) m hn (by unfold OkN at hn;unfold wrap64;omega) (by unfold OkN at hn;omega) w)
 have HO:=hid (P3.or_2 (a:=false) (b:=false) (c:=false) (n:=m) (by unfold OkN at hn;omega))
 have hne:n≠0:=by omega
 simp only [show st false false false=0 from rfl] at SS
 clear hn hm h0
 generalize pw false false false n=v at *
 generalize pw false false false m=x at *
 generalize pw false true false m=y at *
 go_enter Tryz.func159,Tryz.ntmps159
 go_wp2_with fail
 with_reducible refine (U _).out.mono ?_
 rintro e w1 ⟨rfl,g1⟩
 go_wp2_with fail
 with_reducible refine (SS _ (g1.al _)).out.mono ?_
 rintro e w2 ⟨rfl,rfl⟩
 go_wp2_with fail
 with_reducible refine (WW _).out.mono ?_
 rintro e w3 ⟨rfl,g3⟩
 go_wp2_with fail
 go_ret3
 exact⟨by rw [HO.out];rfl,(g1.al _).trans g3⟩
end
end P15
end
end Go.Proofs.YtainfijdhcehlaaGreatDoor
