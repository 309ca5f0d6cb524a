/-
  A part of the proof.
-/
import Derived.Test.YtainfijdhcehlaaGreatDoorQB3
import Derived.Test.YtainfijdhcehlaaGreatDoorQB6
set_option linter.unusedVariables false
set_option linter.unusedSimpArgs false
set_option maxRecDepth 100000
set_option maxHeartbeats 8000000
namespace Go.Proofs.YtainfijdhcehlaaGreatDoor
open Lib (hid)
section
open Go.ChangeShapes Go.WideShapes Go.ChangeAt Go.RowKit Go.Shelf
attribute [local go_sem] Oper.semAt_some
theorem inOrder_is (A:Option Addr) (n c:Nat) (s:SV) (w:World) :
 Calls Tryz.prog 223 #[.slice A n c,.agg #[.int .i64 s.addr,.int .i64 s.cnt,.slice s.A s.n s.c]] w λ e w' =>
  e=.returned (.func (.func 231) #[] #[.pointer (some ⟨w.heap.size,0,none⟩),.pointer (some ⟨w.heap.size+1,0,none⟩)]) /\
  w'=(w.alloc (.cells #[.slice A n c] 26)).alloc (.cells #[.int .i64 s.addr,.int .i64 s.cnt,.slice s.A s.n s.c] 91):=by
 have hmf:∀ W,(Instr.makeFunc (.func 231) #[] #[.pointer (some ⟨w.heap.size,0,none⟩),.pointer (some ⟨w.heap.size+1,0,none⟩)]).run Tryz.prog W=.ok (.func (.func 231) #[] #[.pointer (some ⟨w.heap.size,0,none⟩),.pointer (some ⟨w.heap.size+1,0,none⟩)]) W:=λ W=>by rfl
 go_enter Tryz.func223,Tryz.ntmps223
 go_wp2_with fail
 go_ret
 exact⟨rfl,rfl⟩
theorem row_of {w0:World} {l:List SV} (h:∀ x∈l,x.ok w0/\x.line.length<=64):∃ xs:List (SVk w0),xs.map Subtype.val=l:=by
 refine⟨l.attachWith (λ x=>x.ok w0/\x.line.length<=64) h,?_⟩
 rw [List.attachWith_map_subtype_val]
theorem inOrder_stops (w0:World) {A:Option Addr} {n c:Nat} {L:List SV} {s:SV} (hm:SMem w0 A n L) (hnc:n<=c) (hcm:c<=9223372036854775807) (ht:Tab L) (hs:SOk s) (hsok:s.ok w0)
 {v:Bool} (hv:v=true↔Has L s.addr) (q:Nat) (hq:q=if v=true then plc L s.addr+1 else plc L s.addr)
 (xs:List (SVk w0)) (hxs:xs.map Subtype.val=L.take (plc L s.addr)++[s]++L.drop q)
 (m:Nat) (hm1:1<=m) (tb sb:Nat) (W:World) (hW:Gr w0 W)
 (hT:Blk W tb #[.slice A n c] 26) (hS:Blk W sb #[.int .i64 s.addr,.int .i64 s.cnt,.slice s.A s.n s.c] 91) :
 SeqStopsK Fence.wide m Tryz.prog 231 #[.pointer (some ⟨tb,0,none⟩),.pointer (some ⟨sb,0,none⟩)] (λ x:SVk w0=>#[Value.agg #[.int .i64 x.1.addr,.int .i64 x.1.cnt,.slice x.1.A x.1.n x.1.c]])
  (Kp3 w0.heap.size) (λ ys=>ys=xs) (λ pre=>pre <+: xs) xs.length W:=λ l J Jx W' hW' hJ _ hY h0 =>
 inOrder1_in w0 hm hnc hcm ht hs hsok hv q hq xs hxs m hm1 l tb sb J Jx W' (hW.trans hW') hJ hY (hT.gr hW') (hS.gr hW') h0
def SetR (L:List SV) (s:SV) (R:List (Int×Int×List Int)) (e:Int):Prop :=
 ((¬ SOk s\/¬ Tab L)/\R=[]/\e=1)\/(SOk s/\Tab L/\((64<(setl L s).length/\R=[]/\e=5)\/((setl L s).length<=64/\R=(setl L s).map SV.pl/\e=0)))
def ful {w0:World} (pre:List (SVk w0)):List SV:=(pre.map Subtype.val).filter λ x=>decide (¬ SNil x)
theorem ful_hit {w0:World} {pre:List (SVk w0)} {x:SVk w0} (h:¬ SNil x.1):ful (pre++[x])=ful pre++[x.1]:=by simp [ful,List.filter_append,h]
theorem ful_miss {w0:World} {pre:List (SVk w0)} {x:SVk w0} (h:SNil x.1):ful (pre++[x])=ful pre:=by simp [ful,List.filter_append,h]
theorem ful_all {w0:World} {L:List SV} {s:SV} {q:Nat} {xs:List (SVk w0)} (ht:Tab L) {v:Bool} (hv:v=true↔Has L s.addr) (hq:q=if v=true then plc L s.addr+1 else plc L s.addr)
 (hxs:xs.map Subtype.val=L.take (plc L s.addr)++[s]++L.drop q):ful xs=setl L s:=by
 unfold ful
 have hb:L.drop q=back L s.addr:=back_drop ht.2 s.addr (by
  cases v with
  | true=>exact .inl ⟨hv.1 rfl,by simpa using hq⟩
  | false=>exact .inr ⟨λ h=>absurd (hv.2 h) (by simp),by simpa using hq⟩)
 rw [hxs,front_take ht.2,hb,List.filter_append,List.filter_append]
 unfold setl
 have hf:∀ l:List SV,(∀ x∈l,x∈L)->l.filter (λ x=>decide (¬ SNil x))=l:=λ l h=>List.filter_eq_self.2 λ x hx=>by simpa using (ht.2.1 x (h x hx)).2
 have e1:=hf (front L s.addr) (λ x hx=>by unfold front at hx;exact (List.mem_filter.1 hx).1)
 have e2:=hf (back L s.addr) (λ x hx=>by unfold back at hx;exact (List.mem_filter.1 hx).1)
 have e3:[s].filter (λ x=>decide (¬ SNil x))=if SNil s then [] else [s]:=by
  by_cases hs:SNil s
  . rw [if_pos hs];simp [hs]
  . rw [if_neg hs];simp [hs]
 rw [e1,e2,e3]
structure SetI (w:World) (b4 b5 b6:Nat) {w0:World} (pre:List (SVk w0)) (W:World):Prop where
 gr:Gr w W
 r4:Blk W b4 #[.slice none 0 0] 26
 r5:Blk W b5 #[.int .i64 0] 27
 row:∃ v R,Blk W b6 #[v] 26/\SOwn W (b6+1) v R/\R.map SV.pl=(ful pre).map SV.pl/\R.length<=64/\(R=[]->v=.slice none 0 0)
theorem blk_kept {W W':World} {b:Nat} {cs:Array Value} {t:TypeId} {row:Option Nat} (h:Blk W b cs t) (hg:W.grownBy W' row) (hr:∀ r,row=some r->∃ o:Obj,W.heap[r]?=some o/\o.isCells=false):Blk W' b cs t :=
 h.gb hg λ e=>by
  obtain⟨o,h1,h2⟩:=hr b e
  rw [show W.heap[b]?=_ from h] at h1
  cases h1
  cases h2
theorem SetI.own {w:World} {b4 b5 b6 B:Nat} {w0:World} (hB:w.heap.size<=B):OwnFrom B (λ (pre:List (SVk w0)) W=>SetI w b4 b5 b6 pre W):=λ pre W W' row h hg hr=>by
 obtain⟨v,R,h1,h2,h3,h4,h5⟩:=h.row
 exact⟨h.gr.gb hg (λ k e=>Nat.le_trans hB (hr k e).1),blk_kept h.r4 hg (λ r e=>(hr r e).2),blk_kept h.r5 hg (λ r e=>(hr r e).2),v,R,blk_kept h1 hg (λ r e=>(hr r e).2),h2.kept hg (λ r e=>.inr (.inr (hr r e).2)),h3,h4,h5⟩
theorem SetI.gr' {w:World} {b4 b5 b6:Nat} {w0:World} {pre:List (SVk w0)} {W W':World} (h:SetI w b4 b5 b6 pre W) (g:Gr W W'):SetI w b4 b5 b6 pre W':=by
 obtain⟨v,R,h1,h2,h3,h4,h5⟩:=h.row
 exact⟨h.gr.trans g,h.r4.gr g,h.r5.gr g,v,R,h1.gr g,h2.gr g,h3,h4,h5⟩
theorem SetI.miss {w:World} {b4 b5 b6:Nat} {w0:World} {pre:List (SVk w0)} {x:SVk w0} {W:World} (h:SetI w b4 b5 b6 pre W) (hx:SNil x.1):SetI w b4 b5 b6 (pre++[x]) W:=by
 refine⟨h.gr,h.r4,h.r5,?_⟩
 rw [ful_miss hx]
 exact h.row
structure SetX (w:World) (b4 b5:Nat) {w0:World} (pre:List (SVk w0)) (W:World):Prop where
 gr:Gr w W
 r4:Blk W b4 #[.slice none 0 0] 26
 r5:Blk W b5 #[.int .i64 5] 27
 many:64<(ful pre).length
theorem SetX.own {w:World} {b4 b5 B:Nat} {w0:World} (c:Code) (hB:w.heap.size<=B):OwnFrom B (λ (pre:List (SVk w0)) W=>c=.ret/\SetX w b4 b5 pre W):=λ pre W W' row h hg hr =>
 ⟨h.1,h.2.gr.gb hg (λ k e=>Nat.le_trans hB (hr k e).1),blk_kept h.2.r4 hg (λ r e=>(hr r e).2),blk_kept h.2.r5 hg (λ r e=>(hr r e).2),h.2.many⟩
theorem keeps_gr {W W':World} (g:Gr W W'):KeepsOthers W W':=⟨g.size,λ k o hk _=>(g.block k (Array.getElem?_eq_some_iff.1 hk).1).trans hk⟩
theorem kp_gr {B:Nat} {W W':World} (hB:B<=W.heap.size) (g:Gr W W'):Kp3 B W W':=⟨Below.mono g hB,λ k cs t hk _=>hk.gr g⟩
theorem kp_set {B:Nat} {W:World} {b:Nat} {cs:Array Value} {t:TypeId} (hB:B<=b) (hb:Blk W b cs t) (h3:cs.size≠3) (u:Value):Kp3 B W (W.setCell ⟨b,0,none⟩ u) :=
 ⟨(Below.refl B W).setCell (p:=⟨b,0,none⟩) hB u,λ k cs' t' hk hs=>hk.st (p:=⟨b,0,none⟩) (λ e=>by
   have e:b=k:=e
   subst e
   have hk':W.heap[b]?=some (.cells cs' t' (0,0)):=hk
   rw [show W.heap[b]?=_ from hb] at hk'
   cases hk'
   exact h3 hs) u⟩
section
variable {w:World} {A:Option Addr} {n c:Nat} {L:List SV} {s:SV}
theorem Set_yes (hm:SMem w A n L) (hnc:n<=c) (hcm:c<=9223372036854775807) (hsok:s.ok w) (ht:Tab L) (hs:SOk s) :
 Calls Tryz.prog 213 #[.slice A n c,.agg #[.int .i64 s.addr,.int .i64 s.cnt,.slice s.A s.n s.c]] w λ e w' =>
  (64<(setl L s).length/\e=.returned (.tuple #[.slice none 0 0,.int .i64 5])/\Gr w w') \/
  ((setl L s).length<=64/\∃ B m T,e=.returned (.tuple #[.slice B T.length m,.int .i64 0])/\SMem w' B T.length T/\T.length<=m/\m<=9223372036854775807/\T.map SV.pl=(setl L s).map SV.pl/\Gr w w'/\SOwn w' w.heap.size (.slice B T.length m) T):=by
 have g0:=(((Gr.refl w).al (.cells #[.int .i64 s.addr,.int .i64 s.cnt,.slice s.A s.n s.c] 91)).al (.cells #[.slice none 0 0] 26)).al (.cells #[.int .i64 0] 27)
 have C1:=hid (rsound_is (hsok.gr g0) (v:=true) ⟨λ _=>hs,λ _=>rfl⟩)
 have C2:=λ W (g:Gr w W)=>RRight_is (c:=c) (hm.gr g) (v:=true) ⟨λ _=>ht,λ _=>rfl⟩
 have K2:=hid C2
 clear C2
 refine (callsIn_wide (n:=6)).1 ?_
 refine callsIn_of_wp_marks Tryz.func213 rfl trivial ?_ rfl
 simp only [Tryz.ntmps213,List.size_toArray,List.length_cons,List.length_nil,Nat.reduceAdd,Nat.reduceSub,Array.replicate_succ,Array.replicate_zero,List.push_toArray,List.append_toArray,List.nil_append,List.cons_append]
 gi_wp2_with fail
 refine⟨trivial,?_⟩
 with_reducible refine (callsIn_wide.2 C1.out).mono ?_
 rintro e w1 ⟨rfl,hb1⟩
 gi_wp2_with fail
 refine⟨trivial,?_⟩
 with_reducible refine (callsIn_wide.2 (K2.out _ (g0.trans hb1))).mono ?_
 rintro e w2 ⟨rfl,hb2⟩
 have BS:=(((Blk.new w #[.int .i64 s.addr,.int .i64 s.cnt,.slice s.A s.n s.c] 91).al (.cells #[.slice none 0 0] 26)).al (.cells #[.int .i64 0] 27)).gr (hb1.trans hb2)
 have B4:=((Blk.new (w.alloc (.cells #[.int .i64 s.addr,.int .i64 s.cnt,.slice s.A s.n s.c] 91)) #[.slice none 0 0] 26).al (.cells #[.int .i64 0] 27)).gr (hb1.trans hb2)
 have B5:=(Blk.new ((w.alloc (.cells #[.int .i64 s.addr,.int .i64 s.cnt,.slice s.A s.n s.c] 91)).alloc (.cells #[.slice none 0 0] 26)) #[.int .i64 0] 27).gr (hb1.trans hb2)
 simp only [World.size_alloc] at B4 B5
 have G2:=(g0.trans hb1).trans hb2
 have B6:=Blk.new w2 #[.slice none 0 0] 26
 have f0:=(BS.at_ (k:=0) rfl).1
 have f1:=(BS.at_ (k:=1) rfl).1
 have f2:=(BS.at_ (k:=2) rfl).1
 have fl:=BS.lt
 have fl5:=B5.lt
 clear C1 K2 hb1 hb2
 gi_wp2_with fail
 refine⟨trivial,?_⟩
 with_reducible refine (callsIn_wide.2 (inOrder_is A n c s _)).mono ?_
 rintro e w3 ⟨rfl,hw3⟩
 have gW:Gr (w2.alloc (.cells #[.slice none 0 0] 26)) w3:=by rw [hw3];exact ((Gr.refl _).al _).al _
 have G3:=hid ((G2.al (.cells #[.slice none 0 0] 26)).trans gW)
 have HB4:=hid ((B4.al (.cells #[.slice none 0 0] 26)).gr gW)
 have HB5:=hid ((B5.al (.cells #[.slice none 0 0] 26)).gr gW)
 have HB6:=hid (B6.gr gW)
 have HT:=hid (show Blk w3 (w2.heap.size+1) #[.slice A n c] 26 from by
  rw [hw3];simpa using (Blk.new (w2.alloc (.cells #[.slice none 0 0] 26)) #[.slice A n c] 26).al (.cells #[.int .i64 s.addr,.int .i64 s.cnt,.slice s.A s.n s.c] 91))
 have HS:=hid (show Blk w3 (w2.heap.size+1+1) #[.int .i64 s.addr,.int .i64 s.cnt,.slice s.A s.n s.c] 91 from by
  rw [hw3];simpa using Blk.new ((w2.alloc (.cells #[.slice none 0 0] 26)).alloc (.cells #[.slice A n c] 26)) #[.int .i64 s.addr,.int .i64 s.cnt,.slice s.A s.n s.c] 91)
 have hw3s:w3.heap.size=w2.heap.size+3:=by rw [hw3];simp
 clear hw3 gW f0 f1 f2 BS B4 B5 B6 G2 g0
 gi_wp2_with fail
 obtain⟨v,hv⟩:=yes_no (Has L s.addr)
 obtain⟨q,hq⟩:∃ q,q=if v=true then plc L s.addr+1 else plc L s.addr:=⟨_,rfl⟩
 obtain⟨xs,hxs⟩:∃ xs:List (SVk w),xs.map Subtype.val=L.take (plc L s.addr)++[s]++L.drop q:=row_of λ x hx=>by
  have hL:∀ y∈L,y.ok w/\y.line.length<=64:=λ y hy=>⟨hm.2.1 y hy,(ht.2.1 y hy).1.2.2.2.1.1⟩
  rcases List.mem_append.1 hx with hx | hx
  . rcases List.mem_append.1 hx with hx | hx
    . exact hL x (List.mem_of_mem_take hx)
    . rw [List.mem_singleton] at hx;subst hx;exact⟨hsok,hs.2.2.2.1.1⟩
  . exact hL x (List.mem_of_mem_drop hx)
 have hful:=hid (ful_all ht hv hq hxs)
 have hstops:=inOrder_stops w hm hnc hcm ht hs hsok hv q hq xs hxs (6-1) (by omega) (w2.heap.size+1) (w2.heap.size+1+1) w3 G3.out HT.out HS.out
 clear hm hnc hcm hsok ht hs hv hq hxs HT HS
 obtain⟨b5,hb5⟩:∃ b,w.heap.size+1+1=b:=⟨_,rfl⟩
 obtain⟨b4,hb4⟩:∃ b,w.heap.size+1=b:=⟨_,rfl⟩
 obtain⟨b6,hb6⟩:∃ b,w2.heap.size=b:=⟨_,rfl⟩
 rw [hb5] at HB5
 rw [hb4] at HB4
 rw [hb6] at HB6 hstops
 rw [hb5,hb4,hb6]
 have h45:w.heap.size<b4/\b4<b5/\b5<b6/\b6<w3.heap.size:=by omega
 clear hb4 hb5 hb6 fl fl5 hw3s
 refine wpIn_rangeFunc_ownH rfl (by omega) (gf:=231) (lb:=#[.pointer (some ⟨b6+1,0,none⟩),.pointer (some ⟨b6+1+1,0,none⟩)]) rfl trivial (enters_of Tryz.func231 (by kernel_rfl) rfl)
  hstops (λ h k=>h.t k) (Kp3.b G3.out.size) (Gr.refl _) (λ _=>rfl)
  (λ pre W=>SetI w b4 b5 b6 pre W) (λ c pre W=>c=.ret/\SetX w b4 b5 pre W) (SetI.own G3.out.size) (λ c=>SetX.own c G3.out.size)
  ⟨G3.out,HB4.out,HB5.out,.slice none 0 0,[],HB6.out,SOwn.nil _ _,rfl,by simp,λ _=>rfl⟩
  (λ x a' W=>∃ Bx,b6<Bx/\Blk W Bx #[.int .i64 x.1.addr,.int .i64 x.1.cnt,.slice x.1.A x.1.n x.1.c] 91/\a'={ tmps:=#[.slice A n c,.agg #[.int .i64 s.addr,.int .i64 s.cnt,.slice s.A s.n s.c],undef,.pointer (some ⟨w.heap.size,0,none⟩),.pointer (some ⟨b4,0,none⟩),.pointer (some ⟨b5,0,none⟩),.pointer (some ⟨b6,0,none⟩),.pointer (some ⟨Bx,0,none⟩),.agg #[.int .i64 s.addr,.int .i64 s.cnt,.slice s.A s.n s.c],.bool true,.bool false,.bool false,.slice A n c,.bool true,.bool false,.bool false,.slice A n c,.agg #[.int .i64 s.addr,.int .i64 s.cnt,.slice s.A s.n s.c],.func (.func 231) #[] #[.pointer (some ⟨b6+1,0,none⟩),.pointer (some ⟨b6+1+1,0,none⟩)],.agg #[.int .i64 x.1.addr,.int .i64 x.1.cnt,.slice x.1.A x.1.n x.1.c],undef,undef,undef,undef,undef,undef,undef,undef,undef,undef,undef],defers:=[] })
  (λ x a' _ X Y row hs hg hr=>by
    obtain⟨Bx,h1,h2,h3⟩:=hs
    exact⟨Bx,h1,blk_kept h2 hg (λ r e=>(hr r e).2),h3⟩)
  ?assign ?body ?done ?stop
 case assign =>
  rintro l pre x W K hI hK
  have hlt6:b6<W.heap.size:=by
   obtain⟨v,R,h1,_⟩:=hI.row
   exact h1.lt
  have ha:=(Gr.refl W).al (.cells #[.int .i64 x.1.addr,.int .i64 x.1.cnt,.slice x.1.A x.1.n x.1.c] 91)
  have HK:=hid (hK _ _ ((keeps_gr ha).from _) (kp_gr hI.gr.size ha) (hI.gr' ha) ⟨W.heap.size,hlt6,Blk.new W _ _,rfl⟩)
  clear hK
  gi_wp2_with fail
  exact HK.out
 case body =>
  rintro l pre x a' W hl ⟨r,hr⟩ hI ⟨Bx,hBx,bX,rfl⟩ hlt
  have hxok:=x.2.1.gr hI.gr
  have hx64:=x.2.2
  obtain⟨e,he⟩:=yes_no (SNil x.1)
  have CE:=hid (empty_is (w:=W) hxok he W)
  have HE:=hid he
  have c0:=(bX.at_ (k:=0) rfl).1
  have c1:=(bX.at_ (k:=1) rfl).1
  have c2:=(bX.at_ (k:=2) rfl).1
  have HI:=hid hI
  have HBX:=hid bX
  have HOK:=hid hxok
  clear he hI bX hxok hr hl hlt
  gi_wp2_with fail
  refine⟨trivial,?_⟩
  with_reducible refine (CallsIn.inRound l (callsIn_wide.2 CE.out)).mono ?_
  rintro ee W1 ⟨rfl,g1⟩
  have HI1:=hid (HI.out.gr' g1)
  have HBX1:=hid (HBX.out.gr g1)
  have HG1:=hid g1
  clear g1 c0 c1 c2 CE
  cases e with
  | true =>
   have hxn:SNil x.1:=HE.out.1 rfl
   gi_wp2_with fail
   exact⟨(keeps_gr HG1.out).from _,kp_gr HI.out.gr.size HG1.out,HI1.out.miss hxn⟩
  | false =>
   have hxn:¬ SNil x.1:=λ h=>absurd (HE.out.2 h) (by simp)
   obtain⟨v0,R,h6,hown,hpl,h64,hnil⟩:=HI1.out.row
   obtain⟨B0,m0,rfl,hmem,hle,hmx⟩:=hown.mem
   obtain⟨N,hN⟩:∃ N,R.length=N:=⟨_,rfl⟩
   rw [hN] at h6 hnil h64
   have c6:=(h6.at_ (k:=0) rfl).1
   have hR4:=hid HI1.out.r4
   have hR5:=hid HI1.out.r5
   by_cases hfull:N=64
   . subst hfull
     obtain⟨c4,z4⟩:=HI1.out.r4.at_ (k:=0) rfl
     obtain⟨c5,z5⟩:=HI1.out.r5.at_ (k:=0) rfl
     have hX:=hid (show SetX w b4 b5 (pre++[x]) ((W1.setCell ⟨b4,0,none⟩ (.slice none 0 0)).setCell ⟨b5,0,none⟩ (.int .i64 5)) from
      ⟨(HI1.out.gr.st (p:=⟨b4,0,none⟩) (by show w.heap.size<=b4;omega) _).st (p:=⟨b5,0,none⟩) (by show w.heap.size<=b5;omega) _,(hR4.out.set 0 (.slice none 0 0)).st (p:=⟨b5,0,none⟩) (by show b5≠b4;omega) _,(hR5.out.st (p:=⟨b4,0,none⟩) (by show b4≠b5;omega) _).set 0 (.int .i64 5),by
        rw [ful_hit hxn,List.length_append]
        have:=congrArg List.length hpl
        simp [hN] at this
        simp
        omega⟩)
     have hK:=hid (((keeps_gr HG1.out).trans ((KeepsOthers.setCell W1 ⟨b4,0,none⟩ (.slice none 0 0)).trans (KeepsOthers.setCell _ ⟨b5,0,none⟩ (.int .i64 5)))).from w3.heap.size)
     clear hown hmem hle hmx hpl h6
     gi_wp2_with fail
     exact⟨hK.out,rfl,hX.out⟩
   . have hne:((N:Int)==64)=false:=beq_eq_false_iff_ne.2 (by omega)
     have h6l:=h6.lt
     have hoN:SOwn W1 (b6+1) (.slice B0 N m0) R:=hN▸hown
     have fin:∀ (B9:Option Addr) (k9 g cap:Nat) (W9 W4:World),SV.ok W9 ⟨x.1.addr,x.1.cnt,B9,x.1.n,k9,x.1.line⟩->(∀ j,B9.map (·.block)=some j->W1.heap.size<=j/\j<W9.heap.size)->Gr W1.drew W9 ->
      Appended (W9.alloc (.cells #[.int .i64 x.1.addr,.int .i64 x.1.cnt,.slice B9 x.1.n k9] 91)) (b6+1) (.slice B0 N m0) R ⟨x.1.addr,x.1.cnt,B9,x.1.n,k9,x.1.line⟩ g cap W4 ->
      KeepsFrom w3.heap.size W (W4.setCell ⟨b6,0,none⟩ (.slice (some ⟨g,0,none⟩) (N+1) cap))/\Kp3 w.heap.size W (W4.setCell ⟨b6,0,none⟩ (.slice (some ⟨g,0,none⟩) (N+1) cap)) /\
       SetI w b4 b5 b6 (pre++[x]) (W4.setCell ⟨b6,0,none⟩ (.slice (some ⟨g,0,none⟩) (N+1) cap)):=by
      intro B9 k9 g cap W9 W4 hok hoff hb9 hA
      rw [show N+1=R.length+1 from by omega]
      have hg1:=(Gr.refl W9).al (.cells #[.int .i64 x.1.addr,.int .i64 x.1.cnt,.slice B9 x.1.n k9] 91)
      have gA:Gr W1 (W9.alloc (.cells #[.int .i64 x.1.addr,.int .i64 x.1.cnt,.slice B9 x.1.n k9] 91)):=((Gr.refl W1).dr.trans hb9).trans hg1
      have hyo:∀ j,B9.map (·.block)=some j->b6+1<=j/\j<(W9.alloc (.cells #[.int .i64 x.1.addr,.int .i64 x.1.cnt,.slice B9 x.1.n k9] 91)).heap.size/\(Value.slice B0 N m0).ownBlock≠some j:=λ j hj=>by
       obtain⟨h1,h2⟩:=hoff j hj
       refine⟨by omega,Nat.lt_of_lt_of_le h2 hg1.size,λ e=>?_⟩
       obtain⟨_,cs,hc⟩:=hoN.block e
       have:=(Array.getElem?_eq_some_iff.1 hc).1
       omega
      have hy:=hok.gr hg1
      clear hok hoff hg1 hb9
      generalize W9.alloc (.cells #[.int .i64 x.1.addr,.int .i64 x.1.cnt,.slice B9 x.1.n k9] 91)=WA at *
      have hoA:=hoN.gr gA
      have hgrow:=hA.2.1
      have hblk:∀ k,(Value.slice B0 N m0).ownBlock=some k->b6+1<=k:=λ k e=>(hoN.block e).1
      have kA:KeepsOthers WA W4:=KeepsOthers.of_grownBy hgrow λ k o ek hk=>by
       obtain⟨_,cs,hc⟩:=hoA.block ek
       rw [hc] at hk
       cases hk
       rfl
      have h4:Blk W4 b6 #[.slice B0 N m0] 26:=(h6.gr gA).gb hgrow (λ e=>by have:=hblk _ e;omega)
      have hws:w.heap.size<=WA.heap.size:=(HI1.out.gr.trans gA).size
      refine⟨(((keeps_gr HG1.out).trans (keeps_gr gA)).trans (kA.trans (KeepsOthers.setCell _ _ _))).from _,?_,?_⟩
      . refine ((kp_gr HI.out.gr.size (HG1.out.trans gA)).t ⟨(Below.refl _ WA).grown hgrow hws (λ k e=>by have:=hblk k e;omega),λ k cs t hk h3=>hA.three hoA.row (λ e=>hnil e) hk h3⟩).t (kp_set (by omega) h4 (by simp) _)
      . refine⟨((HI1.out.gr.trans gA).gb hgrow (λ k e=>by have:=hblk k e;omega)).st (p:=⟨b6,0,none⟩) (by show w.heap.size<=b6;omega) _,((hR4.out.gr gA).gb hgrow (λ e=>by have:=hblk _ e;omega)).st (p:=⟨b6,0,none⟩) (by show b6≠b4;omega) _,
         ((hR5.out.gr gA).gb hgrow (λ e=>by have:=hblk _ e;omega)).st (p:=⟨b6,0,none⟩) (by show b6≠b5;omega) _,.slice (some ⟨g,0,none⟩) (R.length+1) cap,R++[⟨x.1.addr,x.1.cnt,B9,x.1.n,k9,x.1.line⟩],?_,?_,?_,?_,?_⟩
        . exact h4.set 0 _
        . exact (hoA.step hy hyo hA.1 hgrow hA.2.2.1).st (by omega) _
        . rw [ful_hit hxn,List.map_append,List.map_append,hpl];rfl
        . rw [List.length_append];simp;omega
        . intro e;simp at e
     have FIN:=hid fin
     have CO:Hid (∀ W',Gr W1 W'->Calls Tryz.prog 222 #[.agg #[.int .i64 x.1.addr,.int .i64 x.1.cnt,.slice x.1.A x.1.n x.1.c]] W' λ e w'=>∃ B k,e=.returned (.agg #[.int .i64 x.1.addr,.int .i64 x.1.cnt,.slice B x.1.n k]) /\
      SV.ok w' ⟨x.1.addr,x.1.cnt,B,x.1.n,k,x.1.line⟩/\(∀ j,B.map (·.block)=some j->W'.heap.size<=j/\j<w'.heap.size)/\Gr W' w'):=hid λ W' g=>by
      have hx':=(HOK.out.gr HG1.out).gr g
      have hl:=hx'.len
      refine (own_is' (a:=x.1.addr) (q:=x.1.cnt) (c:=x.1.c) hx'.2.2.1 (by omega)).mono ?_
      rintro e w' ⟨B,k,rfl,ho,hg⟩
      exact⟨B,k,rfl,⟨hx'.1,hx'.2.1,ho.mem,ho.le,by have:=ho.max;unfold maxLen at this;omega⟩,ho.lt,hg⟩
     have d69:Hid (∀ W',Gr W1.drew W'->W'.cell? ⟨b6,0,none⟩=some (.slice B0 N m0)/\b6<W'.heap.size):=hid λ W' g=>⟨(((h6.gr (Gr.refl W1).dr).gr g).at_ (k:=0) rfl).1,((h6.gr (Gr.refl W1).dr).gr g).lt⟩
     have row9:Hid (∀ W',Gr W1.drew W'->SRow W' (b6+1) (.slice B0 N m0) R.length R):=hid λ W' g=>(hoN.gr ((Gr.refl W1).dr.trans g)).row
     have base9:Hid (∀ W',Gr W1.drew W'->b6+1<=W'.heap.size):=hid λ W' g=>Nat.le_trans h6l ((Gr.refl W1).dr.trans g).size
     have f69:Hid (∀ W' W4 y g cap,Gr W1.drew W'->Appended W' (b6+1) (.slice B0 N m0) R y g cap W4->W4.cell? ⟨b6,0,none⟩=some (.slice B0 N m0)/\W4.frozen? ⟨b6,0,none⟩=false):=hid λ W' W4 y g cap hb hA =>
      (((h6.gr (Gr.refl W1).dr).gr hb).gb hA.2.1 (λ e=>by have:=(hoN.block e).1;omega)).at_ (k:=0) rfl
     obtain⟨e0,_⟩:=HBX1.out.at_ (k:=0) rfl
     obtain⟨e1,_⟩:=HBX1.out.at_ (k:=1) rfl
     obtain⟨e2,_⟩:=HBX1.out.at_ (k:=2) rfl
     have hlR:R.length<=1000000:=by omega
     clear fin hown hmem hle hmx hpl hnil hoN hR4 hR5
     gi_wp2_with fail
     refine wpIn_region_any (by kernel_rfl) ?_
     change wpAnyIn _ _ _ _ _ _ _ _ _ (World.drew _)
     refine wpAnyIn_ready (rs:=[0,1]) (by kernel_rfl) (by simp) ?_
     refine AllReadyIn.cons rfl (λ K hK=>?_) ?_
     . go_simp
       refine hK _ _ ?_
       clear hK K
       try simp only [pL]
       refine wpAnyIn_ready (rs:=[1]) (by kernel_rfl) (by simp) ?_
       refine AllReadyIn.cons rfl (λ K hK=>?_) ?_
       . go_simp
         refine hK _ _ ?_
         clear hK K
         try simp only [pL]
         refine wpAnyIn_ready (rs:=[2]) (by kernel_rfl) (by simp) ?_
         refine AllReadyIn.cons rfl (λ K hK=>?_) ?_
         . go_simp
           refine⟨trivial,?_⟩
           with_reducible refine (CallsIn.inRound l (callsIn_wide.2 (CO.out _ (Gr.refl W1).dr))).mono ?_
           rintro ee W9 ⟨B9,k9,rfl,hok9,hoff9,hb9⟩
           obtain⟨d6,e6⟩:=d69.out W9 hb9
           have g9:=hid hb9
           have k9h:=hid hok9
           have o9:=hid hoff9
           clear hb9 hok9 hoff9
           refine hK _ _ ?_
           clear hK K
           try simp only [pL]
           refine wpAnyIn_ready (rs:=[3]) (by kernel_rfl) (by simp) ?_
           refine AllReadyIn.cons rfl (λ K hK=>?_) ?_
           . go_simp
             refine hK _ _ ?_
             clear hK K
             try simp only [pL]
             refine wpAnyIn_ready (rs:=[4]) (by kernel_rfl) (by simp) ?_
             refine AllReadyIn.cons rfl (λ K hK=>?_) ?_
             . refine stepIn_append_spot (l:=l) (y:=⟨x.1.addr,x.1.cnt,B9,x.1.n,k9,x.1.line⟩) rfl (.tmp 25) (.tmp 28) rfl rfl rfl (row9.out _ (g9.out.al _)) (Blk.new W9 _ _) hlR (base9.out _ (g9.out.al _)) ?_
               intro g cap W4 hA
               obtain⟨f6,f7⟩:=f69.out _ _ _ _ _ (g9.out.al _) hA
               have hAA:=hid hA
               clear hA
               refine hK _ _ ?_
               clear hK K
               try simp only [pL]
               refine wpAnyIn_ready (rs:=[5]) (by kernel_rfl) (by simp) ?_
               refine AllReadyIn.cons rfl (λ K hK=>?_) ?_
               . go_simp
                 refine hK _ _ ?_
                 clear hK K
                 try simp only [pL]
                 refine wpAnyIn_done (by kernel_rfl) ?_ _
                 gi_wp2_with fail
                 exact FIN.out _ _ _ _ _ _ k9h.out o9.out g9.out hAA.out
               exact AllReadyIn.nil
             exact AllReadyIn.nil
           exact AllReadyIn.nil
         exact AllReadyIn.nil
       exact AllReadyIn.nil
     refine AllReadyIn.cons rfl (λ K hK=>?_) ?_
     . go_simp
       refine hK _ _ ?_
       clear hK K
       try simp only [pL]
       refine wpAnyIn_ready (rs:=[0,2]) (by kernel_rfl) (by simp) ?_
       refine AllReadyIn.cons rfl (λ K hK=>?_) ?_
       . go_simp
         refine hK _ _ ?_
         clear hK K
         try simp only [pL]
         refine wpAnyIn_ready (rs:=[2]) (by kernel_rfl) (by simp) ?_
         refine AllReadyIn.cons rfl (λ K hK=>?_) ?_
         . go_simp
           refine⟨trivial,?_⟩
           with_reducible refine (CallsIn.inRound l (callsIn_wide.2 (CO.out _ (Gr.refl W1).dr))).mono ?_
           rintro ee W9 ⟨B9,k9,rfl,hok9,hoff9,hb9⟩
           obtain⟨d6,e6⟩:=d69.out W9 hb9
           have g9:=hid hb9
           have k9h:=hid hok9
           have o9:=hid hoff9
           clear hb9 hok9 hoff9
           refine hK _ _ ?_
           clear hK K
           try simp only [pL]
           refine wpAnyIn_ready (rs:=[3]) (by kernel_rfl) (by simp) ?_
           refine AllReadyIn.cons rfl (λ K hK=>?_) ?_
           . go_simp
             refine hK _ _ ?_
             clear hK K
             try simp only [pL]
             refine wpAnyIn_ready (rs:=[4]) (by kernel_rfl) (by simp) ?_
             refine AllReadyIn.cons rfl (λ K hK=>?_) ?_
             . refine stepIn_append_spot (l:=l) (y:=⟨x.1.addr,x.1.cnt,B9,x.1.n,k9,x.1.line⟩) rfl (.tmp 25) (.tmp 28) rfl rfl rfl (row9.out _ (g9.out.al _)) (Blk.new W9 _ _) hlR (base9.out _ (g9.out.al _)) ?_
               intro g cap W4 hA
               obtain⟨f6,f7⟩:=f69.out _ _ _ _ _ (g9.out.al _) hA
               have hAA:=hid hA
               clear hA
               refine hK _ _ ?_
               clear hK K
               try simp only [pL]
               refine wpAnyIn_ready (rs:=[5]) (by kernel_rfl) (by simp) ?_
               refine AllReadyIn.cons rfl (λ K hK=>?_) ?_
               . go_simp
                 refine hK _ _ ?_
                 clear hK K
                 try simp only [pL]
                 refine wpAnyIn_done (by kernel_rfl) ?_ _
                 gi_wp2_with fail
                 exact FIN.out _ _ _ _ _ _ k9h.out o9.out g9.out hAA.out
               exact AllReadyIn.nil
             exact AllReadyIn.nil
           exact AllReadyIn.nil
         exact AllReadyIn.nil
       refine AllReadyIn.cons rfl (λ K hK=>?_) ?_
       . go_simp
         refine⟨trivial,?_⟩
         with_reducible refine (CallsIn.inRound l (callsIn_wide.2 (CO.out _ (Gr.refl W1).dr))).mono ?_
         rintro ee W9 ⟨B9,k9,rfl,hok9,hoff9,hb9⟩
         obtain⟨d6,e6⟩:=d69.out W9 hb9
         have g9:=hid hb9
         have k9h:=hid hok9
         have o9:=hid hoff9
         clear hb9 hok9 hoff9
         refine hK _ _ ?_
         clear hK K
         try simp only [pL]
         refine wpAnyIn_ready (rs:=[0,3]) (by kernel_rfl) (by simp) ?_
         refine AllReadyIn.cons rfl (λ K hK=>?_) ?_
         . go_simp
           refine hK _ _ ?_
           clear hK K
           try simp only [pL]
           refine wpAnyIn_ready (rs:=[3]) (by kernel_rfl) (by simp) ?_
           refine AllReadyIn.cons rfl (λ K hK=>?_) ?_
           . go_simp
             refine hK _ _ ?_
             clear hK K
             try simp only [pL]
             refine wpAnyIn_ready (rs:=[4]) (by kernel_rfl) (by simp) ?_
             refine AllReadyIn.cons rfl (λ K hK=>?_) ?_
             . refine stepIn_append_spot (l:=l) (y:=⟨x.1.addr,x.1.cnt,B9,x.1.n,k9,x.1.line⟩) rfl (.tmp 25) (.tmp 28) rfl rfl rfl (row9.out _ (g9.out.al _)) (Blk.new W9 _ _) hlR (base9.out _ (g9.out.al _)) ?_
               intro g cap W4 hA
               obtain⟨f6,f7⟩:=f69.out _ _ _ _ _ (g9.out.al _) hA
               have hAA:=hid hA
               clear hA
               refine hK _ _ ?_
               clear hK K
               try simp only [pL]
               refine wpAnyIn_ready (rs:=[5]) (by kernel_rfl) (by simp) ?_
               refine AllReadyIn.cons rfl (λ K hK=>?_) ?_
               . go_simp
                 refine hK _ _ ?_
                 clear hK K
                 try simp only [pL]
                 refine wpAnyIn_done (by kernel_rfl) ?_ _
                 gi_wp2_with fail
                 exact FIN.out _ _ _ _ _ _ k9h.out o9.out g9.out hAA.out
               exact AllReadyIn.nil
             exact AllReadyIn.nil
           exact AllReadyIn.nil
         refine AllReadyIn.cons rfl (λ K hK=>?_) ?_
         . go_simp
           refine hK _ _ ?_
           clear hK K
           try simp only [pL]
           refine wpAnyIn_ready (rs:=[0]) (by kernel_rfl) (by simp) ?_
           refine AllReadyIn.cons rfl (λ K hK=>?_) ?_
           . go_simp
             refine hK _ _ ?_
             clear hK K
             try simp only [pL]
             refine wpAnyIn_ready (rs:=[4]) (by kernel_rfl) (by simp) ?_
             refine AllReadyIn.cons rfl (λ K hK=>?_) ?_
             . refine stepIn_append_spot (l:=l) (y:=⟨x.1.addr,x.1.cnt,B9,x.1.n,k9,x.1.line⟩) rfl (.tmp 25) (.tmp 28) rfl rfl rfl (row9.out _ (g9.out.al _)) (Blk.new W9 _ _) hlR (base9.out _ (g9.out.al _)) ?_
               intro g cap W4 hA
               obtain⟨f6,f7⟩:=f69.out _ _ _ _ _ (g9.out.al _) hA
               have hAA:=hid hA
               clear hA
               refine hK _ _ ?_
               clear hK K
               try simp only [pL]
               refine wpAnyIn_ready (rs:=[5]) (by kernel_rfl) (by simp) ?_
               refine AllReadyIn.cons rfl (λ K hK=>?_) ?_
               . go_simp
                 refine hK _ _ ?_
                 clear hK K
                 try simp only [pL]
                 refine wpAnyIn_done (by kernel_rfl) ?_ _
                 gi_wp2_with fail
                 exact FIN.out _ _ _ _ _ _ k9h.out o9.out g9.out hAA.out
               exact AllReadyIn.nil
             exact AllReadyIn.nil
           exact AllReadyIn.nil
         exact AllReadyIn.nil
       exact AllReadyIn.nil
     exact AllReadyIn.nil
 case done =>
  rintro D ys W hD rfl hI hK
  obtain⟨v0,R,h6,hown,hpl,h64,hnil⟩:=hI.row
  have hlen:R.length=(setl L s).length:=by
   have:=congrArg List.length hpl
   rw [hful.out] at this
   simpa using this
  obtain⟨B0,m0,rfl,hmem,hle,hmx⟩:=hown.mem
  have c6:=(h6.at_ (k:=0) rfl).1
  obtain⟨c4,z4⟩:=hI.r4.at_ (k:=0) rfl
  obtain⟨c5,z5⟩:=hI.r5.at_ (k:=0) rfl
  have n45:b4≠b5:=by omega
  obtain⟨N,hN⟩:∃ N,R.length=N:=⟨_,rfl⟩
  have hDk:=hid hK
  have HO:=hid hown
  have HIR:=hid hI
  have HLE:=hid (hN▸hle:N<=m0)
  have HRL:=hid hN
  rw [hN] at h6 c6 hmem hle
  clear hK hown hI hN
  gi_wp2_with fail
  have hK1:((W.setCell ⟨b4,0,none⟩ (.slice B0 N m0)).setCell ⟨b5,0,none⟩ (.int .i64 0)).heap[D]?=some (.deferred (some [])):=((KeepsOthers.setCell W ⟨b4,0,none⟩ (.slice B0 N m0)).trans (KeepsOthers.setCell _ ⟨b5,0,none⟩ (.int .i64 0))).same D _ hDk.out rfl
  have D4:Blk ((W.setCell ⟨b4,0,none⟩ (.slice B0 N m0)).setCell ⟨b5,0,none⟩ (.int .i64 0)) b4 #[.slice B0 N m0] 26:=(HIR.out.r4.set 0 (.slice B0 N m0)).st (p:=⟨b5,0,none⟩) (by show b5≠b4;omega) _
  have D5:Blk ((W.setCell ⟨b4,0,none⟩ (.slice B0 N m0)).setCell ⟨b5,0,none⟩ (.int .i64 0)) b5 #[.int .i64 0] 27:=(HIR.out.r5.st (p:=⟨b4,0,none⟩) (by show b4≠b5;omega) _).set 0 (.int .i64 0)
  have DO:=((HO.out.st (b:=b4) (by omega) (.slice B0 N m0)).st (b:=b5) (by omega) (.int .i64 0))
  have DG:=(HIR.out.gr.st (p:=⟨b4,0,none⟩) (by show w.heap.size<=b4;omega) (.slice B0 N m0)).st (p:=⟨b5,0,none⟩) (by show w.heap.size<=b5;omega) (.int .i64 0)
  refine⟨by simp,.inl ⟨_,_,rfl,run_takeDeferred hK1,?_⟩⟩
  clear c4 z4 c5 z5 c6 h6 hmem
  generalize (W.setCell ⟨b4,0,none⟩ (.slice B0 N m0)).setCell ⟨b5,0,none⟩ (.int .i64 0)=WE at *
  have E4:=blk_kept D4 (grownBy_putObj' WE D (.deferred none)) (λ r e=>by cases e;exact⟨_,hK1,rfl⟩)
  have E5:=blk_kept D5 (grownBy_putObj' WE D (.deferred none)) (λ r e=>by cases e;exact⟨_,hK1,rfl⟩)
  have EO:=DO.kept (grownBy_putObj' WE D (.deferred none)) (λ r e=>by cases e;exact .inr (.inr ⟨_,hK1,rfl⟩))
  have EG:=DG.gb (grownBy_putObj' WE D (.deferred none)) (λ k e=>by cases e;exact Nat.le_trans G3.out.size hD)
  clear D4 D5 DO DG hK1
  generalize WE.putObj D (.deferred none)=WF at *
  obtain⟨B1,m1,e1,hmem,hle1,hmx1⟩:=EO.mem
  have q4:WF.cell? ⟨b4,0,none⟩=some (.slice B0 N m0):=(E4.at_ (k:=0) rfl).1
  have q5:WF.cell? ⟨b5,0,none⟩=some (.int .i64 0):=(E5.at_ (k:=0) rfl).1
  have hRN:=HRL.out
  cases e1
  exact⟨.tuple #[.slice B0 N m0,.int .i64 0],by simp [results,Tryz.results213,go_sem,q4,q5],.inr ⟨by omega,B0,m0,R,by rw [hRN],hmem,hle1,hmx1,by rw [hpl,hful.out],EG,EO.low (show w.heap.size<=b6+1 by omega)⟩⟩
 case stop =>
  rintro D cc pre W hD hpre ⟨rfl,hX⟩ hK
  have hmany:64<(setl L s).length:=by
   obtain⟨rest,hr⟩:=hpre
   have h1:=hX.many
   rw [<- hful.out,<- hr]
   have:(ful pre).length<=(ful (pre++rest)).length:=by
    unfold ful
    rw [List.map_append,List.filter_append,List.length_append]
    omega
   omega
  have HX:=hid hX
  have HK:=hid hK
  clear hX hK hpre
  gi_wp2_with fail
  refine⟨by simp,.inl ⟨_,_,rfl,run_takeDeferred HK.out,?_⟩⟩
  have E4:=blk_kept HX.out.r4 (grownBy_putObj' W D (.deferred none)) (λ r e=>by cases e;exact⟨_,HK.out,rfl⟩)
  have E5:=blk_kept HX.out.r5 (grownBy_putObj' W D (.deferred none)) (λ r e=>by cases e;exact⟨_,HK.out,rfl⟩)
  have EG:=HX.out.gr.gb (grownBy_putObj' W D (.deferred none)) (λ k e=>by cases e;exact Nat.le_trans G3.out.size hD)
  generalize W.putObj D (.deferred none)=WF at *
  have q4:WF.cell? ⟨b4,0,none⟩=some (.slice none 0 0):=(E4.at_ (k:=0) rfl).1
  have q5:WF.cell? ⟨b5,0,none⟩=some (.int .i64 5):=(E5.at_ (k:=0) rfl).1
  exact⟨.tuple #[.slice none 0 0,.int .i64 5],by simp [results,Tryz.results213,go_sem,q4,q5],.inl ⟨hmany,rfl,EG⟩⟩
end
end
end Go.Proofs.YtainfijdhcehlaaGreatDoor
