/-
  A part of the proof.
-/
import Derived.Test.YtainfijdhcehlaaGreatDoorQS17
import Derived.Laws.StructEq
import Derived.ChangeKeysEq
import Derived.RegionTactic
import Derived.Deep.DeepCutAuto
set_option linter.all false
set_option maxRecDepth 100000
set_option maxHeartbeats 8000000
namespace Go.Proofs.YtainfijdhcehlaaGreatDoor
open Lib (hid)
section
open Go.ChangeShapes Go.WideShapes Go.ChangeAt Go.RowKit
namespace P14
open P3 (fl pw)
open P4 (Tm)
section
variable {s r:Int} {t k a b c:Bool} {n:Int} {w:World}
theorem wanted_broken (h:OkS s r) (hn:OkN n) :
 Calls Tryz.prog 181 #[ov s t true r (pw a false c n)] w λ e w'=>e=.panicked (pan 12)/\Gr w w':=by
 have L:=λ w=>hid (look_ok (t:=t) (k:=true) (a:=a) (b:=false) (c:=c) (w:=w) h hn)
 generalize pw a false c n=v at *
 have N0:=Blk.new w #[.int .i64 s,.bool t,.bool true,.int .i64 r,.int .i64 v] 53
 have G0:=(Gr.refl w).al (.cells #[.int .i64 s,.bool t,.bool true,.int .i64 r,.int .i64 v] 53)
 clear h hn
 go_enter Tryz.func181,Tryz.ntmps181
 go_wp2_with fail
 with_reducible refine (L _).out.mono ?_
 rintro e w1 ⟨rfl,g1⟩
 have hlt:=(N0.gr g1).lt
 obtain⟨q2,-⟩:=(N0.gr g1).at_ (k:=2) rfl
 have G:=hid ((G0.trans g1).al (.cells #[.bool a,.bool false,.bool c,.int .i64 n] 42))
 clear N0 G0 g1
 go_wp2_with fail
 with_reducible refine (need_no _ _).mono ?_
 rintro e w2 ⟨rfl,rfl⟩
 go_wp2_with fail
 exact⟨rfl,rfl,G.out⟩
theorem wanted_over (h:OkS s r) (hn:OkN n) (hb:b=true\/k=false) (hac:(a||c)=true) (hm:¬ OkN (n+1)) :
 Calls Tryz.prog 181 #[ov s t k r (pw a b c n)] w λ e w'=>e=.panicked (pan 10)/\Gr w w':=by
 have L:=λ w=>hid (look_ok (t:=t) (k:=k) (a:=a) (b:=b) (c:=c) (w:=w) h hn)
 have HD:=λ w=>hid (held_is a b c n w)
 have hq:(!hEq a c false false)=true:=by cases a<;>cases c<;>first | rfl | exact absurd hac (by decide)
 have HE:=λ w=>hq▸run_hold_neq a c false false w
 have WT:=λ w=>hid (P3.Waits_no a b c n 1 (n+1) hn (by unfold OkN at hn;unfold wrap64;omega) hm w)
 generalize pw a b c n=v at *
 have N0:=Blk.new w #[.int .i64 s,.bool t,.bool k,.int .i64 r,.int .i64 v] 53
 have G0:=(Gr.refl w).al (.cells #[.int .i64 s,.bool t,.bool k,.int .i64 r,.int .i64 v] 53)
 have N1:=hid λ w1=>Blk.new w1 #[.bool a,.bool b,.bool c,.int .i64 n] 42
 have GN:=hid λ (w1:World) (g:Gr _ w1)=>(G0.trans g).al (.cells #[.bool a,.bool b,.bool c,.int .i64 n] 42)
 have hk:b=true\/(b=false/\k=false):=by cases b<;>simp_all
 clear h hn hac hm hq hb
 rcases hk with rfl | ⟨rfl,rfl⟩
 all_goals (
  go_enter Tryz.func181,Tryz.ntmps181
  go_wp2_with fail
  with_reducible refine (L _).out.mono ?_
  rintro e w1 ⟨rfl,g1⟩
  have hlt:=(N0.gr g1).lt
  obtain⟨q2,-⟩:=(N0.gr g1).at_ (k:=2) rfl
  obtain⟨q4,-⟩:=(N0.gr g1).at_ (k:=4) rfl
  have G:=GN.out w1 g1
  clear N0 G0 GN g1
  go_wp2_with fail
  with_reducible refine (need_yes _ _).mono ?_
  rintro e w2 ⟨rfl,rfl⟩
  go_wp2_with fail
  with_reducible refine (HD _).out.mono ?_
  rintro e w3 ⟨rfl,g3⟩
  go_wp2_with fail
  with_reducible refine (WT _).out.mono ?_
  rintro e w4 ⟨rfl,g4⟩
  go_wp2_with fail
  with_reducible refine (sureI_no _ rfl _).mono ?_
  rintro e w5 ⟨rfl,rfl⟩
  go_wp2_with fail
  exact⟨rfl,rfl,(G.trans g3).trans g4⟩)
def chg (t:Bool) (n:Int):Int:=if t=false\/n=1 then -11 else -7
theorem taken_broken (h:OkS s r) (hn:OkN n) (hb:¬ (a=false/\b=false/\0<n)) :
 Calls Tryz.prog 198 #[ov s t k r (pw a b c n)] w λ e w'=>e=.panicked (pan 12)/\Gr w w':=by
 have L:=λ w=>hid (look_ok (t:=t) (k:=k) (a:=a) (b:=b) (c:=c) (w:=w) h hn)
 generalize pw a b c n=v at *
 have N0:=Blk.new w #[.int .i64 s,.bool t,.bool k,.int .i64 r,.int .i64 v] 53
 have G0:=(Gr.refl w).al (.cells #[.int .i64 s,.bool t,.bool k,.int .i64 r,.int .i64 v] 53)
 have GN:=hid λ (w1:World) (g:Gr _ w1)=>(G0.trans g).al (.cells #[.bool a,.bool b,.bool c,.int .i64 n] 42)
 have hk:a=true\/(a=false/\b=true)\/(a=false/\b=false/\decide (0<n)=false):=by
  cases a<;>cases b<;>simp_all
 clear h hn hb
 rcases hk with rfl | ⟨rfl,rfl⟩ | ⟨rfl,rfl,h0⟩
 all_goals (
  go_enter Tryz.func198,Tryz.ntmps198
  go_wp2_with fail
  with_reducible refine (L _).out.mono ?_
  rintro e w1 ⟨rfl,g1⟩
  have hlt:=(N0.gr g1).lt
  have G:=GN.out w1 g1
  clear N0 G0 GN g1
  go_wp2_with fail
  with_reducible refine (need_no _ _).mono ?_
  rintro e w2 ⟨rfl,rfl⟩
  go_wp2_with fail
  exact⟨rfl,rfl,G⟩)
theorem taken_ok (h:OkS s r) (hn:OkN n) (h0:0<n) :
 Calls Tryz.prog 198 #[ov s t k r (pw false false c n)] w λ e w'=>e=.returned (.int .i64 (chg t n))/\Gr w w':=by
 have L:=λ w=>hid (look_ok (t:=t) (k:=k) (a:=false) (b:=false) (c:=c) (w:=w) h hn)
 generalize pw false false c n=v at *
 have N0:=Blk.new w #[.int .i64 s,.bool t,.bool k,.int .i64 r,.int .i64 v] 53
 have G0:=(Gr.refl w).al (.cells #[.int .i64 s,.bool t,.bool k,.int .i64 r,.int .i64 v] 53)
 have hk:(t=false/\chg t n=-11)\/(t=true/\(n==1)=true/\chg t n=-11)\/(t=true/\(n==1)=false/\chg t n=-7):=by
  unfold chg
  cases t
  . exact .inl ⟨rfl,by simp⟩
  . by_cases h1:n=1
    . exact .inr (.inl ⟨rfl,by simp [h1],by simp [h1]⟩)
    . exact .inr (.inr ⟨rfl,by simp [h1],by simp [h1]⟩)
 obtain⟨C,hC⟩:∃ C,chg t n=C:=⟨_,rfl⟩
 rw [hC] at hk ⊢
 clear h hn hC
 rcases hk with ⟨rfl,rfl⟩ | ⟨rfl,h1,rfl⟩ | ⟨rfl,h1,rfl⟩
 all_goals (
  go_enter Tryz.func198,Tryz.ntmps198
  go_wp2_with fail
  with_reducible refine (L _).out.mono ?_
  rintro e w1 ⟨rfl,g1⟩
  have hlt:=(N0.gr g1).lt
  obtain⟨q1,-⟩:=(N0.gr g1).at_ (k:=1) rfl
  have G:=(G0.trans g1).al (.cells #[.bool false,.bool false,.bool c,.int .i64 n] 42)
  clear N0 G0 g1
  go_wp2_with fail
  with_reducible refine (need_yes _ _).mono ?_
  rintro e w2 ⟨rfl,rfl⟩
  go_wp2_with fail
  go_ret
  exact⟨rfl,G⟩)
end
end P14
end
section
open Go.ChangeShapes Go.WideShapes Go.ChangeAt Go.RowKit Go.Shelf
namespace P14
open P3 (fl pw)
open P4 (Tm)
section
variable {s r:Int} {t k a b c:Bool} {n u o x:Int} {w:World}
theorem Wants_cl {W:World} {g:Nat} (B:Blk W g #[.int .i64 s,.bool t,.bool k,.int .i64 r,.int .i64 o] 53)
 (hc:∀ W,Calls Tryz.prog 181 #[ov s t k r o] W λ e w'=>e=.returned (.int .i64 x)/\Gr W w') :
 Calls Tryz.prog 180 #[.pointer (some ⟨g,0,none⟩)] W λ e w'=>e=.returned (.int .i64 x)/\Gr W w':=by
 have HC:=λ W=>hid (hc W)
 obtain⟨⟨q0,q1,q2,q3,q4⟩,-⟩:=own_cells B
 clear hc B
 go_enter Tryz.func180,Tryz.ntmps180
 go_wp2_with fail
 with_reducible refine (HC _).out.mono ?_
 rintro e w1 ⟨rfl,g1⟩
 go_wp2_with fail
 go_ret
 exact⟨rfl,g1⟩
theorem Wants_up {W:World} {g:Nat} {y:Int} (B:Blk W g #[.int .i64 s,.bool t,.bool k,.int .i64 r,.int .i64 o] 53)
 (hc:∀ W,Calls Tryz.prog 181 #[ov s t k r o] W λ e w'=>e=.panicked (pan y)/\Gr W w') :
 Calls Tryz.prog 180 #[.pointer (some ⟨g,0,none⟩)] W λ e w'=>e=.panicked (pan y)/\Gr W w':=by
 have HC:=λ W=>hid (hc W)
 obtain⟨⟨q0,q1,q2,q3,q4⟩,-⟩:=own_cells B
 clear hc B
 go_enter Tryz.func180,Tryz.ntmps180
 go_wp2_with fail
 with_reducible refine (HC _).out.mono ?_
 rintro e w1 ⟨rfl,g1⟩
 go_wp2_with fail
 exact⟨rfl,rfl,g1⟩
theorem Wants_ok (hc:∀ W,Calls Tryz.prog 181 #[ov s t k r o] W λ e w'=>e=.returned (.int .i64 x)/\Gr W w') :
 Calls Tryz.prog 142 #[ov s t k r o] w λ e w'=>e=.returned (.tuple #[.int .i64 x,.int .i64 0])/\Gr w w':=by
 have N0:=Blk.new w #[.int .i64 s,.bool t,.bool k,.int .i64 r,.int .i64 o] 53
 have T:=hid (toldI_ok (F:=180) (caps:=#[.pointer (some ⟨w.heap.size,0,none⟩)]) (w:=w.alloc (.cells #[.int .i64 s,.bool t,.bool k,.int .i64 r,.int .i64 o] 53)) (enters_of Tryz.func180 (by kernel_rfl) rfl) x (λ W G=>Wants_cl (N0.gr G) hc))
 have G0:=(Gr.refl w).al (.cells #[.int .i64 s,.bool t,.bool k,.int .i64 r,.int .i64 o] 53)
 clear hc N0
 have hmf:=mkF
 go_enter Tryz.func142,Tryz.ntmps142
 go_wp2_with fail
 with_reducible refine T.out.mono ?_
 rintro e w1 ⟨rfl,g1⟩
 go_wp2_with fail
 go_ret2
 exact⟨rfl,G0.trans g1⟩
theorem Wants_no {y:Int} (hc:∀ W,Calls Tryz.prog 181 #[ov s t k r o] W λ e w'=>e=.panicked (pan y)/\Gr W w') :
 Calls Tryz.prog 142 #[ov s t k r o] w λ e w'=>e=.returned (.tuple #[.int .i64 0,.int .i64 y])/\Gr w w':=by
 have N0:=Blk.new w #[.int .i64 s,.bool t,.bool k,.int .i64 r,.int .i64 o] 53
 have T:=hid (toldI_no (F:=180) (caps:=#[.pointer (some ⟨w.heap.size,0,none⟩)]) (w:=w.alloc (.cells #[.int .i64 s,.bool t,.bool k,.int .i64 r,.int .i64 o] 53)) (enters_of Tryz.func180 (by kernel_rfl) rfl) y (λ W G=>Wants_up (N0.gr G) hc))
 have G0:=(Gr.refl w).al (.cells #[.int .i64 s,.bool t,.bool k,.int .i64 r,.int .i64 o] 53)
 clear hc N0
 have hmf:=mkF
 go_enter Tryz.func142,Tryz.ntmps142
 go_wp2_with fail
 with_reducible refine T.out.mono ?_
 rintro e w1 ⟨rfl,g1⟩
 go_wp2_with fail
 go_ret2
 exact⟨rfl,G0.trans g1⟩
theorem Handed_cl {W:World} {g:Nat} (B:Blk W g #[.int .i64 s,.bool t,.bool k,.int .i64 r,.int .i64 o] 53)
 (hc:∀ W,Calls Tryz.prog 198 #[ov s t k r o] W λ e w'=>e=.returned (.int .i64 x)/\Gr W w') :
 Calls Tryz.prog 197 #[.pointer (some ⟨g,0,none⟩)] W λ e w'=>e=.returned (.int .i64 x)/\Gr W w':=by
 have HC:=λ W=>hid (hc W)
 obtain⟨⟨q0,q1,q2,q3,q4⟩,-⟩:=own_cells B
 clear hc B
 go_enter Tryz.func197,Tryz.ntmps197
 go_wp2_with fail
 with_reducible refine (HC _).out.mono ?_
 rintro e w1 ⟨rfl,g1⟩
 go_wp2_with fail
 go_ret
 exact⟨rfl,g1⟩
theorem Handed_up {W:World} {g:Nat} {y:Int} (B:Blk W g #[.int .i64 s,.bool t,.bool k,.int .i64 r,.int .i64 o] 53)
 (hc:∀ W,Calls Tryz.prog 198 #[ov s t k r o] W λ e w'=>e=.panicked (pan y)/\Gr W w') :
 Calls Tryz.prog 197 #[.pointer (some ⟨g,0,none⟩)] W λ e w'=>e=.panicked (pan y)/\Gr W w':=by
 have HC:=λ W=>hid (hc W)
 obtain⟨⟨q0,q1,q2,q3,q4⟩,-⟩:=own_cells B
 clear hc B
 go_enter Tryz.func197,Tryz.ntmps197
 go_wp2_with fail
 with_reducible refine (HC _).out.mono ?_
 rintro e w1 ⟨rfl,g1⟩
 go_wp2_with fail
 exact⟨rfl,rfl,g1⟩
theorem Handed_ok (hc:∀ W,Calls Tryz.prog 198 #[ov s t k r o] W λ e w'=>e=.returned (.int .i64 x)/\Gr W w') :
 Calls Tryz.prog 155 #[ov s t k r o] w λ e w'=>e=.returned (.tuple #[.int .i64 x,.int .i64 0])/\Gr w w':=by
 have N0:=Blk.new w #[.int .i64 s,.bool t,.bool k,.int .i64 r,.int .i64 o] 53
 have T:=hid (toldI_ok (F:=197) (caps:=#[.pointer (some ⟨w.heap.size,0,none⟩)]) (w:=w.alloc (.cells #[.int .i64 s,.bool t,.bool k,.int .i64 r,.int .i64 o] 53)) (enters_of Tryz.func197 (by kernel_rfl) rfl) x (λ W G=>Handed_cl (N0.gr G) hc))
 have G0:=(Gr.refl w).al (.cells #[.int .i64 s,.bool t,.bool k,.int .i64 r,.int .i64 o] 53)
 clear hc N0
 have hmf:=mkF
 go_enter Tryz.func155,Tryz.ntmps155
 go_wp2_with fail
 with_reducible refine T.out.mono ?_
 rintro e w1 ⟨rfl,g1⟩
 go_wp2_with fail
 go_ret2
 exact⟨rfl,G0.trans g1⟩
theorem Handed_no {y:Int} (hc:∀ W,Calls Tryz.prog 198 #[ov s t k r o] W λ e w'=>e=.panicked (pan y)/\Gr W w') :
 Calls Tryz.prog 155 #[ov s t k r o] w λ e w'=>e=.returned (.tuple #[.int .i64 0,.int .i64 y])/\Gr w w':=by
 have N0:=Blk.new w #[.int .i64 s,.bool t,.bool k,.int .i64 r,.int .i64 o] 53
 have T:=hid (toldI_no (F:=197) (caps:=#[.pointer (some ⟨w.heap.size,0,none⟩)]) (w:=w.alloc (.cells #[.int .i64 s,.bool t,.bool k,.int .i64 r,.int .i64 o] 53)) (enters_of Tryz.func197 (by kernel_rfl) rfl) y (λ W G=>Handed_up (N0.gr G) hc))
 have G0:=(Gr.refl w).al (.cells #[.int .i64 s,.bool t,.bool k,.int .i64 r,.int .i64 o] 53)
 clear hc N0
 have hmf:=mkF
 go_enter Tryz.func155,Tryz.ntmps155
 go_wp2_with fail
 with_reducible refine T.out.mono ?_
 rintro e w1 ⟨rfl,g1⟩
 go_wp2_with fail
 go_ret2
 exact⟨rfl,G0.trans g1⟩
theorem Got_cl {W:World} {g:Nat} (B:Blk W g #[.int .i64 s,.bool t,.bool k,.int .i64 r,.int .i64 o] 53)
 (hc:∀ W,Calls Tryz.prog 130 #[ov s t k r o] W λ e w'=>e=.returned (fl a b c n)/\Gr W w') :
 Calls Tryz.prog 182 #[.pointer (some ⟨g,0,none⟩)] W λ e w'=>e=.returned (.bool (!a&&!c))/\Gr W w':=by
 have HC:=λ W=>hid (hc W)
 obtain⟨⟨q0,q1,q2,q3,q4⟩,-⟩:=own_cells B
 have HD:=λ w=>hid (held_is a b c n w)
 have hq:hEq a c false false=(!a&&!c):=by cases a<;>cases c<;>rfl
 have HE:=λ w=>hq▸run_hold_eql a c false false w
 generalize (!a&&!c)=v at *
 clear hc B hq
 go_enter Tryz.func182,Tryz.ntmps182
 go_wp2_with fail
 with_reducible refine (HC _).out.mono ?_
 rintro e w1 ⟨rfl,g1⟩
 go_wp2_with fail
 with_reducible refine (HD _).out.mono ?_
 rintro e w2 ⟨rfl,g2⟩
 go_wp2_with fail
 go_ret
 exact⟨rfl,g1.trans g2⟩
theorem Got_ok (hc:∀ W,Calls Tryz.prog 130 #[ov s t k r o] W λ e w'=>e=.returned (fl a b c n)/\Gr W w') :
 Calls Tryz.prog 143 #[ov s t k r o] w λ e w'=>e=.returned (.tuple #[.bool (!a&&!c),.int .i64 0])/\Gr w w':=by
 have N0:=Blk.new w #[.int .i64 s,.bool t,.bool k,.int .i64 r,.int .i64 o] 53
 have T:=hid (toldB_ok (F:=182) (caps:=#[.pointer (some ⟨w.heap.size,0,none⟩)]) (w:=w.alloc (.cells #[.int .i64 s,.bool t,.bool k,.int .i64 r,.int .i64 o] 53)) (enters_of Tryz.func182 (by kernel_rfl) rfl) (!a&&!c) (λ W G=>Got_cl (N0.gr G) hc))
 have G0:=(Gr.refl w).al (.cells #[.int .i64 s,.bool t,.bool k,.int .i64 r,.int .i64 o] 53)
 clear hc N0
 have hmf:=mkF
 go_enter Tryz.func143,Tryz.ntmps143
 go_wp2_with fail
 with_reducible refine T.out.mono ?_
 rintro e w1 ⟨rfl,g1⟩
 go_wp2_with fail
 go_ret2
 exact⟨rfl,G0.trans g1⟩
theorem Wakes_cl {W:World} {g:Nat} (B:Blk W g #[.int .i64 s,.bool t,.bool k,.int .i64 r,.int .i64 o] 53)
 (hc:∀ W,Calls Tryz.prog 130 #[ov s t k r o] W λ e w'=>e=.returned (fl a b c n)/\Gr W w') :
 Calls Tryz.prog 205 #[.pointer (some ⟨g,0,none⟩)] W λ e w'=>e=.returned (.bool (!k&&!b&&decide (0<n)))/\Gr W w':=by
 have HC:=λ W=>hid (hc W)
 obtain⟨⟨q0,q1,q2,q3,q4⟩,-⟩:=own_cells B
 have B:=hid B
 clear hc
 cases k<;>cases b
 all_goals (
  go_enter Tryz.func205,Tryz.ntmps205
  go_wp2_with fail
  with_reducible refine (HC _).out.mono ?_
  rintro e w1 ⟨rfl,g1⟩
  have hlt:=(B.out.gr g1).lt
  obtain⟨p2,-⟩:=(B.out.gr g1).at_ (k:=2) rfl
  go_wp2_with fail
  go_ret
  exact⟨by simp,g1.al _⟩)
theorem Wakes_ok (hc:∀ W,Calls Tryz.prog 130 #[ov s t k r o] W λ e w'=>e=.returned (fl a b c n)/\Gr W w') :
 Calls Tryz.prog 178 #[ov s t k r o] w λ e w'=>e=.returned (.tuple #[.bool (!k&&!b&&decide (0<n)),.int .i64 0])/\Gr w w':=by
 have N0:=Blk.new w #[.int .i64 s,.bool t,.bool k,.int .i64 r,.int .i64 o] 53
 have T:=hid (toldB_ok (F:=205) (caps:=#[.pointer (some ⟨w.heap.size,0,none⟩)]) (w:=w.alloc (.cells #[.int .i64 s,.bool t,.bool k,.int .i64 r,.int .i64 o] 53)) (enters_of Tryz.func205 (by kernel_rfl) rfl) (!k&&!b&&decide (0<n)) (λ W G=>Wakes_cl (N0.gr G) hc))
 have G0:=(Gr.refl w).al (.cells #[.int .i64 s,.bool t,.bool k,.int .i64 r,.int .i64 o] 53)
 clear hc N0
 have hmf:=mkF
 go_enter Tryz.func178,Tryz.ntmps178
 go_wp2_with fail
 with_reducible refine T.out.mono ?_
 rintro e w1 ⟨rfl,g1⟩
 go_wp2_with fail
 go_ret2
 exact⟨rfl,G0.trans g1⟩
end
end P14
end
section
open Go.ChangeShapes Go.WideShapes Go.ChangeAt Go.RowKit
namespace P14
open P3 (fl pw)
open P4 (Tm)
section
variable {s r:Int} {t k a b c:Bool} {n u o x:Int} {w:World}
def snc (s u:Int):Int:=if s=-1 then u else s
def ltB (s u:Int):Bool:=decide (s≠-1/\1000000<P4.gap s u)
theorem asleep_ok (h:OkS s r) (hn:OkN n) (hu:Tm u) :
 Calls Tryz.prog 185 #[ov s t k r (pw a b c n),.int .i64 u] w λ e w'=>e=.returned (ov (snc s u) t k r (pw a b c n))/\Gr w w':=by
 have L:=λ w=>hid (look_ok (t:=t) (k:=k) (a:=a) (b:=b) (c:=c) (w:=w) h hn)
 have R:=λ w=>hid (P4.Right_ok u true (by rw [P4.near_eq hu];simp) w)
 generalize pw a b c n=o at *
 have G0:=hid (((Gr.refl w).al (.cells #[.int .i64 s,.bool t,.bool k,.int .i64 r,.int .i64 o] 53)).al (.cells #[.int .i64 0,.bool false,.bool false,.int .i64 0,.int .i64 0] 53))
 have N0:=(Blk.new w #[.int .i64 s,.bool t,.bool k,.int .i64 r,.int .i64 o] 53).al (.cells #[.int .i64 0,.bool false,.bool false,.int .i64 0,.int .i64 0] 53)
 have N1:=Blk.new (w.alloc (.cells #[.int .i64 s,.bool t,.bool k,.int .i64 r,.int .i64 o] 53)) #[.int .i64 0,.bool false,.bool false,.int .i64 0,.int .i64 0] 53
 rw [World.size_alloc] at N1
 have N0:=hid N0
 have N1:=hid N1
 have hne:w.heap.size+1≠w.heap.size:=by omega
 have hs:(s=-1/\snc s u=u)\/((s==-1)=false/\snc s u=s):=by
  unfold snc
  by_cases h1:s=-1
  . exact .inl ⟨h1,if_pos h1⟩
  . exact .inr ⟨beq_eq_false_iff_ne.2 h1,if_neg h1⟩
 generalize snc s u=S at *
 clear h hn hu
 rcases hs with ⟨rfl,rfl⟩ | ⟨h1,rfl⟩
 . go_enter Tryz.func185,Tryz.ntmps185
   go_wp2_with fail
   with_reducible refine (L _).out.mono ?_
   rintro e w1 ⟨rfl,g1⟩
   go_wp2_with fail
   with_reducible refine (R _).out.mono ?_
   rintro e w2 ⟨rfl,g2⟩
   have B0:=(N0.out.gr g1).gr g2
   have B1:=(N1.out.gr g1).gr g2
   have G2:=(G0.out.trans g1).trans g2
   obtain⟨⟨q0,q1,q2,q3,q4⟩,z0,-⟩:=own_cells B0
   obtain⟨⟨e0,e1,e2,e3,e4⟩,y0,y1,y2,y3,y4⟩:=own_cells B1
   have BF:=own_st (B1.st (p:=⟨w.heap.size,0,none⟩) hne.symm (.int .i64 S)) S t k r o
   have GF:=hid (own_gr (g:=w.heap.size+1) (G2.st (p:=⟨w.heap.size,0,none⟩) (Nat.le_refl _) (.int .i64 S)) (Nat.le_succ _) S t k r o)
   obtain⟨⟨c0,c1,c2,c3,c4⟩,-⟩:=own_cells BF
   clear B0 B1 BF G2 g1 g2
   go_wp2_with fail
   with_reducible refine (need_yes _ _).mono ?_
   rintro e w3 ⟨rfl,rfl⟩
   go_wp2_with fail
   exact bodyPost_ret (v:=ov S t k r o) (by simp [results,Tryz.results185,go_sem,c0,c1,c2,c3,c4]) rfl ⟨rfl,GF.out⟩
 . go_enter Tryz.func185,Tryz.ntmps185
   go_wp2_with fail
   with_reducible refine (L _).out.mono ?_
   rintro e w1 ⟨rfl,g1⟩
   go_wp2_with fail
   with_reducible refine (R _).out.mono ?_
   rintro e w2 ⟨rfl,g2⟩
   have B0:=(N0.out.gr g1).gr g2
   have B1:=(N1.out.gr g1).gr g2
   have G2:=(G0.out.trans g1).trans g2
   obtain⟨⟨q0,q1,q2,q3,q4⟩,z0,-⟩:=own_cells B0
   obtain⟨⟨e0,e1,e2,e3,e4⟩,y0,y1,y2,y3,y4⟩:=own_cells B1
   have BF:=own_st B1 S t k r o
   have GF:=hid (own_gr (g:=w.heap.size+1) G2 (Nat.le_succ _) S t k r o)
   obtain⟨⟨c0,c1,c2,c3,c4⟩,-⟩:=own_cells BF
   clear B0 B1 BF G2 g1 g2
   go_wp2_with fail
   with_reducible refine (need_yes _ _).mono ?_
   rintro e w3 ⟨rfl,rfl⟩
   go_wp2_with fail
   exact bodyPost_ret (v:=ov S t k r o) (by simp [results,Tryz.results185,go_sem,c0,c1,c2,c3,c4]) rfl ⟨rfl,GF.out⟩
theorem late_is (hs:s=-1\/Tm s) (hu:Tm u) {B:Bool} (hB:ltB s u=B) :
 Calls Tryz.prog 216 #[ov s t k r o,.int .i64 u] w λ e w'=>e=.returned (.bool B)/\Gr w w':=by
 have G0:=(Gr.refl w).al (.cells #[.int .i64 s,.bool t,.bool k,.int .i64 r,.int .i64 o] 53)
 by_cases h1:s=-1
 . subst h1
   obtain rfl:B=false:=by rw [<- hB];simp [ltB]
   clear hs hu hB
   go_enter Tryz.func216,Tryz.ntmps216
   go_wp2_with fail
   go_ret
   exact⟨rfl,G0⟩
 . have hs':Tm s:=hs.resolve_left h1
   have A:=P4.Ap.ex s u
   have C:=λ w=>hid (P4.Late_is (a:=s) (b:=u) (r:=P4.gap s u) (s:=0) (.inl ⟨hs',hu,rfl,rfl⟩) B (by rw [<- hB];simp [ltB,h1]) w)
   clear A hs hs' hu hB
   have hn1:(s != -1)=true:=by simp [h1]
   go_enter Tryz.func216,Tryz.ntmps216
   go_wp2_with fail
   with_reducible refine (C _).out.mono ?_
   rintro e w1 ⟨rfl,g1⟩
   go_wp2_with fail
   with_reducible refine (sureB_yes _ _).mono ?_
   rintro e w2 ⟨rfl,rfl⟩
   go_wp2_with fail
   go_ret
   exact⟨rfl,G0.trans g1⟩
end
end P14
end
section
open Go.ChangeShapes Go.WideShapes Go.ChangeAt Go.RowKit Go.Shelf
namespace P14
open P3 (fl pw)
open P4 (Tm)
def ovEq (s:Int) (t k:Bool) (r o:Int) (s':Int) (t' k':Bool) (r' o':Int):Bool:=decide (s=s'/\t=t'/\k=k'/\r=r'/\o=o')
theorem run_own_eql (s:Int) (t k:Bool) (r o:Int) (s':Int) (t' k':Bool) (r' o':Int) (w:World) :
 (binOp .eql 53 (ov s t k r o) (ov s' t' k' r' o')).run Tryz.prog w=.ok (.bool (ovEq s t k r o s' t' k' r' o')) w:=by
 by_cases h1:s=s'
 . by_cases h2:t=t'
   . by_cases h3:k=k'
     . by_cases h4:r=r'
       . by_cases h5:o=o'
         . have e:ovEq s t k r o s' t' k' r' o'=true:=by simp [ovEq,h1,h2,h3,h4,h5]
           rw [e]
           subst h1 h2 h3 h4 h5
           go_simp
         . have e:ovEq s t k r o s' t' k' r' o'=false:=by simp [ovEq,h5]
           have h6:(o==o')=false:=beq_eq_false_iff_ne.2 h5
           rw [e]
           subst h1 h2 h3 h4
           go_simp
       . have e:ovEq s t k r o s' t' k' r' o'=false:=by simp [ovEq,h4]
         have h6:(r==r')=false:=beq_eq_false_iff_ne.2 h4
         rw [e]
         subst h1 h2 h3
         go_simp
     . have e:ovEq s t k r o s' t' k' r' o'=false:=by simp [ovEq,h3]
       have h6:(k==k')=false:=beq_eq_false_iff_ne.2 h3
       rw [e]
       subst h1 h2
       go_simp
   . have e:ovEq s t k r o s' t' k' r' o'=false:=by simp [ovEq,h2]
     have h6:(t==t')=false:=beq_eq_false_iff_ne.2 h2
     rw [e]
     subst h1
     go_simp
 . have e:ovEq s t k r o s' t' k' r' o'=false:=by simp [ovEq,h1]
   have h6:(s==s')=false:=beq_eq_false_iff_ne.2 h1
   rw [e]
   go_simp
section
variable {s r:Int} {t k a b c:Bool} {n u o x S:Int} {w:World}
theorem Sleep_cl {W:World} {g h:Nat} (B:Blk W g #[.int .i64 s,.bool t,.bool k,.int .i64 r,.int .i64 o] 53) (D:Blk W h #[.int .i64 u] 3)
 (hc:∀ W,Calls Tryz.prog 185 #[ov s t k r o,.int .i64 u] W λ e w'=>e=.returned (ov S t k r o)/\Gr W w') :
 Calls Tryz.prog 184 #[.pointer (some ⟨g,0,none⟩),.pointer (some ⟨h,0,none⟩)] W λ e w'=>e=.returned (ov S t k r o)/\Gr W w':=by
 have HC:=λ W=>hid (hc W)
 have hlt:=B.lt
 have hlt2:=D.lt
 obtain⟨⟨q0,q1,q2,q3,q4⟩,-⟩:=own_cells B
 obtain⟨d0,-⟩:=D.at_ (k:=0) rfl
 have N1:=hid (Blk.new W #[.int .i64 0,.bool false,.bool false,.int .i64 0,.int .i64 0] 53)
 have G0:=hid ((Gr.refl W).al (.cells #[.int .i64 0,.bool false,.bool false,.int .i64 0,.int .i64 0] 53))
 clear hc B D
 go_enter Tryz.func184,Tryz.ntmps184
 go_wp2_with fail
 with_reducible refine (HC _).out.mono ?_
 rintro e w1 ⟨rfl,g1⟩
 have B1:=N1.out.gr g1
 obtain⟨⟨e0,e1,e2,e3,e4⟩,y0,y1,y2,y3,y4⟩:=own_cells B1
 have BF:=own_st B1 S t k r o
 have GF:=hid (own_gr (g:=W.heap.size) (G0.out.trans g1) (Nat.le_refl _) S t k r o)
 obtain⟨⟨c0,c1,c2,c3,c4⟩,-⟩:=own_cells BF
 clear g1 B1 BF
 go_wp2_with fail
 exact bodyPost_ret (v:=ov S t k r o) (by simp [results,Tryz.results184,go_sem,c0,c1,c2,c3,c4]) rfl ⟨rfl,GF.out⟩
theorem Sleep_ok (hc:∀ W,Calls Tryz.prog 185 #[ov s t k r o,.int .i64 u] W λ e w'=>e=.returned (ov S t k r o)/\Gr W w') :
 Calls Tryz.prog 145 #[ov s t k r o,.int .i64 u] w λ e w'=>e=.returned (.tuple #[ov S t k r o,.bool (decide (S=s)),.int .i64 0])/\Gr w w':=by
 have N0:=((Blk.new w #[.int .i64 s,.bool t,.bool k,.int .i64 r,.int .i64 o] 53).al (.cells #[.int .i64 u] 3)).al (.cells #[.int .i64 0,.bool false,.bool false,.int .i64 0,.int .i64 0] 53)
 have N1:=(Blk.new (w.alloc (.cells #[.int .i64 s,.bool t,.bool k,.int .i64 r,.int .i64 o] 53)) #[.int .i64 u] 3).al (.cells #[.int .i64 0,.bool false,.bool false,.int .i64 0,.int .i64 0] 53)
 have N2:=Blk.new ((w.alloc (.cells #[.int .i64 s,.bool t,.bool k,.int .i64 r,.int .i64 o] 53)).alloc (.cells #[.int .i64 u] 3)) #[.int .i64 0,.bool false,.bool false,.int .i64 0,.int .i64 0] 53
 rw [World.size_alloc] at N1
 rw [World.size_alloc,World.size_alloc] at N2
 have G0:=((((Gr.refl w).al (.cells #[.int .i64 s,.bool t,.bool k,.int .i64 r,.int .i64 o] 53)).al (.cells #[.int .i64 u] 3)).al (.cells #[.int .i64 0,.bool false,.bool false,.int .i64 0,.int .i64 0] 53))
 have T:=hid (toldO_ok (F:=184) (caps:=#[.pointer (some ⟨w.heap.size,0,none⟩),.pointer (some ⟨w.heap.size+1,0,none⟩)]) (w:=((w.alloc (.cells #[.int .i64 s,.bool t,.bool k,.int .i64 r,.int .i64 o] 53)).alloc (.cells #[.int .i64 u] 3)).alloc (.cells #[.int .i64 0,.bool false,.bool false,.int .i64 0,.int .i64 0] 53)) (enters_of Tryz.func184 (by kernel_rfl) rfl) S t k r o (λ W G=>Sleep_cl (N0.gr G) (N1.gr G) hc))
 clear hc N1
 have N0:=hid N0
 have N2:=hid N2
 have hq:ovEq S t k r o s t k r o=(decide (S=s)):=by simp [ovEq]
 have HE:=λ w=>hq▸run_own_eql S t k r o s t k r o w
 clear hq
 have hmf:=mkF
 go_enter Tryz.func145,Tryz.ntmps145
 go_wp2_with fail
 with_reducible refine T.out.mono ?_
 rintro e w1 ⟨rfl,g1⟩
 have B0:=N0.out.gr g1
 have B2:=N2.out.gr g1
 have G:=hid (G0.trans g1)
 have l0:=B0.lt
 have l2:=B2.lt
 obtain⟨⟨q0,q1,q2,q3,q4⟩,-⟩:=own_cells B0
 obtain⟨⟨e0,e1,e2,e3,e4⟩,y0,y1,y2,y3,y4⟩:=own_cells B2
 clear g1 G0 N0 N2 T
 have BF:=((own_st B2 S t k r o).al (.cells #[.int .i64 S,.bool t,.bool k,.int .i64 r,.int .i64 o] 53)).gr ((Gr.refl _).dr)
 have GF:=hid (((own_gr (g:=w.heap.size+1+1) G.out (by omega) S t k r o).al (.cells #[.int .i64 S,.bool t,.bool k,.int .i64 r,.int .i64 o] 53)).dr)
 obtain⟨⟨c0,c1,c2,c3,c4⟩,-⟩:=own_cells BF
 clear BF B0 B2
 go_wp2_with fail
 go_region
 go_wp2_with fail
 exact bodyPost_ret (v:=.tuple #[ov S t k r o,.bool (decide (S=s)),.int .i64 0]) (by simp [results,Tryz.results145,go_sem,c0,c1,c2,c3,c4]) rfl ⟨rfl,GF.out⟩
end
end P14
end
section
open Go.ChangeShapes Go.WideShapes Go.ChangeAt Go.RowKit
namespace P14
open P3 (fl pw)
open P4 (Tm)
section
variable {s r:Int} {t k a b c:Bool} {n u o x:Int} {w:World}
theorem run_starv (a b c:Bool) (n:Int) (w:World):(Instr.field 42 (fl a b c n) 2).run Tryz.prog w=.ok (.bool c) w:=by kernel_rfl
def Mid (w W:World) (s:Int) (T k:Bool) (r x:Int):Prop :=
 Blk W w.heap.size #[.int .i64 s,.bool T,.bool k,.int .i64 r,.int .i64 x] 53/\Blk W (w.heap.size+1) #[.int .i64 0,.bool false,.bool false,.int .i64 0,.int .i64 0] 53/\Gr w W
theorem Mid.gr {w W W':World} {T:Bool} (h:Mid w W s T k r x) (g:Gr W W'):Mid w W' s T k r x:=⟨h.1.gr g,h.2.1.gr g,h.2.2.trans g⟩
theorem Mid.mk {w W:World} (B0:Blk W w.heap.size #[.int .i64 s,.bool t,.bool k,.int .i64 r,.int .i64 o] 53) (B1:Blk W (w.heap.size+1) #[.int .i64 0,.bool false,.bool false,.int .i64 0,.int .i64 0] 53) (G:Gr w W) (T:Bool) (x:Int) :
 Mid w ((W.setCell ⟨w.heap.size,1,none⟩ (.bool T)).setCell ⟨w.heap.size,4,none⟩ (.int .i64 x)) s T k r x :=
 ⟨(B0.set 1 (.bool T)).set 4 (.int .i64 x),(B1.st (p:=⟨w.heap.size,1,none⟩) (by show w.heap.size≠w.heap.size+1;omega) _).st (p:=⟨w.heap.size,4,none⟩) (by show w.heap.size≠w.heap.size+1;omega) _,
   (G.st (p:=⟨w.heap.size,1,none⟩) (Nat.le_refl _) _).st (p:=⟨w.heap.size,4,none⟩) (Nat.le_refl _) _⟩
theorem woken_word (h:OkS s r) (ho:OkW o) (hu:Tm u) (hx:¬ OkW x) {T:Bool} (hT:(t||ltB s u)=T) :
 Calls Tryz.prog 196 #[ov s t k r o,.int .i64 u,.int .i64 x] w λ e w'=>e=.panicked (pan 1)/\Gr w w':=by
 obtain⟨a',b',c',n',rfl,hn⟩:=P3.pw_of ho
 have L:=λ w=>hid (look_ok (t:=t) (k:=k) (a:=a') (b:=b') (c:=c') (w:=w) h hn)
 have R:=λ w=>hid (P4.Right_ok u true (by rw [P4.near_eq hu];simp) w)
 have K:=λ w=>hid (late_is (t:=t) (k:=k) (r:=r) (o:=pw a' b' c' n') (w:=w) h.1 hu (B:=ltB s u) rfl)
 have HT:=hid hT
 have L2:=λ w=>hid (look_no (s:=s) (r:=r) (t:=T) (k:=k) (o:=x) (w:=w) λ q=>hx q.2)
 clear hx
 clear ho hT
 generalize pw a' b' c' n'=o at *
 have G0:=hid (((Gr.refl w).al (.cells #[.int .i64 s,.bool t,.bool k,.int .i64 r,.int .i64 o] 53)).al (.cells #[.int .i64 0,.bool false,.bool false,.int .i64 0,.int .i64 0] 53))
 have N0:=hid ((Blk.new w #[.int .i64 s,.bool t,.bool k,.int .i64 r,.int .i64 o] 53).al (.cells #[.int .i64 0,.bool false,.bool false,.int .i64 0,.int .i64 0] 53))
 have N1:=Blk.new (w.alloc (.cells #[.int .i64 s,.bool t,.bool k,.int .i64 r,.int .i64 o] 53)) #[.int .i64 0,.bool false,.bool false,.int .i64 0,.int .i64 0] 53
 rw [World.size_alloc] at N1
 have N1:=hid N1
 generalize ltB s u=B at *
 clear h hn hu
 cases t
 . obtain rfl:B=T:=HT.out
   go_enter Tryz.func196,Tryz.ntmps196
   go_wp2_with fail
   with_reducible refine (L _).out.mono ?_
   rintro e w1 ⟨rfl,g1⟩
   go_wp2_with fail
   with_reducible refine (R _).out.mono ?_
   rintro e w2 ⟨rfl,g2⟩
   have B0:=(N0.out.gr g1).gr g2
   obtain⟨⟨q0,q1,q2,q3,q4⟩,-⟩:=own_cells B0
   go_wp2_with fail
   with_reducible refine (need_yes _ _).mono ?_
   rintro e w3 ⟨rfl,rfl⟩
   go_wp2_with fail
   with_reducible refine (K _).out.mono ?_
   rintro e w4 ⟨rfl,g4⟩
   have B0:=B0.gr g4
   have M:=hid (Mid.mk B0 (((N1.out.gr g1).gr g2).gr g4) (((G0.out.trans g1).trans g2).trans g4) B x)
   clear q0 q1 q2 q3 q4
   obtain⟨⟨q0,q1,q2,q3,q4⟩,z0,z1,z2,z3,z4⟩:=own_cells B0
   clear B0 g1 g2 g4 N0 N1 G0
   go_wp2_with fail
   with_reducible refine (L2 _).out.mono ?_
   rintro e w5 ⟨rfl,g5⟩
   have M:=M.out.gr g5
   go_wp2_with fail
   exact⟨rfl,rfl,M.2.2⟩
 . obtain rfl:T=true:=by rw [<- HT.out];rfl
   go_enter Tryz.func196,Tryz.ntmps196
   go_wp2_with fail
   with_reducible refine (L _).out.mono ?_
   rintro e w1 ⟨rfl,g1⟩
   go_wp2_with fail
   with_reducible refine (R _).out.mono ?_
   rintro e w2 ⟨rfl,g2⟩
   have B0:=(N0.out.gr g1).gr g2
   obtain⟨⟨q0,q1,q2,q3,q4⟩,z0,z1,z2,z3,z4⟩:=own_cells B0
   have M:=hid (Mid.mk B0 ((N1.out.gr g1).gr g2) ((G0.out.trans g1).trans g2) true x)
   clear B0 g1 g2 N0 N1 G0
   go_wp2_with fail
   with_reducible refine (need_yes _ _).mono ?_
   rintro e w3 ⟨rfl,rfl⟩
   go_wp2_with fail
   with_reducible refine (L2 _).out.mono ?_
   rintro e w5 ⟨rfl,g5⟩
   have M:=M.out.gr g5
   go_wp2_with fail
   exact⟨rfl,rfl,M.2.2⟩
theorem woken_handed (h:OkS s r) (ho:OkW o) (hu:Tm u) (hx:OkN n) {T:Bool} (hT:(t||ltB s u)=T) :
 Calls Tryz.prog 196 #[ov s t k r o,.int .i64 u,.int .i64 (pw a b true n)] w λ e w'=>e=.returned (.tuple #[ov s T k r (pw a b true n),.bool true])/\Gr w w':=by
 obtain⟨a',b',c',n',rfl,hn⟩:=P3.pw_of ho
 have L:=λ w=>hid (look_ok (t:=t) (k:=k) (a:=a') (b:=b') (c:=c') (w:=w) h hn)
 have R:=λ w=>hid (P4.Right_ok u true (by rw [P4.near_eq hu];simp) w)
 have K:=λ w=>hid (late_is (t:=t) (k:=k) (r:=r) (o:=pw a' b' c' n') (w:=w) h.1 hu (B:=ltB s u) rfl)
 have HF:=λ w=>run_starv a b true n w
 have HT:=hid hT
 have L2:=λ w=>hid (look_ok (s:=s) (r:=r) (t:=T) (k:=k) (a:=a) (b:=b) (c:=true) (w:=w) h hx)
 clear hx
 clear ho hT
 generalize pw a b true n=x at *
 generalize pw a' b' c' n'=o at *
 have G0:=hid (((Gr.refl w).al (.cells #[.int .i64 s,.bool t,.bool k,.int .i64 r,.int .i64 o] 53)).al (.cells #[.int .i64 0,.bool false,.bool false,.int .i64 0,.int .i64 0] 53))
 have N0:=hid ((Blk.new w #[.int .i64 s,.bool t,.bool k,.int .i64 r,.int .i64 o] 53).al (.cells #[.int .i64 0,.bool false,.bool false,.int .i64 0,.int .i64 0] 53))
 have N1:=Blk.new (w.alloc (.cells #[.int .i64 s,.bool t,.bool k,.int .i64 r,.int .i64 o] 53)) #[.int .i64 0,.bool false,.bool false,.int .i64 0,.int .i64 0] 53
 rw [World.size_alloc] at N1
 have N1:=hid N1
 generalize ltB s u=B at *
 clear h hn hu
 cases t
 . obtain rfl:B=T:=HT.out
   go_enter Tryz.func196,Tryz.ntmps196
   go_wp2_with fail
   with_reducible refine (L _).out.mono ?_
   rintro e w1 ⟨rfl,g1⟩
   go_wp2_with fail
   with_reducible refine (R _).out.mono ?_
   rintro e w2 ⟨rfl,g2⟩
   have B0:=(N0.out.gr g1).gr g2
   obtain⟨⟨q0,q1,q2,q3,q4⟩,-⟩:=own_cells B0
   go_wp2_with fail
   with_reducible refine (need_yes _ _).mono ?_
   rintro e w3 ⟨rfl,rfl⟩
   go_wp2_with fail
   with_reducible refine (K _).out.mono ?_
   rintro e w4 ⟨rfl,g4⟩
   have B0:=B0.gr g4
   have M:=hid (Mid.mk B0 (((N1.out.gr g1).gr g2).gr g4) (((G0.out.trans g1).trans g2).trans g4) B x)
   clear q0 q1 q2 q3 q4
   obtain⟨⟨q0,q1,q2,q3,q4⟩,z0,z1,z2,z3,z4⟩:=own_cells B0
   clear B0 g1 g2 g4 N0 N1 G0
   go_wp2_with fail
   with_reducible refine (L2 _).out.mono ?_
   rintro e w5 ⟨rfl,g5⟩
   have M:=M.out.gr g5
   obtain⟨M0,M1,MG⟩:=M
   clear g5 q0 q1 q2 q3 q4 z0 z1 z2 z3 z4
   obtain⟨⟨q0,q1,q2,q3,q4⟩,-⟩:=own_cells M0
   obtain⟨⟨e0,e1,e2,e3,e4⟩,y0,y1,y2,y3,y4⟩:=own_cells M1
   have BF:=own_st M1 s B k r x
   have GF:=hid (own_gr (g:=w.heap.size+1) MG (Nat.le_succ _) s B k r x)
   obtain⟨⟨c0,c1,c2,c3,c4⟩,-⟩:=own_cells BF
   clear M0 M1 BF MG
   go_wp2_with fail
   exact bodyPost_ret (v:=.tuple #[ov s B k r x,.bool true]) (by simp [results,Tryz.results196,go_sem,c0,c1,c2,c3,c4]) rfl ⟨rfl,GF.out⟩
 . obtain rfl:T=true:=by rw [<- HT.out];rfl
   go_enter Tryz.func196,Tryz.ntmps196
   go_wp2_with fail
   with_reducible refine (L _).out.mono ?_
   rintro e w1 ⟨rfl,g1⟩
   go_wp2_with fail
   with_reducible refine (R _).out.mono ?_
   rintro e w2 ⟨rfl,g2⟩
   have B0:=(N0.out.gr g1).gr g2
   obtain⟨⟨q0,q1,q2,q3,q4⟩,z0,z1,z2,z3,z4⟩:=own_cells B0
   have M:=hid (Mid.mk B0 ((N1.out.gr g1).gr g2) ((G0.out.trans g1).trans g2) true x)
   clear B0 g1 g2 N0 N1 G0
   go_wp2_with fail
   with_reducible refine (need_yes _ _).mono ?_
   rintro e w3 ⟨rfl,rfl⟩
   go_wp2_with fail
   with_reducible refine (L2 _).out.mono ?_
   rintro e w5 ⟨rfl,g5⟩
   have M:=M.out.gr g5
   obtain⟨M0,M1,MG⟩:=M
   clear g5 q0 q1 q2 q3 q4 z0 z1 z2 z3 z4
   obtain⟨⟨q0,q1,q2,q3,q4⟩,-⟩:=own_cells M0
   obtain⟨⟨e0,e1,e2,e3,e4⟩,y0,y1,y2,y3,y4⟩:=own_cells M1
   have BF:=own_st M1 s true k r x
   have GF:=hid (own_gr (g:=w.heap.size+1) MG (Nat.le_succ _) s true k r x)
   obtain⟨⟨c0,c1,c2,c3,c4⟩,-⟩:=own_cells BF
   clear M0 M1 BF MG
   go_wp2_with fail
   exact bodyPost_ret (v:=.tuple #[ov s true k r x,.bool true]) (by simp [results,Tryz.results196,go_sem,c0,c1,c2,c3,c4]) rfl ⟨rfl,GF.out⟩
theorem woken_back (h:OkS s r) (ho:OkW o) (hu:Tm u) (hx:OkN n) {T:Bool} (hT:(t||ltB s u)=T) :
 Calls Tryz.prog 196 #[ov s t k r o,.int .i64 u,.int .i64 (pw a b false n)] w λ e w'=>e=.returned (.tuple #[ov s T true 0 (pw a b false n),.bool false])/\Gr w w':=by
 obtain⟨a',b',c',n',rfl,hn⟩:=P3.pw_of ho
 have L:=λ w=>hid (look_ok (t:=t) (k:=k) (a:=a') (b:=b') (c:=c') (w:=w) h hn)
 have R:=λ w=>hid (P4.Right_ok u true (by rw [P4.near_eq hu];simp) w)
 have K:=λ w=>hid (late_is (t:=t) (k:=k) (r:=r) (o:=pw a' b' c' n') (w:=w) h.1 hu (B:=ltB s u) rfl)
 have HF:=λ w=>run_starv a b false n w
 have HT:=hid hT
 have L2:=λ w=>hid (look_ok (s:=s) (r:=r) (t:=T) (k:=k) (a:=a) (b:=b) (c:=false) (w:=w) h hx)
 clear hx
 clear ho hT
 generalize pw a b false n=x at *
 generalize pw a' b' c' n'=o at *
 have G0:=hid (((Gr.refl w).al (.cells #[.int .i64 s,.bool t,.bool k,.int .i64 r,.int .i64 o] 53)).al (.cells #[.int .i64 0,.bool false,.bool false,.int .i64 0,.int .i64 0] 53))
 have N0:=hid ((Blk.new w #[.int .i64 s,.bool t,.bool k,.int .i64 r,.int .i64 o] 53).al (.cells #[.int .i64 0,.bool false,.bool false,.int .i64 0,.int .i64 0] 53))
 have N1:=Blk.new (w.alloc (.cells #[.int .i64 s,.bool t,.bool k,.int .i64 r,.int .i64 o] 53)) #[.int .i64 0,.bool false,.bool false,.int .i64 0,.int .i64 0] 53
 rw [World.size_alloc] at N1
 have N1:=hid N1
 generalize ltB s u=B at *
 clear h hn hu
 cases t
 . obtain rfl:B=T:=HT.out
   go_enter Tryz.func196,Tryz.ntmps196
   go_wp2_with fail
   with_reducible refine (L _).out.mono ?_
   rintro e w1 ⟨rfl,g1⟩
   go_wp2_with fail
   with_reducible refine (R _).out.mono ?_
   rintro e w2 ⟨rfl,g2⟩
   have B0:=(N0.out.gr g1).gr g2
   obtain⟨⟨q0,q1,q2,q3,q4⟩,-⟩:=own_cells B0
   go_wp2_with fail
   with_reducible refine (need_yes _ _).mono ?_
   rintro e w3 ⟨rfl,rfl⟩
   go_wp2_with fail
   with_reducible refine (K _).out.mono ?_
   rintro e w4 ⟨rfl,g4⟩
   have B0:=B0.gr g4
   have M:=hid (Mid.mk B0 (((N1.out.gr g1).gr g2).gr g4) (((G0.out.trans g1).trans g2).trans g4) B x)
   clear q0 q1 q2 q3 q4
   obtain⟨⟨q0,q1,q2,q3,q4⟩,z0,z1,z2,z3,z4⟩:=own_cells B0
   clear B0 g1 g2 g4 N0 N1 G0
   go_wp2_with fail
   with_reducible refine (L2 _).out.mono ?_
   rintro e w5 ⟨rfl,g5⟩
   have M:=M.out.gr g5
   obtain⟨M0,M1,MG⟩:=M
   clear g5 q0 q1 q2 q3 q4 z0 z1 z2 z3 z4
   obtain⟨⟨q0,q1,q2,q3,q4⟩,z0,z1,z2,z3,z4⟩:=own_cells M0
   obtain⟨⟨e0,e1,e2,e3,e4⟩,y0,y1,y2,y3,y4⟩:=own_cells M1
   have hne:w.heap.size≠w.heap.size+1:=by omega
   have BF:=own_st ((M1.st (p:=⟨w.heap.size,2,none⟩) hne (.bool true)).st (p:=⟨w.heap.size,3,none⟩) hne (.int .i64 0)) s B true 0 x
   have GF:=hid (own_gr (g:=w.heap.size+1) ((MG.st (p:=⟨w.heap.size,2,none⟩) (Nat.le_refl _) (.bool true)).st (p:=⟨w.heap.size,3,none⟩) (Nat.le_refl _) (.int .i64 0)) (Nat.le_succ _) s B true 0 x)
   obtain⟨⟨c0,c1,c2,c3,c4⟩,-⟩:=own_cells BF
   clear M0 M1 BF MG
   go_wp2_with fail
   exact bodyPost_ret (v:=.tuple #[ov s B true 0 x,.bool false]) (by simp [results,Tryz.results196,go_sem,c0,c1,c2,c3,c4]) rfl ⟨rfl,GF.out⟩
 . obtain rfl:T=true:=by rw [<- HT.out];rfl
   go_enter Tryz.func196,Tryz.ntmps196
   go_wp2_with fail
   with_reducible refine (L _).out.mono ?_
   rintro e w1 ⟨rfl,g1⟩
   go_wp2_with fail
   with_reducible refine (R _).out.mono ?_
   rintro e w2 ⟨rfl,g2⟩
   have B0:=(N0.out.gr g1).gr g2
   obtain⟨⟨q0,q1,q2,q3,q4⟩,z0,z1,z2,z3,z4⟩:=own_cells B0
   have M:=hid (Mid.mk B0 ((N1.out.gr g1).gr g2) ((G0.out.trans g1).trans g2) true x)
   clear B0 g1 g2 N0 N1 G0
   go_wp2_with fail
   with_reducible refine (need_yes _ _).mono ?_
   rintro e w3 ⟨rfl,rfl⟩
   go_wp2_with fail
   with_reducible refine (L2 _).out.mono ?_
   rintro e w5 ⟨rfl,g5⟩
   have M:=M.out.gr g5
   obtain⟨M0,M1,MG⟩:=M
   clear g5 q0 q1 q2 q3 q4 z0 z1 z2 z3 z4
   obtain⟨⟨q0,q1,q2,q3,q4⟩,z0,z1,z2,z3,z4⟩:=own_cells M0
   obtain⟨⟨e0,e1,e2,e3,e4⟩,y0,y1,y2,y3,y4⟩:=own_cells M1
   have hne:w.heap.size≠w.heap.size+1:=by omega
   have BF:=own_st ((M1.st (p:=⟨w.heap.size,2,none⟩) hne (.bool true)).st (p:=⟨w.heap.size,3,none⟩) hne (.int .i64 0)) s true true 0 x
   have GF:=hid (own_gr (g:=w.heap.size+1) ((MG.st (p:=⟨w.heap.size,2,none⟩) (Nat.le_refl _) (.bool true)).st (p:=⟨w.heap.size,3,none⟩) (Nat.le_refl _) (.int .i64 0)) (Nat.le_succ _) s true true 0 x)
   obtain⟨⟨c0,c1,c2,c3,c4⟩,-⟩:=own_cells BF
   clear M0 M1 BF MG
   go_wp2_with fail
   exact bodyPost_ret (v:=.tuple #[ov s true true 0 x,.bool false]) (by simp [results,Tryz.results196,go_sem,c0,c1,c2,c3,c4]) rfl ⟨rfl,GF.out⟩
end
end P14
end
section
open Go.ChangeShapes Go.WideShapes Go.ChangeAt Go.RowKit Go.Shelf
namespace P14
open P3 (fl pw)
open P4 (Tm)
structure But (h:Nat) (w w':World):Prop where
 os:w'.os=w.os
 tape:w'.tape=w.tape
 output:w'.output=w.output
 size:w.heap.size<=w'.heap.size
 block:∀ b,b<w.heap.size->b≠h->w'.heap[b]?=w.heap[b]?
section
variable {h:Nat} {a w w' w'':World}
theorem But.of (g:Gr w w'):But h w w':=⟨g.os,g.tape,g.output,g.size,λ b hb _=>g.block b hb⟩
theorem But.set (g:But h w w') (i:Nat) (v:Value):But h w (w'.setCell ⟨h,i,none⟩ v) :=
 ⟨g.os,g.tape,g.output,by simpa using g.size,λ b hb hn=>(Below.heap_setCell w' ⟨h,i,none⟩ v b hn).trans (g.block b hb hn)⟩
theorem But.st (g:But h w w') {p:Addr} (hp:w.heap.size<=p.block) (v:Value):But h w (w'.setCell p v) :=
 ⟨g.os,g.tape,g.output,by simpa using g.size,λ b hb hn=>(Below.heap_setCell w' p v b (Nat.ne_of_lt (Nat.lt_of_lt_of_le hb hp))).trans (g.block b hb hn)⟩
theorem But.trans (g:But h a w) (g':But h w w'):But h a w' :=
 ⟨g'.os.trans g.os,g'.tape.trans g.tape,g'.output.trans g.output,Nat.le_trans g.size g'.size,λ b hb hn=>(g'.block b (Nat.lt_of_lt_of_le hb g.size) hn).trans (g.block b hb hn)⟩
theorem But.gr (g:Gr a w) (g':But h w w') (hh:a.heap.size<=h):Gr a w' :=
 ⟨g'.os.trans g.os,g'.tape.trans g.tape,g'.output.trans g.output,Nat.le_trans g.size g'.size,λ b hb=>(g'.block b (Nat.lt_of_lt_of_le hb g.size) (Nat.ne_of_lt (Nat.lt_of_lt_of_le hb hh))).trans (g.block b hb)⟩
theorem But.blk {b:Nat} {vs:Array Value} {t:TypeId} (g:But h w w') (B:Blk w b vs t) (hn:b≠h):Blk w' b vs t:=by
 unfold Blk;rw [g.block b B.lt hn];exact B
theorem But.own {g:Nat} (G:But h w w') (hg:w.heap.size<=g) (s:Int) (t k:Bool) (r o:Int) :
 But h w (((((w'.setCell ⟨g,0,none⟩ (.int .i64 s)).setCell ⟨g,1,none⟩ (.bool t)).setCell ⟨g,2,none⟩ (.bool k)).setCell ⟨g,3,none⟩ (.int .i64 r)).setCell ⟨g,4,none⟩ (.int .i64 o)) :=
 ((((G.st (p:=⟨g,0,none⟩) hg _).st (p:=⟨g,1,none⟩) hg _).st (p:=⟨g,2,none⟩) hg _).st (p:=⟨g,3,none⟩) hg _).st (p:=⟨g,4,none⟩) hg _
theorem own_far {W:World} {g b:Nat} {vs:Array Value} {T:TypeId} (B:Blk W b vs T) (hn:g≠b) (s:Int) (t k:Bool) (r o:Int) :
 Blk (((((W.setCell ⟨g,0,none⟩ (.int .i64 s)).setCell ⟨g,1,none⟩ (.bool t)).setCell ⟨g,2,none⟩ (.bool k)).setCell ⟨g,3,none⟩ (.int .i64 r)).setCell ⟨g,4,none⟩ (.int .i64 o)) b vs T :=
 ((((B.st (p:=⟨g,0,none⟩) hn _).st (p:=⟨g,1,none⟩) hn _).st (p:=⟨g,2,none⟩) hn _).st (p:=⟨g,3,none⟩) hn _).st (p:=⟨g,4,none⟩) hn _
end
section
variable {F:Nat} {caps:Array Value} {w:World}
theorem toldX_ok (eg:∀ args w,(callFunc F args).run Tryz.prog w=.ok (.enter F args) w) (s:Int) (t k:Bool) (r o:Int) {h:Nat} (hh:h<w.heap.size) {vs:Array Value} {Th:TypeId}
 (hq:∀ W,Gr w W->Calls Tryz.prog F caps W λ e w'=>e=.returned (.agg #[.int .i64 s,.bool t,.bool k,.int .i64 r,.int .i64 o])/\But h W w'/\Blk w' h vs Th) :
 Calls Tryz.prog 183 #[.func (.func F) #[] caps] w λ e w'=>e=.returned (.tuple #[.agg #[.int .i64 s,.bool t,.bool k,.int .i64 r,.int .i64 o],.int .i64 0])/\But h w w'/\Blk w' h vs Th:=by
 have hmf:=mkF
 have HQ:=hid hq
 clear hq
 have h1:w.heap.size≠h:=by omega
 have h2:w.heap.size+1≠h:=by omega
 go_enter_defers Tryz.func183,Tryz.ntmps183
 go_wp2_with fail
 with_reducible refine (HQ.out _ (((Gr.refl w).al _).al _)).mono ?_
 rintro e w1 ⟨rfl,g1,X1⟩
 have B0:=g1.blk ((Blk.new w #[.int .i64 0,.bool false,.bool false,.int .i64 0,.int .i64 0] 53).al (.cells #[.int .i64 0] 27)) h1
 have B1:=Blk.new (w.alloc (.cells #[.int .i64 0,.bool false,.bool false,.int .i64 0,.int .i64 0] 53)) #[.int .i64 0] 27
 rw [World.size_alloc] at B1
 replace B1:=g1.blk B1 h2
 have G0:=(But.of (h:=h) (((Gr.refl w).al (.cells #[.int .i64 0,.bool false,.bool false,.int .i64 0,.int .i64 0] 53)).al (.cells #[.int .i64 0] 27))).trans g1
 have hne:w.heap.size+1≠w.heap.size:=by omega
 obtain⟨⟨a0,a1,a2,a3,a4⟩,y0,y1,y2,y3,y4⟩:=own_cells B0
 obtain⟨q0,z0⟩:=B1.at_ (k:=0) rfl
 have BF:=(own_st B0 s t k r o).st (p:=⟨w.heap.size+1,0,none⟩) hne (.int .i64 0)
 have BG:=(own_far B1 hne.symm s t k r o).set 0 (.int .i64 0)
 have XF:=hid ((own_far X1 h1 s t k r o).st (p:=⟨w.heap.size+1,0,none⟩) h2 (.int .i64 0))
 obtain⟨⟨c0,c1,c2,c3,c4⟩,-⟩:=own_cells BF
 obtain⟨q1,z1⟩:=BG.at_ (k:=0) (v:=.int .i64 0) rfl
 have G:=hid ((G0.own (g:=w.heap.size) (Nat.le_refl _) s t k r o).st (p:=⟨w.heap.size+1,0,none⟩) (Nat.le_succ _) (.int .i64 0))
 clear B0 B1 BF BG g1 G0 X1
 go_wp2_with fail
 refine leaves_cons (f:=208) (args:=#[.pointer (some ⟨w.heap.size+1,0,none⟩)]) (by simp) (by simp [go_sem]) ?_
 refine (catchO_idle ⟨w.heap.size+1,0,none⟩ _).mono ?_
 rintro e u' w'' ⟨rfl,rfl,rfl⟩
 simp [Leaves,settle,results,Tryz.results183,go_sem,q1,c0,c1,c2,c3,c4]
 exact⟨G.out,XF.out⟩
end
section
variable {s r:Int} {t k a b c:Bool} {n u o x S R X:Int} {T K v:Bool} {w:World}
theorem Wake_cl {W:World} {g i j h:Nat} (B:Blk W g #[.int .i64 s,.bool t,.bool k,.int .i64 r,.int .i64 o] 53) (D:Blk W i #[.int .i64 u] 3) (E:Blk W j #[.int .i64 x] 3) (H:Blk W h #[.bool false] 4)
 (hc:∀ W,Calls Tryz.prog 196 #[ov s t k r o,.int .i64 u,.int .i64 x] W λ e w'=>e=.returned (.tuple #[ov S T K R X,.bool v])/\Gr W w') :
 Calls Tryz.prog 195 #[.pointer (some ⟨g,0,none⟩),.pointer (some ⟨i,0,none⟩),.pointer (some ⟨j,0,none⟩),.pointer (some ⟨h,0,none⟩)] W λ e w' =>
  e=.returned (ov S T K R X)/\But h W w'/\Blk w' h #[.bool v] 4:=by
 have HC:=λ W=>hid (hc W)
 have hlt:=B.lt
 have hlt2:=D.lt
 have hlt3:=E.lt
 have hlt4:=H.lt
 have hne:W.heap.size≠h:=by omega
 obtain⟨⟨q0,q1,q2,q3,q4⟩,-⟩:=own_cells B
 obtain⟨d0,-⟩:=D.at_ (k:=0) rfl
 obtain⟨f0,-⟩:=E.at_ (k:=0) rfl
 have N1:=hid (Blk.new W #[.int .i64 0,.bool false,.bool false,.int .i64 0,.int .i64 0] 53)
 have NH:=hid (H.al (.cells #[.int .i64 0,.bool false,.bool false,.int .i64 0,.int .i64 0] 53))
 have G0:=hid ((Gr.refl W).al (.cells #[.int .i64 0,.bool false,.bool false,.int .i64 0,.int .i64 0] 53))
 clear hc B D E H
 go_enter Tryz.func195,Tryz.ntmps195
 go_wp2_with fail
 with_reducible refine (HC _).out.mono ?_
 rintro e w1 ⟨rfl,g1⟩
 have B1:=N1.out.gr g1
 have H1:=NH.out.gr g1
 obtain⟨⟨e0,e1,e2,e3,e4⟩,y0,y1,y2,y3,y4⟩:=own_cells B1
 obtain⟨p0,z0⟩:=H1.at_ (k:=0) rfl
 have C1:=(own_st B1 S T K R X).st (p:=⟨h,0,none⟩) (Ne.symm hne) (.bool v)
 have H2:=(own_far H1 hne S T K R X).set 0 (.bool v)
 have G2:=(((But.of (h:=h) (G0.out.trans g1)).own (g:=W.heap.size) (Nat.le_refl _) S T K R X).set 0 (.bool v))
 have C1:=hid C1
 have H2:=hid H2
 have G2:=hid G2
 clear g1 B1 H1
 go_upto_region 2 with fail
 clear e0 e1 e2 e3 e4 y0 y1 y2 y3 y4 p0 z0 q0 q1 q2 q3 q4 d0 f0
 generalize ((((((w1.setCell ⟨W.heap.size,0,none⟩ (.int .i64 S)).setCell ⟨W.heap.size,1,none⟩ (.bool T)).setCell ⟨W.heap.size,2,none⟩ (.bool K)).setCell ⟨W.heap.size,3,none⟩ (.int .i64 R)).setCell ⟨W.heap.size,4,none⟩ (.int .i64 X)).setCell ⟨h,0,none⟩ (.bool v))=W2 at C1 H2 G2 ⊢
 obtain⟨⟨j0,j1,j2,j3,j4⟩,z0,z1,z2,z3,z4⟩:=own_cells C1.out
 have C2:=own_st C1.out S T K R X
 have HF:=hid (own_far H2.out hne S T K R X)
 have GF:=hid (G2.out.own (g:=W.heap.size) (Nat.le_refl _) S T K R X)
 obtain⟨⟨c0,c1,c2,c3,c4⟩,-⟩:=own_cells C2
 clear C2
 go_wp2_with fail
 exact bodyPost_ret (v:=ov S T K R X) (by simp [results,Tryz.results195,go_sem,c0,c1,c2,c3,c4]) rfl ⟨rfl,GF.out,HF.out⟩
def Laid (w W:World) (s:Int) (t k:Bool) (r o u x:Int):Prop :=
 Blk W w.heap.size #[.int .i64 s,.bool t,.bool k,.int .i64 r,.int .i64 o] 53/\Blk W (w.heap.size+1) #[.int .i64 u] 3/\Blk W (w.heap.size+1+1) #[.int .i64 x] 3 /\
 Blk W (w.heap.size+1+1+1) #[.int .i64 0,.bool false,.bool false,.int .i64 0,.int .i64 0] 53/\Blk W (w.heap.size+1+1+1+1) #[.bool false] 4/\Gr w W
theorem Laid.gr {W W':World} (h:Laid w W s t k r o u x) (g:Gr W W'):Laid w W' s t k r o u x :=
 ⟨h.1.gr g,h.2.1.gr g,h.2.2.1.gr g,h.2.2.2.1.gr g,h.2.2.2.2.1.gr g,h.2.2.2.2.2.trans g⟩
theorem Laid.mk (w:World) (s:Int) (t k:Bool) (r o u x:Int) :
 Laid w (((((w.alloc (.cells #[.int .i64 s,.bool t,.bool k,.int .i64 r,.int .i64 o] 53)).alloc (.cells #[.int .i64 u] 3)).alloc (.cells #[.int .i64 x] 3)).alloc (.cells #[.int .i64 0,.bool false,.bool false,.int .i64 0,.int .i64 0] 53)).alloc (.cells #[.bool false] 4)) s t k r o u x:=by
 have b0:=(((Blk.new w #[.int .i64 s,.bool t,.bool k,.int .i64 r,.int .i64 o] 53).al (.cells #[.int .i64 u] 3)).al (.cells #[.int .i64 x] 3)).al (.cells #[.int .i64 0,.bool false,.bool false,.int .i64 0,.int .i64 0] 53) |>.al (.cells #[.bool false] 4)
 have b1:=((Blk.new (w.alloc (.cells #[.int .i64 s,.bool t,.bool k,.int .i64 r,.int .i64 o] 53)) #[.int .i64 u] 3).al (.cells #[.int .i64 x] 3)).al (.cells #[.int .i64 0,.bool false,.bool false,.int .i64 0,.int .i64 0] 53) |>.al (.cells #[.bool false] 4)
 have b2:=(Blk.new ((w.alloc (.cells #[.int .i64 s,.bool t,.bool k,.int .i64 r,.int .i64 o] 53)).alloc (.cells #[.int .i64 u] 3)) #[.int .i64 x] 3).al (.cells #[.int .i64 0,.bool false,.bool false,.int .i64 0,.int .i64 0] 53) |>.al (.cells #[.bool false] 4)
 have b3:=(Blk.new (((w.alloc (.cells #[.int .i64 s,.bool t,.bool k,.int .i64 r,.int .i64 o] 53)).alloc (.cells #[.int .i64 u] 3)).alloc (.cells #[.int .i64 x] 3)) #[.int .i64 0,.bool false,.bool false,.int .i64 0,.int .i64 0] 53).al (.cells #[.bool false] 4)
 have b4:=Blk.new ((((w.alloc (.cells #[.int .i64 s,.bool t,.bool k,.int .i64 r,.int .i64 o] 53)).alloc (.cells #[.int .i64 u] 3)).alloc (.cells #[.int .i64 x] 3)).alloc (.cells #[.int .i64 0,.bool false,.bool false,.int .i64 0,.int .i64 0] 53)) #[.bool false] 4
 rw [World.size_alloc] at b1
 rw [World.size_alloc,World.size_alloc] at b2
 rw [World.size_alloc,World.size_alloc,World.size_alloc] at b3
 rw [World.size_alloc,World.size_alloc,World.size_alloc,World.size_alloc] at b4
 exact⟨b0,b1,b2,b3,b4,(((((Gr.refl w).al _).al _).al _).al _).al _⟩
theorem Wake_ok (hc:∀ W,Calls Tryz.prog 196 #[ov s t k r o,.int .i64 u,.int .i64 x] W λ e w'=>e=.returned (.tuple #[ov S T K R X,.bool v])/\Gr W w') :
 Calls Tryz.prog 154 #[ov s t k r o,.int .i64 u,.int .i64 x] w λ e w'=>e=.returned (.tuple #[ov S T K R X,.bool v,.int .i64 0])/\Gr w w':=by
 have L0:=Laid.mk w s t k r o u x
 have TT:=hid (toldX_ok (F:=195) (caps:=#[.pointer (some ⟨w.heap.size,0,none⟩),.pointer (some ⟨w.heap.size+1,0,none⟩),.pointer (some ⟨w.heap.size+1+1,0,none⟩),.pointer (some ⟨w.heap.size+1+1+1+1,0,none⟩)]) (w:=(((((w.alloc (.cells #[.int .i64 s,.bool t,.bool k,.int .i64 r,.int .i64 o] 53)).alloc (.cells #[.int .i64 u] 3)).alloc (.cells #[.int .i64 x] 3)).alloc (.cells #[.int .i64 0,.bool false,.bool false,.int .i64 0,.int .i64 0] 53)).alloc (.cells #[.bool false] 4))) (enters_of Tryz.func195 (by kernel_rfl) rfl) S T K R X (h:=w.heap.size+1+1+1+1) L0.2.2.2.2.1.lt (λ W G=>Wake_cl (L0.gr G).1 (L0.gr G).2.1 (L0.gr G).2.2.1 (L0.gr G).2.2.2.2.1 hc))
 clear hc
 have L0:=hid L0
 have hmf:=mkF
 go_enter Tryz.func154,Tryz.ntmps154
 go_wp2_with fail
 with_reducible refine TT.out.mono ?_
 rintro e w1 ⟨rfl,g1,H1⟩
 have B3:=g1.blk L0.out.2.2.2.1 (by omega)
 have G:=hid (But.gr L0.out.2.2.2.2.2 g1 (by omega))
 have l3:=B3.lt
 have l4:=H1.lt
 obtain⟨⟨e0,e1,e2,e3,e4⟩,y0,y1,y2,y3,y4⟩:=own_cells B3
 obtain⟨p0,-⟩:=H1.at_ (k:=0) rfl
 have BF:=((own_st B3 S T K R X).al (.cells #[.int .i64 S,.bool T,.bool K,.int .i64 R,.int .i64 X] 53)).gr ((Gr.refl _).dr)
 have GF:=hid (((own_gr (g:=w.heap.size+1+1+1) G.out (by omega) S T K R X).al (.cells #[.int .i64 S,.bool T,.bool K,.int .i64 R,.int .i64 X] 53)).dr)
 obtain⟨⟨c0,c1,c2,c3,c4⟩,-⟩:=own_cells BF
 clear BF B3 H1 g1 TT
 go_wp2_with fail
 go_region
 go_wp2_with fail
 exact bodyPost_ret (v:=.tuple #[ov S T K R X,.bool v,.int .i64 0]) (by simp [results,Tryz.results154,go_sem,c0,c1,c2,c3,c4]) rfl ⟨rfl,GF.out⟩
end
end P14
end
section
open Go.ChangeShapes Go.WideShapes Go.ChangeAt Go.RowKit Go.Shelf
namespace P16
open P14 (pan ov)
structure OwnR (c:Cl):Prop where
 sc:c.since=-1\/P4.Tm c.since
 rd:0<=c.rounds/\c.rounds<=4
 ol:OkW c.old
abbrev ovc (c:Cl):Value:=ov c.since c.st c.aw c.rounds c.old
section
variable {c:Cl} {now x u:Int} {W:World}
theorem OwnR.s (h:OwnR c):P14.OkS c.since c.rounds:=⟨h.sc,h.rd⟩
theorem OwnR.n (h:OwnR c):P14.OkN (wd c.old).n:=h.ol.n
theorem OwnR.o (h:OwnR c):c.old=P3.pw (wd c.old).L (wd c.old).K (wd c.old).S (wd c.old).n:=pw_un h.ol
theorem look_cl (h:OwnR c) (W:World):Calls Tryz.prog 130 #[ovc c] W λ e w'=>e=.returned (P3.fl (wd c.old).L (wd c.old).K (wd c.old).S (wd c.old).n)/\Gr W w':=by
 have q:=P14.look_ok (s:=c.since) (r:=c.rounds) (t:=c.st) (k:=c.aw) (a:=(wd c.old).L) (b:=(wd c.old).K) (c:=(wd c.old).S) (n:=(wd c.old).n) (w:=W) h.s h.n
 rw [<- h.o] at q
 exact q
theorem Wakes_c (h:OwnR c) (W:World):Calls Tryz.prog 178 #[ovc c] W λ e w'=>e=.returned (.tuple #[.bool (!c.aw&&!(wd c.old).K&&decide (0<(wd c.old).n)),.int .i64 0])/\Gr W w' :=
 P14.Wakes_ok (look_cl h)
theorem Got_c (h:OwnR c) (W:World):Calls Tryz.prog 143 #[ovc c] W λ e w'=>e=.returned (.tuple #[.bool (!(wd c.old).L&&!(wd c.old).S),.int .i64 0])/\Gr W w' :=
 P14.Got_ok (look_cl h)
def goes (c:Cl) (u:Int):Bool:=decide ((wd c.old).L=true/\(wd c.old).S=false/\c.rounds<4/\1<u)
theorem Spins_c (h:OwnR c) (hu:0<=u) (W:World):Calls Tryz.prog 138 #[ovc c,.int .i64 u] W λ e w'=>e=.returned (.tuple #[.bool (goes c u),.int .i64 0])/\Gr W w':=by
 have hr:=h.rd
 have hng:¬ (c.rounds<0\/u<0):=by omega
 by_cases h4:c.rounds<4/\1<u
 . have e:goes c u=((wd c.old).L&&!(wd c.old).S):=by
    unfold goes
    cases (wd c.old).L<;>cases (wd c.old).S<;>simp [h4.1,h4.2]
   rw [e]
   exact P14.SpinsB λ W g k B D=>P14.Spins_yes B D (look_cl h) λ W=>P6.Can_few hng h4.1 (by simp [h4.2]) W
 . have e:goes c u=false:=by
    unfold goes
    exact decide_eq_false λ q=>h4 ⟨q.2.2.1,q.2.2.2⟩
   rw [e]
   refine P14.SpinsB λ W g k B D=>P14.Spins_no B D (look_cl h) λ W=>?_
   by_cases h5:c.rounds<4
   . exact P6.Can_few hng h5 (decide_eq_false λ q=>h4 ⟨h5,q⟩) W
   . exact P6.Can_many hng h5 W
theorem wanted_c (h:OwnR c) (hw:wants c=some x) (W:World):Calls Tryz.prog 181 #[ovc c] W λ e w'=>e=.returned (.int .i64 x)/\Gr W w':=by
 have hn:=h.n
 have ho:=h.o
 unfold P14.OkN at hn
 unfold wants at hw
 dsimp only at hw
 generalize wd c.old=o at *
 obtain⟨L,K,S,n⟩:=o
 dsimp only at *
 have e:c.aw=true->K=true:=λ q=>by
  cases K
  . rw [if_pos ⟨q,rfl⟩] at hw;cases hw
  . rfl
 rw [if_neg (by rintro⟨q1,q2⟩;rw [e q1] at q2;cases q2)] at hw
 have hm:P14.OkN (n+P14.more L S):=by
  unfold P14.OkN P14.more
  by_cases hLS:(L||S)=true
  . rw [if_pos hLS]
    by_cases hb:268435456<=n+1
    . rw [if_pos ⟨by simpa using hLS,hb⟩] at hw;cases hw
    . omega
  . rw [if_neg hLS];omega
 rw [if_neg (by
  rintro⟨q1,q2⟩
  unfold P14.OkN P14.more at hm
  rw [if_pos (by simpa using q1)] at hm
  omega)] at hw
 cases hw
 have q:=P14.wanted_ok (s:=c.since) (t:=c.st) (k:=c.aw) (r:=c.rounds) (a:=L) (b:=K) (c:=S) (n:=n) (w:=W) h.s hn (by
  cases hk:c.aw
  . exact .inr rfl
  . exact .inl (e hk)) hm
 rw [<- ho] at q
 have ex:P3.pw (L||!S) (K&&!c.aw) (S||(c.st&&L)) (n+P14.more L S)=un { L:=L||!S,K:=K&&!c.aw,S:=S||(c.st&&L),n:=if L=true\/S=true then n+1 else n }:=by
  rw [<- un_pw]
  congr 1
  unfold P14.more
  by_cases hLS:(L||S)=true
  . rw [if_pos hLS,if_pos (by simpa using hLS)]
  . rw [if_neg hLS,if_neg (by simpa using hLS)];exact Int.add_zero _
 rw [ex] at q
 simpa using q
theorem Wants_c (h:OwnR c) (hw:wants c=some x) (W:World):Calls Tryz.prog 142 #[ovc c] W λ e w'=>e=.returned (.tuple #[.int .i64 x,.int .i64 0])/\Gr W w' :=
 P14.Wants_ok (wanted_c h hw)
theorem wants_ok (h:OwnR c) (hw:wants c=some x):OkW x:=by
 have hn:=h.n
 unfold P14.OkN at hn
 unfold wants at hw
 dsimp only at hw
 split at hw
 . cases hw
 split at hw
 . cases hw
 rename_i h1 h2
 cases hw
 by_cases hLS:((wd c.old).L||(wd c.old).S)=true
 . have hb:¬ 268435456<=(wd c.old).n+1:=λ q=>h2 ⟨by simpa using hLS,q⟩
   exact okW_un (by dsimp only;rw [if_pos hLS];omega) (by dsimp only;rw [if_pos hLS];omega)
 . exact okW_un (by dsimp only;rw [if_neg hLS];omega) (by dsimp only;rw [if_neg hLS];omega)
theorem Wants_x (h:OwnR c) (hw:wants c=none):∃ y:Int,(y==0)=false/\∀ W,Calls Tryz.prog 142 #[ovc c] W λ e w'=>e=.returned (.tuple #[.int .i64 0,.int .i64 y])/\Gr W w':=by
 have hn:=h.n
 have ho:=h.o
 have hs:=h.s
 unfold wants at hw
 dsimp only at hw
 generalize wd c.old=o at *
 obtain⟨L,K,S,n⟩:=o
 dsimp only at *
 by_cases h1:c.aw=true/\K=false
 . obtain⟨q1,rfl⟩:=h1
   refine⟨12,by decide,λ W=>P14.Wants_no λ W=>?_⟩
   have q:=P14.wanted_broken (s:=c.since) (t:=c.st) (r:=c.rounds) (a:=L) (c:=S) (n:=n) (w:=W) hs hn
   rw [<- ho] at q
   show Calls Tryz.prog 181 #[ov c.since c.st c.aw c.rounds c.old] W _
   rw [q1]
   exact q
 . rw [if_neg h1] at hw
   by_cases h2:(L=true\/S=true)/\268435456<=n+1
   . refine⟨10,by decide,λ W=>P14.Wants_no λ W=>?_⟩
     have q:=P14.wanted_over (s:=c.since) (t:=c.st) (k:=c.aw) (r:=c.rounds) (a:=L) (b:=K) (c:=S) (n:=n) (w:=W) hs hn (by
      cases hk:c.aw
      . exact .inr rfl
      . left
        cases K
        . exact absurd ⟨hk,rfl⟩ h1
        . rfl) (by simpa using h2.1) (by have:=h2.2;unfold P14.OkN;omega)
     rw [<- ho] at q
     exact q
   . rw [if_neg h2] at hw
     cases hw
theorem Sleep_c (h:OwnR c) (hu:P4.Tm now) (W:World):Calls Tryz.prog 145 #[ovc c,.int .i64 now] W λ e w'=>e=.returned (.tuple #[ov (if c.since=-1 then now else c.since) c.st c.aw c.rounds c.old,.bool (!decide (c.since=-1)),.int .i64 0])/\Gr W w':=by
 have q:=P14.Sleep_ok (s:=c.since) (t:=c.st) (k:=c.aw) (r:=c.rounds) (o:=c.old) (u:=now) (S:=P14.snc c.since now) (w:=W) λ W=>by
  have q:=P14.asleep_ok (s:=c.since) (t:=c.st) (k:=c.aw) (r:=c.rounds) (u:=now) (a:=(wd c.old).L) (b:=(wd c.old).K) (c:=(wd c.old).S) (n:=(wd c.old).n) (w:=W) h.s h.n hu
  rw [<- h.o] at q
  exact q
 have e:decide (P14.snc c.since now=c.since)=!decide (c.since=-1):=by
  unfold P14.snc
  unfold P4.Tm at hu
  by_cases hs:c.since=-1
  . rw [if_pos hs];simp [hs];omega
  . rw [if_neg hs];simp [hs]
 rw [e] at q
 exact q
theorem Wake_h (h:OwnR c) (hu:P4.Tm now) (hx:OkW x) (hS:(wd x).S=true) (W:World):Calls Tryz.prog 154 #[ovc c,.int .i64 now,.int .i64 x] W λ e w'=>e=.returned (.tuple #[ov c.since (c.st||late c.since now) c.aw c.rounds x,.bool true,.int .i64 0])/\Gr W w' :=
 P14.Wake_ok λ W=>by
  have e:=pw_un hx
  rw [hS] at e
  have q:=P14.woken_handed (s:=c.since) (t:=c.st) (k:=c.aw) (r:=c.rounds) (o:=c.old) (u:=now) (a:=(wd x).L) (b:=(wd x).K) (n:=(wd x).n) (w:=W) h.s h.ol hu hx.n (T:=c.st||late c.since now) rfl
  rw [<- e] at q
  exact q
theorem Wake_b (h:OwnR c) (hu:P4.Tm now) (hx:OkW x) (hS:(wd x).S=false) (W:World):Calls Tryz.prog 154 #[ovc c,.int .i64 now,.int .i64 x] W λ e w'=>e=.returned (.tuple #[ov c.since (c.st||late c.since now) true 0 x,.bool false,.int .i64 0])/\Gr W w' :=
 P14.Wake_ok λ W=>by
  have e:=pw_un hx
  rw [hS] at e
  have q:=P14.woken_back (s:=c.since) (t:=c.st) (k:=c.aw) (r:=c.rounds) (o:=c.old) (u:=now) (a:=(wd x).L) (b:=(wd x).K) (n:=(wd x).n) (w:=W) h.s h.ol hu hx.n (T:=c.st||late c.since now) rfl
  rw [<- e] at q
  exact q
theorem Handed_c (h:OwnR c) (hd:hands c=some x) (W:World):Calls Tryz.prog 155 #[ovc c] W λ e w'=>e=.returned (.tuple #[.int .i64 x,.int .i64 0])/\Gr W w' :=
 P14.Handed_ok λ W=>by
  have hn:=h.n
  have ho:=h.o
  unfold hands at hd
  dsimp only at hd
  generalize wd c.old=o at *
  obtain⟨L,K,S,n⟩:=o
  dsimp only at *
  split at hd
  . cases hd
  . rename_i hb
    have hL:L=false:=by cases L;rfl;exact absurd (.inl rfl) hb
    have hK:K=false:=by cases K;rfl;exact absurd (.inr (.inl rfl)) hb
    have h0:0<n:=by
     have:n≠0:=λ q=>hb (.inr (.inr q))
     have:=hn.1
     omega
    subst hL hK
    cases hd
    have q:=P14.taken_ok (s:=c.since) (t:=c.st) (k:=c.aw) (r:=c.rounds) (c:=S) (n:=n) (w:=W) h.s hn h0
    rw [<- ho] at q
    exact q
theorem Handed_x (h:OwnR c) (hd:hands c=none) (W:World):Calls Tryz.prog 155 #[ovc c] W λ e w'=>e=.returned (.tuple #[.int .i64 0,.int .i64 12])/\Gr W w' :=
 P14.Handed_no λ W=>by
  have hn:=h.n
  have ho:=h.o
  unfold hands at hd
  dsimp only at hd
  generalize wd c.old=o at *
  obtain⟨L,K,S,n⟩:=o
  dsimp only at *
  split at hd
  . rename_i hb
    have q:=P14.taken_broken (s:=c.since) (t:=c.st) (k:=c.aw) (r:=c.rounds) (a:=L) (b:=K) (c:=S) (n:=n) (w:=W) h.s hn (by
     rintro⟨rfl,rfl,q⟩
     rcases hb with q1 | q1 | q1
     . cases q1
     . cases q1
     . omega)
    rw [<- ho] at q
    exact q
  . cases hd
end
end P16
end
end Go.Proofs.YtainfijdhcehlaaGreatDoor
