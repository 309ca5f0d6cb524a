/-
  A part of the proof.
-/
import Derived.Test.YtainfijdhcehlaaGreatDoorQB3
import Derived.Test.YtainfijdhcehlaaGreatDoorQB13
import Derived.Test.YtainfijdhcehlaaGreatDoorQB15
import Derived.Laws.StructEq
import Derived.ChangeKeysEq
import Derived.RegionTactic
set_option linter.unusedVariables false
set_option linter.unusedSimpArgs false
set_option maxRecDepth 100000
set_option maxHeartbeats 8000000
namespace Go.Proofs.YtainfijdhcehlaaGreatDoor
open Lib (hid)
section
open Go.ChangeShapes Go.WideShapes Go.ChangeAt Go.RowKit
namespace P14
open P3 (fl pw)
open P4 (Tm)
section
variable {s r:Int} {t k a b c:Bool} {n:Int} {w:World}
theorem wanted_broken (h:OkS s r) (hn:OkN n) :
 Calls Tryz.prog 181 #[ov s t true r (pw a false c n)] w λ e w'=>e=.panicked (pan 12)/\Gr w w':=by
 have L:=λ w=>hid (look_ok (t:=t) (k:=true) (a:=a) (b:=false) (c:=c) (w:=w) h hn)
 generalize pw a false c n=v at *
 have N0:=Blk.new w #[.int .i64 s,.bool t,.bool true,.int .i64 r,.int .i64 v] 53
 have G0:=(Gr.refl w).al (.cells #[.int .i64 s,.bool t,.bool true,.int .i64 r,.int .i64 v] 53)
 clear h hn
 go_enter Tryz.func181,Tryz.ntmps181
 go_wp2_with fail
 with_reducible refine (L _).out.mono ?_
 rintro e w1 ⟨rfl,g1⟩
 have hlt:=(N0.gr g1).lt
 obtain⟨q2,-⟩:=(N0.gr g1).at_ (k:=2) rfl
 have G:=hid ((G0.trans g1).al (.cells #[.bool a,.bool false,.bool c,.int .i64 n] 42))
 clear N0 G0 g1
 go_wp2_with fail
 with_reducible refine (need_no _ _).mono ?_
 rintro e w2 ⟨rfl,rfl⟩
 go_wp2_with fail
 exact⟨rfl,rfl,G.out⟩
theorem wanted_over (h:OkS s r) (hn:OkN n) (hb:b=true\/k=false) (hac:(a||c)=true) (hm:¬ OkN (n+1)) :
 Calls Tryz.prog 181 #[ov s t k r (pw a b c n)] w λ e w'=>e=.panicked (pan 10)/\Gr w w':=by
 have L:=λ w=>hid (look_ok (t:=t) (k:=k) (a:=a) (b:=b) (c:=c) (w:=w) h hn)
 have HD:=λ w=>hid (held_is a b c n w)
 have hq:(!hEq a c false false)=true:=by cases a<;>cases c<;>first | rfl | exact absurd hac (by decide)
 have HE:=λ w=>hq▸run_hold_neq a c false false w
 have WT:=λ w=>hid (P3.Waits_no a b c n 1 (n+1) hn (by unfold OkN at hn;unfold wrap64;omega) hm w)
 generalize pw a b c n=v at *
 have N0:=Blk.new w #[.int .i64 s,.bool t,.bool k,.int .i64 r,.int .i64 v] 53
 have G0:=(Gr.refl w).al (.cells #[.int .i64 s,.bool t,.bool k,.int .i64 r,.int .i64 v] 53)
 have N1:=hid λ w1=>Blk.new w1 #[.bool a,.bool b,.bool c,.int .i64 n] 42
 have GN:=hid λ (w1:World) (g:Gr _ w1)=>(G0.trans g).al (.cells #[.bool a,.bool b,.bool c,.int .i64 n] 42)
 have hk:b=true\/(b=false/\k=false):=by cases b<;>simp_all
 clear h hn hac hm hq hb
 rcases hk with rfl | ⟨rfl,rfl⟩
 all_goals (
  go_enter Tryz.func181,Tryz.ntmps181
  go_wp2_with fail
  with_reducible refine (L _).out.mono ?_
  rintro e w1 ⟨rfl,g1⟩
  have hlt:=(N0.gr g1).lt
  obtain⟨q2,-⟩:=(N0.gr g1).at_ (k:=2) rfl
  obtain⟨q4,-⟩:=(N0.gr g1).at_ (k:=4) rfl
  have G:=GN.out w1 g1
  clear N0 G0 GN g1
  go_wp2_with fail
  with_reducible refine (need_yes _ _).mono ?_
  rintro e w2 ⟨rfl,rfl⟩
  go_wp2_with fail
  with_reducible refine (HD _).out.mono ?_
  rintro e w3 ⟨rfl,g3⟩
  go_wp2_with fail
  with_reducible refine (WT _).out.mono ?_
  rintro e w4 ⟨rfl,g4⟩
  go_wp2_with fail
  with_reducible refine (sureI_no _ rfl _).mono ?_
  rintro e w5 ⟨rfl,rfl⟩
  go_wp2_with fail
  exact⟨rfl,rfl,(G.trans g3).trans g4⟩)
def chg (t:Bool) (n:Int):Int:=if t=false\/n=1 then -11 else -7
theorem taken_broken (h:OkS s r) (hn:OkN n) (hb:¬ (a=false/\b=false/\0<n)) :
 Calls Tryz.prog 198 #[ov s t k r (pw a b c n)] w λ e w'=>e=.panicked (pan 12)/\Gr w w':=by
 have L:=λ w=>hid (look_ok (t:=t) (k:=k) (a:=a) (b:=b) (c:=c) (w:=w) h hn)
 generalize pw a b c n=v at *
 have N0:=Blk.new w #[.int .i64 s,.bool t,.bool k,.int .i64 r,.int .i64 v] 53
 have G0:=(Gr.refl w).al (.cells #[.int .i64 s,.bool t,.bool k,.int .i64 r,.int .i64 v] 53)
 have GN:=hid λ (w1:World) (g:Gr _ w1)=>(G0.trans g).al (.cells #[.bool a,.bool b,.bool c,.int .i64 n] 42)
 have hk:a=true\/(a=false/\b=true)\/(a=false/\b=false/\decide (0<n)=false):=by
  cases a<;>cases b<;>simp_all
 clear h hn hb
 rcases hk with rfl | ⟨rfl,rfl⟩ | ⟨rfl,rfl,h0⟩
 all_goals (
  go_enter Tryz.func198,Tryz.ntmps198
  go_wp2_with fail
  with_reducible refine (L _).out.mono ?_
  rintro e w1 ⟨rfl,g1⟩
  have hlt:=(N0.gr g1).lt
  have G:=GN.out w1 g1
  clear N0 G0 GN g1
  go_wp2_with fail
  with_reducible refine (need_no _ _).mono ?_
  rintro e w2 ⟨rfl,rfl⟩
  go_wp2_with fail
  exact⟨rfl,rfl,G⟩)
theorem taken_ok (h:OkS s r) (hn:OkN n) (h0:0<n) :
 Calls Tryz.prog 198 #[ov s t k r (pw false false c n)] w λ e w'=>e=.returned (.int .i64 (chg t n))/\Gr w w':=by
 have L:=λ w=>hid (look_ok (t:=t) (k:=k) (a:=false) (b:=false) (c:=c) (w:=w) h hn)
 generalize pw false false c n=v at *
 have N0:=Blk.new w #[.int .i64 s,.bool t,.bool k,.int .i64 r,.int .i64 v] 53
 have G0:=(Gr.refl w).al (.cells #[.int .i64 s,.bool t,.bool k,.int .i64 r,.int .i64 v] 53)
 have hk:(t=false/\chg t n=-11)\/(t=true/\(n==1)=true/\chg t n=-11)\/(t=true/\(n==1)=false/\chg t n=-7):=by
  unfold chg
  cases t
  . exact .inl ⟨rfl,by simp⟩
  . by_cases h1:n=1
    . exact .inr (.inl ⟨rfl,by simp [h1],by simp [h1]⟩)
    . exact .inr (.inr ⟨rfl,by simp [h1],by simp [h1]⟩)
 obtain⟨C,hC⟩:∃ C,chg t n=C:=⟨_,rfl⟩
 rw [hC] at hk ⊢
 clear h hn hC
 rcases hk with ⟨rfl,rfl⟩ | ⟨rfl,h1,rfl⟩ | ⟨rfl,h1,rfl⟩
 all_goals (
  go_enter Tryz.func198,Tryz.ntmps198
  go_wp2_with fail
  with_reducible refine (L _).out.mono ?_
  rintro e w1 ⟨rfl,g1⟩
  have hlt:=(N0.gr g1).lt
  obtain⟨q1,-⟩:=(N0.gr g1).at_ (k:=1) rfl
  have G:=(G0.trans g1).al (.cells #[.bool false,.bool false,.bool c,.int .i64 n] 42)
  clear N0 G0 g1
  go_wp2_with fail
  with_reducible refine (need_yes _ _).mono ?_
  rintro e w2 ⟨rfl,rfl⟩
  go_wp2_with fail
  go_ret
  exact⟨rfl,G⟩)
end
end P14
end
section
open Go.ChangeShapes Go.WideShapes Go.ChangeAt Go.RowKit Go.Shelf
namespace P14
open P3 (fl pw)
open P4 (Tm)
section
variable {s r:Int} {t k a b c:Bool} {n u o x:Int} {w:World}
theorem Wants_cl {W:World} {g:Nat} (B:Blk W g #[.int .i64 s,.bool t,.bool k,.int .i64 r,.int .i64 o] 53)
 (hc:∀ W,Calls Tryz.prog 181 #[ov s t k r o] W λ e w'=>e=.returned (.int .i64 x)/\Gr W w') :
 Calls Tryz.prog 180 #[.pointer (some ⟨g,0,none⟩)] W λ e w'=>e=.returned (.int .i64 x)/\Gr W w':=by
 have HC:=λ W=>hid (hc W)
 obtain⟨⟨q0,q1,q2,q3,q4⟩,-⟩:=own_cells B
 clear hc B
 go_enter Tryz.func180,Tryz.ntmps180
 go_wp2_with fail
 with_reducible refine (HC _).out.mono ?_
 rintro e w1 ⟨rfl,g1⟩
 go_wp2_with fail
 go_ret
 exact⟨rfl,g1⟩
theorem Wants_up {W:World} {g:Nat} {y:Int} (B:Blk W g #[.int .i64 s,.bool t,.bool k,.int .i64 r,.int .i64 o] 53)
 (hc:∀ W,Calls Tryz.prog 181 #[ov s t k r o] W λ e w'=>e=.panicked (pan y)/\Gr W w') :
 Calls Tryz.prog 180 #[.pointer (some ⟨g,0,none⟩)] W λ e w'=>e=.panicked (pan y)/\Gr W w':=by
 have HC:=λ W=>hid (hc W)
 obtain⟨⟨q0,q1,q2,q3,q4⟩,-⟩:=own_cells B
 clear hc B
 go_enter Tryz.func180,Tryz.ntmps180
 go_wp2_with fail
 with_reducible refine (HC _).out.mono ?_
 rintro e w1 ⟨rfl,g1⟩
 go_wp2_with fail
 exact⟨rfl,rfl,g1⟩
theorem Wants_ok (hc:∀ W,Calls Tryz.prog 181 #[ov s t k r o] W λ e w'=>e=.returned (.int .i64 x)/\Gr W w') :
 Calls Tryz.prog 142 #[ov s t k r o] w λ e w'=>e=.returned (.tuple #[.int .i64 x,.int .i64 0])/\Gr w w':=by
 have N0:=Blk.new w #[.int .i64 s,.bool t,.bool k,.int .i64 r,.int .i64 o] 53
 have T:=hid (toldI_ok (F:=180) (caps:=#[.pointer (some ⟨w.heap.size,0,none⟩)]) (w:=w.alloc (.cells #[.int .i64 s,.bool t,.bool k,.int .i64 r,.int .i64 o] 53)) (enters_of Tryz.func180 (by kernel_rfl) rfl) x (λ W G=>Wants_cl (N0.gr G) hc))
 have G0:=(Gr.refl w).al (.cells #[.int .i64 s,.bool t,.bool k,.int .i64 r,.int .i64 o] 53)
 clear hc N0
 have hmf:=mkF
 go_enter Tryz.func142,Tryz.ntmps142
 go_wp2_with fail
 with_reducible refine T.out.mono ?_
 rintro e w1 ⟨rfl,g1⟩
 go_wp2_with fail
 go_ret2
 exact⟨rfl,G0.trans g1⟩
theorem Wants_no {y:Int} (hc:∀ W,Calls Tryz.prog 181 #[ov s t k r o] W λ e w'=>e=.panicked (pan y)/\Gr W w') :
 Calls Tryz.prog 142 #[ov s t k r o] w λ e w'=>e=.returned (.tuple #[.int .i64 0,.int .i64 y])/\Gr w w':=by
 have N0:=Blk.new w #[.int .i64 s,.bool t,.bool k,.int .i64 r,.int .i64 o] 53
 have T:=hid (toldI_no (F:=180) (caps:=#[.pointer (some ⟨w.heap.size,0,none⟩)]) (w:=w.alloc (.cells #[.int .i64 s,.bool t,.bool k,.int .i64 r,.int .i64 o] 53)) (enters_of Tryz.func180 (by kernel_rfl) rfl) y (λ W G=>Wants_up (N0.gr G) hc))
 have G0:=(Gr.refl w).al (.cells #[.int .i64 s,.bool t,.bool k,.int .i64 r,.int .i64 o] 53)
 clear hc N0
 have hmf:=mkF
 go_enter Tryz.func142,Tryz.ntmps142
 go_wp2_with fail
 with_reducible refine T.out.mono ?_
 rintro e w1 ⟨rfl,g1⟩
 go_wp2_with fail
 go_ret2
 exact⟨rfl,G0.trans g1⟩
theorem Handed_cl {W:World} {g:Nat} (B:Blk W g #[.int .i64 s,.bool t,.bool k,.int .i64 r,.int .i64 o] 53)
 (hc:∀ W,Calls Tryz.prog 198 #[ov s t k r o] W λ e w'=>e=.returned (.int .i64 x)/\Gr W w') :
 Calls Tryz.prog 197 #[.pointer (some ⟨g,0,none⟩)] W λ e w'=>e=.returned (.int .i64 x)/\Gr W w':=by
 have HC:=λ W=>hid (hc W)
 obtain⟨⟨q0,q1,q2,q3,q4⟩,-⟩:=own_cells B
 clear hc B
 go_enter Tryz.func197,Tryz.ntmps197
 go_wp2_with fail
 with_reducible refine (HC _).out.mono ?_
 rintro e w1 ⟨rfl,g1⟩
 go_wp2_with fail
 go_ret
 exact⟨rfl,g1⟩
theorem Handed_up {W:World} {g:Nat} {y:Int} (B:Blk W g #[.int .i64 s,.bool t,.bool k,.int .i64 r,.int .i64 o] 53)
 (hc:∀ W,Calls Tryz.prog 198 #[ov s t k r o] W λ e w'=>e=.panicked (pan y)/\Gr W w') :
 Calls Tryz.prog 197 #[.pointer (some ⟨g,0,none⟩)] W λ e w'=>e=.panicked (pan y)/\Gr W w':=by
 have HC:=λ W=>hid (hc W)
 obtain⟨⟨q0,q1,q2,q3,q4⟩,-⟩:=own_cells B
 clear hc B
 go_enter Tryz.func197,Tryz.ntmps197
 go_wp2_with fail
 with_reducible refine (HC _).out.mono ?_
 rintro e w1 ⟨rfl,g1⟩
 go_wp2_with fail
 exact⟨rfl,rfl,g1⟩
theorem Handed_ok (hc:∀ W,Calls Tryz.prog 198 #[ov s t k r o] W λ e w'=>e=.returned (.int .i64 x)/\Gr W w') :
 Calls Tryz.prog 155 #[ov s t k r o] w λ e w'=>e=.returned (.tuple #[.int .i64 x,.int .i64 0])/\Gr w w':=by
 have N0:=Blk.new w #[.int .i64 s,.bool t,.bool k,.int .i64 r,.int .i64 o] 53
 have T:=hid (toldI_ok (F:=197) (caps:=#[.pointer (some ⟨w.heap.size,0,none⟩)]) (w:=w.alloc (.cells #[.int .i64 s,.bool t,.bool k,.int .i64 r,.int .i64 o] 53)) (enters_of Tryz.func197 (by kernel_rfl) rfl) x (λ W G=>Handed_cl (N0.gr G) hc))
 have G0:=(Gr.refl w).al (.cells #[.int .i64 s,.bool t,.bool k,.int .i64 r,.int .i64 o] 53)
 clear hc N0
 have hmf:=mkF
 go_enter Tryz.func155,Tryz.ntmps155
 go_wp2_with fail
 with_reducible refine T.out.mono ?_
 rintro e w1 ⟨rfl,g1⟩
 go_wp2_with fail
 go_ret2
 exact⟨rfl,G0.trans g1⟩
theorem Handed_no {y:Int} (hc:∀ W,Calls Tryz.prog 198 #[ov s t k r o] W λ e w'=>e=.panicked (pan y)/\Gr W w') :
 Calls Tryz.prog 155 #[ov s t k r o] w λ e w'=>e=.returned (.tuple #[.int .i64 0,.int .i64 y])/\Gr w w':=by
 have N0:=Blk.new w #[.int .i64 s,.bool t,.bool k,.int .i64 r,.int .i64 o] 53
 have T:=hid (toldI_no (F:=197) (caps:=#[.pointer (some ⟨w.heap.size,0,none⟩)]) (w:=w.alloc (.cells #[.int .i64 s,.bool t,.bool k,.int .i64 r,.int .i64 o] 53)) (enters_of Tryz.func197 (by kernel_rfl) rfl) y (λ W G=>Handed_up (N0.gr G) hc))
 have G0:=(Gr.refl w).al (.cells #[.int .i64 s,.bool t,.bool k,.int .i64 r,.int .i64 o] 53)
 clear hc N0
 have hmf:=mkF
 go_enter Tryz.func155,Tryz.ntmps155
 go_wp2_with fail
 with_reducible refine T.out.mono ?_
 rintro e w1 ⟨rfl,g1⟩
 go_wp2_with fail
 go_ret2
 exact⟨rfl,G0.trans g1⟩
theorem Got_cl {W:World} {g:Nat} (B:Blk W g #[.int .i64 s,.bool t,.bool k,.int .i64 r,.int .i64 o] 53)
 (hc:∀ W,Calls Tryz.prog 130 #[ov s t k r o] W λ e w'=>e=.returned (fl a b c n)/\Gr W w') :
 Calls Tryz.prog 182 #[.pointer (some ⟨g,0,none⟩)] W λ e w'=>e=.returned (.bool (!a&&!c))/\Gr W w':=by
 have HC:=λ W=>hid (hc W)
 obtain⟨⟨q0,q1,q2,q3,q4⟩,-⟩:=own_cells B
 have HD:=λ w=>hid (held_is a b c n w)
 have hq:hEq a c false false=(!a&&!c):=by cases a<;>cases c<;>rfl
 have HE:=λ w=>hq▸run_hold_eql a c false false w
 generalize (!a&&!c)=v at *
 clear hc B hq
 go_enter Tryz.func182,Tryz.ntmps182
 go_wp2_with fail
 with_reducible refine (HC _).out.mono ?_
 rintro e w1 ⟨rfl,g1⟩
 go_wp2_with fail
 with_reducible refine (HD _).out.mono ?_
 rintro e w2 ⟨rfl,g2⟩
 go_wp2_with fail
 go_ret
 exact⟨rfl,g1.trans g2⟩
theorem Got_ok (hc:∀ W,Calls Tryz.prog 130 #[ov s t k r o] W λ e w'=>e=.returned (fl a b c n)/\Gr W w') :
 Calls Tryz.prog 143 #[ov s t k r o] w λ e w'=>e=.returned (.tuple #[.bool (!a&&!c),.int .i64 0])/\Gr w w':=by
 have N0:=Blk.new w #[.int .i64 s,.bool t,.bool k,.int .i64 r,.int .i64 o] 53
 have T:=hid (toldB_ok (F:=182) (caps:=#[.pointer (some ⟨w.heap.size,0,none⟩)]) (w:=w.alloc (.cells #[.int .i64 s,.bool t,.bool k,.int .i64 r,.int .i64 o] 53)) (enters_of Tryz.func182 (by kernel_rfl) rfl) (!a&&!c) (λ W G=>Got_cl (N0.gr G) hc))
 have G0:=(Gr.refl w).al (.cells #[.int .i64 s,.bool t,.bool k,.int .i64 r,.int .i64 o] 53)
 clear hc N0
 have hmf:=mkF
 go_enter Tryz.func143,Tryz.ntmps143
 go_wp2_with fail
 with_reducible refine T.out.mono ?_
 rintro e w1 ⟨rfl,g1⟩
 go_wp2_with fail
 go_ret2
 exact⟨rfl,G0.trans g1⟩
theorem Wakes_cl {W:World} {g:Nat} (B:Blk W g #[.int .i64 s,.bool t,.bool k,.int .i64 r,.int .i64 o] 53)
 (hc:∀ W,Calls Tryz.prog 130 #[ov s t k r o] W λ e w'=>e=.returned (fl a b c n)/\Gr W w') :
 Calls Tryz.prog 205 #[.pointer (some ⟨g,0,none⟩)] W λ e w'=>e=.returned (.bool (!k&&!b&&decide (0<n)))/\Gr W w':=by
 have HC:=λ W=>hid (hc W)
 obtain⟨⟨q0,q1,q2,q3,q4⟩,-⟩:=own_cells B
 have B:=hid B
 clear hc
 cases k<;>cases b
 all_goals (
  go_enter Tryz.func205,Tryz.ntmps205
  go_wp2_with fail
  with_reducible refine (HC _).out.mono ?_
  rintro e w1 ⟨rfl,g1⟩
  have hlt:=(B.out.gr g1).lt
  obtain⟨p2,-⟩:=(B.out.gr g1).at_ (k:=2) rfl
  go_wp2_with fail
  go_ret
  exact⟨by simp,g1.al _⟩)
theorem Wakes_ok (hc:∀ W,Calls Tryz.prog 130 #[ov s t k r o] W λ e w'=>e=.returned (fl a b c n)/\Gr W w') :
 Calls Tryz.prog 178 #[ov s t k r o] w λ e w'=>e=.returned (.tuple #[.bool (!k&&!b&&decide (0<n)),.int .i64 0])/\Gr w w':=by
 have N0:=Blk.new w #[.int .i64 s,.bool t,.bool k,.int .i64 r,.int .i64 o] 53
 have T:=hid (toldB_ok (F:=205) (caps:=#[.pointer (some ⟨w.heap.size,0,none⟩)]) (w:=w.alloc (.cells #[.int .i64 s,.bool t,.bool k,.int .i64 r,.int .i64 o] 53)) (enters_of Tryz.func205 (by kernel_rfl) rfl) (!k&&!b&&decide (0<n)) (λ W G=>Wakes_cl (N0.gr G) hc))
 have G0:=(Gr.refl w).al (.cells #[.int .i64 s,.bool t,.bool k,.int .i64 r,.int .i64 o] 53)
 clear hc N0
 have hmf:=mkF
 go_enter Tryz.func178,Tryz.ntmps178
 go_wp2_with fail
 with_reducible refine T.out.mono ?_
 rintro e w1 ⟨rfl,g1⟩
 go_wp2_with fail
 go_ret2
 exact⟨rfl,G0.trans g1⟩
end
end P14
end
section
open Go.ChangeShapes Go.WideShapes Go.ChangeAt Go.RowKit
namespace P14
open P3 (fl pw)
open P4 (Tm)
section
variable {s r:Int} {t k a b c:Bool} {n u o x:Int} {w:World}
def snc (s u:Int):Int:=if s=-1 then u else s
def ltB (s u:Int):Bool:=decide (s≠-1/\1000000<P4.gap s u)
theorem asleep_ok (h:OkS s r) (hn:OkN n) (hu:Tm u) :
 Calls Tryz.prog 185 #[ov s t k r (pw a b c n),.int .i64 u] w λ e w'=>e=.returned (ov (snc s u) t k r (pw a b c n))/\Gr w w':=by
 have L:=λ w=>hid (look_ok (t:=t) (k:=k) (a:=a) (b:=b) (c:=c) (w:=w) h hn)
 have R:=λ w=>hid (P4.Right_ok u true (by rw [P4.near_eq hu];simp) w)
 generalize pw a b c n=o at *
 have G0:=hid (((Gr.refl w).al (.cells #[.int .i64 s,.bool t,.bool k,.int .i64 r,.int .i64 o] 53)).al (.cells #[.int .i64 0,.bool false,.bool false,.int .i64 0,.int .i64 0] 53))
 have N0:=(Blk.new w #[.int .i64 s,.bool t,.bool k,.int .i64 r,.int .i64 o] 53).al (.cells #[.int .i64 0,.bool false,.bool false,.int .i64 0,.int .i64 0] 53)
 have N1:=Blk.new (w.alloc (.cells #[.int .i64 s,.bool t,.bool k,.int .i64 r,.int .i64 o] 53)) #[.int .i64 0,.bool false,.bool false,.int .i64 0,.int .i64 0] 53
 rw [World.size_alloc] at N1
 have N0:=hid N0
 have N1:=hid N1
 have hne:w.heap.size+1≠w.heap.size:=by omega
 have hs:(s=-1/\snc s u=u)\/((s==-1)=false/\snc s u=s):=by
  unfold snc
  by_cases h1:s=-1
  . exact .inl ⟨h1,if_pos h1⟩
  . exact .inr ⟨beq_eq_false_iff_ne.2 h1,if_neg h1⟩
 generalize snc s u=S at *
 clear h hn hu
 rcases hs with ⟨rfl,rfl⟩ | ⟨h1,rfl⟩
 . go_enter Tryz.func185,Tryz.ntmps185
   go_wp2_with fail
   with_reducible refine (L _).out.mono ?_
   rintro e w1 ⟨rfl,g1⟩
   go_wp2_with fail
   with_reducible refine (R _).out.mono ?_
   rintro e w2 ⟨rfl,g2⟩
   have B0:=(N0.out.gr g1).gr g2
   have B1:=(N1.out.gr g1).gr g2
   have G2:=(G0.out.trans g1).trans g2
   obtain⟨⟨q0,q1,q2,q3,q4⟩,z0,-⟩:=own_cells B0
   obtain⟨⟨e0,e1,e2,e3,e4⟩,y0,y1,y2,y3,y4⟩:=own_cells B1
   have BF:=own_st (B1.st (p:=⟨w.heap.size,0,none⟩) hne.symm (.int .i64 S)) S t k r o
   have GF:=hid (own_gr (g:=w.heap.size+1) (G2.st (p:=⟨w.heap.size,0,none⟩) (Nat.le_refl _) (.int .i64 S)) (Nat.le_succ _) S t k r o)
   obtain⟨⟨c0,c1,c2,c3,c4⟩,-⟩:=own_cells BF
   clear B0 B1 BF G2 g1 g2
   go_wp2_with fail
   with_reducible refine (need_yes _ _).mono ?_
   rintro e w3 ⟨rfl,rfl⟩
   go_wp2_with fail
   exact bodyPost_ret (v:=ov S t k r o) (by simp [results,Tryz.results185,go_sem,c0,c1,c2,c3,c4]) rfl ⟨rfl,GF.out⟩
 . go_enter Tryz.func185,Tryz.ntmps185
   go_wp2_with fail
   with_reducible refine (L _).out.mono ?_
   rintro e w1 ⟨rfl,g1⟩
   go_wp2_with fail
   with_reducible refine (R _).out.mono ?_
   rintro e w2 ⟨rfl,g2⟩
   have B0:=(N0.out.gr g1).gr g2
   have B1:=(N1.out.gr g1).gr g2
   have G2:=(G0.out.trans g1).trans g2
   obtain⟨⟨q0,q1,q2,q3,q4⟩,z0,-⟩:=own_cells B0
   obtain⟨⟨e0,e1,e2,e3,e4⟩,y0,y1,y2,y3,y4⟩:=own_cells B1
   have BF:=own_st B1 S t k r o
   have GF:=hid (own_gr (g:=w.heap.size+1) G2 (Nat.le_succ _) S t k r o)
   obtain⟨⟨c0,c1,c2,c3,c4⟩,-⟩:=own_cells BF
   clear B0 B1 BF G2 g1 g2
   go_wp2_with fail
   with_reducible refine (need_yes _ _).mono ?_
   rintro e w3 ⟨rfl,rfl⟩
   go_wp2_with fail
   exact bodyPost_ret (v:=ov S t k r o) (by simp [results,Tryz.results185,go_sem,c0,c1,c2,c3,c4]) rfl ⟨rfl,GF.out⟩
theorem late_is (hs:s=-1\/Tm s) (hu:Tm u) {B:Bool} (hB:ltB s u=B) :
 Calls Tryz.prog 216 #[ov s t k r o,.int .i64 u] w λ e w'=>e=.returned (.bool B)/\Gr w w':=by
 have G0:=(Gr.refl w).al (.cells #[.int .i64 s,.bool t,.bool k,.int .i64 r,.int .i64 o] 53)
 by_cases h1:s=-1
 . subst h1
   obtain rfl:B=false:=by rw [<- hB];simp [ltB]
   clear hs hu hB
   go_enter Tryz.func216,Tryz.ntmps216
   go_wp2_with fail
   go_ret
   exact⟨rfl,G0⟩
 . have hs':Tm s:=hs.resolve_left h1
   have A:=P4.Ap.ex s u
   have C:=λ w=>hid (P4.Late_is (a:=s) (b:=u) (r:=P4.gap s u) (s:=0) (.inl ⟨hs',hu,rfl,rfl⟩) B (by rw [<- hB];simp [ltB,h1]) w)
   clear A hs hs' hu hB
   have hn1:(s != -1)=true:=by simp [h1]
   go_enter Tryz.func216,Tryz.ntmps216
   go_wp2_with fail
   with_reducible refine (C _).out.mono ?_
   rintro e w1 ⟨rfl,g1⟩
   go_wp2_with fail
   with_reducible refine (sureB_yes _ _).mono ?_
   rintro e w2 ⟨rfl,rfl⟩
   go_wp2_with fail
   go_ret
   exact⟨rfl,G0.trans g1⟩
end
end P14
end
section
open Go.ChangeShapes Go.WideShapes Go.ChangeAt Go.RowKit Go.Shelf
namespace P14
open P3 (fl pw)
open P4 (Tm)
def ovEq (s:Int) (t k:Bool) (r o:Int) (s':Int) (t' k':Bool) (r' o':Int):Bool:=decide (s=s'/\t=t'/\k=k'/\r=r'/\o=o')
theorem run_own_eql (s:Int) (t k:Bool) (r o:Int) (s':Int) (t' k':Bool) (r' o':Int) (w:World) :
 (binOp .eql 53 (ov s t k r o) (ov s' t' k' r' o')).run Tryz.prog w=.ok (.bool (ovEq s t k r o s' t' k' r' o')) w:=by
 by_cases h1:s=s'
 . by_cases h2:t=t'
   . by_cases h3:k=k'
     . by_cases h4:r=r'
       . by_cases h5:o=o'
         . have e:ovEq s t k r o s' t' k' r' o'=true:=by simp [ovEq,h1,h2,h3,h4,h5]
           rw [e]
           subst h1 h2 h3 h4 h5
           go_simp
         . have e:ovEq s t k r o s' t' k' r' o'=false:=by simp [ovEq,h5]
           have h6:(o==o')=false:=beq_eq_false_iff_ne.2 h5
           rw [e]
           subst h1 h2 h3 h4
           go_simp
       . have e:ovEq s t k r o s' t' k' r' o'=false:=by simp [ovEq,h4]
         have h6:(r==r')=false:=beq_eq_false_iff_ne.2 h4
         rw [e]
         subst h1 h2 h3
         go_simp
     . have e:ovEq s t k r o s' t' k' r' o'=false:=by simp [ovEq,h3]
       have h6:(k==k')=false:=beq_eq_false_iff_ne.2 h3
       rw [e]
       subst h1 h2
       go_simp
   . have e:ovEq s t k r o s' t' k' r' o'=false:=by simp [ovEq,h2]
     have h6:(t==t')=false:=beq_eq_false_iff_ne.2 h2
     rw [e]
     subst h1
     go_simp
 . have e:ovEq s t k r o s' t' k' r' o'=false:=by simp [ovEq,h1]
   have h6:(s==s')=false:=beq_eq_false_iff_ne.2 h1
   rw [e]
   go_simp
section
variable {s r:Int} {t k a b c:Bool} {n u o x S:Int} {w:World}
theorem Sleep_cl {W:World} {g h:Nat} (B:Blk W g #[.int .i64 s,.bool t,.bool k,.int .i64 r,.int .i64 o] 53) (D:Blk W h #[.int .i64 u] 3)
 (hc:∀ W,Calls Tryz.prog 185 #[ov s t k r o,.int .i64 u] W λ e w'=>e=.returned (ov S t k r o)/\Gr W w') :
 Calls Tryz.prog 184 #[.pointer (some ⟨g,0,none⟩),.pointer (some ⟨h,0,none⟩)] W λ e w'=>e=.returned (ov S t k r o)/\Gr W w':=by
 have HC:=λ W=>hid (hc W)
 have hlt:=B.lt
 have hlt2:=D.lt
 obtain⟨⟨q0,q1,q2,q3,q4⟩,-⟩:=own_cells B
 obtain⟨d0,-⟩:=D.at_ (k:=0) rfl
 have N1:=hid (Blk.new W #[.int .i64 0,.bool false,.bool false,.int .i64 0,.int .i64 0] 53)
 have G0:=hid ((Gr.refl W).al (.cells #[.int .i64 0,.bool false,.bool false,.int .i64 0,.int .i64 0] 53))
 clear hc B D
 go_enter Tryz.func184,Tryz.ntmps184
 go_wp2_with fail
 with_reducible refine (HC _).out.mono ?_
 rintro e w1 ⟨rfl,g1⟩
 have B1:=N1.out.gr g1
 obtain⟨⟨e0,e1,e2,e3,e4⟩,y0,y1,y2,y3,y4⟩:=own_cells B1
 have BF:=own_st B1 S t k r o
 have GF:=hid (own_gr (g:=W.heap.size) (G0.out.trans g1) (Nat.le_refl _) S t k r o)
 obtain⟨⟨c0,c1,c2,c3,c4⟩,-⟩:=own_cells BF
 clear g1 B1 BF
 go_wp2_with fail
 exact bodyPost_ret (v:=ov S t k r o) (by simp [results,Tryz.results184,go_sem,c0,c1,c2,c3,c4]) rfl ⟨rfl,GF.out⟩
theorem Sleep_ok (hc:∀ W,Calls Tryz.prog 185 #[ov s t k r o,.int .i64 u] W λ e w'=>e=.returned (ov S t k r o)/\Gr W w') :
 Calls Tryz.prog 145 #[ov s t k r o,.int .i64 u] w λ e w'=>e=.returned (.tuple #[ov S t k r o,.bool (decide (S=s)),.int .i64 0])/\Gr w w':=by
 have N0:=((Blk.new w #[.int .i64 s,.bool t,.bool k,.int .i64 r,.int .i64 o] 53).al (.cells #[.int .i64 u] 3)).al (.cells #[.int .i64 0,.bool false,.bool false,.int .i64 0,.int .i64 0] 53)
 have N1:=(Blk.new (w.alloc (.cells #[.int .i64 s,.bool t,.bool k,.int .i64 r,.int .i64 o] 53)) #[.int .i64 u] 3).al (.cells #[.int .i64 0,.bool false,.bool false,.int .i64 0,.int .i64 0] 53)
 have N2:=Blk.new ((w.alloc (.cells #[.int .i64 s,.bool t,.bool k,.int .i64 r,.int .i64 o] 53)).alloc (.cells #[.int .i64 u] 3)) #[.int .i64 0,.bool false,.bool false,.int .i64 0,.int .i64 0] 53
 rw [World.size_alloc] at N1
 rw [World.size_alloc,World.size_alloc] at N2
 have G0:=((((Gr.refl w).al (.cells #[.int .i64 s,.bool t,.bool k,.int .i64 r,.int .i64 o] 53)).al (.cells #[.int .i64 u] 3)).al (.cells #[.int .i64 0,.bool false,.bool false,.int .i64 0,.int .i64 0] 53))
 have T:=hid (toldO_ok (F:=184) (caps:=#[.pointer (some ⟨w.heap.size,0,none⟩),.pointer (some ⟨w.heap.size+1,0,none⟩)]) (w:=((w.alloc (.cells #[.int .i64 s,.bool t,.bool k,.int .i64 r,.int .i64 o] 53)).alloc (.cells #[.int .i64 u] 3)).alloc (.cells #[.int .i64 0,.bool false,.bool false,.int .i64 0,.int .i64 0] 53)) (enters_of Tryz.func184 (by kernel_rfl) rfl) S t k r o (λ W G=>Sleep_cl (N0.gr G) (N1.gr G) hc))
 clear hc N1
 have N0:=hid N0
 have N2:=hid N2
 have hq:ovEq S t k r o s t k r o=(decide (S=s)):=by simp [ovEq]
 have HE:=λ w=>hq▸run_own_eql S t k r o s t k r o w
 clear hq
 have hmf:=mkF
 go_enter Tryz.func145,Tryz.ntmps145
 go_wp2_with fail
 with_reducible refine T.out.mono ?_
 rintro e w1 ⟨rfl,g1⟩
 have B0:=N0.out.gr g1
 have B2:=N2.out.gr g1
 have G:=hid (G0.trans g1)
 have l0:=B0.lt
 have l2:=B2.lt
 obtain⟨⟨q0,q1,q2,q3,q4⟩,-⟩:=own_cells B0
 obtain⟨⟨e0,e1,e2,e3,e4⟩,y0,y1,y2,y3,y4⟩:=own_cells B2
 clear g1 G0 N0 N2 T
 have BF:=((own_st B2 S t k r o).al (.cells #[.int .i64 S,.bool t,.bool k,.int .i64 r,.int .i64 o] 53)).gr ((Gr.refl _).dr)
 have GF:=hid (((own_gr (g:=w.heap.size+1+1) G.out (by omega) S t k r o).al (.cells #[.int .i64 S,.bool t,.bool k,.int .i64 r,.int .i64 o] 53)).dr)
 obtain⟨⟨c0,c1,c2,c3,c4⟩,-⟩:=own_cells BF
 clear BF B0 B2
 go_wp2_with fail
 go_region
 go_wp2_with fail
 exact bodyPost_ret (v:=.tuple #[ov S t k r o,.bool (decide (S=s)),.int .i64 0]) (by simp [results,Tryz.results145,go_sem,c0,c1,c2,c3,c4]) rfl ⟨rfl,GF.out⟩
end
end P14
end
section
open Go.ChangeShapes Go.WideShapes Go.ChangeAt Go.RowKit
namespace P14
open P3 (fl pw)
open P4 (Tm)
section
variable {s r:Int} {t k a b c:Bool} {n u o x:Int} {w:World}
theorem run_starv (a b c:Bool) (n:Int) (w:World):(Instr.field 42 (fl a b c n) 2).run Tryz.prog w=.ok (.bool c) w:=by kernel_rfl
def Mid (w W:World) (s:Int) (T k:Bool) (r x:Int):Prop :=
 Blk W w.heap.size #[.int .i64 s,.bool T,.bool k,.int .i64 r,.int .i64 x] 53/\Blk W (w.heap.size+1) #[.int .i64 0,.bool false,.bool false,.int .i64 0,.int .i64 0] 53/\Gr w W
theorem Mid.gr {w W W':World} {T:Bool} (h:Mid w W s T k r x) (g:Gr W W'):Mid w W' s T k r x:=⟨h.1.gr g,h.2.1.gr g,h.2.2.trans g⟩
theorem Mid.mk {w W:World} (B0:Blk W w.heap.size #[.int .i64 s,.bool t,.bool k,.int .i64 r,.int .i64 o] 53) (B1:Blk W (w.heap.size+1) #[.int .i64 0,.bool false,.bool false,.int .i64 0,.int .i64 0] 53) (G:Gr w W) (T:Bool) (x:Int) :
 Mid w ((W.setCell ⟨w.heap.size,1,none⟩ (.bool T)).setCell ⟨w.heap.size,4,none⟩ (.int .i64 x)) s T k r x :=
 ⟨(B0.set 1 (.bool T)).set 4 (.int .i64 x),(B1.st (p:=⟨w.heap.size,1,none⟩) (by show w.heap.size≠w.heap.size+1;omega) _).st (p:=⟨w.heap.size,4,none⟩) (by show w.heap.size≠w.heap.size+1;omega) _,
   (G.st (p:=⟨w.heap.size,1,none⟩) (Nat.le_refl _) _).st (p:=⟨w.heap.size,4,none⟩) (Nat.le_refl _) _⟩
theorem woken_word (h:OkS s r) (ho:OkW o) (hu:Tm u) (hx:¬ OkW x) {T:Bool} (hT:(t||ltB s u)=T) :
 Calls Tryz.prog 196 #[ov s t k r o,.int .i64 u,.int .i64 x] w λ e w'=>e=.panicked (pan 1)/\Gr w w':=by
 obtain⟨a',b',c',n',rfl,hn⟩:=P3.pw_of ho
 have L:=λ w=>hid (look_ok (t:=t) (k:=k) (a:=a') (b:=b') (c:=c') (w:=w) h hn)
 have R:=λ w=>hid (P4.Right_ok u true (by rw [P4.near_eq hu];simp) w)
 have K:=λ w=>hid (late_is (t:=t) (k:=k) (r:=r) (o:=pw a' b' c' n') (w:=w) h.1 hu (B:=ltB s u) rfl)
 have HT:=hid hT
 have L2:=λ w=>hid (look_no (s:=s) (r:=r) (t:=T) (k:=k) (o:=x) (w:=w) λ q=>hx q.2)
 clear hx
 clear ho hT
 generalize pw a' b' c' n'=o at *
 have G0:=hid (((Gr.refl w).al (.cells #[.int .i64 s,.bool t,.bool k,.int .i64 r,.int .i64 o] 53)).al (.cells #[.int .i64 0,.bool false,.bool false,.int .i64 0,.int .i64 0] 53))
 have N0:=hid ((Blk.new w #[.int .i64 s,.bool t,.bool k,.int .i64 r,.int .i64 o] 53).al (.cells #[.int .i64 0,.bool false,.bool false,.int .i64 0,.int .i64 0] 53))
 have N1:=Blk.new (w.alloc (.cells #[.int .i64 s,.bool t,.bool k,.int .i64 r,.int .i64 o] 53)) #[.int .i64 0,.bool false,.bool false,.int .i64 0,.int .i64 0] 53
 rw [World.size_alloc] at N1
 have N1:=hid N1
 generalize ltB s u=B at *
 clear h hn hu
 cases t
 . obtain rfl:B=T:=HT.out
   go_enter Tryz.func196,Tryz.ntmps196
   go_wp2_with fail
   with_reducible refine (L _).out.mono ?_
   rintro e w1 ⟨rfl,g1⟩
   go_wp2_with fail
   with_reducible refine (R _).out.mono ?_
   rintro e w2 ⟨rfl,g2⟩
   have B0:=(N0.out.gr g1).gr g2
   obtain⟨⟨q0,q1,q2,q3,q4⟩,-⟩:=own_cells B0
   go_wp2_with fail
   with_reducible refine (need_yes _ _).mono ?_
   rintro e w3 ⟨rfl,rfl⟩
   go_wp2_with fail
   with_reducible refine (K _).out.mono ?_
   rintro e w4 ⟨rfl,g4⟩
   have B0:=B0.gr g4
   have M:=hid (Mid.mk B0 (((N1.out.gr g1).gr g2).gr g4) (((G0.out.trans g1).trans g2).trans g4) B x)
   clear q0 q1 q2 q3 q4
   obtain⟨⟨q0,q1,q2,q3,q4⟩,z0,z1,z2,z3,z4⟩:=own_cells B0
   clear B0 g1 g2 g4 N0 N1 G0
   go_wp2_with fail
   with_reducible refine (L2 _).out.mono ?_
   rintro e w5 ⟨rfl,g5⟩
   have M:=M.out.gr g5
   go_wp2_with fail
   exact⟨rfl,rfl,M.2.2⟩
 . obtain rfl:T=true:=by rw [<- HT.out];rfl
   go_enter Tryz.func196,Tryz.ntmps196
   go_wp2_with fail
   with_reducible refine (L _).out.mono ?_
   rintro e w1 ⟨rfl,g1⟩
   go_wp2_with fail
   with_reducible refine (R _).out.mono ?_
   rintro e w2 ⟨rfl,g2⟩
   have B0:=(N0.out.gr g1).gr g2
   obtain⟨⟨q0,q1,q2,q3,q4⟩,z0,z1,z2,z3,z4⟩:=own_cells B0
   have M:=hid (Mid.mk B0 ((N1.out.gr g1).gr g2) ((G0.out.trans g1).trans g2) true x)
   clear B0 g1 g2 N0 N1 G0
   go_wp2_with fail
   with_reducible refine (need_yes _ _).mono ?_
   rintro e w3 ⟨rfl,rfl⟩
   go_wp2_with fail
   with_reducible refine (L2 _).out.mono ?_
   rintro e w5 ⟨rfl,g5⟩
   have M:=M.out.gr g5
   go_wp2_with fail
   exact⟨rfl,rfl,M.2.2⟩
theorem woken_handed (h:OkS s r) (ho:OkW o) (hu:Tm u) (hx:OkN n) {T:Bool} (hT:(t||ltB s u)=T) :
 Calls Tryz.prog 196 #[ov s t k r o,.int .i64 u,.int .i64 (pw a b true n)] w λ e w'=>e=.returned (.tuple #[ov s T k r (pw a b true n),.bool true])/\Gr w w':=by
 obtain⟨a',b',c',n',rfl,hn⟩:=P3.pw_of ho
 have L:=λ w=>hid (look_ok (t:=t) (k:=k) (a:=a') (b:=b') (c:=c') (w:=w) h hn)
 have R:=λ w=>hid (P4.Right_ok u true (by rw [P4.near_eq hu];simp) w)
 have K:=λ w=>hid (late_is (t:=t) (k:=k) (r:=r) (o:=pw a' b' c' n') (w:=w) h.1 hu (B:=ltB s u) rfl)
 have HF:=λ w=>run_starv a b true n w
 have HT:=hid hT
 have L2:=λ w=>hid (look_ok (s:=s) (r:=r) (t:=T) (k:=k) (a:=a) (b:=b) (c:=true) (w:=w) h hx)
 clear hx
 clear ho hT
 generalize pw a b true n=x at *
 generalize pw a' b' c' n'=o at *
 have G0:=hid (((Gr.refl w).al (.cells #[.int .i64 s,.bool t,.bool k,.int .i64 r,.int .i64 o] 53)).al (.cells #[.int .i64 0,.bool false,.bool false,.int .i64 0,.int .i64 0] 53))
 have N0:=hid ((Blk.new w #[.int .i64 s,.bool t,.bool k,.int .i64 r,.int .i64 o] 53).al (.cells #[.int .i64 0,.bool false,.bool false,.int .i64 0,.int .i64 0] 53))
 have N1:=Blk.new (w.alloc (.cells #[.int .i64 s,.bool t,.bool k,.int .i64 r,.int .i64 o] 53)) #[.int .i64 0,.bool false,.bool false,.int .i64 0,.int .i64 0] 53
 rw [World.size_alloc] at N1
 have N1:=hid N1
 generalize ltB s u=B at *
 clear h hn hu
 cases t
 . obtain rfl:B=T:=HT.out
   go_enter Tryz.func196,Tryz.ntmps196
   go_wp2_with fail
   with_reducible refine (L _).out.mono ?_
   rintro e w1 ⟨rfl,g1⟩
   go_wp2_with fail
   with_reducible refine (R _).out.mono ?_
   rintro e w2 ⟨rfl,g2⟩
   have B0:=(N0.out.gr g1).gr g2
   obtain⟨⟨q0,q1,q2,q3,q4⟩,-⟩:=own_cells B0
   go_wp2_with fail
   with_reducible refine (need_yes _ _).mono ?_
   rintro e w3 ⟨rfl,rfl⟩
   go_wp2_with fail
   with_reducible refine (K _).out.mono ?_
   rintro e w4 ⟨rfl,g4⟩
   have B0:=B0.gr g4
   have M:=hid (Mid.mk B0 (((N1.out.gr g1).gr g2).gr g4) (((G0.out.trans g1).trans g2).trans g4) B x)
   clear q0 q1 q2 q3 q4
   obtain⟨⟨q0,q1,q2,q3,q4⟩,z0,z1,z2,z3,z4⟩:=own_cells B0
   clear B0 g1 g2 g4 N0 N1 G0
   go_wp2_with fail
   with_reducible refine (L2 _).out.mono ?_
   rintro e w5 ⟨rfl,g5⟩
   have M:=M.out.gr g5
   obtain⟨M0,M1,MG⟩:=M
   clear g5 q0 q1 q2 q3 q4 z0 z1 z2 z3 z4
   obtain⟨⟨q0,q1,q2,q3,q4⟩,-⟩:=own_cells M0
   obtain⟨⟨e0,e1,e2,e3,e4⟩,y0,y1,y2,y3,y4⟩:=own_cells M1
   have BF:=own_st M1 s B k r x
   have GF:=hid (own_gr (g:=w.heap.size+1) MG (Nat.le_succ _) s B k r x)
   obtain⟨⟨c0,c1,c2,c3,c4⟩,-⟩:=own_cells BF
   clear M0 M1 BF MG
   go_wp2_with fail
   exact bodyPost_ret (v:=.tuple #[ov s B k r x,.bool true]) (by simp [results,Tryz.results196,go_sem,c0,c1,c2,c3,c4]) rfl ⟨rfl,GF.out⟩
 . obtain rfl:T=true:=by rw [<- HT.out];rfl
   go_enter Tryz.func196,Tryz.ntmps196
   go_wp2_with fail
   with_reducible refine (L _).out.mono ?_
   rintro e w1 ⟨rfl,g1⟩
   go_wp2_with fail
   with_reducible refine (R _).out.mono ?_
   rintro e w2 ⟨rfl,g2⟩
   have B0:=(N0.out.gr g1).gr g2
   obtain⟨⟨q0,q1,q2,q3,q4⟩,z0,z1,z2,z3,z4⟩:=own_cells B0
   have M:=hid (Mid.mk B0 ((N1.out.gr g1).gr g2) ((G0.out.trans g1).trans g2) true x)
   clear B0 g1 g2 N0 N1 G0
   go_wp2_with fail
   with_reducible refine (need_yes _ _).mono ?_
   rintro e w3 ⟨rfl,rfl⟩
   go_wp2_with fail
   with_reducible refine (L2 _).out.mono ?_
   rintro e w5 ⟨rfl,g5⟩
   have M:=M.out.gr g5
   obtain⟨M0,M1,MG⟩:=M
   clear g5 q0 q1 q2 q3 q4 z0 z1 z2 z3 z4
   obtain⟨⟨q0,q1,q2,q3,q4⟩,-⟩:=own_cells M0
   obtain⟨⟨e0,e1,e2,e3,e4⟩,y0,y1,y2,y3,y4⟩:=own_cells M1
   have BF:=own_st M1 s true k r x
   have GF:=hid (own_gr (g:=w.heap.size+1) MG (Nat.le_succ _) s true k r x)
   obtain⟨⟨c0,c1,c2,c3,c4⟩,-⟩:=own_cells BF
   clear M0 M1 BF MG
   go_wp2_with fail
   exact bodyPost_ret (v:=.tuple #[ov s true k r x,.bool true]) (by simp [results,Tryz.results196,go_sem,c0,c1,c2,c3,c4]) rfl ⟨rfl,GF.out⟩
theorem woken_back (h:OkS s r) (ho:OkW o) (hu:Tm u) (hx:OkN n) {T:Bool} (hT:(t||ltB s u)=T) :
 Calls Tryz.prog 196 #[ov s t k r o,.int .i64 u,.int .i64 (pw a b false n)] w λ e w'=>e=.returned (.tuple #[ov s T true 0 (pw a b false n),.bool false])/\Gr w w':=by
 obtain⟨a',b',c',n',rfl,hn⟩:=P3.pw_of ho
 have L:=λ w=>hid (look_ok (t:=t) (k:=k) (a:=a') (b:=b') (c:=c') (w:=w) h hn)
 have R:=λ w=>hid (P4.Right_ok u true (by rw [P4.near_eq hu];simp) w)
 have K:=λ w=>hid (late_is (t:=t) (k:=k) (r:=r) (o:=pw a' b' c' n') (w:=w) h.1 hu (B:=ltB s u) rfl)
 have HF:=λ w=>run_starv a b false n w
 have HT:=hid hT
 have L2:=λ w=>hid (look_ok (s:=s) (r:=r) (t:=T) (k:=k) (a:=a) (b:=b) (c:=false) (w:=w) h hx)
 clear hx
 clear ho hT
 generalize pw a b false n=x at *
 generalize pw a' b' c' n'=o at *
 have G0:=hid (((Gr.refl w).al (.cells #[.int .i64 s,.bool t,.bool k,.int .i64 r,.int .i64 o] 53)).al (.cells #[.int .i64 0,.bool false,.bool false,.int .i64 0,.int .i64 0] 53))
 have N0:=hid ((Blk.new w #[.int .i64 s,.bool t,.bool k,.int .i64 r,.int .i64 o] 53).al (.cells #[.int .i64 0,.bool false,.bool false,.int .i64 0,.int .i64 0] 53))
 have N1:=Blk.new (w.alloc (.cells #[.int .i64 s,.bool t,.bool k,.int .i64 r,.int .i64 o] 53)) #[.int .i64 0,.bool false,.bool false,.int .i64 0,.int .i64 0] 53
 rw [World.size_alloc] at N1
 have N1:=hid N1
 generalize ltB s u=B at *
 clear h hn hu
 cases t
 . obtain rfl:B=T:=HT.out
   go_enter Tryz.func196,Tryz.ntmps196
   go_wp2_with fail
   with_reducible refine (L _).out.mono ?_
   rintro e w1 ⟨rfl,g1⟩
   go_wp2_with fail
   with_reducible refine (R _).out.mono ?_
   rintro e w2 ⟨rfl,g2⟩
   have B0:=(N0.out.gr g1).gr g2
   obtain⟨⟨q0,q1,q2,q3,q4⟩,-⟩:=own_cells B0
   go_wp2_with fail
   with_reducible refine (need_yes _ _).mono ?_
   rintro e w3 ⟨rfl,rfl⟩
   go_wp2_with fail
   with_reducible refine (K _).out.mono ?_
   rintro e w4 ⟨rfl,g4⟩
   have B0:=B0.gr g4
   have M:=hid (Mid.mk B0 (((N1.out.gr g1).gr g2).gr g4) (((G0.out.trans g1).trans g2).trans g4) B x)
   clear q0 q1 q2 q3 q4
   obtain⟨⟨q0,q1,q2,q3,q4⟩,z0,z1,z2,z3,z4⟩:=own_cells B0
   clear B0 g1 g2 g4 N0 N1 G0
   go_wp2_with fail
   with_reducible refine (L2 _).out.mono ?_
   rintro e w5 ⟨rfl,g5⟩
   have M:=M.out.gr g5
   obtain⟨M0,M1,MG⟩:=M
   clear g5 q0 q1 q2 q3 q4 z0 z1 z2 z3 z4
   obtain⟨⟨q0,q1,q2,q3,q4⟩,z0,z1,z2,z3,z4⟩:=own_cells M0
   obtain⟨⟨e0,e1,e2,e3,e4⟩,y0,y1,y2,y3,y4⟩:=own_cells M1
   have hne:w.heap.size≠w.heap.size+1:=by omega
   have BF:=own_st ((M1.st (p:=⟨w.heap.size,2,none⟩) hne (.bool true)).st (p:=⟨w.heap.size,3,none⟩) hne (.int .i64 0)) s B true 0 x
   have GF:=hid (own_gr (g:=w.heap.size+1) ((MG.st (p:=⟨w.heap.size,2,none⟩) (Nat.le_refl _) (.bool true)).st (p:=⟨w.heap.size,3,none⟩) (Nat.le_refl _) (.int .i64 0)) (Nat.le_succ _) s B true 0 x)
   obtain⟨⟨c0,c1,c2,c3,c4⟩,-⟩:=own_cells BF
   clear M0 M1 BF MG
   go_wp2_with fail
   exact bodyPost_ret (v:=.tuple #[ov s B true 0 x,.bool false]) (by simp [results,Tryz.results196,go_sem,c0,c1,c2,c3,c4]) rfl ⟨rfl,GF.out⟩
 . obtain rfl:T=true:=by rw [<- HT.out];rfl
   go_enter Tryz.func196,Tryz.ntmps196
   go_wp2_with fail
   with_reducible refine (L _).out.mono ?_
   rintro e w1 ⟨rfl,g1⟩
   go_wp2_with fail
   with_reducible refine (R _).out.mono ?_
   rintro e w2 ⟨rfl,g2⟩
   have B0:=(N0.out.gr g1).gr g2
   obtain⟨⟨q0,q1,q2,q3,q4⟩,z0,z1,z2,z3,z4⟩:=own_cells B0
   have M:=hid (Mid.mk B0 ((N1.out.gr g1).gr g2) ((G0.out.trans g1).trans g2) true x)
   clear B0 g1 g2 N0 N1 G0
   go_wp2_with fail
   with_reducible refine (need_yes _ _).mono ?_
   rintro e w3 ⟨rfl,rfl⟩
   go_wp2_with fail
   with_reducible refine (L2 _).out.mono ?_
   rintro e w5 ⟨rfl,g5⟩
   have M:=M.out.gr g5
   obtain⟨M0,M1,MG⟩:=M
   clear g5 q0 q1 q2 q3 q4 z0 z1 z2 z3 z4
   obtain⟨⟨q0,q1,q2,q3,q4⟩,z0,z1,z2,z3,z4⟩:=own_cells M0
   obtain⟨⟨e0,e1,e2,e3,e4⟩,y0,y1,y2,y3,y4⟩:=own_cells M1
   have hne:w.heap.size≠w.heap.size+1:=by omega
   have BF:=own_st ((M1.st (p:=⟨w.heap.size,2,none⟩) hne (.bool true)).st (p:=⟨w.heap.size,3,none⟩) hne (.int .i64 0)) s true true 0 x
   have GF:=hid (own_gr (g:=w.heap.size+1) ((MG.st (p:=⟨w.heap.size,2,none⟩) (Nat.le_refl _) (.bool true)).st (p:=⟨w.heap.size,3,none⟩) (Nat.le_refl _) (.int .i64 0)) (Nat.le_succ _) s true true 0 x)
   obtain⟨⟨c0,c1,c2,c3,c4⟩,-⟩:=own_cells BF
   clear M0 M1 BF MG
   go_wp2_with fail
   exact bodyPost_ret (v:=.tuple #[ov s true true 0 x,.bool false]) (by simp [results,Tryz.results196,go_sem,c0,c1,c2,c3,c4]) rfl ⟨rfl,GF.out⟩
end
end P14
end
end Go.Proofs.YtainfijdhcehlaaGreatDoor
