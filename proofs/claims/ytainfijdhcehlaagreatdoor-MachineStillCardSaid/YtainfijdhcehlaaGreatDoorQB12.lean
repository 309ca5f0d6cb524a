/-
  A part of the proof.
-/
import Derived.Test.YtainfijdhcehlaaGreatDoorQB1
import Derived.Test.YtainfijdhcehlaaGreatDoorQB3
import Derived.Test.YtainfijdhcehlaaGreatDoorQB9
import Derived.Test.YtainfijdhcehlaaGreatDoorQB10
import Derived.Test.YtainfijdhcehlaaGreatDoorQB11
import Derived.WalkLawsBesides
import Derived.Defers
import Derived.Recover
import Derived.Shelf.Abstract
import Derived.Laws.Pointers
import Derived.Deep.RegionHeld3
import Derived.Deep.RegionHeld2
import Derived.RegionTactic
import Derived.Deep.RegionWith
import Derived.BigRegion
import Derived.BigQuiet
import Derived.Deep.QuietTactic
set_option linter.unusedVariables false
set_option linter.unusedSimpArgs false
set_option maxRecDepth 100000
set_option maxHeartbeats 8000000
namespace Go.Proofs.YtainfijdhcehlaaGreatDoor
open Lib (hid)
section
open Go.ChangeShapes Go.WideShapes Go.ChangeAt Go.RowKit Go.Shelf
namespace P14
abbrev pan (y:Int):List PanicEntry:=[{ v:=.iface 27 (.int .i64 y),recovered:=false }]
theorem need_yes (y:Int) (w:World):Calls Tryz.prog 171 #[.bool true,.int .i64 y] w λ e w'=>e=.returned (.tuple #[])/\w'=w:=by
 go_enter Tryz.func171,Tryz.ntmps171
 go_wp2
 go_end0
 exact⟨rfl,rfl⟩
theorem need_no (y:Int) (w:World):Calls Tryz.prog 171 #[.bool false,.int .i64 y] w λ e w'=>e=.panicked (pan y)/\w'=w:=by
 go_enter Tryz.func171,Tryz.ntmps171
 go_wp2
 exact⟨rfl,rfl,rfl⟩
theorem sureB_yes (v:Bool) (w:World):Calls Tryz.prog 175 #[.bool v,.int .i64 0] w λ e w'=>e=.returned (.bool v)/\w'=w:=by
 go_enter Tryz.func175,Tryz.ntmps175
 go_wp2_with fail
 with_reducible refine (need_yes _ _).mono ?_
 rintro e w1 ⟨rfl,rfl⟩
 go_wp2_with fail
 go_ret
 exact⟨rfl,rfl⟩
theorem sureI_yes (v:Int) (w:World):Calls Tryz.prog 207 #[.int .i64 v,.int .i64 0] w λ e w'=>e=.returned (.int .i64 v)/\w'=w:=by
 go_enter Tryz.func207,Tryz.ntmps207
 go_wp2_with fail
 with_reducible refine (need_yes _ _).mono ?_
 rintro e w1 ⟨rfl,rfl⟩
 go_wp2_with fail
 go_ret
 exact⟨rfl,rfl⟩
theorem sureI_no (v:Int) {y:Int} (hy:(y==0)=false) (w:World):Calls Tryz.prog 207 #[.int .i64 v,.int .i64 y] w λ e w'=>e=.panicked (pan y)/\w'=w:=by
 go_enter Tryz.func207,Tryz.ntmps207
 go_wp2_with fail
 with_reducible refine (need_no _ _).mono ?_
 rintro e w1 ⟨rfl,rfl⟩
 go_wp2_with fail
 exact⟨rfl,rfl,rfl⟩
theorem sureF_yes (a b c:Bool) (n:Int) (w:World):Calls Tryz.prog 172 #[.agg #[.bool a,.bool b,.bool c,.int .i64 n],.int .i64 0] w λ e w'=>e=.returned (.agg #[.bool a,.bool b,.bool c,.int .i64 n])/\Gr w w':=by
 go_enter Tryz.func172,Tryz.ntmps172
 go_wp2_with fail
 with_reducible refine (need_yes _ _).mono ?_
 rintro e w1 ⟨rfl,rfl⟩
 go_wp2_with fail
 exact bodyPost_ret (v:=.agg #[.bool a,.bool b,.bool c,.int .i64 n]) (by simp [results,Tryz.results172,go_sem]) rfl ⟨rfl,by first | exact ((Gr.refl w).al _).al _ | skip⟩
theorem sureF_no (a b c:Bool) (n:Int) {y:Int} (hy:(y==0)=false) (w:World):Calls Tryz.prog 172 #[.agg #[.bool a,.bool b,.bool c,.int .i64 n],.int .i64 y] w λ e w'=>e=.panicked (pan y)/\Gr w w':=by
 go_enter Tryz.func172,Tryz.ntmps172
 go_wp2_with fail
 with_reducible refine (need_no _ _).mono ?_
 rintro e w1 ⟨rfl,rfl⟩
 go_wp2_with fail
 exact⟨rfl,rfl,((Gr.refl w).al _).al _⟩
theorem as_errno (v:Value) (w:World):(Instr.typeAssert (.iface 27 v) 20 27 false).run Tryz.prog w=.ok v w:=by kernel_rfl
theorem catchB_idle (p:Addr) (w:World) :
 CallsD Tryz.prog 204 #[.pointer (some p)] .returning w λ e u' w'=>e=.returned (.tuple #[])/\u'=.returning/\w'=w:=by
 refine callsD_of_wpS Tryz.func204 rfl λ c₀ cs hu=>?_
 apply wpS_seq
 apply wpS_region
 simp [wpOpsS,go_sem,recoverD,hu,Tryz.ntmps204,Exit.thenS]
 apply wpS_seq
 apply wpS_region
 simp [wpOpsS,go_sem,recoverD,hu,Exit.thenS]
 refine wpS_cond (t:=false) (by simp [Act.eval,Array.replicate]) ?_
 simp only [Bool.false_eq_true,if_false]
 refine wpS_of_wp (wp_skip ?_)
 cases c₀
 simp_all [bodyPostS,results,Tryz.results204]
theorem catchI_up (p:Addr) (y x:Int) (w:World) (hc:w.cell? p=some (.int .i64 x)) (hz:w.frozen? p=false) :
 CallsD Tryz.prog 206 #[.pointer (some p)] (.panicking (pan y)) w λ e u' w' =>
  e=.returned (.tuple #[])/\u'=.panicking [{ v:=.iface 27 (.int .i64 y),recovered:=true }]/\w'=w.setCell p (.int .i64 y):=by
 refine callsD_of_wpS Tryz.func206 rfl λ c₀ cs hu=>?_
 apply wpS_seq
 apply wpS_region
 simp [wpOpsS,go_sem,recoverD,hu,Tryz.ntmps206,Exit.thenS]
 apply wpS_seq
 apply wpS_region
 simp [wpOpsS,go_sem,recoverD,hu,Exit.thenS]
 refine wpS_cond (t:=true) (by simp [Act.eval,Array.replicate]) ?_
 simp only [if_true]
 apply wpS_region
 simp [wpOpsS,go_sem,as_errno,hc,hz,bodyPostS,results,Tryz.results206]
theorem catchI_idle (p:Addr) (w:World) :
 CallsD Tryz.prog 206 #[.pointer (some p)] .returning w λ e u' w'=>e=.returned (.tuple #[])/\u'=.returning/\w'=w:=by
 refine callsD_of_wpS Tryz.func206 rfl λ c₀ cs hu=>?_
 apply wpS_seq
 apply wpS_region
 simp [wpOpsS,go_sem,recoverD,hu,Tryz.ntmps206,Exit.thenS]
 apply wpS_seq
 apply wpS_region
 simp [wpOpsS,go_sem,recoverD,hu,Exit.thenS]
 refine wpS_cond (t:=false) (by simp [Act.eval,Array.replicate]) ?_
 simp only [Bool.false_eq_true,if_false]
 refine wpS_of_wp (wp_skip ?_)
 cases c₀
 simp_all [bodyPostS,results,Tryz.results206]
theorem catchF_up (p:Addr) (y x:Int) (w:World) (hc:w.cell? p=some (.int .i64 x)) (hz:w.frozen? p=false) :
 CallsD Tryz.prog 170 #[.pointer (some p)] (.panicking (pan y)) w λ e u' w' =>
  e=.returned (.tuple #[])/\u'=.panicking [{ v:=.iface 27 (.int .i64 y),recovered:=true }]/\w'=w.setCell p (.int .i64 y):=by
 refine callsD_of_wpS Tryz.func170 rfl λ c₀ cs hu=>?_
 apply wpS_seq
 apply wpS_region
 simp [wpOpsS,go_sem,recoverD,hu,Tryz.ntmps170,Exit.thenS]
 apply wpS_seq
 apply wpS_region
 simp [wpOpsS,go_sem,recoverD,hu,Exit.thenS]
 refine wpS_cond (t:=true) (by simp [Act.eval,Array.replicate]) ?_
 simp only [if_true]
 apply wpS_region
 simp [wpOpsS,go_sem,as_errno,hc,hz,bodyPostS,results,Tryz.results170]
theorem catchF_idle (p:Addr) (w:World) :
 CallsD Tryz.prog 170 #[.pointer (some p)] .returning w λ e u' w'=>e=.returned (.tuple #[])/\u'=.returning/\w'=w:=by
 refine callsD_of_wpS Tryz.func170 rfl λ c₀ cs hu=>?_
 apply wpS_seq
 apply wpS_region
 simp [wpOpsS,go_sem,recoverD,hu,Tryz.ntmps170,Exit.thenS]
 apply wpS_seq
 apply wpS_region
 simp [wpOpsS,go_sem,recoverD,hu,Exit.thenS]
 refine wpS_cond (t:=false) (by simp [Act.eval,Array.replicate]) ?_
 simp only [Bool.false_eq_true,if_false]
 refine wpS_of_wp (wp_skip ?_)
 cases c₀
 simp_all [bodyPostS,results,Tryz.results170]
theorem catchO_idle (p:Addr) (w:World) :
 CallsD Tryz.prog 208 #[.pointer (some p)] .returning w λ e u' w'=>e=.returned (.tuple #[])/\u'=.returning/\w'=w:=by
 refine callsD_of_wpS Tryz.func208 rfl λ c₀ cs hu=>?_
 apply wpS_seq
 apply wpS_region
 simp [wpOpsS,go_sem,recoverD,hu,Tryz.ntmps208,Exit.thenS]
 apply wpS_seq
 apply wpS_region
 simp [wpOpsS,go_sem,recoverD,hu,Exit.thenS]
 refine wpS_cond (t:=false) (by simp [Act.eval,Array.replicate]) ?_
 simp only [Bool.false_eq_true,if_false]
 refine wpS_of_wp (wp_skip ?_)
 cases c₀
 simp_all [bodyPostS,results,Tryz.results208]
section
variable {F:Nat} {caps:Array Value} {w:World}
theorem toldB_ok (eg:∀ args w,(callFunc F args).run Tryz.prog w=.ok (.enter F args) w) (v:Bool) (hq:∀ W,Gr w W->Calls Tryz.prog F caps W λ e w'=>e=.returned (.bool v)/\Gr W w') :
 Calls Tryz.prog 173 #[.func (.func F) #[] caps] w λ e w'=>e=.returned (.tuple #[.bool v,.int .i64 0])/\Gr w w':=by
 have hmf:=mkF
 have HQ:=hid hq
 clear hq
 go_enter_defers Tryz.func173,Tryz.ntmps173
 go_wp2_with fail
 with_reducible refine (HQ.out _ ((Gr.refl w).al _)).mono ?_
 rintro e w1 ⟨rfl,g1⟩
 have B0:=(Blk.new w #[.int .i64 0] 27).gr g1
 obtain⟨q0,z0⟩:=B0.at_ (k:=0) rfl
 obtain⟨q1,z1⟩:=(B0.set 0 (.int .i64 0)).at_ (k:=0) (v:=.int .i64 0) rfl
 have G:=hid ((((Gr.refl w).al (.cells #[.int .i64 0] 27)).trans g1).st (p:=⟨w.heap.size,0,none⟩) (Nat.le_refl _) (.int .i64 0))
 clear B0 g1
 go_wp2_with fail
 refine leaves_cons (f:=204) (args:=#[.pointer (some ⟨w.heap.size,0,none⟩)]) (by simp) (by simp [go_sem]) ?_
 refine (catchB_idle ⟨w.heap.size,0,none⟩ _).mono ?_
 rintro e u' w'' ⟨rfl,rfl,rfl⟩
 simp [Leaves,settle,results,Tryz.results173,go_sem,q1]
 exact G.out
theorem toldI_ok (eg:∀ args w,(callFunc F args).run Tryz.prog w=.ok (.enter F args) w) (v:Int) (hq:∀ W,Gr w W->Calls Tryz.prog F caps W λ e w'=>e=.returned (.int .i64 v)/\Gr W w') :
 Calls Tryz.prog 179 #[.func (.func F) #[] caps] w λ e w'=>e=.returned (.tuple #[.int .i64 v,.int .i64 0])/\Gr w w':=by
 have hmf:=mkF
 have HQ:=hid hq
 clear hq
 go_enter_defers Tryz.func179,Tryz.ntmps179
 go_wp2_with fail
 with_reducible refine (HQ.out _ ((Gr.refl w).al _)).mono ?_
 rintro e w1 ⟨rfl,g1⟩
 have B0:=(Blk.new w #[.int .i64 0] 27).gr g1
 obtain⟨q0,z0⟩:=B0.at_ (k:=0) rfl
 obtain⟨q1,z1⟩:=(B0.set 0 (.int .i64 0)).at_ (k:=0) (v:=.int .i64 0) rfl
 have G:=hid ((((Gr.refl w).al (.cells #[.int .i64 0] 27)).trans g1).st (p:=⟨w.heap.size,0,none⟩) (Nat.le_refl _) (.int .i64 0))
 clear B0 g1
 go_wp2_with fail
 refine leaves_cons (f:=206) (args:=#[.pointer (some ⟨w.heap.size,0,none⟩)]) (by simp) (by simp [go_sem]) ?_
 refine (catchI_idle ⟨w.heap.size,0,none⟩ _).mono ?_
 rintro e u' w'' ⟨rfl,rfl,rfl⟩
 simp [Leaves,settle,results,Tryz.results179,go_sem,q1]
 exact G.out
theorem toldI_no (eg:∀ args w,(callFunc F args).run Tryz.prog w=.ok (.enter F args) w) (y:Int) (hq:∀ W,Gr w W->Calls Tryz.prog F caps W λ e w'=>e=.panicked (pan y)/\Gr W w') :
 Calls Tryz.prog 179 #[.func (.func F) #[] caps] w λ e w'=>e=.returned (.tuple #[.int .i64 0,.int .i64 y])/\Gr w w':=by
 have hmf:=mkF
 have HQ:=hid hq
 clear hq
 go_enter_defers Tryz.func179,Tryz.ntmps179
 go_wp2_with fail
 with_reducible refine (HQ.out _ ((Gr.refl w).al _)).mono ?_
 rintro e w1 ⟨rfl,g1⟩
 have B0:=(Blk.new w #[.int .i64 0] 27).gr g1
 obtain⟨q0,z0⟩:=B0.at_ (k:=0) rfl
 obtain⟨q1,z1⟩:=(B0.set 0 (.int .i64 y)).at_ (k:=0) (v:=.int .i64 y) rfl
 have G:=hid ((((Gr.refl w).al (.cells #[.int .i64 0] 27)).trans g1).st (p:=⟨w.heap.size,0,none⟩) (Nat.le_refl _) (.int .i64 y))
 clear B0 g1
 go_wp2_with fail
 refine leaves_cons (f:=206) (args:=#[.pointer (some ⟨w.heap.size,0,none⟩)]) (by simp) (by simp [go_sem]) ?_
 refine (catchI_up ⟨w.heap.size,0,none⟩ y 0 _ q0 z0).mono ?_
 rintro e u' w'' ⟨rfl,rfl,rfl⟩
 simp [Leaves,settle,results,Tryz.results179,go_sem,q1]
 exact G.out
theorem toldF_ok (eg:∀ args w,(callFunc F args).run Tryz.prog w=.ok (.enter F args) w) (a b c:Bool) (n:Int) (hq:∀ W,Gr w W->Calls Tryz.prog F caps W λ e w'=>e=.returned (.agg #[.bool a,.bool b,.bool c,.int .i64 n])/\Gr W w') :
 Calls Tryz.prog 128 #[.func (.func F) #[] caps] w λ e w'=>e=.returned (.tuple #[.agg #[.bool a,.bool b,.bool c,.int .i64 n],.int .i64 0])/\Gr w w':=by
 have hmf:=mkF
 have HQ:=hid hq
 clear hq
 go_enter_defers Tryz.func128,Tryz.ntmps128
 go_wp2_with fail
 with_reducible refine (HQ.out _ (((Gr.refl w).al _).al _)).mono ?_
 rintro e w1 ⟨rfl,g1⟩
 have B0:=((Blk.new w #[.bool false,.bool false,.bool false,.int .i64 0] 42).al (.cells #[.int .i64 0] 27)).gr g1
 have B1:=(Blk.new (w.alloc (.cells #[.bool false,.bool false,.bool false,.int .i64 0] 42)) #[.int .i64 0] 27).gr g1
 rw [World.size_alloc] at B1
 have G0:=(((Gr.refl w).al (.cells #[.bool false,.bool false,.bool false,.int .i64 0] 42)).al (.cells #[.int .i64 0] 27)).trans g1
 have hne:w.heap.size+1≠w.heap.size:=by omega
 obtain⟨a0,y0⟩:=B0.at_ (k:=0) rfl
 obtain⟨a1,y1⟩:=B0.at_ (k:=1) rfl
 obtain⟨a2,y2⟩:=B0.at_ (k:=2) rfl
 obtain⟨a3,y3⟩:=B0.at_ (k:=3) rfl
 obtain⟨q0,z0⟩:=B1.at_ (k:=0) rfl
 have BF:=((((B0.set 0 (.bool a)).set 1 (.bool b)).set 2 (.bool c)).set 3 (.int .i64 n)).st (p:=⟨w.heap.size+1,0,none⟩) hne (.int .i64 0)
 have BG:=((((B1.st (p:=⟨w.heap.size,0,none⟩) hne.symm (.bool a)).st (p:=⟨w.heap.size,1,none⟩) hne.symm (.bool b)).st (p:=⟨w.heap.size,2,none⟩) hne.symm (.bool c)).st (p:=⟨w.heap.size,3,none⟩) hne.symm (.int .i64 n)).set 0 (.int .i64 0)
 obtain⟨c0,x0⟩:=BF.at_ (k:=0) (v:=.bool a) rfl
 obtain⟨c1,x1⟩:=BF.at_ (k:=1) (v:=.bool b) rfl
 obtain⟨c2,x2⟩:=BF.at_ (k:=2) (v:=.bool c) rfl
 obtain⟨c3,x3⟩:=BF.at_ (k:=3) (v:=.int .i64 n) rfl
 obtain⟨q1,z1⟩:=BG.at_ (k:=0) (v:=.int .i64 0) rfl
 have G:=hid (((((G0.st (p:=⟨w.heap.size,0,none⟩) (Nat.le_refl _) (.bool a)).st (p:=⟨w.heap.size,1,none⟩) (Nat.le_refl _) (.bool b)).st (p:=⟨w.heap.size,2,none⟩) (Nat.le_refl _) (.bool c)).st (p:=⟨w.heap.size,3,none⟩) (Nat.le_refl _) (.int .i64 n)).st (p:=⟨w.heap.size+1,0,none⟩) (Nat.le_succ _) (.int .i64 0))
 clear B0 B1 BF BG g1 G0
 go_wp2_with fail
 refine leaves_cons (f:=170) (args:=#[.pointer (some ⟨w.heap.size+1,0,none⟩)]) (by simp) (by simp [go_sem]) ?_
 refine (catchF_idle ⟨w.heap.size+1,0,none⟩ _).mono ?_
 rintro e u' w'' ⟨rfl,rfl,rfl⟩
 simp [Leaves,settle,results,Tryz.results128,go_sem,q1,c0,c1,c2,c3]
 exact G.out
theorem toldF_no (eg:∀ args w,(callFunc F args).run Tryz.prog w=.ok (.enter F args) w) (y:Int) (hq:∀ W,Gr w W->Calls Tryz.prog F caps W λ e w'=>e=.panicked (pan y)/\Gr W w') :
 Calls Tryz.prog 128 #[.func (.func F) #[] caps] w λ e w'=>e=.returned (.tuple #[.agg #[.bool false,.bool false,.bool false,.int .i64 0],.int .i64 y])/\Gr w w':=by
 have hmf:=mkF
 have HQ:=hid hq
 clear hq
 go_enter_defers Tryz.func128,Tryz.ntmps128
 go_wp2_with fail
 with_reducible refine (HQ.out _ (((Gr.refl w).al _).al _)).mono ?_
 rintro e w1 ⟨rfl,g1⟩
 have B0:=((Blk.new w #[.bool false,.bool false,.bool false,.int .i64 0] 42).al (.cells #[.int .i64 0] 27)).gr g1
 have B1:=(Blk.new (w.alloc (.cells #[.bool false,.bool false,.bool false,.int .i64 0] 42)) #[.int .i64 0] 27).gr g1
 rw [World.size_alloc] at B1
 have G0:=(((Gr.refl w).al (.cells #[.bool false,.bool false,.bool false,.int .i64 0] 42)).al (.cells #[.int .i64 0] 27)).trans g1
 have hne:w.heap.size+1≠w.heap.size:=by omega
 obtain⟨q0,z0⟩:=B1.at_ (k:=0) rfl
 have BF:=B0.st (p:=⟨w.heap.size+1,0,none⟩) hne (.int .i64 y)
 obtain⟨c0,x0⟩:=BF.at_ (k:=0) (v:=.bool false) rfl
 obtain⟨c1,x1⟩:=BF.at_ (k:=1) (v:=.bool false) rfl
 obtain⟨c2,x2⟩:=BF.at_ (k:=2) (v:=.bool false) rfl
 obtain⟨c3,x3⟩:=BF.at_ (k:=3) (v:=.int .i64 0) rfl
 obtain⟨q1,z1⟩:=(B1.set 0 (.int .i64 y)).at_ (k:=0) (v:=.int .i64 y) rfl
 have G:=hid (G0.st (p:=⟨w.heap.size+1,0,none⟩) (Nat.le_succ _) (.int .i64 y))
 clear B0 B1 BF g1 G0
 go_wp2_with fail
 refine leaves_cons (f:=170) (args:=#[.pointer (some ⟨w.heap.size+1,0,none⟩)]) (by simp) (by simp [go_sem]) ?_
 refine (catchF_up ⟨w.heap.size+1,0,none⟩ y 0 _ q0 z0).mono ?_
 rintro e u' w'' ⟨rfl,rfl,rfl⟩
 simp [Leaves,settle,results,Tryz.results128,go_sem,q1,c0,c1,c2,c3]
 exact G.out
theorem toldO_ok (eg:∀ args w,(callFunc F args).run Tryz.prog w=.ok (.enter F args) w) (s:Int) (t k:Bool) (r o:Int) (hq:∀ W,Gr w W->Calls Tryz.prog F caps W λ e w'=>e=.returned (.agg #[.int .i64 s,.bool t,.bool k,.int .i64 r,.int .i64 o])/\Gr W w') :
 Calls Tryz.prog 183 #[.func (.func F) #[] caps] w λ e w'=>e=.returned (.tuple #[.agg #[.int .i64 s,.bool t,.bool k,.int .i64 r,.int .i64 o],.int .i64 0])/\Gr w w':=by
 have hmf:=mkF
 have HQ:=hid hq
 clear hq
 go_enter_defers Tryz.func183,Tryz.ntmps183
 go_wp2_with fail
 with_reducible refine (HQ.out _ (((Gr.refl w).al _).al _)).mono ?_
 rintro e w1 ⟨rfl,g1⟩
 have B0:=((Blk.new w #[.int .i64 0,.bool false,.bool false,.int .i64 0,.int .i64 0] 53).al (.cells #[.int .i64 0] 27)).gr g1
 have B1:=(Blk.new (w.alloc (.cells #[.int .i64 0,.bool false,.bool false,.int .i64 0,.int .i64 0] 53)) #[.int .i64 0] 27).gr g1
 rw [World.size_alloc] at B1
 have G0:=(((Gr.refl w).al (.cells #[.int .i64 0,.bool false,.bool false,.int .i64 0,.int .i64 0] 53)).al (.cells #[.int .i64 0] 27)).trans g1
 have hne:w.heap.size+1≠w.heap.size:=by omega
 obtain⟨a0,y0⟩:=B0.at_ (k:=0) rfl
 obtain⟨a1,y1⟩:=B0.at_ (k:=1) rfl
 obtain⟨a2,y2⟩:=B0.at_ (k:=2) rfl
 obtain⟨a3,y3⟩:=B0.at_ (k:=3) rfl
 obtain⟨a4,y4⟩:=B0.at_ (k:=4) rfl
 obtain⟨q0,z0⟩:=B1.at_ (k:=0) rfl
 have BF:=(((((B0.set 0 (.int .i64 s)).set 1 (.bool t)).set 2 (.bool k)).set 3 (.int .i64 r)).set 4 (.int .i64 o)).st (p:=⟨w.heap.size+1,0,none⟩) hne (.int .i64 0)
 have BG:=(((((B1.st (p:=⟨w.heap.size,0,none⟩) hne.symm (.int .i64 s)).st (p:=⟨w.heap.size,1,none⟩) hne.symm (.bool t)).st (p:=⟨w.heap.size,2,none⟩) hne.symm (.bool k)).st (p:=⟨w.heap.size,3,none⟩) hne.symm (.int .i64 r)).st (p:=⟨w.heap.size,4,none⟩) hne.symm (.int .i64 o)).set 0 (.int .i64 0)
 obtain⟨c0,x0⟩:=BF.at_ (k:=0) (v:=.int .i64 s) rfl
 obtain⟨c1,x1⟩:=BF.at_ (k:=1) (v:=.bool t) rfl
 obtain⟨c2,x2⟩:=BF.at_ (k:=2) (v:=.bool k) rfl
 obtain⟨c3,x3⟩:=BF.at_ (k:=3) (v:=.int .i64 r) rfl
 obtain⟨c4,x4⟩:=BF.at_ (k:=4) (v:=.int .i64 o) rfl
 obtain⟨q1,z1⟩:=BG.at_ (k:=0) (v:=.int .i64 0) rfl
 have G:=hid ((((((G0.st (p:=⟨w.heap.size,0,none⟩) (Nat.le_refl _) (.int .i64 s)).st (p:=⟨w.heap.size,1,none⟩) (Nat.le_refl _) (.bool t)).st (p:=⟨w.heap.size,2,none⟩) (Nat.le_refl _) (.bool k)).st (p:=⟨w.heap.size,3,none⟩) (Nat.le_refl _) (.int .i64 r)).st (p:=⟨w.heap.size,4,none⟩) (Nat.le_refl _) (.int .i64 o)).st (p:=⟨w.heap.size+1,0,none⟩) (Nat.le_succ _) (.int .i64 0))
 clear B0 B1 BF BG g1 G0
 go_wp2_with fail
 refine leaves_cons (f:=208) (args:=#[.pointer (some ⟨w.heap.size+1,0,none⟩)]) (by simp) (by simp [go_sem]) ?_
 refine (catchO_idle ⟨w.heap.size+1,0,none⟩ _).mono ?_
 rintro e u' w'' ⟨rfl,rfl,rfl⟩
 simp [Leaves,settle,results,Tryz.results183,go_sem,q1,c0,c1,c2,c3,c4]
 exact G.out
end
end P14
end
section
open Go.ChangeShapes Go.WideShapes Go.ChangeAt Go.RowKit Go.Shelf
theorem bodyPost_pan {P:Program} {fn:Func} {R:Ending->World->Prop} {a:Act} {w:World} {c:List PanicEntry} (hd:a.defers=[]) (hR:R (.panicked c) w):bodyPost P fn R (.panic c) a w:=⟨hd,hR⟩
namespace P16
open P14 (pan)
theorem need_yes (y:Int) (w:World):Calls Tryz.prog 121 #[.bool true,.int .i64 y] w λ e w'=>e=.returned (.tuple #[])/\w'=w:=by
 go_enter Tryz.func121,Tryz.ntmps121
 go_wp2
 go_end0
 exact⟨rfl,rfl⟩
theorem need_no (y:Int) (w:World):Calls Tryz.prog 121 #[.bool false,.int .i64 y] w λ e w'=>e=.panicked (pan y)/\w'=w:=by
 go_enter Tryz.func121,Tryz.ntmps121
 go_wp2
 exact⟨rfl,rfl,rfl⟩
theorem sureB_yes (v:Bool) (w:World):Calls Tryz.prog 137 #[.bool v,.int .i64 0] w λ e w'=>e=.returned (.bool v)/\w'=w:=by
 go_enter Tryz.func137,Tryz.ntmps137
 go_wp2_with fail
 with_reducible refine (need_yes _ _).mono ?_
 rintro e w1 ⟨rfl,rfl⟩
 go_wp2_with fail
 go_ret
 exact⟨rfl,rfl⟩
theorem sureB_no (v:Bool) {y:Int} (hy:(y==0)=false) (w:World):Calls Tryz.prog 137 #[.bool v,.int .i64 y] w λ e w'=>e=.panicked (pan 12)/\w'=w:=by
 go_enter Tryz.func137,Tryz.ntmps137
 go_wp2_with fail
 with_reducible refine (need_no _ _).mono ?_
 rintro e w1 ⟨rfl,rfl⟩
 go_wp2_with fail
 exact⟨rfl,rfl,rfl⟩
theorem sureI_yes (v:Int) (w:World):Calls Tryz.prog 141 #[.int .i64 v,.int .i64 0] w λ e w'=>e=.returned (.int .i64 v)/\w'=w:=by
 go_enter Tryz.func141,Tryz.ntmps141
 go_wp2_with fail
 with_reducible refine (need_yes _ _).mono ?_
 rintro e w1 ⟨rfl,rfl⟩
 go_wp2_with fail
 go_ret
 exact⟨rfl,rfl⟩
theorem sureI_no (v:Int) {y:Int} (hy:(y==0)=false) (w:World):Calls Tryz.prog 141 #[.int .i64 v,.int .i64 y] w λ e w'=>e=.panicked (pan 12)/\w'=w:=by
 go_enter Tryz.func141,Tryz.ntmps141
 go_wp2_with fail
 with_reducible refine (need_no _ _).mono ?_
 rintro e w1 ⟨rfl,rfl⟩
 go_wp2_with fail
 exact⟨rfl,rfl,rfl⟩
theorem sureG_yes (A:Option Addr) (n c:Nat) (w:World):Calls Tryz.prog 84 #[.slice A n c,.int .i64 0] w λ e w'=>e=.returned (.slice A n c)/\w'=w:=by
 go_enter Tryz.func84,Tryz.ntmps84
 go_wp2_with fail
 with_reducible refine (need_yes _ _).mono ?_
 rintro e w1 ⟨rfl,rfl⟩
 go_wp2_with fail
 go_ret
 exact⟨rfl,rfl⟩
theorem sureG_no (A:Option Addr) (n c:Nat) {y:Int} (hy:(y==0)=false) (w:World):Calls Tryz.prog 84 #[.slice A n c,.int .i64 y] w λ e w'=>e=.panicked (pan 12)/\w'=w:=by
 go_enter Tryz.func84,Tryz.ntmps84
 go_wp2_with fail
 with_reducible refine (need_no _ _).mono ?_
 rintro e w1 ⟨rfl,rfl⟩
 go_wp2_with fail
 exact⟨rfl,rfl,rfl⟩
theorem sureN_yes (A:Option Addr) (n c:Nat) (w:World):Calls Tryz.prog 136 #[.slice A n c,.int .i64 0] w λ e w'=>e=.returned (.slice A n c)/\w'=w:=by
 go_enter Tryz.func136,Tryz.ntmps136
 go_wp2_with fail
 with_reducible refine (need_yes _ _).mono ?_
 rintro e w1 ⟨rfl,rfl⟩
 go_wp2_with fail
 go_ret
 exact⟨rfl,rfl⟩
theorem sureF_yes (a b c:Bool) (n:Int) (w:World):Calls Tryz.prog 156 #[.agg #[.bool a,.bool b,.bool c,.int .i64 n],.int .i64 0] w λ e w'=>e=.returned (.agg #[.bool a,.bool b,.bool c,.int .i64 n])/\Gr w w':=by
 go_enter Tryz.func156,Tryz.ntmps156
 go_wp2_with fail
 with_reducible refine (need_yes _ _).mono ?_
 rintro e w1 ⟨rfl,rfl⟩
 go_wp2_with fail
 exact bodyPost_ret (v:=.agg #[.bool a,.bool b,.bool c,.int .i64 n]) (by simp [results,Tryz.results156,go_sem]) rfl ⟨rfl,((Gr.refl w).al _).al _⟩
theorem sureT_yes (a b:Int) (w:World):Calls Tryz.prog 192 #[.agg #[.int .i64 a,.int .i64 b],.int .i64 0] w λ e w'=>e=.returned (.agg #[.int .i64 a,.int .i64 b])/\Gr w w':=by
 go_enter Tryz.func192,Tryz.ntmps192
 go_wp2_with fail
 with_reducible refine (need_yes _ _).mono ?_
 rintro e w1 ⟨rfl,rfl⟩
 go_wp2_with fail
 exact bodyPost_ret (v:=.agg #[.int .i64 a,.int .i64 b]) (by simp [results,Tryz.results192,go_sem]) rfl ⟨rfl,((Gr.refl w).al _).al _⟩
theorem sureT_no (a b:Int) {y:Int} (hy:(y==0)=false) (w:World):Calls Tryz.prog 192 #[.agg #[.int .i64 a,.int .i64 b],.int .i64 y] w λ e w'=>e=.panicked (pan 12)/\Gr w w':=by
 go_enter Tryz.func192,Tryz.ntmps192
 go_wp2_with fail
 with_reducible refine (need_no _ _).mono ?_
 rintro e w1 ⟨rfl,rfl⟩
 go_wp2_with fail
 exact⟨rfl,rfl,((Gr.refl w).al _).al _⟩
theorem bothSB_yes (A:Option Addr) (n c:Nat) (v:Bool) (w:World):Calls Tryz.prog 149 #[.slice A n c,.bool v,.int .i64 0] w λ e w'=>e=.returned (.tuple #[.slice A n c,.bool v])/\w'=w:=by
 go_enter Tryz.func149,Tryz.ntmps149
 go_wp2_with fail
 with_reducible refine (sureB_yes _ _).mono ?_
 rintro e w1 ⟨rfl,rfl⟩
 go_wp2_with fail
 go_ret2
 exact⟨rfl,rfl⟩
theorem bothSB_no (A:Option Addr) (n c:Nat) (v:Bool) {y:Int} (hy:(y==0)=false) (w:World):Calls Tryz.prog 149 #[.slice A n c,.bool v,.int .i64 y] w λ e w'=>e=.panicked (pan 12)/\w'=w:=by
 go_enter Tryz.func149,Tryz.ntmps149
 go_wp2_with fail
 with_reducible refine (sureB_no _ hy _).mono ?_
 rintro e w1 ⟨rfl,rfl⟩
 go_wp2_with fail
 exact⟨rfl,rfl,rfl⟩
theorem bothBI_yes (u:Bool) (v:Int) (w:World):Calls Tryz.prog 158 #[.bool u,.int .i64 v,.int .i64 0] w λ e w'=>e=.returned (.tuple #[.bool u,.int .i64 v])/\w'=w:=by
 go_enter Tryz.func158,Tryz.ntmps158
 go_wp2_with fail
 with_reducible refine (sureI_yes _ _).mono ?_
 rintro e w1 ⟨rfl,rfl⟩
 go_wp2_with fail
 go_ret2
 exact⟨rfl,rfl⟩
theorem bothSI_yes (A:Option Addr) (n c:Nat) (v:Int) (w:World):Calls Tryz.prog 160 #[.slice A n c,.int .i64 v,.int .i64 0] w λ e w'=>e=.returned (.tuple #[.slice A n c,.int .i64 v])/\w'=w:=by
 go_enter Tryz.func160,Tryz.ntmps160
 go_wp2_with fail
 with_reducible refine (sureI_yes _ _).mono ?_
 rintro e w1 ⟨rfl,rfl⟩
 go_wp2_with fail
 go_ret2
 exact⟨rfl,rfl⟩
theorem bothSI_no (A:Option Addr) (n c:Nat) (v:Int) {y:Int} (hy:(y==0)=false) (w:World):Calls Tryz.prog 160 #[.slice A n c,.int .i64 v,.int .i64 y] w λ e w'=>e=.panicked (pan 12)/\w'=w:=by
 go_enter Tryz.func160,Tryz.ntmps160
 go_wp2_with fail
 with_reducible refine (sureI_no _ hy _).mono ?_
 rintro e w1 ⟨rfl,rfl⟩
 go_wp2_with fail
 exact⟨rfl,rfl,rfl⟩
theorem bothOB_yes (s:Int) (t k:Bool) (r o:Int) (v:Bool) (w:World):Calls Tryz.prog 144 #[.agg #[.int .i64 s,.bool t,.bool k,.int .i64 r,.int .i64 o],.bool v,.int .i64 0] w λ e w'=>e=.returned (.tuple #[.agg #[.int .i64 s,.bool t,.bool k,.int .i64 r,.int .i64 o],.bool v])/\Gr w w':=by
 have cs:=λ W=>hid (sureB_yes v W)
 have B0:=((Blk.new w #[.int .i64 s,.bool t,.bool k,.int .i64 r,.int .i64 o] 53).al (.cells #[.int .i64 0,.bool false,.bool false,.int .i64 0,.int .i64 0] 53)).gr ((Gr.refl _).dr)
 obtain⟨a0,y0⟩:=B0.at_ (k:=0) (v:=.int .i64 s) rfl
 obtain⟨a1,y1⟩:=B0.at_ (k:=1) (v:=.bool t) rfl
 obtain⟨a2,y2⟩:=B0.at_ (k:=2) (v:=.bool k) rfl
 obtain⟨a3,y3⟩:=B0.at_ (k:=3) (v:=.int .i64 r) rfl
 obtain⟨a4,y4⟩:=B0.at_ (k:=4) (v:=.int .i64 o) rfl
 have B1:=((Blk.new w #[.int .i64 s,.bool t,.bool k,.int .i64 r,.int .i64 o] 53).al (.cells #[.int .i64 s,.bool t,.bool k,.int .i64 r,.int .i64 o] 53)).gr ((Gr.refl _).dr)
 obtain⟨c0,z0⟩:=B1.at_ (k:=0) (v:=.int .i64 s) rfl
 obtain⟨c1,z1⟩:=B1.at_ (k:=1) (v:=.bool t) rfl
 obtain⟨c2,z2⟩:=B1.at_ (k:=2) (v:=.bool k) rfl
 obtain⟨c3,z3⟩:=B1.at_ (k:=3) (v:=.int .i64 r) rfl
 obtain⟨c4,z4⟩:=B1.at_ (k:=4) (v:=.int .i64 o) rfl
 go_enter Tryz.func144,Tryz.ntmps144
 go_wp2_with fail
 go_region_held2 (λ w'=>w'.cell? ⟨w.heap.size,0,none⟩=some (.int .i64 s)/\w'.cell? ⟨w.heap.size,1,none⟩=some (.bool t)/\w'.cell? ⟨w.heap.size,2,none⟩=some (.bool k)/\w'.cell? ⟨w.heap.size,3,none⟩=some (.int .i64 r)/\w'.cell? ⟨w.heap.size,4,none⟩=some (.int .i64 o)) (first | exact⟨a0,a1,a2,a3,a4⟩ | exact⟨c0,c1,c2,c3,c4⟩) (first | (go_at_call 137;(with_reducible refine (cs _).out.mono ?_);rintro ee w2 ⟨rfl,rfl⟩))
 all_goals go_wp2_with fail
 all_goals exact bodyPost_ret (v:=.tuple #[.agg #[.int .i64 s,.bool t,.bool k,.int .i64 r,.int .i64 o],.bool v]) (by simp [results,Tryz.results144,go_sem]) rfl ⟨rfl,(((Gr.refl w).al _).al _).dr⟩
theorem bothTI_yes (a b:Int) (v:Int) (w:World):Calls Tryz.prog 146 #[.agg #[.int .i64 a,.int .i64 b],.int .i64 v,.int .i64 0] w λ e w'=>e=.returned (.tuple #[.agg #[.int .i64 a,.int .i64 b],.int .i64 v])/\Gr w w':=by
 have cs:=λ W=>hid (sureI_yes v W)
 have B0:=((Blk.new w #[.int .i64 a,.int .i64 b] 46).al (.cells #[.int .i64 0,.int .i64 0] 46)).gr ((Gr.refl _).dr)
 obtain⟨a0,y0⟩:=B0.at_ (k:=0) (v:=.int .i64 a) rfl
 obtain⟨a1,y1⟩:=B0.at_ (k:=1) (v:=.int .i64 b) rfl
 have B1:=((Blk.new w #[.int .i64 a,.int .i64 b] 46).al (.cells #[.int .i64 a,.int .i64 b] 46)).gr ((Gr.refl _).dr)
 obtain⟨c0,z0⟩:=B1.at_ (k:=0) (v:=.int .i64 a) rfl
 obtain⟨c1,z1⟩:=B1.at_ (k:=1) (v:=.int .i64 b) rfl
 go_enter Tryz.func146,Tryz.ntmps146
 go_wp2_with fail
 go_region_held2 (λ w'=>w'.cell? ⟨w.heap.size,0,none⟩=some (.int .i64 a)/\w'.cell? ⟨w.heap.size,1,none⟩=some (.int .i64 b)) (first | exact⟨a0,a1⟩ | exact⟨c0,c1⟩) (first | (go_at_call 141;(with_reducible refine (cs _).out.mono ?_);rintro ee w2 ⟨rfl,rfl⟩))
 all_goals go_wp2_with fail
 all_goals exact bodyPost_ret (v:=.tuple #[.agg #[.int .i64 a,.int .i64 b],.int .i64 v]) (by simp [results,Tryz.results146,go_sem]) rfl ⟨rfl,(((Gr.refl w).al _).al _).dr⟩
theorem bothTI_no (a b:Int) (v:Int) {y:Int} (hy:(y==0)=false) (w:World):Calls Tryz.prog 146 #[.agg #[.int .i64 a,.int .i64 b],.int .i64 v,.int .i64 y] w λ e w'=>e=.panicked (pan 12)/\Gr w w':=by
 have cs:=λ W=>hid (sureI_no v hy W)
 have B0:=((Blk.new w #[.int .i64 a,.int .i64 b] 46).al (.cells #[.int .i64 0,.int .i64 0] 46)).gr ((Gr.refl _).dr)
 obtain⟨a0,y0⟩:=B0.at_ (k:=0) (v:=.int .i64 a) rfl
 obtain⟨a1,y1⟩:=B0.at_ (k:=1) (v:=.int .i64 b) rfl
 have B1:=((Blk.new w #[.int .i64 a,.int .i64 b] 46).al (.cells #[.int .i64 a,.int .i64 b] 46)).gr ((Gr.refl _).dr)
 obtain⟨c0,z0⟩:=B1.at_ (k:=0) (v:=.int .i64 a) rfl
 obtain⟨c1,z1⟩:=B1.at_ (k:=1) (v:=.int .i64 b) rfl
 go_enter Tryz.func146,Tryz.ntmps146
 go_wp2_with fail
 refine wp_region_held_drew (S:=(λ w'=>(w'.cell? ⟨w.heap.size,0,none⟩=some (.int .i64 a)/\w'.cell? ⟨w.heap.size,1,none⟩=some (.int .i64 b))/\Gr w w')) (by kernel_rfl) ⟨⟨a0,a1⟩,(((Gr.refl w).al _).al _).dr⟩ (λ hS=>?_)
 refine wG 0 hS ?_
 refine wG 1 hS ?_
 refine wG 2 hS ?_
 refine wR1 3 (λ K hK=>?_)
 go_simp;go_at_call 141;with_reducible refine (cs _).out.mono ?_;rintro ee w2 ⟨rfl,rfl⟩;exact bodyPost_pan rfl ⟨rfl,hS.2⟩
end P16
end
section
open Go.ChangeShapes Go.WideShapes Go.ChangeAt Go.RowKit Go.Shelf
namespace P16
open P14 (pan)
structure Ko (b:Nat) (W W':World):Prop where
 os:W'.os=W.os
 tape:W'.tape=W.tape
 output:W'.output=W.output
 size:W.heap.size<=W'.heap.size
 block:∀ k,k<W.heap.size->k≠b->W'.heap[k]?=W.heap[k]?
section
variable {b:Nat} {W W' W'':World}
theorem Ko.refl:Ko b W W:=⟨rfl,rfl,rfl,Nat.le_refl _,λ _ _ _=>rfl⟩
theorem Ko.trans (h:Ko b W W') (g:Ko b W' W''):Ko b W W'' :=
 ⟨g.os.trans h.os,g.tape.trans h.tape,g.output.trans h.output,Nat.le_trans h.size g.size,λ k hk h1=>(g.block k (Nat.lt_of_lt_of_le hk h.size) h1).trans (h.block k hk h1)⟩
theorem Ko.gr (g:Gr W W'):Ko b W W':=⟨g.os,g.tape,g.output,g.size,λ k hk _=>g.block k hk⟩
theorem Ko.st {p:Addr} (hp:p.block=b) (v:Value):Ko b W (W.setCell p v) :=
 ⟨rfl,rfl,rfl,by simp [World.setCell],λ k hk h1=>Below.heap_setCell W p v k (by rw [hp];exact h1)⟩
theorem Ko.cell (h:Ko b W W') {p:Addr} (hp:p.block<W.heap.size) (hn:p.block≠b):W'.cell? p=W.cell? p:=World.cell?_of_block (h.block _ hp hn)
theorem Ko.gmem {A:Option Addr} {n:Nat} {l:List P11.G} (h:Ko b W W') (hm:P11.GMem W A n l) (hA:∀ k,A.map (·.block)=some k->k≠b):P11.GMem W' A n l :=
 ⟨hm.1,hm.2.1,λ hn=>by
   obtain⟨g,off,rfl,hg,hc⟩:=hm.2.2 hn
   exact⟨g,off,rfl,Nat.lt_of_lt_of_le hg h.size,λ j u hu=>(h.cell (p:=⟨g,off+j,none⟩) hg (hA g rfl)).trans (hc j u hu)⟩⟩
end
theorem set_same {α:Type} {l:List α} {k:Nat} {y:α} (h:l[k]?=some y):l.set k y=l:=by
 apply List.ext_getElem?
 intro i
 rw [List.getElem?_set]
 by_cases e:k=i
 . subst e
   rw [if_pos rfl,if_pos (List.getElem?_eq_some_iff.1 h).1,h]
 . rw [if_neg e]
def withG (c:Cl) (g:P11.G):Cl:={ c with gst:=g.1,permit:=g.2 }
theorem withG_self (c:Cl):withG c (gor c)=c:=rfl
section
variable {W:World} {b bc oc n cc F:Nat} {cl:List Cl} {who q:Int} {R:List P11.G} {j:Nat} {c:Cl} {g:P11.G}
def ChgG (F:Nat) (cl:List Cl) (who q:Int) (N:Nat) (R:List P11.G):Prop :=
 ∀ (W:World) (A:Option Addr) (m d:Nat),P11.GMem W A m (cl.map gor)->m=cl.length->Calls Tryz.prog F #[.slice A m d,.int .i64 who] W (P11.GotN W N q R)
theorem changeGor_no (eg:∀ args w,(callFunc F args).run Tryz.prog w=.ok (.enter F args) w) {p:Nat} (c2:W.cell? ⟨b,p+2,none⟩=some (.slice (some ⟨bc,oc,none⟩) n cc)) (hO:ORow clV 13 W bc oc cl) (hl:cl.length=n) (hn:n<=1000) (hcb:∀ c∈cl,CB c)
 {N:Nat} (hF:ChgG F cl who q N R) (hq:(q==0)=false) :
 Calls Tryz.prog 64 #[.pointer (some ⟨b,p,none⟩),.int .i64 who,.func (.func F) #[] #[]] W λ e W'=>e=.panicked (pan 12)/\Gr W W':=by
 have hm:CMem W (some ⟨bc,oc,none⟩) n cl:=⟨hl,hcb,λ _=>⟨bc,oc,rfl,hO.lt,λ i y hy j v hv=>(hO.at_ hy hv).1⟩⟩
 have cg:=hid (gors_is (c:=cc) hm hn)
 have HF:=hid hF
 have HL:=hid hl
 clear hF hO hl hcb hm
 go_enter Tryz.func64,Tryz.ntmps64
 go_wp2_with fail
 with_reducible refine cg.out.mono ?_
 rintro e w1 ⟨rfl,m1,g1⟩
 have HG1:=hid g1
 have H2:=hid (HF.out w1 _ n n m1 HL.out.symm)
 clear m1 g1
 go_wp2_with fail
 with_reducible refine H2.out.mono ?_
 rintro e w2 ⟨B,m,rfl,m2,_,_,g2⟩
 have HG2:=hid g2
 clear m2 g2
 go_wp2_with fail
 with_reducible refine (sureG_no _ _ _ hq _).mono ?_
 rintro e w3 ⟨rfl,rfl⟩
 go_wp2_with fail
 exact bodyPost_pan rfl ⟨rfl,HG1.out.trans HG2.out⟩
def redone (cl:List Cl) (j k:Nat) (c:Cl) (g:P11.G):List Cl:=if k<=j then cl else cl.set j (withG c g)
theorem redone_at {k:Nat} {y:Cl} (hy:cl[k]?=some y):(redone cl j k c g)[k]?=some y:=by
 unfold redone
 by_cases h:k<=j
 . rw [if_pos h];exact hy
 . rw [if_neg h,List.getElem?_set_ne (by omega)];exact hy
theorem redone_next {k:Nat} {y:Cl} {z:P11.G} (hc:cl[j]?=some c) (hy:cl[k]?=some y) (hz:((cl.map gor).set j g)[k]?=some z):(redone cl j k c g).set k (withG y z)=redone cl j (k+1) c g:=by
 have hk:=(List.getElem?_eq_some_iff.1 hy).1
 unfold redone
 by_cases h:k=j
 . subst h
   rw [hc] at hy
   cases hy
   rw [List.getElem?_set_self (by simpa using hk)] at hz
   cases hz
   rw [if_pos (Nat.le_refl _),if_neg (by omega)]
 . rw [List.getElem?_set_ne (by omega),List.getElem?_map,hy] at hz
   cases hz
   rw [withG_self]
   by_cases h2:k<=j
   . rw [if_pos h2,if_pos (by omega)]
     exact set_same hy
   . rw [if_neg h2,if_neg (by omega)]
     exact set_same (by rw [List.getElem?_set_ne (by omega)];exact hy)
theorem changeGor_yes (eg:∀ args w,(callFunc F args).run Tryz.prog w=.ok (.enter F args) w) {p:Nat} (c2:W.cell? ⟨b,p+2,none⟩=some (.slice (some ⟨bc,oc,none⟩) n cc)) (hb:b≠bc) (hO:ORow clV 13 W bc oc cl) (hl:cl.length=n) (hn:n<=1000) (hcb:∀ c∈cl,CB c)
 (hc:cl[j]?=some c) (hF:ChgG F cl who 0 n ((cl.map gor).set j g)) :
 Calls Tryz.prog 64 #[.pointer (some ⟨b,p,none⟩),.int .i64 who,.func (.func F) #[] #[]] W λ e W'=>e=.returned (.tuple #[])/\ORow clV 13 W' bc oc (cl.set j (withG c g))/\Ko bc W W':=by
 have hm:CMem W (some ⟨bc,oc,none⟩) n cl:=⟨hl,hcb,λ _=>⟨bc,oc,rfl,hO.lt,λ i y hy j v hv=>(hO.at_ hy hv).1⟩⟩
 have hbl:=World.block_lt_of_cell? W _ c2
 have hbc:=hO.lt
 have cg:=hid (gors_is (c:=cc) hm hn)
 have HF:=hid hF
 have HL:=hid hl
 have HC:=hid hc
 have HO:=hid hO
 clear hF hO hl hcb hm hc
 dsimp only at hbl
 go_enter Tryz.func64,Tryz.ntmps64
 go_wp2_with fail
 with_reducible refine cg.out.mono ?_
 rintro e w1 ⟨rfl,m1,g1⟩
 have HG1:=hid g1
 have H2:=hid (HF.out w1 _ n n m1 HL.out.symm)
 clear m1 g1
 go_wp2_with fail
 with_reducible refine H2.out.mono ?_
 rintro e w2 ⟨B,m,rfl,m2,_,l2,g2⟩
 have hs1:=HG1.out.size
 have HG2:=hid (HG1.out.trans g2)
 have HM:=hid m2
 have HLT:=hid (show ∀ k,B.map (·.block)=some k->k≠bc from λ k hk=>by have:=l2 k hk;omega)
 clear m2 g2 l2
 go_wp2_with fail
 with_reducible refine (sureG_yes _ _ _ _).mono ?_
 rintro e w3 ⟨rfl,rfl⟩
 have H0:=hid (show ORow clV 13 w3 bc oc (redone cl j 0 c g) from by unfold redone;rw [if_pos (Nat.zero_le _)];exact HO.out.gr HG2.out)
 go_wp2_with fail
 go_loopw [20] (λ i wr=>∃ k:Nat,k<=n/\i=.int .i64 k/\Hid (ORow clV 13 wr bc oc (redone cl j k c g))/\Hid (Ko bc w3 wr)) (λ i _=>n-(intOf i).toNat)
 case atStart=>exact⟨0,Nat.zero_le _,rfl,H0,hid Ko.refl⟩
 case round =>
  obtain⟨k,hk,rfl,HR,HK⟩:=hrel
  by_cases hlt:k<n
  . have hlb:=HR.out.lt
    have hb3:b<w3.heap.size:=Nat.lt_of_lt_of_le hbl HG2.out.size
    have hbr:b<wr.heap.size:=Nat.lt_of_lt_of_le hb3 HK.out.size
    have d2:wr.cell? ⟨b,p+2,none⟩=some (.slice (some ⟨bc,oc,none⟩) n cc):=((HK.out.cell (p:=⟨b,p+2,none⟩) hb3 hb).trans (HG2.out.cell (p:=⟨b,p+2,none⟩) hbl)).trans c2
    have hkl:k<cl.length:=by rw [HL.out];exact hlt
    obtain⟨y,hy⟩:∃ y,cl[k]?=some y:=⟨_,List.getElem?_eq_getElem hkl⟩
    have hy':=redone_at (j:=j) (c:=c) (g:=g) hy
    obtain⟨e0,f0⟩:=HR.out.at_ (j:=0) hy' rfl
    obtain⟨e1,f1⟩:=HR.out.at_ (j:=1) hy' rfl
    rw [Nat.add_zero] at e0 f0
    obtain⟨bg,og,z,rfl,hg,hz,_,g0,g1⟩:=(HK.out.gmem HM.out HLT.out).at_ hlt
    have k0:(0:Int)<=(k:Int):=by omega
    have k1:(k:Int)<(n:Int):=by omega
    have HY:=hid hy
    have HY':=hid hy'
    have HZ:=hid hz
    clear hy hy' hz
    have ne1:bc≠wr.heap.size:=by omega
    go_wp2_with fail
    go_region
    all_goals go_wp2_with fail
    all_goals
     have h1:=HR.out.put clV_len HY'.out (j:=0) (v:=.int .i64 z.1) (y:={ y with gst:=z.1 }) (by decide) rfl
     have h2:=h1.put clV_len (i:=k) (x:={ y with gst:=z.1 }) (by rw [List.getElem?_set_self (List.getElem?_eq_some_iff.1 HY'.out).1]) (j:=1) (v:=.bool z.2) (y:=withG y z) (by decide) rfl
     rw [List.set_set,redone_next HC.out HY.out HZ.out,Nat.add_zero] at h2
     exact⟨⟨k+1,by omega,by go_num,hid (h2.gr ((Gr.refl _).al _).dr),hid (((HK.out.trans (Ko.st (p:=⟨bc,oc+k*13,none⟩) rfl _)).trans (Ko.st (p:=⟨bc,oc+k*13+1,none⟩) rfl _)).trans (Ko.gr ((Gr.refl _).al _).dr))⟩,by simp [intOf];omega⟩
  . obtain rfl:k=n:=by omega
    have h1:=HR.out
    have hj:j<k:=by rw [<- HL.out];exact (List.getElem?_eq_some_iff.1 HC.out).1
    unfold redone at h1
    rw [if_neg (by omega)] at h1
    clear HR
    go_wp2_with fail
    go_end0
    exact⟨rfl,h1,(Ko.gr HG2.out).trans HK.out⟩
end
end P16
end
section
open Go.ChangeShapes Go.WideShapes Go.ChangeAt Go.RowKit Go.Shelf
namespace P16
open P14 (pan)
theorem okw_pw {v:Int} (h:OkW v):∃ a b c n,v=P3.pw a b c n/\(0<=n/\n<268435456):=by
 obtain⟨a,b,c,n,h1,h2⟩:=P3.pw_of (v:=v) h
 exact⟨a,b,c,n,h1,h2⟩
section
variable {x:Cx} {W:World} {T E:Sl} {cl:List Cl} {mx:List T3} {tb:List Sp} {ev:List T3} {c:Cl} {a:T3}
theorem mutex_is (h:TS x W T E cl mx tb ev) (h0:0<=x.n) (h4:x.n<4) :
 Calls Tryz.prog 132 #[.pointer (some ⟨x.b,0,none⟩)] W λ e W'=>e=.returned (.pointer (some ⟨x.bm,x.om+x.n.toNat*3,none⟩))/\∃ q,W'=W.drewN q:=by
 obtain⟨-,-,-,c3,-,-,-,-,-,c9,-,-⟩:=h.cells
 clear h
 go_enter Tryz.func132,Tryz.ntmps132
 go_wp2_with fail
 go_quiet (fail)
 go_wp2_with fail
 go_ret
 exact⟨rfl,_,rfl⟩
theorem address_is (h:TS x W T E cl mx tb ev) (h0:0<=x.n) (h4:x.n<4) :
 Calls Tryz.prog 151 #[.pointer (some ⟨x.b,0,none⟩)] W λ e W'=>e=.returned (.int .i64 (8*x.n))/\W'=W:=by
 obtain⟨-,-,-,-,-,-,-,-,-,c9,-,-⟩:=h.cells
 have e8:wrap64 (8*x.n)=8*x.n:=by unfold wrap64;omega
 clear h
 go_enter Tryz.func151,Tryz.ntmps151
 go_wp2_with fail
 go_ret
 exact⟨rfl,rfl⟩
theorem TS.putW (h:TS x W T E cl mx tb ev) {i:Nat} (ha:mx[i]?=some a) {v:Int} (hv:B64 v):TS x (W.setCell ⟨x.bm,x.om+i*3,none⟩ (.int .i64 v)) T E cl (mx.set i (v,a.2)) tb ev :=
 h.putM (a:=a) ha 0 _ (v,a.2) rfl (by decide) ⟨hv,(h.mb a (List.mem_of_getElem? ha)).2⟩
theorem OkW.b {v:Int} (h:OkW v):B64 v:=by unfold OkW at h;unfold B64;omega
theorem put_yes (h:TS x W T E cl mx tb ev) (h0:0<=x.n) (h4:x.n<4) (ha:mx[x.n.toNat]?=some a) {v:Int} (hv:OkW v) :
 Calls Tryz.prog 133 #[.pointer (some ⟨x.b,0,none⟩),.int .i64 v] W λ e W'=>e=.returned (.tuple #[])/\TS x W' T E cl (mx.set x.n.toNat (v,a.2)) tb ev/\Kx x W W':=by
 have hb:=hv.b
 obtain⟨p,q,r,n,rfl,hn⟩:=okw_pw hv
 have cu:=λ W=>hid (P3.Unpack_ok p q r n hn W)
 generalize P3.pw p q r n=v at *
 go_enter Tryz.func133,Tryz.ntmps133
 go_wp2_with fail
 with_reducible refine (cu _).out.mono ?_
 rintro e w1 ⟨rfl,g1⟩
 go_wp2_with fail
 with_reducible refine (need_yes _ _).mono ?_
 rintro e w2 ⟨rfl,rfl⟩
 have h2:=h.gr (g1.al (.cells #[.bool p,.bool q,.bool r,.int .i64 n] 42))
 have k2:Kx x W _:=Kx.gr (g1.al (.cells #[.bool p,.bool q,.bool r,.int .i64 n] 42))
 go_wp2_with fail
 with_reducible refine (mutex_is h2 h0 h4).mono ?_
 rintro e w3 ⟨rfl,d,rfl⟩
 have h3:=h2.gr ((Gr.refl _).drN d)
 have k3:=k2.trans (Kx.gr ((Gr.refl _).drN d))
 obtain⟨m0,-,-,mz⟩:=h3.mx_ ha
 have mz0:=mz 0 (by decide)
 rw [Nat.add_zero] at mz0
 go_wp2_with fail
 go_end0
 exact⟨rfl,h3.putW ha hb,k3.trans (Kx.st (.inr (.inr rfl)) _)⟩
theorem put_no {v:Int} (hv:¬ OkW v) (p:Value) (W:World) :
 Calls Tryz.prog 133 #[p,.int .i64 v] W λ e W'=>e=.panicked (pan 12)/\Gr W W':=by
 have cu:=λ W=>hid (P3.Unpack_no v hv W)
 go_enter Tryz.func133,Tryz.ntmps133
 go_wp2_with fail
 with_reducible refine (cu _).out.mono ?_
 rintro e w1 ⟨rfl,g1⟩
 go_wp2_with fail
 with_reducible refine (need_no _ _).mono ?_
 rintro e w2 ⟨rfl,rfl⟩
 go_wp2_with fail
 exact bodyPost_pan rfl ⟨rfl,g1.al _⟩
theorem swaps_no (h:TS x W T E cl mx tb ev) (h0:0<=x.n) (h4:x.n<4) (ha:mx[x.n.toNat]?=some a) (hc:cl[x.who.toNat]?=some c) (hne:(a.1==c.old)=false) (v:Int) :
 Calls Tryz.prog 140 #[.pointer (some ⟨x.b,0,none⟩),.int .i64 v] W λ e W'=>e=.returned (.bool false)/\∃ q,W'=W.drewN q:=by
 have cm:=λ (n:Nat)=>hid (Calls.quiet_of (mutex_is (h.gr ((Gr.refl W).drN n)) h0 h4))
 obtain⟨-,-,-,-,-,-,-,c7,-,-,-,-⟩:=h.cells
 obtain⟨-,-,-,-,-,-,-,-,-,-,-,-,s12,-⟩:=h.cl_ hc
 obtain⟨m0,-,-,-⟩:=h.mx_ ha
 clear h
 go_enter Tryz.func140,Tryz.ntmps140
 go_wp2_with fail
 go_quiet ((go_at_call 132;with_reducible exact (cm _).out))
 go_wp2_with fail
 go_ret
 exact⟨rfl,_,rfl⟩
theorem swaps_yes (h:TS x W T E cl mx tb ev) (h0:0<=x.n) (h4:x.n<4) (ha:mx[x.n.toNat]?=some a) (hc:cl[x.who.toNat]?=some c) (hne:(a.1==c.old)=true) {v:Int} (hv:OkW v) :
 Calls Tryz.prog 140 #[.pointer (some ⟨x.b,0,none⟩),.int .i64 v] W λ e W'=>e=.returned (.bool true)/\TS x W' T E cl (mx.set x.n.toNat (v,a.2)) tb ev/\Kx x W W':=by
 have cm:=λ (n:Nat)=>hid (Calls.quiet_of (mutex_is (h.gr ((Gr.refl W).drN n)) h0 h4))
 have cp:=λ (n:Nat)=>hid (put_yes (h.gr ((Gr.refl W).drN n)) h0 h4 ha hv)
 obtain⟨-,-,-,-,-,-,-,c7,-,-,-,-⟩:=h.cells
 obtain⟨-,-,-,-,-,-,-,-,-,-,-,-,s12,-⟩:=h.cl_ hc
 obtain⟨m0,-,-,-⟩:=h.mx_ ha
 clear h
 go_enter Tryz.func140,Tryz.ntmps140
 go_wp2_with fail
 go_quiet ((go_at_call 132;with_reducible exact (cm _).out))
 go_wp2_with fail
 with_reducible refine (cp _).out.mono ?_
 rintro e w1 ⟨rfl,h1,k1⟩
 go_wp2_with fail
 go_ret
 exact⟨rfl,h1,(Kx.gr ((Gr.refl W).drN _)).trans k1⟩
theorem remember_is (h:TS x W T E cl mx tb ev) (h0:0<=x.n) (h4:x.n<4) (ha:mx[x.n.toNat]?=some a) (hc:cl[x.who.toNat]?=some c) {v:Int} (hv:B64 v) :
 Calls Tryz.prog 135 #[.pointer (some ⟨x.b,0,none⟩),.int .i64 v] W λ e W'=>e=.returned (.tuple #[])/\TS x W' T E (cl.set x.who.toNat { c with old:=a.1,pc:=v }) mx tb ev/\Kx x W W':=by
 have cm:=λ W' (g:Gr W W')=>hid (mutex_is (h.gr g) h0 h4)
 have K0:=hid h
 obtain⟨-,-,-,-,-,-,-,c7,-,-,-,-⟩:=h.cells
 obtain⟨-,-,-,s3,-,-,-,-,-,-,-,-,s12,sz⟩:=h.cl_ hc
 obtain⟨m0,-,-,-⟩:=h.mx_ ha
 have z12:=sz 12 (by decide)
 have z3:=sz 3 (by decide)
 have n1:=h.n1.symm
 have n3:=h.n3
 clear h sz
 go_enter Tryz.func135,Tryz.ntmps135
 go_wp2_with fail
 go_region_held2 (λ w'=>w'.cell? ⟨x.b,7,none⟩=some (.pointer (some ⟨x.bc,x.oc+x.who.toNat*13,none⟩))/\w'.cell? ⟨x.bm,x.om+x.n.toNat*3,none⟩=some (.int .i64 a.1)) (first | exact⟨c7,m0⟩ | go_keep) (first | (go_at_call 132;(with_reducible refine (cm _ ((Gr.refl W).dr)).out.mono ?_);rintro ee w2 ⟨rfl,d,rfl⟩))
 go_wp2_with fail
 go_end0
 have B:=K0.out.cb c (List.mem_of_getElem? hc)
 have A:=K0.out.mb a (List.mem_of_getElem? ha)
 have h1:=(K0.out.gr ((Gr.refl W).drN (1+d))).putC hc 12 (.int .i64 a.1) { c with old:=a.1 } rfl (by decide) { B with old:=A.1 }
 have h2:=h1.putC2 hc 3 (.int .i64 v) { c with old:=a.1,pc:=v } rfl (by decide) { B with old:=A.1,pc:=hv }
 exact⟨rfl,h2,((Kx.gr ((Gr.refl W).drN (1+d))).trans (Kx.st (.inr (.inl rfl)) _)).trans (Kx.st (.inr (.inl rfl)) _)⟩
end
end P16
end
end Go.Proofs.YtainfijdhcehlaaGreatDoor
