/-
  MachineHeld: for any programs and any numbers, of a new world nothing goes wrong on the way: a mutex's word is locked just if one more locked it than gave it back: the law answers true, as long as the array give.states holds what the program's text lays.
-/
import Derived.Test.YtainfijdhcehlaaGreatDoorRH6
import Derived.Test.YtainfijdhcehlaaGreatDoorCards
import Derived.Test.YtainfijdhcehlaaGreatDoorTie
set_option linter.unusedVariables false
set_option linter.unusedSimpArgs false
set_option maxRecDepth 100000
set_option maxHeartbeats 8000000
namespace Go.Proofs.YtainfijdhcehlaaGreatDoor
open Lib (hid)
section
open Go.ChangeShapes Go.WideShapes Go.ChangeAt Go.RowKit Go.Joins
namespace P15
def laidL : List (String × DataW Unit) := [("deadbolt/give.states", Rows.laid_deadbolt_give_states)]
theorem laidL_shaped (os:Os) (args:Array Value):((World.laidAll Tryz.prog os laidL).forCall (λ _ _=>0) ⟨#[],args,[]⟩).Shaped Tryz.prog :=
 World.shaped_of_ZipB (by kernel_rfl) (by kernel_rfl)
theorem laidL_met (os:Os) (args:Array Value):laidMetH Tryz.prog laidL ((World.laidAll Tryz.prog os laidL).forCall (λ _ _=>0) ⟨#[],args,[]⟩).memory:=by
 rw [MakeChecks.laidMetH_plain _ _ _ (by kernel_rfl)]
 exact laidMet_laidAll _ (by kernel_rfl) (by kernel_rfl)
section
variable {W:World}
theorem metL (h:laidMetH Tryz.prog laidL W):laidMet Tryz.prog laidL W:=by
 rwa [MakeChecks.laidMetH_plain _ _ _ (by kernel_rfl)] at h
theorem states_of {rest : List (String × DataW Unit)} (h : laidMet Tryz.prog (("deadbolt/give.states", Rows.laid_deadbolt_give_states) :: rest) W) : Glob W := by
 obtain⟨ps,⟨g,t,cs,fuel,p,q,hg,ht,hv,hd,_,_⟩,_⟩:=h
 obtain rfl := Option.some.inj ((show Tryz.prog.globalNamed "deadbolt/give.states" = some 0 by kernel_rfl).symm.trans hg)
 obtain rfl:=Option.some.inj ((show (Tryz.prog.globals[0]?).map (·.type)=some 263 by kernel_rfl).symm.trans ht)
 obtain⟨xs,m,_,ex,hcl,hl,hel⟩:=DataW.trod_array Tryz.underlying263 hd
 have c1:Tryz.prog.cellsOf 3=1:=by kernel_rfl
 have c8:Tryz.prog.cellsOf 263=8:=by kernel_rfl
 rw [c8] at hcl
 rw [c1] at hel
 have e3:xs.map (·.1)=[.lit (.int .i64 0),.lit (.int .i64 3),.lit (.int .i64 1),.lit (.int .i64 3),.lit (.int .i64 2),.lit (.int .i64 3),.lit (.int .i64 2),.lit (.int .i64 3)]:=(DataW.agg.inj (Prod.mk.inj ex).1).symm
 have each:∀ i (z:Int),i<8->(xs.map (·.1))[i]?=some (.lit (.int .i64 z))->cs.toList[i]?=some (.int .i64 z):=by
  intro i z hi hb
  have hE:=hel i hi
  rw [List.getElem?_eq_getElem (by omega)] at hE
  obtain⟨s,e1,e2,_⟩:=DataW.trod_int Tryz.underlying3 hE
  rw [List.getElem?_map,List.getElem?_eq_getElem (by omega:i<xs.length),e2] at hb
  simp only [Option.map_some,Option.some.injEq,DataW.lit.injEq,Lit.int.injEq,true_and] at hb
  rw [<- hb]
  have h0:((cs.toList.drop (i*1)).take 1)[0]?=some (.int .i64 s):=by rw [e1];rfl
  simpa using h0
 unfold Glob
 rw [hv]
 refine congrArg some (Array.ext' (List.ext_getElem? λ i=>?_))
 match i with
 | 0=>exact each 0 _ (by omega) (by rw [e3];rfl)
 | 1=>exact each 1 _ (by omega) (by rw [e3];rfl)
 | 2=>exact each 2 _ (by omega) (by rw [e3];rfl)
 | 3=>exact each 3 _ (by omega) (by rw [e3];rfl)
 | 4=>exact each 4 _ (by omega) (by rw [e3];rfl)
 | 5=>exact each 5 _ (by omega) (by rw [e3];rfl)
 | 6=>exact each 6 _ (by omega) (by rw [e3];rfl)
 | 7=>exact each 7 _ (by omega) (by rw [e3];rfl)
 | n+8 =>
  rw [List.getElem?_eq_none (by omega),List.getElem?_eq_none (by simp)]
theorem globL (h:laidMetH Tryz.prog laidL W) (hs:W.ShapedOpen Tryz.prog):Glob W:=states_of (metL h)
end
end P15
end
section
open Go.ChangeShapes Go.WideShapes Go.ChangeAt Go.RowKit Go.Joins
namespace P16
abbrev laidL:=P15.laidL
theorem laidL_shaped (os:Os) (args:Array Value):((World.laidAll Tryz.prog os laidL).forCall (λ _ _=>0) ⟨#[],args,[]⟩).Shaped Tryz.prog:=P15.laidL_shaped os args
theorem laidL_met (os:Os) (args:Array Value):laidMetH Tryz.prog laidL ((World.laidAll Tryz.prog os laidL).forCall (λ _ _=>0) ⟨#[],args,[]⟩).memory:=P15.laidL_met os args
theorem globL {W:World} (h:laidMetH Tryz.prog laidL W) (hs:W.ShapedOpen Tryz.prog):P15.Glob W:=P15.globL h hs
end P16
end
section
open Go.ChangeShapes Go.WideShapes Go.ChangeAt Go.RowKit Go.Joins
theorem MachineHeld_lifted (os:Os) (started:os.Started) (H:Type) (enc:TypeId×Value->H) :
 ReturnsInHanded {} Tryz.checked os 3 .any (λ w args=>(Rows.machineHeldSpec.pre enc Tryz.prog Tryz.f3 Rows.machineHeldRow.domain false w args/\laidMetH Tryz.prog P16.laidL w)/\sizedMet enc Tryz.prog Tryz.f3 (OpenSpec.ofChange Rows.machineHeldSpec) false w args)
  (Rows.machineHeldSpec.post enc Tryz.prog Tryz.f3 false true false false):=by
 refine LW.returns_laid_shaped (C:=Tryz.checked) (X:=λ w _=>laidMetH Tryz.prog P16.laidL w) (λ _ _ _ hh h=>laidMetH.of_heap hh h) own started (by kernel_rfl) Tryz.func3
  (ChangeSpec.witness_shaped (enc:=enc) (C:=Tryz.checked) (os:=os) (X:=λ w _=>laidMetH Tryz.prog P16.laidL w) false (World.laidAll Tryz.prog os P16.laidL) #[.slice none 0 0,.slice none 0 0] 8 (World.laidAll_os _ _ _) (P16.laidL_shaped os _) (by kernel_rfl) (by kernel_rfl) (by kernel_rfl) (P16.laidL_met os _)) ?_
 intro W base args ds gs before hval0 hW hL hS
 have hval:∀ (j:Nat) t v,Tryz.f3.params[j]?=some t->args[j]?=some v->Value.okWide Tryz.prog W .any base t v:=hval0
 have hW':=hW
 obtain⟨p,q,hA0,hV,rfl,hfz,hnd⟩:=hW
 have hA:DataW.TrodAll enc Tryz.prog W 0 (λ _=>true) true Tryz.f3.params.toList args.toList ds p:=hA0
 rw [Tryz.params3] at hA hval
 have hK:=hA
 obtain⟨v0,vs0,d0,ds0,p0,q0,hargs,rfl,hp,h0,r0⟩:=trodAll_cons hA
 obtain⟨v1,vs1,d1,ds1,p1,q1,rfl,rfl,rfl,h1,r1⟩:=trodAll_cons r0
 obtain⟨rfl,rfl,rfl⟩:=trodAll_nil r1
 obtain rfl:args=#[v0,v1]:=by cases args;simp_all
 obtain⟨rfl,rfl⟩:=trodVars_none hV
 obtain⟨A0,n0,c0,R0,rfl,hc0,hn0,hm0⟩:=P12.open_acts2 (hval 0 22 v0 rfl rfl) h0
 obtain⟨A1,n1,c1,l1,rfl,hc1,hn1,hm1⟩:=open_ints (hval 1 23 v1 rfl rfl) h1
 clear hA0 hval0
 refine (P16.MachineHeld_walk P16.mach (P16.globL hL hS) hc0 hn0 hm0 hc1 hn1 hm1).mono λ e W' ⟨he,hg⟩=>?_
 subst he
 exact⟨_,rfl,post_below (pa:=p) (pv:=[]) hW' (λ _ _ _=>(trodAll_cons_mk (shut_bool Tryz.underlying4 _) trodAll_mk0))
  (λ sp hs=>trodAll_stays laidOut hg sp (by kernel_rfl) hK (λ x hx=>hW'.lt x (List.mem_append_left _ hx)) (λ x hx=>hs x (List.mem_append_left _ hx))) (λ _ _=>rfl) rfl
  hg (ok_one (by kernel_rfl) rfl (okWide_bool_mk Tryz.underlying4 _))⟩
theorem MachineHeld_closed:joinedFacts Tryz.pinned.checked.prog 3 Tryz.f3 Rows.machineHeldSpec Rows.machineHeldRow=true:=by kernel_rfl
theorem MachineHeld_over:Rows.machineHeldRow.holds Tryz.pinned (OpenSpec.ofChange Rows.machineHeldSpec) :=
 OpenClaim.holds_of_wide 3 Tryz.f3 rfl rfl rfl rfl rfl rfl rfl ⟨rfl,rfl,rfl,rfl,rfl⟩ rfl rfl rfl rfl rfl (by kernel_rfl) Tryz.func3 MachineHeld_closed
  (of_decide_eq_true (by kernel_rfl)) (by unfold Func.isWrapper;first | (rw [if_pos (by decide +kernel)];kernel_rfl) | (rw [if_neg (by decide +kernel)];exact⟨rfl,rfl⟩))
  (λ os started H enc _=>MachineHeld_lifted os started H enc)
theorem MachineHeld_card:Rows.MachineHeldCardSaid :=
 Claim7.holds_tied_plain_at .later [] [.data] true _ true
  MachineHeld_over (λ _ h=>by cases h) (by kernel_rfl) (λ _ h=>by cases h) machineHeld_row_tie rfl ⟨rfl,rfl⟩ (by kernel_rfl) rfl
  (λ f fn hf hfn=>by
    obtain rfl : f = 3 := Option.some.inj ((show Tryz.prog.funcNamed "deadbolt/deadboltlaw16.MachineHeld" = some 3 by kernel_rfl).symm.trans hf) |>.symm
    obtain rfl:fn=Tryz.f3:=(Option.some.inj (Tryz.func3.symm.trans hfn)).symm
    exact⟨by kernel_rfl,λ j t ht=>by
     rw [Tryz.params3] at ht
     have hm:t∈[22,23]:=by
      have:=Array.mem_of_getElem? ht
      simpa using this
     have hall:([22,23]:List TypeId).all (λ t=>Tryz.prog.wantsStandIn t==false)=true:=by kernel_rfl
     have hw:=List.all_eq_true.1 hall t hm
     exact beq_iff_eq.1 hw⟩)
  (by kernel_rfl)
#print axioms MachineHeld_card
end
end Go.Proofs.YtainfijdhcehlaaGreatDoor
