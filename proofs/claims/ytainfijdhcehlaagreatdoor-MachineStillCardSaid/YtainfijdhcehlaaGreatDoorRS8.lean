/-
  MachineStill: for every world and any two ints, who is parked, or done, or not there, makes no step, and a world that stopped goes on neither by steps nor by ticks: the law answers true, as long as the array give.states holds what the program's text lays.
-/
import Derived.Test.YtainfijdhcehlaaGreatDoorRS7
import Derived.Test.YtainfijdhcehlaaGreatDoorCards
import Derived.Test.YtainfijdhcehlaaGreatDoorTie
set_option linter.unusedVariables false
set_option linter.unusedSimpArgs false
set_option maxRecDepth 100000
set_option maxHeartbeats 8000000
namespace Go.Proofs.YtainfijdhcehlaaGreatDoor
open Lib (hid)
section
open Go.ChangeShapes Go.WideShapes Go.ChangeAt Go.RowKit Go.Joins
namespace P15
def laidL : List (String × DataW Unit) := [("deadbolt/give.states", Rows.laid_deadbolt_give_states)]
theorem laidL_shaped (os:Os) (args:Array Value):((World.laidAll Tryz.prog os laidL).forCall (λ _ _=>0) ⟨#[],args,[]⟩).Shaped Tryz.prog :=
 World.shaped_of_ZipB (by kernel_rfl) (by kernel_rfl)
theorem laidL_met (os:Os) (args:Array Value):laidMetH Tryz.prog laidL ((World.laidAll Tryz.prog os laidL).forCall (λ _ _=>0) ⟨#[],args,[]⟩).memory:=by
 rw [MakeChecks.laidMetH_plain _ _ _ (by kernel_rfl)];exact laidMet_laidAll _ (by kernel_rfl) (by kernel_rfl)
section
variable {W:World}
theorem metL (h:laidMetH Tryz.prog laidL W):laidMet Tryz.prog laidL W:=by
 rwa [MakeChecks.laidMetH_plain _ _ _ (by kernel_rfl)] at h
theorem states_of {rest : List (String × DataW Unit)} (h : laidMet Tryz.prog (("deadbolt/give.states", Rows.laid_deadbolt_give_states) :: rest) W) : Glob W := by
 obtain ⟨ps, ⟨g, t, cs, fuel, p, q, hg, ht, hv, hd, _, _⟩, _⟩ := h;obtain rfl := Option.some.inj ((show Tryz.prog.globalNamed "deadbolt/give.states" = some 0 by kernel_rfl).symm.trans hg)
 obtain rfl:=Option.some.inj ((show (Tryz.prog.globals[0]?).map (·.type)=some 263 by kernel_rfl).symm.trans ht);obtain⟨xs,m,_,ex,hcl,hl,hel⟩:=DataW.trod_array Tryz.underlying263 hd;have c1:Tryz.prog.cellsOf 3=1:=by kernel_rfl
 have c8:Tryz.prog.cellsOf 263=8:=by kernel_rfl
 rw [c8] at hcl;rw [c1] at hel;have e3:xs.map (·.1)=[.lit (.int .i64 0),.lit (.int .i64 3),.lit (.int .i64 1),.lit (.int .i64 3),.lit (.int .i64 2),.lit (.int .i64 3),.lit (.int .i64 2),.lit (.int .i64 3)]:=(DataW.agg.inj (Prod.mk.inj ex).1).symm;have each:∀ i (z:Int),i<8->(xs.map (·.1))[i]?=some (.lit (.int .i64 z))->cs.toList[i]?=some (.int .i64 z):=by
  intro i z hi hb;have hE:=hel i hi;rw [List.getElem?_eq_getElem (by omega)] at hE;obtain⟨s,e1,e2,_⟩:=DataW.trod_int Tryz.underlying3 hE;rw [List.getElem?_map,List.getElem?_eq_getElem (by omega:i<xs.length),e2] at hb;simp only [Option.map_some,Option.some.injEq,DataW.lit.injEq,Lit.int.injEq,true_and] at hb;rw [<- hb];have h0:((cs.toList.drop (i*1)).take 1)[0]?=some (.int .i64 s):=by rw [e1];rfl
  simpa using h0
 unfold Glob;rw [hv];refine congrArg some (Array.ext' (List.ext_getElem? λ i=>?_))
 match i with
 | 0=>exact each 0 _ (by omega) (by rw [e3];rfl)
 | 1=>exact each 1 _ (by omega) (by rw [e3];rfl)
 | 2=>exact each 2 _ (by omega) (by rw [e3];rfl)
 | 3=>exact each 3 _ (by omega) (by rw [e3];rfl)
 | 4=>exact each 4 _ (by omega) (by rw [e3];rfl)
 | 5=>exact each 5 _ (by omega) (by rw [e3];rfl)
 | 6=>exact each 6 _ (by omega) (by rw [e3];rfl)
 | 7=>exact each 7 _ (by omega) (by rw [e3];rfl)
 | n+8 =>
  rw [List.getElem?_eq_none (by omega),List.getElem?_eq_none (by simp)]
theorem globL (h:laidMetH Tryz.prog laidL W) (hs:W.ShapedOpen Tryz.prog):Glob W:=states_of (metL h)
end
end P15
end
section
open Go.ChangeShapes Go.WideShapes Go.ChangeAt Go.RowKit Go.Joins
namespace P16
abbrev laidL:=P15.laidL
theorem laidL_shaped (os:Os) (args:Array Value):((World.laidAll Tryz.prog os laidL).forCall (λ _ _=>0) ⟨#[],args,[]⟩).Shaped Tryz.prog:=P15.laidL_shaped os args
theorem laidL_met (os:Os) (args:Array Value):laidMetH Tryz.prog laidL ((World.laidAll Tryz.prog os laidL).forCall (λ _ _=>0) ⟨#[],args,[]⟩).memory:=P15.laidL_met os args
theorem globL {W:World} (h:laidMetH Tryz.prog laidL W) (hs:W.ShapedOpen Tryz.prog):P15.Glob W:=P15.globL h hs
end P16
end
section
open Go.ChangeShapes Go.WideShapes Go.ChangeAt Go.RowKit Go.Joins
theorem MachineStill_lifted (os:Os) (started:os.Started) (H:Type) (enc:TypeId×Value->H) :
 ReturnsInHanded {} Tryz.checked os 8 .any (λ w args=>(Rows.machineStillSpec.pre enc Tryz.prog Tryz.f8 Rows.machineStillRow.domain false w args/\laidMetH Tryz.prog P16.laidL w)/\sizedMet enc Tryz.prog Tryz.f8 (OpenSpec.ofChange Rows.machineStillSpec) false w args)
  (Rows.machineStillSpec.post enc Tryz.prog Tryz.f8 false true false false):=by
 refine LW.returns_laid_shaped (C:=Tryz.checked) (X:=λ w _=>laidMetH Tryz.prog P16.laidL w) (λ _ _ _ hh h=>laidMetH.of_heap hh h) own started (by kernel_rfl) Tryz.func8
  (ChangeSpec.witness_shaped (enc:=enc) (C:=Tryz.checked) (os:=os) (X:=λ w _=>laidMetH Tryz.prog P16.laidL w) false (World.laidAll Tryz.prog os P16.laidL) #[.agg #[.int .i64 0,.slice none 0 0,.slice none 0 0,.slice none 0 0,.slice none 0 0,.int .i64 0],.int .i64 0,.int .i64 0] 8 (World.laidAll_os _ _ _) (P16.laidL_shaped os _) (by kernel_rfl) (by kernel_rfl) (by kernel_rfl) (P16.laidL_met os _)) ?_
 intro W base args ds gs before hval0 hW hL hS;have hval:∀ (j:Nat) t v,Tryz.f8.params[j]?=some t->args[j]?=some v->Value.okWide Tryz.prog W .any base t v:=hval0;have hW':=hW;obtain⟨p,q,hA0,hV,rfl,hfz,hnd⟩:=hW;have hA:DataW.TrodAll enc Tryz.prog W 0 (λ _=>true) true Tryz.f8.params.toList args.toList ds p:=hA0;rw [Tryz.params8] at hA hval;have hK:=hA;obtain⟨v0,vs0,d0,ds0,p0,q0,hargs,rfl,hp,h0,r0⟩:=trodAll_cons hA;obtain⟨v1,vs1,d1,ds1,p1,q1,rfl,rfl,rfl,h1,r1⟩:=trodAll_cons r0;obtain⟨v2,vs2,d2,ds2,p2,q2,rfl,rfl,rfl,h2,r2⟩:=trodAll_cons r1;obtain⟨rfl,rfl,rfl⟩:=trodAll_nil r2;obtain rfl:args=#[v0,v1,v2]:=by cases args;simp_all
 obtain⟨rfl,rfl⟩:=trodVars_none hV;obtain⟨r0,ω0,rfl,hw0⟩:=P16.open_world (hval 0 29 v0 rfl rfl) h0;obtain⟨a1,rfl,rfl,rfl,w1⟩:=open_int Tryz.underlying3 (hval 1 3 v1 rfl rfl) h1;obtain⟨a2,rfl,rfl,rfl,w2⟩:=open_int Tryz.underlying3 (hval 2 3 v2 rfl rfl) h2;clear hA0 hval0;refine (P16.MachineStill_walk P16.mach (P16.globL hL hS) hw0 (wfb w1) (wfb w2)).mono λ e W' ⟨he,hg⟩=>?_
 subst he;exact⟨_,rfl,post_below (pa:=p) (pv:=[]) hW' (λ _ _ _=>(trodAll_cons_mk (shut_bool Tryz.underlying4 _) trodAll_mk0))
  (λ sp hs=>trodAll_stays laidOut hg sp (by kernel_rfl) hK (λ x hx=>hW'.lt x (List.mem_append_left _ hx)) (λ x hx=>hs x (List.mem_append_left _ hx))) (λ _ _=>rfl) rfl
  hg (ok_one (by kernel_rfl) rfl (okWide_bool_mk Tryz.underlying4 _))⟩
theorem MachineStill_closed:joinedFacts Tryz.pinned.checked.prog 8 Tryz.f8 Rows.machineStillSpec Rows.machineStillRow=true:=by kernel_rfl
theorem MachineStill_over:Rows.machineStillRow.holds Tryz.pinned (OpenSpec.ofChange Rows.machineStillSpec) :=
 OpenClaim.holds_of_wide 8 Tryz.f8 rfl rfl rfl rfl rfl rfl rfl ⟨rfl,rfl,rfl,rfl,rfl⟩ rfl rfl rfl rfl rfl (by kernel_rfl) Tryz.func8 MachineStill_closed
  (of_decide_eq_true (by kernel_rfl)) (by unfold Func.isWrapper;first | (rw [if_pos (by decide +kernel)];kernel_rfl) | (rw [if_neg (by decide +kernel)];exact⟨rfl,rfl⟩))
  (λ os started H enc _=>MachineStill_lifted os started H enc)
theorem MachineStill_card:Rows.MachineStillCardSaid :=
 Claim7.holds_tied_plain_at .later [] [.data] true _ true
  MachineStill_over (λ _ h=>by cases h) (by kernel_rfl) (λ _ h=>by cases h) machineStill_row_tie rfl ⟨rfl,rfl⟩ (by kernel_rfl) rfl
  (λ f fn hf hfn=>by
    obtain rfl : f = 8 := Option.some.inj ((show Tryz.prog.funcNamed "deadbolt/deadboltlaw16.MachineStill" = some 8 by kernel_rfl).symm.trans hf) |>.symm
    obtain rfl:fn=Tryz.f8:=(Option.some.inj (Tryz.func8.symm.trans hfn)).symm;exact⟨by kernel_rfl,λ j t ht=>by
     rw [Tryz.params8] at ht;have hm:t∈[29,3,3]:=by
      have:=Array.mem_of_getElem? ht;simpa using this
     have hall:([29,3,3]:List TypeId).all (λ t=>Tryz.prog.wantsStandIn t==false)=true:=by kernel_rfl
     have hw:=List.all_eq_true.1 hall t hm;exact beq_iff_eq.1 hw⟩)
  (by kernel_rfl)
#print axioms MachineStill_card
end
end Go.Proofs.YtainfijdhcehlaaGreatDoor
