/-
  RunStill: for every world and every list of ints, ticks alone bring nothing about but time, and who is not there does nothing; a world in which all are done does nothing any more; a world that may not be is refused: the law answers true, as long as the array give.states holds what the program's text lays there (the card's listed variable, tied).
-/
import Derived.Test.YtainfijdhcehlaaGreatDoorRR6
import Derived.Test.YtainfijdhcehlaaGreatDoorCards
import Derived.Test.YtainfijdhcehlaaGreatDoorTie
set_option linter.unusedVariables false
set_option linter.unusedSimpArgs false
set_option maxRecDepth 100000
set_option maxHeartbeats 8000000
namespace Go.Proofs.YtainfijdhcehlaaGreatDoor
open Lib (hid)
section
open Go.ChangeShapes Go.WideShapes Go.ChangeAt Go.RowKit Go.Joins
theorem RunStill_lifted (os:Os) (started:os.Started) (H:Type) (enc:TypeId×Value->H) :
 ReturnsInHanded {} Tryz.checked os 11 .any (λ w args=>(Rows.runStillSpec.pre enc Tryz.prog Tryz.f11 Rows.runStillRow.domain false w args/\laidMetH Tryz.prog P16.laidL w)/\sizedMet enc Tryz.prog Tryz.f11 (OpenSpec.ofChange Rows.runStillSpec) false w args)
  (Rows.runStillSpec.post enc Tryz.prog Tryz.f11 false true false false):=by
 refine LW.returns_laid_shaped (C:=Tryz.checked) (X:=λ w _=>laidMetH Tryz.prog P16.laidL w) (λ _ _ _ hh h=>laidMetH.of_heap hh h) own started (by kernel_rfl) Tryz.func11
  (ChangeSpec.witness_shaped (enc:=enc) (C:=Tryz.checked) (os:=os) (X:=λ w _=>laidMetH Tryz.prog P16.laidL w) false (World.laidAll Tryz.prog os P16.laidL) #[.agg #[.int .i64 0,.slice none 0 0,.slice none 0 0,.slice none 0 0,.slice none 0 0,.int .i64 0],.slice none 0 0] 8 (World.laidAll_os _ _ _) (P16.laidL_shaped os _) (by kernel_rfl) (by kernel_rfl) (by kernel_rfl) (P16.laidL_met os _)) ?_
 intro W base args ds gs before hval0 hW hL hS;have hval:∀ (j:Nat) t v,Tryz.f11.params[j]?=some t->args[j]?=some v->Value.okWide Tryz.prog W .any base t v:=hval0;have hW':=hW;obtain⟨p,q,hA0,hV,rfl,hfz,hnd⟩:=hW;have hA:DataW.TrodAll enc Tryz.prog W 0 (λ _=>true) true Tryz.f11.params.toList args.toList ds p:=hA0;rw [Tryz.params11] at hA hval;have hK:=hA;obtain⟨v0,vs0,d0,ds0,p0,q0,hargs,rfl,hp,h0,r0⟩:=trodAll_cons hA;obtain⟨v1,vs1,d1,ds1,p1,q1,rfl,rfl,rfl,h1,r1⟩:=trodAll_cons r0;obtain⟨rfl,rfl,rfl⟩:=trodAll_nil r1;obtain rfl:args=#[v0,v1]:=by cases args;simp_all
 obtain⟨rfl,rfl⟩:=trodVars_none hV;obtain⟨r0,ω0,rfl,hw0⟩:=P16.open_world (hval 0 29 v0 rfl rfl) h0;obtain⟨A1,n1,c1,l1,rfl,hc1,hn1,hm1⟩:=open_ints (hval 1 23 v1 rfl rfl) h1;clear hA0 hval0;refine (P17.RunStill_walk P16.mach (P16.globL hL hS) hw0 hc1 hn1 hm1).mono λ e W' ⟨he,hg⟩=>?_
 subst he;exact⟨_,rfl,post_below (pa:=p) (pv:=[]) hW' (λ _ _ _=>(trodAll_cons_mk (shut_bool Tryz.underlying4 _) trodAll_mk0))
  (λ sp hs=>trodAll_stays laidOut hg sp (by kernel_rfl) hK (λ x hx=>hW'.lt x (List.mem_append_left _ hx)) (λ x hx=>hs x (List.mem_append_left _ hx))) (λ _ _=>rfl) rfl
  hg (ok_one (by kernel_rfl) rfl (okWide_bool_mk Tryz.underlying4 _))⟩
theorem RunStill_closed:joinedFacts Tryz.pinned.checked.prog 11 Tryz.f11 Rows.runStillSpec Rows.runStillRow=true:=by kernel_rfl
theorem RunStill_over:Rows.runStillRow.holds Tryz.pinned (OpenSpec.ofChange Rows.runStillSpec) :=
 OpenClaim.holds_of_wide 11 Tryz.f11 rfl rfl rfl rfl rfl rfl rfl ⟨rfl,rfl,rfl,rfl,rfl⟩ rfl rfl rfl rfl rfl (by kernel_rfl) Tryz.func11 RunStill_closed
  (of_decide_eq_true (by kernel_rfl)) (by unfold Func.isWrapper;first | (rw [if_pos (by decide +kernel)];kernel_rfl) | (rw [if_neg (by decide +kernel)];exact⟨rfl,rfl⟩))
  (λ os started H enc _=>RunStill_lifted os started H enc)
theorem RunStill_card:Rows.RunStillCardSaid :=
 Claim7.holds_tied_plain_at .later [] [.data] true _ true
  RunStill_over (λ _ h=>by cases h) (by kernel_rfl) (λ _ h=>by cases h) runStill_row_tie rfl ⟨rfl,rfl⟩ (by kernel_rfl) rfl
  (λ f fn hf hfn=>by
    obtain rfl : f = 11 := Option.some.inj ((show Tryz.prog.funcNamed "deadbolt/deadboltlaw17.RunStill" = some 11 by kernel_rfl).symm.trans hf) |>.symm
    obtain rfl:fn=Tryz.f11:=(Option.some.inj (Tryz.func11.symm.trans hfn)).symm;exact⟨by kernel_rfl,λ j t ht=>by
     rw [Tryz.params11] at ht;have hm:t∈[29,23]:=by
      have:=Array.mem_of_getElem? ht;simpa using this
     have hall:([29,23]:List TypeId).all (λ t=>Tryz.prog.wantsStandIn t==false)=true:=by kernel_rfl
     have hw:=List.all_eq_true.1 hall t hm;exact beq_iff_eq.1 hw⟩)
  (by kernel_rfl)
#print axioms RunStill_card
end
end Go.Proofs.YtainfijdhcehlaaGreatDoor
