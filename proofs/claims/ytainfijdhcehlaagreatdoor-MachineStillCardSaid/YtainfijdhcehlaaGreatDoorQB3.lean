/-
  A part of the proof.
-/
import Derived.Test.YtainfijdhcehlaaGreatDoorQB1
import Derived.Test.YtainfijdhcehlaaGreatDoorQB2
import Derived.Deep.RegionHeld3
import Derived.Deep.QuietTactic
import Derived.BigQuiet
import Derived.IntWalk
import Derived.Shelf.SlGeneric
import Derived.Shelf.SortM.Plain
import Derived.Shelf.SortM.SortNone
import Derived.Ground.SlgmProg
import Derived.Test.YtainfijdhcehlaaGreatDoorProg
import Derived.Outline
set_option linter.unusedVariables false
set_option linter.unusedSimpArgs false
set_option maxRecDepth 100000
set_option maxHeartbeats 8000000
namespace Go.Proofs.YtainfijdhcehlaaGreatDoor
open Lib (hid)
section
open Go.ChangeShapes Go.WideShapes Go.ChangeAt Go.RowKit
instance (a:Int):Decidable (IsKey a):=by unfold IsKey;infer_instance
theorem yes_no (p:Prop):∃ b:Bool,(b=true↔p):=by
 by_cases h:p
 . exact⟨true,by simp [h]⟩
 . exact⟨false,by simp [h]⟩
def rf (a:Int):Int:=if IsKey a then rt a else 0
def re (a:Int):Int:=if IsKey a then 0 else 1
theorem rf_key {a:Int} (h:IsKey a):rf a=rt a:=if_pos h
theorem re_key {a:Int} (h:IsKey a):re a=0:=if_pos h
theorem rf_no {a:Int} (h:¬ IsKey a):rf a=0:=if_neg h
theorem re_no {a:Int} (h:¬ IsKey a):re a=1:=if_neg h
theorem Root_is (a:Int) (w:World):Calls Tryz.prog 168 #[.int .i64 a] w λ e w'=>e=.returned (.tuple #[.int .i64 (rf a),.int .i64 (re a)])/\w'=w:=by
 by_cases h:IsKey a
 . rw [rf_key h,re_key h]
   have h1:¬ a<0:=by have:=h.1;omega
   have h2:¬ 4294967295<a:=by have:=h.2;omega
   have h3:a.tdiv 8=a / 8:=Int.tdiv_eq_ediv_of_nonneg h.1
   have h4:(a / 8).tmod 251=rt a:=by rw [Int.tmod_eq_emod_of_nonneg (by have:=h.1;omega)];rfl
   have h5:IntKind.i64.wrap (a / 8)=a / 8:=wrap_id (by have:=h.1;omega) (by have:=h.2;omega)
   go_enter Tryz.func168,Tryz.ntmps168
   go_wp2_with fail
   go_ret2
   exact⟨rfl,rfl⟩
 . rw [rf_no h,re_no h]
   by_cases h1:a<0
   . go_enter Tryz.func168,Tryz.ntmps168
     go_wp2_with fail
     go_ret2
     exact⟨rfl,rfl⟩
   . have h2:4294967295<a:=by unfold IsKey at h;omega
     go_enter Tryz.func168,Tryz.ntmps168
     go_wp2_with fail
     go_ret2
     exact⟨rfl,rfl⟩
section
variable {w:World} {A:Option Addr} {n c:Nat} {l:List Int} {a q:Int}
theorem rsound_is' (hm:IMem w A n l) (hc:n<=c) (hn:n<=9223372036854775807) {v:Bool} (hv:v=true↔SOk ⟨a,q,A,n,c,l⟩) :
 Calls Tryz.prog 123 #[.agg #[.int .i64 a,.int .i64 q,.slice A n c]] w λ e w'=>e=.returned (.bool v)/\Gr w w':=by
 have g0:=(Gr.refl w).al (.cells #[.int .i64 a,.int .i64 q,.slice A n c] 91)
 have hlen:=hm.1
 have hR:=λ W=>Root_is a W
 obtain⟨r,hr⟩:∃ r,rf a=r:=⟨_,rfl⟩
 rw [hr] at hR
 by_cases hk:IsKey a
 . rw [re_key hk] at hR
   have KR:=hid hR
   clear hR hr
   obtain⟨b,hb⟩:=yes_no (L7.Ln l)
   have KL:=hid (L7.Right_is (c:=c) (hm.gr g0) hc hn hb)
   by_cases h1:0<=q
   . by_cases h2:q<=2147483647
     . cases b with
       | true =>
        have hl:=hb.1 rfl
        clear hb
        by_cases h3:q=0
        . obtain rfl:v=true:=hv.2 ⟨hk,h1,h2,hl,.inl h3⟩
          clear hv hk hm hl hlen
          subst h3
          go_enter Tryz.func123,Tryz.ntmps123
          go_wp2_with fail
          with_reducible refine (KR.out _).mono ?_
          rintro e w1 ⟨rfl,rfl⟩
          go_wp2_with fail
          with_reducible refine KL.out.mono ?_
          rintro e w1 ⟨rfl,rfl⟩
          go_wp2_with fail
          go_ret
          exact⟨rfl,g0⟩
        . have h3':(q==0)=false:=beq_eq_false_iff_ne.2 h3
          by_cases h4:n=0
          . obtain rfl:v=true:=hv.2 ⟨hk,h1,h2,hl,.inr (List.eq_nil_of_length_eq_zero (show l.length=0 from by omega))⟩
            clear hv hk hm hl hlen h3
            subst h4
            go_enter Tryz.func123,Tryz.ntmps123
            go_wp2_with fail
            with_reducible refine (KR.out _).mono ?_
            rintro e w1 ⟨rfl,rfl⟩
            go_wp2_with fail
            with_reducible refine KL.out.mono ?_
            rintro e w1 ⟨rfl,rfl⟩
            go_wp2_with fail
            go_ret
            exact⟨rfl,g0⟩
          . obtain rfl:v=false:=by
             cases v
             . rfl
             . rcases (hv.1 rfl).2.2.2.2 with h | h
               . exact absurd h h3
               . rw [show l=[] from h] at hlen;exact absurd hlen.symm h4
            have h4':((n:Int)==0)=false:=beq_eq_false_iff_ne.2 (by omega)
            clear hv hk hm hl hlen h3 h4
            go_enter Tryz.func123,Tryz.ntmps123
            go_wp2_with fail
            with_reducible refine (KR.out _).mono ?_
            rintro e w1 ⟨rfl,rfl⟩
            go_wp2_with fail
            with_reducible refine KL.out.mono ?_
            rintro e w1 ⟨rfl,rfl⟩
            go_wp2_with fail
            go_ret
            exact⟨rfl,g0⟩
       | false =>
        obtain rfl:v=false:=by
         cases v
         . rfl
         . exact absurd (hb.2 (hv.1 rfl).2.2.2.1) (by simp)
        clear hv hk hm hb hlen
        go_enter Tryz.func123,Tryz.ntmps123
        go_wp2_with fail
        with_reducible refine (KR.out _).mono ?_
        rintro e w1 ⟨rfl,rfl⟩
        go_wp2_with fail
        with_reducible refine KL.out.mono ?_
        rintro e w1 ⟨rfl,rfl⟩
        go_wp2_with fail
        go_ret
        exact⟨rfl,g0⟩
     . obtain rfl:v=false:=by
        cases v
        . rfl
        . exact absurd (hv.1 rfl).2.2.1 h2
       clear hv hk hm hb hlen KL
       go_enter Tryz.func123,Tryz.ntmps123
       go_wp2_with fail
       with_reducible refine (KR.out _).mono ?_
       rintro e w1 ⟨rfl,rfl⟩
       go_wp2_with fail
       go_ret
       exact⟨rfl,g0⟩
   . obtain rfl:v=false:=by
      cases v
      . rfl
      . exact absurd (hv.1 rfl).2.1 h1
     clear hv hk hm hb hlen KL
     go_enter Tryz.func123,Tryz.ntmps123
     go_wp2_with fail
     with_reducible refine (KR.out _).mono ?_
     rintro e w1 ⟨rfl,rfl⟩
     go_wp2_with fail
     go_ret
     exact⟨rfl,g0⟩
 . rw [re_no hk] at hR
   have KR:=hid hR
   clear hR hr
   obtain rfl:v=false:=by
    cases v
    . rfl
    . exact absurd (hv.1 rfl).1 hk
   clear hv hk hm hlen
   by_cases h1:0<=q
   . by_cases h2:q<=2147483647
     . go_enter Tryz.func123,Tryz.ntmps123
       go_wp2_with fail
       with_reducible refine (KR.out _).mono ?_
       rintro e w1 ⟨rfl,rfl⟩
       go_wp2_with fail
       go_ret
       exact⟨rfl,g0⟩
     . go_enter Tryz.func123,Tryz.ntmps123
       go_wp2_with fail
       with_reducible refine (KR.out _).mono ?_
       rintro e w1 ⟨rfl,rfl⟩
       go_wp2_with fail
       go_ret
       exact⟨rfl,g0⟩
   . go_enter Tryz.func123,Tryz.ntmps123
     go_wp2_with fail
     with_reducible refine (KR.out _).mono ?_
     rintro e w1 ⟨rfl,rfl⟩
     go_wp2_with fail
     go_ret
     exact⟨rfl,g0⟩
theorem rsound_is {x:SV} (h:x.ok w) {v:Bool} (hv:v=true↔SOk x) :
 Calls Tryz.prog 123 #[.agg #[.int .i64 x.addr,.int .i64 x.cnt,.slice x.A x.n x.c]] w λ e w'=>e=.returned (.bool v)/\Gr w w' :=
 rsound_is' h.2.2.1 h.2.2.2.1 h.lt hv
theorem empty_is' (hlen:l.length=n) {v:Bool} (hv:v=true↔SNil ⟨a,q,A,n,c,l⟩) (w:World) :
 Calls Tryz.prog 124 #[.agg #[.int .i64 a,.int .i64 q,.slice A n c]] w λ e w'=>e=.returned (.bool v)/\Gr w w':=by
 have g0:=(Gr.refl w).al (.cells #[.int .i64 a,.int .i64 q,.slice A n c] 91)
 by_cases h3:q=0
 . by_cases h4:n=0
   . obtain rfl:v=true:=hv.2 ⟨h3,List.eq_nil_of_length_eq_zero (show l.length=0 from by omega)⟩
     clear hv hlen
     subst h3 h4
     go_enter Tryz.func124,Tryz.ntmps124
     go_wp2_with fail
     go_ret
     exact⟨rfl,g0⟩
   . obtain rfl:v=false:=by
      cases v
      . rfl
      . rw [show l=[] from (hv.1 rfl).2] at hlen;exact absurd hlen.symm h4
     have h4':((n:Int)==0)=false:=beq_eq_false_iff_ne.2 (by omega)
     clear hv hlen h4
     subst h3
     go_enter Tryz.func124,Tryz.ntmps124
     go_wp2_with fail
     go_ret
     exact⟨rfl,g0⟩
 . obtain rfl:v=false:=by
    cases v
    . rfl
    . exact absurd (hv.1 rfl).1 h3
   have h3':(q==0)=false:=beq_eq_false_iff_ne.2 h3
   clear hv hlen h3
   go_enter Tryz.func124,Tryz.ntmps124
   go_wp2_with fail
   go_ret
   exact⟨rfl,g0⟩
theorem empty_is {x:SV} (h:x.ok w) {v:Bool} (hv:v=true↔SNil x) (w':World) :
 Calls Tryz.prog 124 #[.agg #[.int .i64 x.addr,.int .i64 x.cnt,.slice x.A x.n x.c]] w' λ e w''=>e=.returned (.bool v)/\Gr w' w'' :=
 empty_is' (l:=x.line) h.len hv w'
theorem ahead_is {a b:Int} (ha:IsKey a) (hb:IsKey b) {v:Bool} (hv:v=true↔Lt a b) (w:World) :
 Calls Tryz.prog 125 #[.int .i64 a,.int .i64 b] w λ e w'=>e=.returned (.bool v)/\w'=w:=by
 have hA:=λ W=>Root_is a W
 have hB:=λ W=>Root_is b W
 rw [rf_key ha,re_key ha] at hA
 rw [rf_key hb,re_key hb] at hB
 unfold Lt at hv
 generalize rt a=r at *
 generalize rt b=s at *
 have KA:=hid hA
 have KB:=hid hB
 clear hA hB
 by_cases h1:r<s
 . obtain rfl:v=true:=hv.2 (.inl h1)
   clear hv
   go_enter Tryz.func125,Tryz.ntmps125
   go_wp2_with fail
   with_reducible refine (KA.out _).mono ?_
   rintro e w1 ⟨rfl,rfl⟩
   go_wp2_with fail
   with_reducible refine (KB.out _).mono ?_
   rintro e w1 ⟨rfl,rfl⟩
   go_wp2_with fail
   go_ret
   exact⟨rfl,rfl⟩
 . by_cases h2:r=s
   . subst h2
     by_cases h3:a<b
     . obtain rfl:v=true:=hv.2 (.inr ⟨rfl,h3⟩)
       clear hv
       go_enter Tryz.func125,Tryz.ntmps125
       go_wp2_with fail
       with_reducible refine (KA.out _).mono ?_
       rintro e w1 ⟨rfl,rfl⟩
       go_wp2_with fail
       with_reducible refine (KB.out _).mono ?_
       rintro e w1 ⟨rfl,rfl⟩
       go_wp2_with fail
       go_ret
       exact⟨rfl,rfl⟩
     . obtain rfl:v=false:=by
        cases v
        . rfl
        . have:=hv.1 rfl;omega
       have h3':decide (a<b)=false:=decide_eq_false h3
       clear hv h3
       go_enter Tryz.func125,Tryz.ntmps125
       go_wp2_with fail
       with_reducible refine (KA.out _).mono ?_
       rintro e w1 ⟨rfl,rfl⟩
       go_wp2_with fail
       with_reducible refine (KB.out _).mono ?_
       rintro e w1 ⟨rfl,rfl⟩
       go_wp2_with fail
       go_ret
       exact⟨rfl,rfl⟩
   . obtain rfl:v=false:=by
      cases v
      . rfl
      . have:=hv.1 rfl;omega
     have h2':(r==s)=false:=beq_eq_false_iff_ne.2 h2
     have h1':decide (r<s)=false:=decide_eq_false h1
     clear hv h2 h1
     go_enter Tryz.func125,Tryz.ntmps125
     go_wp2_with fail
     with_reducible refine (KA.out _).mono ?_
     rintro e w1 ⟨rfl,rfl⟩
     go_wp2_with fail
     with_reducible refine (KB.out _).mono ?_
     rintro e w1 ⟨rfl,rfl⟩
     go_wp2_with fail
     go_ret
     exact⟨rfl,rfl⟩
end
end
section
open Go.ChangeShapes Go.WideShapes Go.ChangeAt Go.RowKit
section
variable {P:Program} {ops:Array Oper} {Q:Exit->Act->World->Prop} {md:Region.Mode} {S:World->Prop}
theorem wpAnyH_pass (i:Nat) {oi:Oper} {d fuel:Nat} {listed:Array Bool} {t:Array Value} {ds:List Deferred} {w:World} (hi:ops[i]?=some oi) (hd:oi.dst=some d)
 (hs:Region.noSelect ops=true) (hf:Region.free md ops listed i=true) (hr:(Region.ready md ops listed).contains i=true)
 (hQ:∀ c a w,Q (.panic c) (a.put (some d) undef) w->Q (.panic c) a w) (hw:Region.wanted oi (yielded ops t)=false) (hS:S w)
 (h:wpAnyH P md ops Q S fuel (listed.setIfInBounds i true) { tmps:=t.setIfInBounds d undef,defers:=ds } w):wpAnyH P md ops Q S (fuel+1) listed { tmps:=t,defers:=ds } w :=
 wpAnyH_take (v:=undef) hi hs hf hr (by rw [hd];exact hQ) (.inr ⟨hw,rfl⟩) hS (by rw [hd];exact h)
theorem wpAnyH_goes (i:Nat) {oi:Oper} {d fuel:Nat} {v:Value} {listed:Array Bool} {t:Array Value} {ds:List Deferred} {w:World} (hi:ops[i]?=some oi) (hd:oi.dst=some d)
 (hs:Region.noSelect ops=true) (hf:Region.free md ops listed i=true) (hr:(Region.ready md ops listed).contains i=true)
 (hQ:∀ c a w,Q (.panic c) (a.put (some d) v) w->Q (.panic c) a w) (hw:Region.wanted oi (yielded ops t)=true)
 (hy:∀ w,S w->(execOp (Act.eval { tmps:=t,defers:=ds }) oi).run P w=.ok (.value v) w) (hS:S w)
 (h:wpAnyH P md ops Q S fuel (listed.setIfInBounds i true) { tmps:=t.setIfInBounds d v,defers:=ds } w):wpAnyH P md ops Q S (fuel+1) listed { tmps:=t,defers:=ds } w :=
 wpAnyH_take (v:=v) hi hs hf hr (by rw [hd];exact hQ) (.inl ⟨hw,hy⟩) hS (by rw [hd];exact h)
end
end
theorem pA (t : Array Value) (ds : List Deferred) (d : Nat) (v : Value) : Act.put { tmps := t, defers := ds } (some d) v = { tmps := t.setIfInBounds d v, defers := ds } := rfl
theorem pN (t : Array Value) (ds : List Deferred) (v : Value) : Act.put { tmps := t, defers := ds } none v = { tmps := t, defers := ds } := rfl
theorem pS (l : List Value) (i : Nat) (a : Value) : l.toArray.setIfInBounds i a = (l.set i a).toArray := List.setIfInBounds_toArray ..
theorem pZ (x : Value) (l : List Value) (a : Value) : (x :: l).set 0 a = a :: l := List.set_cons_zero ..
theorem pX (x : Value) (l : List Value) (n : Nat) (a : Value) : (x :: l).set (n + 1) a = x :: l.set n a := List.set_cons_succ ..
theorem pL : (∀ (t : Array Value) (ds : List Deferred) (d : Nat) (v : Value), Act.put { tmps := t, defers := ds } (some d) v = { tmps := t.setIfInBounds d v, defers := ds }) ∧ (∀ (t : Array Value) (ds : List Deferred) (v : Value), Act.put { tmps := t, defers := ds } none v = { tmps := t, defers := ds }) ∧ (∀ (l : List Value) (i : Nat) (a : Value), l.toArray.setIfInBounds i a = (l.set i a).toArray) ∧ (∀ (x : Value) (l : List Value) (a : Value), (x :: l).set 0 a = a :: l) ∧ ∀ (x : Value) (l : List Value) (n : Nat) (a : Value), (x :: l).set (n + 1) a = x :: l.set n a := ⟨pA, pN, pS, pZ, pX⟩
theorem mkF : ∀ (fn : Fn) (first cap : Array Value) (w : World), (Instr.makeFunc fn first cap).run Tryz.prog w = .ok (.func fn first cap) w := fun _ _ _ _ => rfl
section
variable {P : Program} {ops : Array Oper} {Q : Exit → Act → World → Prop} {md : Region.Mode} {S : World → Prop}
theorem wG (i : Nat) {oi : Oper} {d fuel : Nat} {v : Value} {listed : Array Bool} {t t' : Array Value} {ds : List Deferred} {w : World} (hS : S w)
    (h : wpAnyH P md ops Q S fuel (listed.setIfInBounds i true) { tmps := t', defers := ds } w) (hi : ops[i]? = some oi := by exact rfl) (hd : oi.dst = some d := by exact rfl)
    (hs : Region.noSelect ops = true := by kernel_rfl) (hf : Region.free md ops listed i = true := by kernel_rfl) (hr : (Region.ready md ops listed).contains i = true := by kernel_rfl)
    (hw : Region.wanted oi (yielded ops t) = true := by rfl)
    (hy : ∀ w, S w → (execOp (Act.eval { tmps := t, defers := ds }) oi).run P w = .ok (.value v) w := by intro w9 hw9; (try dsimp only at hw9); go_simp; try with_reducible rfl)
    (ht : t.setIfInBounds d v = t' := by (try simp only [List.setIfInBounds_toArray, List.set_cons_zero, List.set_cons_succ]); exact rfl)
    (hQ : ∀ c a w, Q (.panic c) (a.put (some d) v) w → Q (.panic c) a w := by exact fun _ _ _ h => h) : wpAnyH P md ops Q S (fuel + 1) listed { tmps := t, defers := ds } w :=
  wpAnyH_goes i hi hd hs hf hr hQ hw hy hS (by rw [ht]; exact h)
theorem wP (i : Nat) {oi : Oper} {d fuel : Nat} {listed : Array Bool} {t t' : Array Value} {ds : List Deferred} {w : World} (hS : S w)
    (h : wpAnyH P md ops Q S fuel (listed.setIfInBounds i true) { tmps := t', defers := ds } w) (hi : ops[i]? = some oi := by exact rfl) (hd : oi.dst = some d := by exact rfl)
    (hs : Region.noSelect ops = true := by kernel_rfl) (hf : Region.free md ops listed i = true := by kernel_rfl) (hr : (Region.ready md ops listed).contains i = true := by kernel_rfl)
    (hw : Region.wanted oi (yielded ops t) = false := by rfl)
    (ht : t.setIfInBounds d undef = t' := by (try simp only [List.setIfInBounds_toArray, List.set_cons_zero, List.set_cons_succ]); exact rfl)
    (hQ : ∀ c a w, Q (.panic c) (a.put (some d) undef) w → Q (.panic c) a w := by exact fun _ _ _ h => h) : wpAnyH P md ops Q S (fuel + 1) listed { tmps := t, defers := ds } w :=
  wpAnyH_pass i hi hd hs hf hr hQ hw hS (by rw [ht]; exact h)
theorem wR1 (i : Nat) {o : Oper} {fuel : Nat} {listed : Array Bool} {a : Act} {w : World}
    (h : ∀ K' : Act → World → Prop, Shut (∀ a w, S w → (S w → wpAnyH P md ops Q S fuel (listed.setIfInBounds i true) a w) → K' a w) → if Region.wanted o (yielded ops a.tmps) = true then Oper.wp P o a w K' Q else K' (a.put o.dst undef) w)
    (hr : Region.ready md ops listed = [i] := by kernel_rfl) (ho : ops[i]? = some o := by exact rfl) : wpAnyH P md ops Q S (fuel + 1) listed a w :=
  wpAnyH_ready hr (by simp) (AllReadyH.cons ho h AllReadyH.nil)
theorem wR2 (i j : Nat) {o o2 : Oper} {fuel : Nat} {listed : Array Bool} {a : Act} {w : World}
    (h : ∀ K' : Act → World → Prop, Shut (∀ a w, S w → (S w → wpAnyH P md ops Q S fuel (listed.setIfInBounds i true) a w) → K' a w) → if Region.wanted o (yielded ops a.tmps) = true then Oper.wp P o a w K' Q else K' (a.put o.dst undef) w)
    (h2 : ∀ K' : Act → World → Prop, Shut (∀ a w, S w → (S w → wpAnyH P md ops Q S fuel (listed.setIfInBounds j true) a w) → K' a w) → if Region.wanted o2 (yielded ops a.tmps) = true then Oper.wp P o2 a w K' Q else K' (a.put o2.dst undef) w)
    (hr : Region.ready md ops listed = [i, j] := by kernel_rfl) (ho : ops[i]? = some o := by exact rfl) (ho2 : ops[j]? = some o2 := by exact rfl) : wpAnyH P md ops Q S (fuel + 1) listed a w :=
  wpAnyH_ready hr (by simp) (AllReadyH.cons ho h (AllReadyH.cons ho2 h2 AllReadyH.nil))
end
section
open Go.ChangeShapes Go.WideShapes Go.ChangeAt Go.RowKit
section
variable {w:World} {A:Option Addr} {n c:Nat} {l:List Int} {a q:Int}
theorem own_is' (hm:IMem w A n l) (hn:n<=1000000) :
 Calls Tryz.prog 222 #[.agg #[.int .i64 a,.int .i64 q,.slice A n c]] w λ e w'=>∃ B k,e=.returned (.agg #[.int .i64 a,.int .i64 q,.slice B n k])/\IOwn w.heap.size w' B n k l/\Gr w w':=by
 obtain⟨i0,hi0,hz0,hz1,hz2⟩:=info_parts infoInt
 have HZ:=hid hz0
 have HZ1:=hid hz1
 have HZ2:=hid hz2
 have HI0:=hid hi0
 have g0:=((Gr.refl w).al (.cells #[.int .i64 a,.int .i64 q,.slice A n c] 91)).al (.cells #[.int .i64 0,.int .i64 0,.slice none 0 0] 91)
 have B0:=(Blk.new w #[.int .i64 a,.int .i64 q,.slice A n c] 91).al (.cells #[.int .i64 0,.int .i64 0,.slice none 0 0] 91)
 have B1:=Blk.new (w.alloc (.cells #[.int .i64 a,.int .i64 q,.slice A n c] 91)) #[.int .i64 0,.int .i64 0,.slice none 0 0] 91
 simp only [World.size_alloc] at B1
 have HM:=hid (hm.gr g0)
 clear hz0 hz1 hz2 hi0 hm
 go_enter Tryz.func222,Tryz.ntmps222
 go_wp2_with (at_builtin;refine Mark.stop ?_)
 refine Mark.go ?_
 refine wpList_append_omem _ (Value.int .i64) B64 rfl (.const (.slice none 0 0)) (.tmp 4) 23 rfl (λ _=>rfl) (w.heap.size+1+1) 3 i0 (.int .i64 0) 8 Tryz.underlying23 HI0.out HZ.out HZ1.out HZ2.out rfl none 0 0 [] rfl OMem.nil_ A n c l rfl HM.out (by unfold maxLen;omega) (by omega) (by simp) ?_
 intro C k w1 own1 gb1
 rw [Nat.zero_add]
 rw [Nat.zero_add,List.nil_append] at own1
 have BB:=B0.gb gb1 (by simp)
 have BR:=B1.gb gb1 (by simp)
 have G1:=g0.gb gb1 (by simp)
 obtain⟨x0,_⟩:=BB.at_ (k:=0) rfl
 obtain⟨x1,_⟩:=BB.at_ (k:=1) rfl
 obtain⟨p2,z2⟩:=BB.at_ (k:=2) rfl
 obtain⟨y0,u0⟩:=BR.at_ (k:=0) rfl
 obtain⟨y1,u1⟩:=BR.at_ (k:=1) rfl
 obtain⟨y2,u2⟩:=BR.at_ (k:=2) rfl
 have hlt:=hid BR.lt
 have HBR:=hid ((((BR.st (p:=⟨w.heap.size,2,none⟩) (by simp) (.slice C n k)).set 0 (.int .i64 a)).set 1 (.int .i64 q)).set 2 (.slice C n k))
 have HGW:=hid ((((G1.st (p:=⟨w.heap.size,2,none⟩) (Nat.le_refl _) (.slice C n k)).st (p:=⟨w.heap.size+1,0,none⟩) (by show w.heap.size<=w.heap.size+1;omega) (.int .i64 a)).st (p:=⟨w.heap.size+1,1,none⟩) (by show w.heap.size<=w.heap.size+1;omega) (.int .i64 q)).st (p:=⟨w.heap.size+1,2,none⟩) (by show w.heap.size<=w.heap.size+1;omega) (.slice C n k))
 have HO:=hid (((((own1.st (p:=⟨w.heap.size,2,none⟩) (by show w.heap.size<w.heap.size+1+1;omega) (.slice C n k)).st (p:=⟨w.heap.size+1,0,none⟩) (by show w.heap.size+1<w.heap.size+1+1;omega) (.int .i64 a)).st (p:=⟨w.heap.size+1,1,none⟩) (by show w.heap.size+1<w.heap.size+1+1;omega) (.int .i64 q)).st (p:=⟨w.heap.size+1,2,none⟩) (by show w.heap.size+1<w.heap.size+1+1;omega) (.slice C n k)).low (show w.heap.size<=w.heap.size+1+1 from by omega))
 clear own1 gb1 BB BR G1 B0 B1 g0
 go_wp2_with fail
 have BF:=HBR.out
 have GW:=HGW.out
 have OW:=HO.out
 clear x0 x1 p2 z2 y0 u0 y1 u1 y2 u2 HBR HGW HO
 generalize (((w1.setCell _ _).setCell _ _).setCell _ _).setCell _ _=WF at BF GW OW ⊢
 have q0:WF.cell? ⟨w.heap.size+1,0,none⟩=some (.int .i64 a):=(BF.at_ (k:=0) rfl).1
 have q1:WF.cell? ⟨w.heap.size+1,1,none⟩=some (.int .i64 q):=(BF.at_ (k:=1) rfl).1
 have q2:WF.cell? ⟨w.heap.size+1,2,none⟩=some (.slice C n k):=(BF.at_ (k:=2) rfl).1
 exact bodyPost_ret (v:=.agg #[.int .i64 a,.int .i64 q,.slice C n k]) (by simp [results,Tryz.results222,go_sem,q0,q1,q2]) rfl ⟨C,k,rfl,OW,GW⟩
end
section
variable {w:World} {A:Option Addr} {n c:Nat} {l:List SV}
theorem RRight_is (hm:SMem w A n l) {v:Bool} (hv:v=true↔Tab l) :
 Calls Tryz.prog 92 #[.slice A n c] w λ e w'=>e=.returned (.bool v)/\Gr w w':=by
 have hlen:=hm.1
 have HM:=hid hm
 have HV:=hid hv
 clear hm hv
 by_cases hn:n<=64
 . have h1:¬ (64:Int)<(n:Int):=by omega
   go_enter Tryz.func92,Tryz.ntmps92
   go_wp2_with fail
   go_loopw [10] (λ i wr=>∃ k:Nat,k<=n/\i=.int .i64 (k:Int)/\Hid (TOk (l.take k))/\Hid (Gr w wr)) (λ i _=>n-(intOf i).toNat)
   case atStart=>exact⟨0,Nat.zero_le _,rfl,hid (by simpa using TOk.nil),hid (Gr.refl _)⟩
   case round =>
    obtain⟨k,hk,rfl,HT,HG⟩:=hrel
    by_cases hlt:k<n
    . obtain⟨b,off,x,rfl,hbl,hx,hok,d0,d1,d2⟩:=(HM.out.gr HG.out).at_ hlt
      have HX:=hid hx
      have HS:=hid (TOk.step hx HT.out)
      have k0:(0:Int)<=(k:Int):=by omega
      have k1:(k:Int)<(n:Int):=by omega
      have hlx:=hid hx
      obtain⟨X,hXe⟩:∃ X,wr.alloc (.cells #[.int .i64 x.addr,.int .i64 x.cnt,.slice x.A x.n x.c] 91)=X:=⟨_,rfl⟩
      have gX:Gr wr X:=hXe▸(Gr.refl wr).al _
      have ok1:=hid (hok.gr gX)
      have GX:=hid (HG.out.trans gX)
      have BX:Blk X wr.heap.size #[.int .i64 x.addr,.int .i64 x.cnt,.slice x.A x.n x.c] 91:=hXe▸Blk.new wr _ _
      have e0:X.drew.cell? ⟨wr.heap.size,0,none⟩=some (.int .i64 x.addr):=(BX.at_ (k:=0) rfl).1
      have e1:X.drew.cell? ⟨wr.heap.size,1,none⟩=some (.int .i64 x.cnt):=(BX.at_ (k:=1) rfl).1
      have e2:X.drew.cell? ⟨wr.heap.size,2,none⟩=some (.slice x.A x.n x.c):=(BX.at_ (k:=2) rfl).1
      have e3:wr.heap.size<X.drew.heap.size:=BX.lt
      obtain⟨b1,hb1⟩:=yes_no (SOk x)
      obtain⟨b2,hb2⟩:=yes_no (SNil x)
      have C1:Hid (∀ W,Gr X W->Calls Tryz.prog 123 #[.agg #[.int .i64 x.addr,.int .i64 x.cnt,.slice x.A x.n x.c]] W λ e w'=>e=.returned (.bool b1)/\Gr W w'):=hid λ W g=>rsound_is (ok1.out.gr g) hb1
      have C2:Hid (∀ W,Calls Tryz.prog 124 #[.agg #[.int .i64 x.addr,.int .i64 x.cnt,.slice x.A x.n x.c]] W λ e w'=>e=.returned (.bool b2)/\Gr W w'):=hid λ W=>empty_is ok1.out hb2 W
      have HB1:=hid hb1
      have HB2:=hid hb2
      clear hx hok hb1 hb2
      cases b1 with
      | false =>
       obtain rfl:v=false:=by
        cases v
        . rfl
        . have h1:=(HV.out.1 rfl).2.1 x (List.mem_of_getElem? HX.out)
          exact absurd (HB1.out.2 h1.1) (by simp)
       clear C2 HV
       go_wp2_with fail
       clear hXe
       refine wp_region_held_drew (S:=(λ W=>W.cell? ⟨wr.heap.size,0,none⟩=some (.int .i64 x.addr)/\W.cell? ⟨wr.heap.size,1,none⟩=some (.int .i64 x.cnt)/\W.cell? ⟨wr.heap.size,2,none⟩=some (.slice x.A x.n x.c)/\wr.heap.size<W.heap.size/\Gr X W)) (by kernel_rfl) ⟨e0,e1,e2,e3,(Gr.refl X).dr⟩ (λ hS=>?_)
       refine wG 0 hS ?_
       refine wR1 1 (λ K hK=>?_)
       go_simp;go_at_call 123;with_reducible refine (C1.out _ hS.2.2.2.2).mono ?_;rintro ee w9 ⟨rfl,hb⟩;go_wp2_with fail
       refine hK.out _ _ ⟨(hb.cell (p:=⟨wr.heap.size,0,none⟩) hS.2.2.2.1).trans hS.1,(hb.cell (p:=⟨wr.heap.size,1,none⟩) hS.2.2.2.1).trans hS.2.1,(hb.cell (p:=⟨wr.heap.size,2,none⟩) hS.2.2.2.1).trans hS.2.2.1,Nat.lt_of_lt_of_le hS.2.2.2.1 hb.size,Gr.trans hS.2.2.2.2 hb⟩ (λ hS=>?_)
       clear hK K
       try simp only [pL]
       refine wG 2 hS ?_
       refine wG 3 hS ?_
       refine wP 4 hS ?_
       refine wP 5 hS ?_
       refine wG 6 hS ?_
       refine wG 7 hS ?_
       refine wP 8 hS ?_
       refine wP 9 hS ?_
       refine wP 10 hS ?_
       refine wP 11 hS ?_
       refine wP 12 hS ?_
       refine wP 13 hS ?_
       refine wP 14 hS ?_
       refine wP 15 hS ?_
       refine wP 16 hS ?_
       refine wP 17 hS ?_
       refine wP 18 hS ?_
       refine wP 19 hS ?_
       refine wP 20 hS ?_
       refine wP 21 hS ?_
       refine wG 22 hS ?_
       refine wpAnyH_done (by kernel_rfl) ?_ _
       obtain⟨q0,q1,q2,q3,q4⟩:=hS
       have GF:=hid (GX.out.trans q4)
       clear q0 q1 q2 q3 q4
       go_wp2_with fail
       go_ret
       exact⟨rfl,GF.out⟩
      | true =>
       cases b2 with
       | true =>
        obtain rfl:v=false:=by
         cases v
         . rfl
         . have h1:=(HV.out.1 rfl).2.1 x (List.mem_of_getElem? HX.out)
           exact absurd (HB2.out.1 rfl) h1.2
        clear HV
        go_wp2_with fail
        clear hXe
        refine wp_region_held_drew (S:=(λ W=>W.cell? ⟨wr.heap.size,0,none⟩=some (.int .i64 x.addr)/\W.cell? ⟨wr.heap.size,1,none⟩=some (.int .i64 x.cnt)/\W.cell? ⟨wr.heap.size,2,none⟩=some (.slice x.A x.n x.c)/\wr.heap.size<W.heap.size/\Gr X W)) (by kernel_rfl) ⟨e0,e1,e2,e3,(Gr.refl X).dr⟩ (λ hS=>?_)
        refine wG 0 hS ?_
        refine wR1 1 (λ K hK=>?_)
        go_simp;go_at_call 123;with_reducible refine (C1.out _ hS.2.2.2.2).mono ?_;rintro ee w9 ⟨rfl,hb⟩;go_wp2_with fail
        refine hK.out _ _ ⟨(hb.cell (p:=⟨wr.heap.size,0,none⟩) hS.2.2.2.1).trans hS.1,(hb.cell (p:=⟨wr.heap.size,1,none⟩) hS.2.2.2.1).trans hS.2.1,(hb.cell (p:=⟨wr.heap.size,2,none⟩) hS.2.2.2.1).trans hS.2.2.1,Nat.lt_of_lt_of_le hS.2.2.2.1 hb.size,Gr.trans hS.2.2.2.2 hb⟩ (λ hS=>?_)
        clear hK K
        try simp only [pL]
        refine wG 2 hS ?_
        refine wG 3 hS ?_
        refine wG 4 hS ?_
        refine wR1 5 (λ K hK=>?_)
        go_simp;go_at_call 124;with_reducible refine (C2.out _).mono ?_;rintro ee w9 ⟨rfl,hb⟩;go_wp2_with fail
        refine hK.out _ _ ⟨(hb.cell (p:=⟨wr.heap.size,0,none⟩) hS.2.2.2.1).trans hS.1,(hb.cell (p:=⟨wr.heap.size,1,none⟩) hS.2.2.2.1).trans hS.2.1,(hb.cell (p:=⟨wr.heap.size,2,none⟩) hS.2.2.2.1).trans hS.2.2.1,Nat.lt_of_lt_of_le hS.2.2.2.1 hb.size,Gr.trans hS.2.2.2.2 hb⟩ (λ hS=>?_)
        clear hK K
        try simp only [pL]
        refine wG 6 hS ?_
        refine wG 7 hS ?_
        refine wP 8 hS ?_
        refine wP 9 hS ?_
        refine wP 10 hS ?_
        refine wP 11 hS ?_
        refine wP 12 hS ?_
        refine wP 13 hS ?_
        refine wP 14 hS ?_
        refine wP 15 hS ?_
        refine wP 16 hS ?_
        refine wP 17 hS ?_
        refine wP 18 hS ?_
        refine wP 19 hS ?_
        refine wP 20 hS ?_
        refine wP 21 hS ?_
        refine wG 22 hS ?_
        refine wpAnyH_done (by kernel_rfl) ?_ _
        obtain⟨q0,q1,q2,q3,q4⟩:=hS
        have GF:=hid (GX.out.trans q4)
        clear q0 q1 q2 q3 q4
        go_wp2_with fail
        go_ret
        exact⟨rfl,GF.out⟩
       | false =>
        cases k with
        | zero =>
         simp only [Nat.zero_mul,Nat.add_zero] at d0 d1 d2
         have HT':Hid (TOk (l.take (0+1))):=hid (HS.out.2 ⟨HB1.out.1 rfl,λ h=>absurd (HB2.out.2 h) (by simp),λ p y hp=>absurd hp (by omega)⟩)
         go_wp2_with fail
         clear hXe
         refine wp_region_held_drew (S:=(λ W=>W.cell? ⟨wr.heap.size,0,none⟩=some (.int .i64 x.addr)/\W.cell? ⟨wr.heap.size,1,none⟩=some (.int .i64 x.cnt)/\W.cell? ⟨wr.heap.size,2,none⟩=some (.slice x.A x.n x.c)/\wr.heap.size<W.heap.size/\Gr X W)) (by kernel_rfl) ⟨e0,e1,e2,e3,(Gr.refl X).dr⟩ (λ hS=>?_)
         refine wG 0 hS ?_
         refine wR1 1 (λ K hK=>?_)
         go_simp;go_at_call 123;with_reducible refine (C1.out _ hS.2.2.2.2).mono ?_;rintro ee w9 ⟨rfl,hb⟩;go_wp2_with fail
         refine hK.out _ _ ⟨(hb.cell (p:=⟨wr.heap.size,0,none⟩) hS.2.2.2.1).trans hS.1,(hb.cell (p:=⟨wr.heap.size,1,none⟩) hS.2.2.2.1).trans hS.2.1,(hb.cell (p:=⟨wr.heap.size,2,none⟩) hS.2.2.2.1).trans hS.2.2.1,Nat.lt_of_lt_of_le hS.2.2.2.1 hb.size,Gr.trans hS.2.2.2.2 hb⟩ (λ hS=>?_)
         clear hK K
         try simp only [pL]
         refine wG 2 hS ?_
         refine wG 3 hS ?_
         refine wG 4 hS ?_
         refine wR1 5 (λ K hK=>?_)
         go_simp;go_at_call 124;with_reducible refine (C2.out _).mono ?_;rintro ee w9 ⟨rfl,hb⟩;go_wp2_with fail
         refine hK.out _ _ ⟨(hb.cell (p:=⟨wr.heap.size,0,none⟩) hS.2.2.2.1).trans hS.1,(hb.cell (p:=⟨wr.heap.size,1,none⟩) hS.2.2.2.1).trans hS.2.1,(hb.cell (p:=⟨wr.heap.size,2,none⟩) hS.2.2.2.1).trans hS.2.2.1,Nat.lt_of_lt_of_le hS.2.2.2.1 hb.size,Gr.trans hS.2.2.2.2 hb⟩ (λ hS=>?_)
         clear hK K
         try simp only [pL]
         refine wG 6 hS ?_
         refine wG 7 hS ?_
         refine wG 8 hS ?_
         refine wG 9 hS ?_
         refine wG 10 hS ?_
         refine wP 11 hS ?_
         refine wP 12 hS ?_
         refine wP 13 hS ?_
         refine wP 14 hS ?_
         refine wP 15 hS ?_
         refine wP 16 hS ?_
         refine wP 17 hS ?_
         refine wP 18 hS ?_
         refine wP 19 hS ?_
         refine wP 20 hS ?_
         refine wG 21 hS ?_
         refine wG 22 hS ?_
         refine wpAnyH_done (by kernel_rfl) ?_ _
         obtain⟨q0,q1,q2,q3,q4⟩:=hS
         have GF:=hid (GX.out.trans q4)
         clear q0 q1 q2 q3 q4
         go_wp2_with fail
         go_roundw
         case rel=>exact⟨0+1,by omega,by go_num,HT',GF⟩
         case measure=>simp [intOf];omega
        | succ p =>
         obtain⟨k,hkp⟩:∃ k,p+1=k:=⟨_,rfl⟩
         rw [hkp] at hk HT hlt d0 d1 d2 HX HS k0 k1 hlx ⊢
         obtain⟨b',off',y,hb',_,hy,_,f0,_,_⟩:=(HM.out.gr HG.out).at_ (show p<n by omega)
         cases hb'
         have hw:IntKind.i64.wrap ((k:Int)-1)=(p:Int):=by rw [wrap_id (by omega) (by omega)];omega
         have p0:(0:Int)<=(p:Int):=by omega
         have p1:(p:Int)<(n:Int):=by omega
         have p2:(0:Int)<(k:Int):=by omega
         have f1:X.drew.cell? ⟨b,off+p*3,none⟩=some (.int .i64 y.addr):=(gX.cell (p:=⟨b,off+p*3,none⟩) hbl).trans f0
         have f2:b<X.drew.heap.size:=Nat.lt_of_lt_of_le hbl gX.size
         have hyk:y∈l.take k:=List.mem_iff_getElem?.2 ⟨p,by rw [List.getElem?_take,if_pos (by omega)];exact hy⟩
         obtain⟨b3,hb3⟩:=yes_no (Lt y.addr x.addr)
         have C3:Hid (∀ W,Calls Tryz.prog 125 #[.int .i64 y.addr,.int .i64 x.addr] W λ e w'=>e=.returned (.bool b3)/\w'=W):=hid λ W=>ahead_is (Tab.key HT.out hyk) (HB1.out.1 rfl).1 hb3 W
         have HB3:=hid hb3
         have HY:=hid hy
         clear hy hyk hb3 f0
         cases b3 with
         | true =>
          have HT':Hid (TOk (l.take (k+1))):=hid (HS.out.2 ⟨HB1.out.1 rfl,λ h=>absurd (HB2.out.2 h) (by simp),λ p' y' hp hy'=>by
           obtain rfl:p'=p:=by omega
           rw [HY.out] at hy'
           cases hy'
           exact HB3.out.1 rfl⟩)
          go_wp2_with fail
          clear hXe
          refine wp_region_held_drew (S:=(λ W=>W.cell? ⟨wr.heap.size,0,none⟩=some (.int .i64 x.addr)/\W.cell? ⟨wr.heap.size,1,none⟩=some (.int .i64 x.cnt)/\W.cell? ⟨wr.heap.size,2,none⟩=some (.slice x.A x.n x.c)/\wr.heap.size<W.heap.size/\Gr X W/\W.cell? ⟨b,off+p*3,none⟩=some (.int .i64 y.addr)/\b<W.heap.size)) (by kernel_rfl) ⟨e0,e1,e2,e3,(Gr.refl X).dr,f1,f2⟩ (λ hS=>?_)
          refine wG 0 hS ?_
          refine wR1 1 (λ K hK=>?_)
          go_simp;go_at_call 123;with_reducible refine (C1.out _ hS.2.2.2.2.1).mono ?_;rintro ee w9 ⟨rfl,hb⟩;go_wp2_with fail
          refine hK.out _ _ ⟨(hb.cell (p:=⟨wr.heap.size,0,none⟩) hS.2.2.2.1).trans hS.1,(hb.cell (p:=⟨wr.heap.size,1,none⟩) hS.2.2.2.1).trans hS.2.1,(hb.cell (p:=⟨wr.heap.size,2,none⟩) hS.2.2.2.1).trans hS.2.2.1,Nat.lt_of_lt_of_le hS.2.2.2.1 hb.size,Gr.trans hS.2.2.2.2.1 hb,(hb.cell (p:=⟨b,off+p*3,none⟩) hS.2.2.2.2.2.2).trans hS.2.2.2.2.2.1,Nat.lt_of_lt_of_le hS.2.2.2.2.2.2 hb.size⟩ (λ hS=>?_)
          clear hK K
          try simp only [pL]
          refine wG 2 hS ?_
          refine wG 3 hS ?_
          refine wG 4 hS ?_
          refine wR1 5 (λ K hK=>?_)
          go_simp;go_at_call 124;with_reducible refine (C2.out _).mono ?_;rintro ee w9 ⟨rfl,hb⟩;go_wp2_with fail
          refine hK.out _ _ ⟨(hb.cell (p:=⟨wr.heap.size,0,none⟩) hS.2.2.2.1).trans hS.1,(hb.cell (p:=⟨wr.heap.size,1,none⟩) hS.2.2.2.1).trans hS.2.1,(hb.cell (p:=⟨wr.heap.size,2,none⟩) hS.2.2.2.1).trans hS.2.2.1,Nat.lt_of_lt_of_le hS.2.2.2.1 hb.size,Gr.trans hS.2.2.2.2.1 hb,(hb.cell (p:=⟨b,off+p*3,none⟩) hS.2.2.2.2.2.2).trans hS.2.2.2.2.2.1,Nat.lt_of_lt_of_le hS.2.2.2.2.2.2 hb.size⟩ (λ hS=>?_)
          clear hK K
          try simp only [pL]
          refine wG 6 hS ?_
          refine wG 7 hS ?_
          refine wG 8 hS ?_
          refine wpAnyH_goes 9 (v:=.bool true) rfl rfl (by kernel_rfl) (by kernel_rfl) (by kernel_rfl) (λ _ _ _ h=>h) (by rfl) (λ w9 hw9=>?_) hS ?_
          . (try dsimp only at hw9);go_simp;first | done | omega | (simp [*];done) | (simp;omega)
          try simp only [pL]
          refine wG 10 hS ?_
          refine wG 11 hS ?_
          refine wG 12 hS ?_
          refine wG 13 hS ?_
          refine wG 14 hS ?_
          refine wG 15 hS ?_
          refine wG 16 hS ?_
          refine wG 17 hS ?_
          refine wG 18 hS ?_
          refine wR1 19 (λ K hK=>?_)
          go_simp;go_at_call 125;with_reducible refine (C3.out _).mono ?_;rintro ee w9 ⟨rfl,rfl⟩;go_wp2_with fail
          refine hK.out _ _ hS (λ hS=>?_)
          clear hK K
          try simp only [pL]
          refine wG 20 hS ?_
          refine wG 21 hS ?_
          refine wG 22 hS ?_
          refine wpAnyH_done (by kernel_rfl) ?_ _
          obtain⟨q0,q1,q2,q3,q4,q5,q6⟩:=hS
          have GF:=hid (GX.out.trans q4)
          clear q0 q1 q2 q3 q4 q5 q6
          go_wp2_with fail
          go_roundw
          case rel=>exact⟨k+1,by omega,by go_num,HT',GF⟩
          case measure=>simp [intOf];omega
         | false =>
          obtain rfl:v=false:=by
           cases v
           . rfl
           . exact absurd (HB3.out.2 ((HV.out.1 rfl).2.at_ (show p<k by omega) HY.out HX.out)) (by simp)
          clear HV
          go_wp2_with fail
          clear hXe
          refine wp_region_held_drew (S:=(λ W=>W.cell? ⟨wr.heap.size,0,none⟩=some (.int .i64 x.addr)/\W.cell? ⟨wr.heap.size,1,none⟩=some (.int .i64 x.cnt)/\W.cell? ⟨wr.heap.size,2,none⟩=some (.slice x.A x.n x.c)/\wr.heap.size<W.heap.size/\Gr X W/\W.cell? ⟨b,off+p*3,none⟩=some (.int .i64 y.addr)/\b<W.heap.size)) (by kernel_rfl) ⟨e0,e1,e2,e3,(Gr.refl X).dr,f1,f2⟩ (λ hS=>?_)
          refine wG 0 hS ?_
          refine wR1 1 (λ K hK=>?_)
          go_simp;go_at_call 123;with_reducible refine (C1.out _ hS.2.2.2.2.1).mono ?_;rintro ee w9 ⟨rfl,hb⟩;go_wp2_with fail
          refine hK.out _ _ ⟨(hb.cell (p:=⟨wr.heap.size,0,none⟩) hS.2.2.2.1).trans hS.1,(hb.cell (p:=⟨wr.heap.size,1,none⟩) hS.2.2.2.1).trans hS.2.1,(hb.cell (p:=⟨wr.heap.size,2,none⟩) hS.2.2.2.1).trans hS.2.2.1,Nat.lt_of_lt_of_le hS.2.2.2.1 hb.size,Gr.trans hS.2.2.2.2.1 hb,(hb.cell (p:=⟨b,off+p*3,none⟩) hS.2.2.2.2.2.2).trans hS.2.2.2.2.2.1,Nat.lt_of_lt_of_le hS.2.2.2.2.2.2 hb.size⟩ (λ hS=>?_)
          clear hK K
          try simp only [pL]
          refine wG 2 hS ?_
          refine wG 3 hS ?_
          refine wG 4 hS ?_
          refine wR1 5 (λ K hK=>?_)
          go_simp;go_at_call 124;with_reducible refine (C2.out _).mono ?_;rintro ee w9 ⟨rfl,hb⟩;go_wp2_with fail
          refine hK.out _ _ ⟨(hb.cell (p:=⟨wr.heap.size,0,none⟩) hS.2.2.2.1).trans hS.1,(hb.cell (p:=⟨wr.heap.size,1,none⟩) hS.2.2.2.1).trans hS.2.1,(hb.cell (p:=⟨wr.heap.size,2,none⟩) hS.2.2.2.1).trans hS.2.2.1,Nat.lt_of_lt_of_le hS.2.2.2.1 hb.size,Gr.trans hS.2.2.2.2.1 hb,(hb.cell (p:=⟨b,off+p*3,none⟩) hS.2.2.2.2.2.2).trans hS.2.2.2.2.2.1,Nat.lt_of_lt_of_le hS.2.2.2.2.2.2 hb.size⟩ (λ hS=>?_)
          clear hK K
          try simp only [pL]
          refine wG 6 hS ?_
          refine wG 7 hS ?_
          refine wG 8 hS ?_
          refine wpAnyH_goes 9 (v:=.bool true) rfl rfl (by kernel_rfl) (by kernel_rfl) (by kernel_rfl) (λ _ _ _ h=>h) (by rfl) (λ w9 hw9=>?_) hS ?_
          . (try dsimp only at hw9);go_simp;first | done | omega | (simp [*];done) | (simp;omega)
          try simp only [pL]
          refine wG 10 hS ?_
          refine wG 11 hS ?_
          refine wG 12 hS ?_
          refine wG 13 hS ?_
          refine wG 14 hS ?_
          refine wG 15 hS ?_
          refine wG 16 hS ?_
          refine wG 17 hS ?_
          refine wG 18 hS ?_
          refine wR1 19 (λ K hK=>?_)
          go_simp;go_at_call 125;with_reducible refine (C3.out _).mono ?_;rintro ee w9 ⟨rfl,rfl⟩;go_wp2_with fail
          refine hK.out _ _ hS (λ hS=>?_)
          clear hK K
          try simp only [pL]
          refine wG 20 hS ?_
          refine wG 21 hS ?_
          refine wG 22 hS ?_
          refine wpAnyH_done (by kernel_rfl) ?_ _
          obtain⟨q0,q1,q2,q3,q4,q5,q6⟩:=hS
          have GF:=hid (GX.out.trans q4)
          clear q0 q1 q2 q3 q4 q5 q6
          go_wp2_with fail
          go_ret
          exact⟨rfl,GF.out⟩
    . obtain rfl:k=n:=by omega
      obtain rfl:v=true:=HV.out.2 ⟨by omega,by have:=HT.out;rwa [<- hlen,List.take_length] at this⟩
      clear HV
      have G1:=HG
      go_wp2_with fail
      go_ret
      exact⟨rfl,G1.out⟩
 . obtain rfl:v=false:=by
    cases v
    . rfl
    . have:=(HV.out.1 rfl).1;omega
   have h1:(64:Int)<(n:Int):=by omega
   clear HV
   go_enter Tryz.func92,Tryz.ntmps92
   go_wp2_with fail
   go_ret
   exact⟨rfl,Gr.refl _⟩
end
end
end Go.Proofs.YtainfijdhcehlaaGreatDoor
namespace Go.Proofs
open Go.Shelf
def Tryz.laySort_ren : Go.Shelf.Ren := ⟨fun | 5 => 247 | 8 => 250 | 7 => 249 | 19 => 260 | 20 => 261 | 10 => 251 | 11 => 252 | 12 => 253 | 13 => 254 | 14 => 255 | 15 => 256 | 16 => 257 | 17 => 258 | 18 => 259 | 30 => 262 | 31 => 263 | 32 => 264 | 33 => 265 | 34 => 266 | 35 => 267 | 40 => 268 | n => n, fun | 23 => 23 | 25 => 3 | 3 => 3 | 32 => 144 | 22 => 23 | 0 => 0 | 44 => 169 | 46 => 71 | 4 => 4 | 36 => 306 | 35 => 305 | 41 => 268 | 5 => 5 | 9 => 9 | 53 => 313 | 57 => 240 | 63 => 318 | 64 => 319 | n => n, fun | n => n⟩
theorem Tryz.laySort : Go.Proofs.SlLaysM.n5 Tryz.prog Tryz.laySort_ren := {
  mixed := by kernel_rfl
  f5 := ⟨Tryz.f247.name, by decide, Tryz.func247.trans (congrArg some (by kernel_rfl))⟩
  f7 := ⟨Tryz.f249.name, by decide, Tryz.func249.trans (congrArg some (by kernel_rfl))⟩
  f8 := Tryz.func250.trans (congrArg some (by kernel_rfl))
  f10 := ⟨Tryz.f251.name, by decide, Tryz.func251.trans (congrArg some (by kernel_rfl))⟩
  f11 := ⟨Tryz.f252.name, by decide, Tryz.func252.trans (congrArg some (by kernel_rfl))⟩
  f12 := ⟨Tryz.f253.name, by decide, Tryz.func253.trans (congrArg some (by kernel_rfl))⟩
  f13 := ⟨Tryz.f254.name, by decide, Tryz.func254.trans (congrArg some (by kernel_rfl))⟩
  f14 := ⟨Tryz.f255.name, by decide, Tryz.func255.trans (congrArg some (by kernel_rfl))⟩
  f15 := ⟨Tryz.f256.name, by decide, Tryz.func256.trans (congrArg some (by kernel_rfl))⟩
  f16 := ⟨Tryz.f257.name, by decide, Tryz.func257.trans (congrArg some (by kernel_rfl))⟩
  f17 := ⟨Tryz.f258.name, by decide, Tryz.func258.trans (congrArg some (by kernel_rfl))⟩
  f18 := ⟨Tryz.f259.name, by decide, Tryz.func259.trans (congrArg some (by kernel_rfl))⟩
  f19 := Tryz.func260.trans (congrArg some (by kernel_rfl))
  f20 := Tryz.func261.trans (congrArg some (by kernel_rfl))
  f30 := ⟨Tryz.f262.name, by decide, Tryz.func262.trans (congrArg some (by kernel_rfl))⟩
  f31 := Tryz.func263.trans (congrArg some (by kernel_rfl))
  f32 := Tryz.func264.trans (congrArg some (by kernel_rfl))
  f33 := ⟨Tryz.f265.name, by decide, Tryz.func265.trans (congrArg some (by kernel_rfl))⟩
  f34 := ⟨Tryz.f266.name, by decide, Tryz.func266.trans (congrArg some (by kernel_rfl))⟩
  f35 := ⟨Tryz.f267.name, by decide, Tryz.func267.trans (congrArg some (by kernel_rfl))⟩
  f40 := ⟨Tryz.f268.name, by decide, Tryz.func268.trans (congrArg some (by kernel_rfl))⟩
  t0 := Tryz.underlying0
  a0 := Tryz.isAgg0
  z0 := Tryz.sizeOf0
  v0 := Tryz.zeroValue0
  t3 := Tryz.underlying3
  a3 := Tryz.isAgg3
  z3 := Tryz.sizeOf3
  v3 := Tryz.zeroValue3
  t4 := Tryz.underlying4
  a4 := Tryz.isAgg4
  z4 := Tryz.sizeOf4
  v4 := Tryz.zeroValue4
  t5 := Tryz.underlying5
  a5 := Tryz.isAgg5
  z5 := Tryz.sizeOf5
  v5 := Tryz.zeroValue5
  t9 := Tryz.underlying9
  a9 := Tryz.isAgg9
  z9 := Tryz.sizeOf9
  v9 := Tryz.zeroValue9
  t22 := Tryz.underlying23
  a22 := Tryz.isAgg23
  z22 := Tryz.sizeOf23
  v22 := Tryz.zeroValue23
  t23 := Tryz.underlying23
  a23 := Tryz.isAgg23
  z23 := Tryz.sizeOf23
  v23 := Tryz.zeroValue23
  t25 := Tryz.underlying3
  a25 := Tryz.isAgg3
  z25 := Tryz.sizeOf3
  v25 := Tryz.zeroValue3
  t32 := Tryz.underlying144
  a32 := Tryz.isAgg144
  z32 := Tryz.sizeOf144
  v32 := Tryz.zeroValue144
  t35 := Tryz.underlying305
  a35 := Tryz.isAgg305
  z35 := Tryz.sizeOf305
  v35 := Tryz.zeroValue305
  t36 := Tryz.underlying306
  a36 := Tryz.isAgg306
  z36 := Tryz.sizeOf306
  v36 := Tryz.zeroValue306
  t41 := Tryz.underlying268
  a41 := Tryz.isAgg268
  z41 := Tryz.sizeOf268
  v41 := Tryz.zeroValue268
  t44 := Tryz.underlying169
  a44 := Tryz.isAgg169
  z44 := Tryz.sizeOf169
  v44 := Tryz.zeroValue169
  t46 := Tryz.underlying71
  a46 := Tryz.isAgg71
  z46 := Tryz.sizeOf71
  v46 := Tryz.zeroValue71
  t53 := Tryz.underlying313
  a53 := Tryz.isAgg313
  z53 := Tryz.sizeOf313
  v53 := Tryz.zeroValue313
  t57 := Tryz.underlying240
  a57 := Tryz.isAgg240
  z57 := Tryz.sizeOf240
  v57 := Tryz.zeroValue240
  t63 := Tryz.underlying318
  a63 := Tryz.isAgg318
  z63 := Tryz.sizeOf318
  v63 := Tryz.zeroValue318
  t64 := Tryz.underlying319
  a64 := Tryz.isAgg319
  z64 := Tryz.sizeOf319
  v64 := Tryz.zeroValue319 }
end Go.Proofs
namespace Go.Proofs.YtainfijdhcehlaaGreatDoor
open Lib (hid)
section
open Go.ChangeShapes Go.WideShapes Go.ChangeAt Go.RowKit Go.Shelf
section
variable {w w':World} {base n c b off:Nat} {A:Option Addr} {L R:List Int}
theorem grownBy_put (q:Nat) (R:List Int) (os:Array Obj) (hb:b<w.heap.size):w.grownBy (Sort.grow (Sort.putRow (Value.int .i64) (Sort.ahead w q) b off R.toArray) os) (some b) where
 os:=rfl
 tape:=rfl
 output:=rfl
 size:=by simp [Sort.ahead]
 block:=λ k hk hne=>by
  rw [Sort.heap_grow_old _ _ (by simpa [Sort.ahead] using hk)]
  have:b≠k:=λ e=>hne (by rw [e])
  simp [Sort.putRow,Sort.mapBlock,Array.getElem?_modify,this,Sort.ahead]
theorem OMem.holds (ho:IOwn base w (some ⟨b,off,none⟩) n c L):Sort.Holds (Value.int .i64) w b off L.toArray:=by
 intro j hj
 have hj':j<L.length:=by simpa using hj
 obtain⟨h1,h2,h3,h4⟩:=ho
 have hn:=h1.1
 obtain⟨b',off',e,hlt,hc⟩:=h1.2.2 (by omega)
 cases e
 rcases h4 with ⟨e,_⟩ | ⟨b',off',e,h5,h6,h7⟩
 . cases e
 . cases e
   refine⟨?_,(h7 j (by omega)).2⟩
   rw [hc j L[j] (List.getElem?_eq_getElem hj')]
   simp [hj']
theorem OMem.put (ho:IOwn base w (some ⟨b,off,none⟩) n c L) (q:Nat) (os:Array Obj) (hl:R.length=n) (hR:∀ x∈R,B64 x) :
 IOwn base (Sort.grow (Sort.putRow (Value.int .i64) (Sort.ahead w q) b off R.toArray) os) (some ⟨b,off,none⟩) n c R:=by
 have hh:=ho.holds
 obtain⟨h1,h2,h3,h4⟩:=ho
 rcases h4 with ⟨e,_⟩ | ⟨b',off',e,h5,h6,h7⟩
 . cases e
 . cases e
   have hs:b<(Sort.putRow (Value.int .i64) (Sort.ahead w q) b off R.toArray).heap.size:=by simpa [Sort.ahead] using h6
   have hsz:R.toArray.size=L.toArray.size:=by simp [hl,h1.1]
   have hin:∀ j,j<n->(Sort.putRow (Value.int .i64) (Sort.ahead w q) b off R.toArray).cell? ⟨b,off+j,none⟩=some (.int .i64 R.toArray[j]!):=λ j hj =>
    Sort.cell?_putRow (Value.int .i64) (Sort.ahead w q) b off L.toArray R.toArray hh hsz j (by simpa [hl] using hj)
   refine⟨⟨hl,hR,λ hn=>⟨b,off,rfl,by simp [Sort.ahead];omega,λ j x hx=>?_⟩⟩,h2,h3,.inr ⟨b,off,rfl,h5,by simp [Sort.ahead];omega,λ j hj=>⟨?_,?_⟩⟩⟩
   . have hj:=(List.getElem?_eq_some_iff.1 hx).1
     rw [Sort.cell?_grow _ _ _ hs,hin j (by omega)]
     have:=(List.getElem?_eq_some_iff.1 hx).2
     simp [hj,this]
   . rw [Sort.cell?_grow _ _ _ hs]
     by_cases hjn:j<n
     . rw [hin j hjn];rfl
     . rw [Sort.cell?_putRow_other _ _ _ _ _ _ (.inr (.inr (by simp [hl];omega)))]
       exact (h7 j hj).1
   . rw [Sort.frozen?_grow _ _ _ hs,Sort.frozen?_putRow]
     exact (h7 j hj).2
theorem OMem.take (ho:IOwn base w A n c L) (k:Nat) (hk:k<=n):IOwn base w A k c (L.take k):=⟨ho.1.take_ k hk,by have:=ho.2.1;omega,ho.2.2.1,ho.2.2.2⟩
def srt (L:List Int):List Int:=L.mergeSort (λ x y=>decide (x<=y))
theorem srt_perm (L:List Int):(srt L).Perm L:=List.mergeSort_perm _ _
theorem srt_len (L:List Int):(srt L).length=L.length:=(srt_perm L).length_eq
theorem srt_rising {L:List Int} (h:L.Nodup):Rising (srt L):=by
 have hs:(srt L).Pairwise (λ x y=>decide (x<=y)=true):=List.pairwise_mergeSort (λ a b c h1 h2=>by simp only [decide_eq_true_eq] at *;omega) (λ a b=>by simp only [Bool.or_eq_true,decide_eq_true_eq];omega) L
 have hn:(srt L).Nodup:=(srt_perm L).nodup_iff.2 h
 refine List.Pairwise.imp₂ ?_ hs hn
 intro a b h1 h2
 rw [decide_eq_true_eq] at h1
 omega
theorem Sort_is (ho:IOwn base w A n c L) (hn:n<=1000000) :
 Calls Tryz.prog 247 #[.slice A n c] w λ e w'=>e=.returned (.tuple #[])/\IOwn base w' A n c (srt L)/\w.grownBy w' (A.map (·.block)):=by
 have hlen:=ho.1.1
 by_cases h0:n=0
 . subst h0
   have hL:L=[]:=List.eq_nil_of_length_eq_zero hlen
   subst hL
   refine (AnyM.slices_Sort_int_none Tryz.laySort A c w).mono ?_
   rintro e w' ⟨rfl,rfl⟩
   exact⟨rfl,by simpa [srt] using ho,World.grownBy.refl _ _⟩
 . have ho':=ho
   obtain⟨h1,h2,h3,h4⟩:=ho
   obtain⟨b,off,rfl,hlt,hc⟩:=h1.2.2 (by omega)
   unfold maxLen at h3
   have hcon:=AnyM.slices_Sort_int Tryz.laySort b off c L w ho'.holds hlt (by omega)
   rw [hlen] at hcon
   refine hcon.mono ?_
   rintro e w' ⟨rfl,q,os,rfl⟩
   exact⟨rfl,ho'.put q os ((srt_len L).trans hlen) (λ x hx=>h1.2.1 x ((srt_perm L).mem_iff.1 hx)),grownBy_put q (srt L) os hlt⟩
end
theorem Lay.inord_ids {l:List Nd}:∀ {t:T} {a:Int},Lay l t a->t.inord=t.ids.map λ i=>(l[i]?.getD default).key
 | .nil,_,_=>rfl
 | .node j k L R,a,h=>by
  obtain⟨h1,nd,h2,h3,h4,h5⟩:=h
  simp only [T.inord,T.ids,List.map_append,List.map_cons,h2,Option.getD_some,h3]
  rw [Lay.inord_ids h4,Lay.inord_ids h5]
theorem Good.perm {l:List Nd} {r:Int} {t:T} (h:Good l r t):(l.map Nd.key).Perm t.inord:=by
 have e:l.map Nd.key=(List.range l.length).map λ i=>(l[i]?.getD default).key:=by
  apply List.ext_getElem
  . simp
  . intro i h1 h2
    have:i<l.length:=by simpa using h1
    simp [this]
 rw [e,h.1.inord_ids]
 refine List.Perm.map _ ((List.perm_ext_iff_of_nodup List.nodup_range (h.1.nodup h.2.2.2.1)).2 λ i=>?_)
 rw [List.mem_range]
 refine⟨λ hi=>h.all hi,λ hi=>?_⟩
 obtain⟨nd,e,_⟩:=h.1.key_of i hi
 exact (List.getElem?_eq_some_iff.1 e).1
end
section
open Go.ChangeShapes Go.WideShapes Go.ChangeAt Go.RowKit
def prf (k:Int):Int:=if 0<=k/\k<=4294967295 then pri k else -1
theorem prf_key {k:Int} (h:IsKey k):prf k=pri k:=if_pos h
theorem prf_no {k:Int} (h:¬ IsKey k):prf k=-1:=if_neg h
theorem wrap_u32 (x:Int):IntKind.u32.wrap x=x % 4294967296:=by simp [IntKind.wrap,IntKind.bits,IntKind.signed]
theorem Pri_is (k:Int) (w:World):Calls Tryz.prog 235 #[.int .i64 k] w λ e w'=>e=.returned (.int .i64 (prf k))/\w'=w:=by
 by_cases h:IsKey k
 . rw [prf_key h]
   unfold IsKey at h
   obtain⟨h0,h1⟩:=h
   obtain⟨p,hp⟩:∃ p,p=pri k:=⟨_,rfl⟩
   rw [<- hp]
   have e1:IntKind.u32.wrap k=k:=(wrap_u32 k).trans (by omega)
   have e2:IntKind.u32.wrap (k*2654435761)=p:=(wrap_u32 _).trans (by rw [hp];rfl)
   have hr:0<=p/\p<4294967296:=by rw [hp];exact pri_range k
   have e3:IntKind.i64.wrap p=p:=wrap_id (by omega) (by omega)
   clear hp
   go_enter Tryz.func235,Tryz.ntmps235
   go_wp2_with fail
   go_ret
   exact⟨rfl,rfl⟩
 . rw [prf_no h]
   unfold IsKey at h
   by_cases h0:k<0
   . go_enter Tryz.func235,Tryz.ntmps235
     go_wp2_with fail
     go_ret
     exact⟨rfl,rfl⟩
   . have h1:4294967295<k:=by omega
     go_enter Tryz.func235,Tryz.ntmps235
     go_wp2_with fail
     go_ret
     exact⟨rfl,rfl⟩
end
end Go.Proofs.YtainfijdhcehlaaGreatDoor
