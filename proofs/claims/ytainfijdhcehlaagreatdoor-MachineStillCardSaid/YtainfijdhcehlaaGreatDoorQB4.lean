/-
  A part of the proof.
-/
import Derived.Test.YtainfijdhcehlaaGreatDoorQB3
import Derived.IntWalk
import Derived.WalkMore
import Derived.ScopeJumps
import Derived.Deep.LoopGhost
import Derived.Lib.Walk
import Derived.Shelf.Abstract
import Derived.Deep.RegionHeld3
set_option linter.unusedVariables false
set_option linter.unusedSimpArgs false
set_option maxRecDepth 100000
set_option maxHeartbeats 8000000
namespace Go.Proofs.YtainfijdhcehlaaGreatDoor
open Lib (hid)
section
open Go.ChangeShapes Go.WideShapes Go.ChangeAt Go.RowKit
theorem least_ex {p:Nat->Prop} (h:∃ m,p m):∃ m,p m/\∀ k,p k->m<=k:=by
 obtain⟨m,hm⟩:=h
 induction m using Nat.strongRecOn with
 | _ m ih =>
  by_cases h:∃ k,k<m/\p k
  . obtain⟨k,hk,hp⟩:=h
    exact ih k hk hp
  . refine⟨m,hm,λ k hk=>Nat.le_of_not_lt λ hlt=>h ⟨k,hlt,hk⟩⟩
theorem wp_scope_ghost {P:Program} {c rest:Code} {a:Act} {w:World} {Q:Exit->Act->World->Prop} (l:Nat) (J:Nat->Act->World->Prop) (hf:findLabel c l=some rest)
 (first:c.wp P (Exit.jump l (λ a' w'=>∃ m,J m a' w') Q) a w)
 (pass:∀ m a w,J m a w->rest.wp P (Exit.jump l (λ a' w'=>∃ m',m'<m/\J m' a' w') Q) a w):(Code.scope c).wp P Q a w:=by
 classical
 let μ:Act->World->Nat:=λ a w=>if h:∃ m,J m a w then Classical.choose (least_ex h) else 0
 have hμ:∀ a w,(∃ m,J m a w)->J (μ a w) a w/\∀ k,J k a w->μ a w<=k:=λ a w h=>by
  show J (if h:∃ m,J m a w then Classical.choose (least_ex h) else 0) a w/\_
  have:=Classical.choose_spec (least_ex h)
  simp only [μ,dif_pos h]
  exact this
 refine wp_scope_jumps l (λ a' w'=>∃ m,J m a' w') μ hf first λ a w h=>?_
 refine Code.wp_mono (λ e a' w' hq=>?_) (pass (μ a w) a w (hμ a w h).1)
 cases e with
 | goto l' =>
  obtain⟨h1,m',h2,h3⟩:=hq
  exact⟨h1,⟨m',h3⟩,Nat.lt_of_le_of_lt ((hμ a' w' ⟨m',h3⟩).2 m' h3) h2⟩
 | normal=>exact hq
 | exit id=>exact hq
 | ret=>exact hq
 | panic ch=>exact hq
 | outgrown=>exact hq
theorem wp_scope_once {P:Program} {c rest:Code} {a:Act} {w:World} {Q:Exit->Act->World->Prop} (l:Nat) (J:Nat->Act->World->Prop) (hf:findLabel c l=some (.seq .skip rest))
 (pass:∀ m a w,J m a w->rest.wp P (Exit.jump l (λ a' w'=>∃ m',m'<m/\J m' a' w') Q) a w)
 (first:(∀ m a w,J m a w->rest.wp P (Exit.jump l (λ a' w'=>∃ m,J m a' w') Q) a w)->c.wp P (Exit.jump l (λ a' w'=>∃ m,J m a' w') Q) a w):(Code.scope c).wp P Q a w :=
 wp_scope_ghost l J hf (first λ m a w h=>Code.wp_mono (λ e a' w' hq=>by
  cases e with
  | goto l'=>exact⟨hq.1,hq.2.choose,hq.2.choose_spec.2⟩
  | normal=>exact hq
  | exit id=>exact hq
  | ret=>exact hq
  | panic ch=>exact hq
  | outgrown=>exact hq) (pass m a w h)) (λ m a w h=>wp_seq (wp_skip (pass m a w h)))
def side (r:Bool):Nat:=if r then 2 else 1
def run (dir:Int->Option Bool) (upd:Int->Int->Int) (b off:Nat):T->Nat->Nat->Int->(Nat×Nat)×T×Int
 | .nil,pb,po,s=>((pb,po),.nil,s)
 | .node i k L R,pb,po,s=>match dir k with
  | none=>((pb,po),.node i k L R,upd k s)
  | some r=>if r then run dir upd b off R b (off+i*3+2) (upd k s) else run dir upd b off L b (off+i*3+1) (upd k s)
section
variable {dir:Int->Option Bool} {upd:Int->Int->Int} {b off:Nat}
theorem run_stop {i:Nat} {k:Int} {L R:T} {pb po:Nat} {s:Int} (h:dir k=none):run dir upd b off (.node i k L R) pb po s=((pb,po),.node i k L R,upd k s):=by
 simp only [run,h]
theorem run_go {i:Nat} {k:Int} {L R:T} {pb po:Nat} {s:Int} {r:Bool} (h:dir k=some r):run dir upd b off (.node i k L R) pb po s=run dir upd b off (if r then R else L) b (off+i*3+side r) (upd k s):=by
 cases r<;>simp [run,h,side]
theorem run_lay {l:List Nd} {w:World} (hc:∀ i nd,l[i]?=some nd->w.cell? ⟨b,off+i*3+1,none⟩=some (.int .i64 nd.left)/\w.cell? ⟨b,off+i*3+2,none⟩=some (.int .i64 nd.right)) :
 ∀ {t:T} {pb po:Nat} {s a:Int},Lay l t a->w.cell? ⟨pb,po,none⟩=some (.int .i64 a)->∃ v,Lay l (run dir upd b off t pb po s).2.1 v/\w.cell? ⟨(run dir upd b off t pb po s).1.1,(run dir upd b off t pb po s).1.2,none⟩=some (.int .i64 v)
 | .nil,pb,po,s,a,h,hp=>⟨a,h,hp⟩
 | .node i k L R,pb,po,s,a,h,hp=>by
  have h':=h
  obtain⟨h1,nd,h2,h3,h4,h5⟩:=h
  cases hd:dir k with
  | none=>rw [run_stop hd];exact⟨a,h',hp⟩
  | some r =>
   rw [run_go hd]
   cases r with
   | true=>exact run_lay hc h5 (hc i nd h2).2
   | false=>exact run_lay hc h4 (hc i nd h2).1
end
section
variable {g:Nat} {caps:Array Value} {Inv:Int->World->Prop} {dir:Int->Option Bool} {upd:Int->Int->Int} {tb b off n c:Nat} {A:Option Addr} {l:List Nd} {r:Int}
def Further (g:Nat) (caps:Array Value) (Inv:Int->World->Prop) (dir:Int->Option Bool) (upd:Int->Int->Int) (b off:Nat) (l:List Nd):Prop :=
 ∀ (s:Int) (W:World) (i:Nat) (nd:Nd),Inv s W->l[i]?=some nd->Calls Tryz.prog g (#[.pointer (some ⟨b,off+i*3,none⟩)]++caps) W λ e w' =>
  e=.returned (.pointer ((dir nd.key).map λ q=>⟨b,off+i*3+side q,none⟩))/\Inv (upd nd.key s) w'
structure Keeps (Inv:Int->World->Prop) (tb:Nat) (r:Int) (A:Option Addr) (n c:Nat) (l:List Nd):Prop where
 root:∀ s W,Inv s W->W.cell? ⟨tb,0,none⟩=some (.int .i64 r)
 nodes:∀ s W,Inv s W->W.cell? ⟨tb,1,none⟩=some (.slice A n c)
 mem:∀ s W,Inv s W->NMem W A n l
 drew:∀ s W,Inv s W->Inv s W.drew
theorem follow_is (eg:∀ args w,(callFunc g args).run Tryz.prog w=.ok (.enter g args) w) (hK:Keeps Inv tb r A n c l) (hF:Further g caps Inv dir upd b off l) (hA:n=0\/A=some ⟨b,off,none⟩)
 {t:T} (hL:Lay l t r) {s:Int} {w:World} (h0:Inv s w) :
 Calls Tryz.prog 237 #[.pointer (some ⟨tb,0,none⟩),.func (.func g) #[] caps] w λ e w' =>
  e=.returned (.pointer (some ⟨(run dir upd b off t tb 0 s).1.1,(run dir upd b off t tb 0 s).1.2,none⟩))/\Inv (run dir upd b off t tb 0 s).2.2 w':=by
 have KK:=hid hK
 have KF:=hid hF
 have KA:=hid hA
 have KI:=hid h0
 have KL:=hid hL
 obtain⟨R0,hR0⟩:∃ R0,run dir upd b off t tb 0 s=R0:=⟨_,rfl⟩
 rw [hR0]
 have KR:=hid hR0
 clear hK hF hA hR0 hL
 have c0:=KK.out.root s w h0
 have c1:=KK.out.nodes s w h0
 clear h0
 go_enter Tryz.func237,Tryz.ntmps237
 go_wp2_with fail
 refine wp_scope_once 0 (λ m a' w'=>∃ (pb po:Nat) (t':T) (v s':Int) (u6 u7 u8 u9 u10 u11 u12 u13 u14 u15 u16 u17 u18 u19 u20 u21 u22 u23 u24 u25 u26 u27 u28:Value),a'={ tmps:=#[.pointer (some ⟨tb,0,none⟩),.func (.func g) #[] caps,undef,undef,.pointer none,.pointer (some ⟨pb,po,none⟩),u6,u7,u8,u9,u10,u11,u12,u13,u14,u15,u16,u17,u18,u19,u20,u21,u22,u23,u24,u25,u26,u27,u28],defers:=[] } /\
  Hid (Inv s' w')/\Hid (∀ s W,Inv s W->W.cell? ⟨pb,po,none⟩=some (.int .i64 v))/\Hid (Lay l t' v)/\t'.size=m/\Hid (run dir upd b off t' pb po s'=R0)) rfl ?_ ?_
 . rintro m a' w' ⟨pb,po,t',v,s',u6,u7,u8,u9,u10,u11,u12,u13,u14,u15,u16,u17,u18,u19,u20,u21,u22,u23,u24,u25,u26,u27,u28,rfl,HI,HP,HL,hm,HR⟩
   have d0:=HP.out s' w' HI.out
   cases t' with
   | nil =>
    obtain rfl:v=-1:=HL.out
    go_wp2_with fail
    simp only [Exit.jump]
    go_ret
    rw [<- HR.out]
    exact⟨rfl,HI.out⟩
   | node i k L R =>
    obtain⟨hv,nd,hx,rfl,h4,h5⟩:=HL.out
    subst hv
    have HX:=hid hx
    have H4:=hid h4
    have H5:=hid h5
    have ne:((i:Int)==-1)=false:=beq_eq_false_iff_ne.2 (by omega)
    have hi:i<n:=by have:=(List.getElem?_eq_some_iff.1 hx).1;have:=(KK.out.mem s' w' HI.out).1;omega
    obtain rfl:A=some ⟨b,off,none⟩:=by
     rcases KA.out with h | h
     . omega
     . exact h
    have g0:(0:Int)<=(i:Int):=by omega
    have g1:(i:Int)<(n:Int):=by omega
    have d1:=KK.out.nodes s' w' HI.out
    have hC:=λ W h=>KF.out s' W i nd h hx
    clear hx h4 h5 c0 c1 HL
    cases hd:dir nd.key with
    | none =>
     rw [hd] at hC
     simp only [Option.map_none] at hC
     have KC:=hid hC
     have HD:=hid hd
     clear hC hd
     go_wp2_with fail
     go_region_held3 (λ w'=>w'.cell? ⟨tb,1,none⟩=some (.slice (some ⟨b,off,none⟩) n c)/\w'.cell? ⟨pb,po,none⟩=some (.int .i64 (i:Int))) (first | exact⟨d1,d0⟩ | exact⟨KK.out.nodes _ _ hI2,HP.out _ _ hI2⟩)
      (first | (go_at_fn g;(with_reducible refine (KC.out _ (KK.out.drew _ _ HI.out)).mono ?_);rintro e w2 ⟨rfl,hI2⟩))
     go_wp2_with fail
     simp only [Exit.jump]
     go_ret
     rw [<- HR.out,run_stop HD.out]
     exact⟨rfl,hI2⟩
    | some q =>
     rw [hd] at hC
     simp only [Option.map_some] at hC
     have KC:=hid hC
     have HD:=hid hd
     clear hC hd
     go_wp2_with fail
     go_region_held3 (λ w'=>w'.cell? ⟨tb,1,none⟩=some (.slice (some ⟨b,off,none⟩) n c)/\w'.cell? ⟨pb,po,none⟩=some (.int .i64 (i:Int))) (first | exact⟨d1,d0⟩ | exact⟨KK.out.nodes _ _ hI2,HP.out _ _ hI2⟩)
      (first | (go_at_fn g;(with_reducible refine (KC.out _ (KK.out.drew _ _ HI.out)).mono ?_);rintro e w2 ⟨rfl,hI2⟩))
     go_wp2_with fail
     go_step3
     refine⟨rfl,(if q then R else L).size,?_,b,off+i*3+side q,if q then R else L,if q then nd.right else nd.left,upd nd.key s',_,_,_,_,_,_,_,_,_,_,_,_,_,_,_,_,_,_,_,_,_,_,_,rfl,hid hI2,hid (λ s W h=>?_),hid ?_,rfl,hid ?_⟩
     . cases q<;>simp [T.size] at hm ⊢<;>omega
     . have:=(KK.out.mem s W h).cells HX.out
       cases q
       . exact this.2.1
       . exact this.2.2
     . cases q
       . exact H4.out
       . exact H5.out
     . rw [<- HR.out,run_go HD.out]
 . intro hp
   go_wp2_with fail
   rename_i hk
   refine wp_label ?_
   exact hk _ _ (hp _ _ _ ⟨tb,0,t,r,s,_,_,_,_,_,_,_,_,_,_,_,_,_,_,_,_,_,_,_,_,_,_,_,rfl,KI,hid KK.out.root,KL,rfl,KR⟩)
end
end
section
open Go.ChangeShapes Go.WideShapes Go.ChangeAt Go.RowKit
def ins (i:Nat) (x:Int):T->T
 | .nil=>.node i x .nil .nil
 | .node j k L R=>if pri k<pri x then .node i x (.node j k L R) .nil else .node j k L (ins i x R)
def hold (x:Int):T->Option Nat
 | .nil=>none
 | .node j k L R=>if pri k<pri x then none else some ((hold x R).getD j)
def gdir (x k:Int):Option Bool:=if pri k<pri x then none else some true
section
variable {i:Nat} {x:Int} {l:List Nd}
theorem ins_inord:∀ t:T,(ins i x t).inord=t.inord++[x]
 | .nil=>rfl
 | .node j k L R=>by
  unfold ins
  split
  . simp [T.inord]
  . simp [T.inord,ins_inord R]
theorem ins_ids {y:Nat}:∀ {t:T},y∈(ins i x t).ids->y=i\/y∈t.ids
 | .nil,h=>by simp [ins,T.ids] at h;exact .inl h
 | .node j k L R,h=>by
  unfold ins at h
  split at h
  . simp only [T.ids,List.mem_append,List.mem_cons,List.not_mem_nil,or_false] at h ⊢
    rcases h with h | h
    . exact .inr h
    . exact .inl h
  . simp only [T.ids,List.mem_append,List.mem_cons] at h ⊢
    rcases h with h | h | h
    . exact .inr (.inl h)
    . exact .inr (.inr (.inl h))
    . rcases ins_ids h with h | h
      . exact .inl h
      . exact .inr (.inr (.inr h))
theorem ins_nodup:∀ {t:T},t.ids.Nodup->i ∉ t.ids->(ins i x t).ids.Nodup
 | .nil,_,_=>by simp [ins,T.ids]
 | .node j k L R,h,hi=>by
  unfold ins
  simp only [T.ids,List.nodup_append,List.nodup_cons] at h
  simp only [T.ids,List.mem_append,List.mem_cons,not_or] at hi
  obtain⟨h1,⟨h2,h3⟩,h4⟩:=h
  obtain⟨i1,i2,i3⟩:=hi
  split
  . simp only [T.ids,List.nodup_append,List.nodup_cons,List.not_mem_nil,not_false_iff,List.nodup_nil,true_and,List.mem_append,List.mem_cons]
    refine⟨⟨h1,⟨h2,h3⟩,λ a ha b hb=>h4 a ha b (List.mem_cons.2 hb)⟩,λ a ha b hb e=>?_⟩
    have hb':b=i:=hb.resolve_right (λ h=>h)
    subst hb' e
    rcases ha with ha | ha | ha
    . exact i1 ha
    . exact i2 ha
    . exact i3 ha
  . simp only [T.ids,List.nodup_append,List.nodup_cons]
    refine⟨h1,⟨λ hj=>?_,ins_nodup h3 i3⟩,λ a ha b hb e=>?_⟩
    . rcases ins_ids hj with e | e
      . exact i2 e.symm
      . exact h2 e
    . subst e
      rcases List.mem_cons.1 hb with e | hb
      . exact h4 a ha j (by simp) e
      . rcases ins_ids hb with e | e
        . subst e;exact i1 ha
        . exact h4 a ha a (by simp [e]) rfl
theorem ins_hp:∀ {t:T} {w:Int},Hp t w->pri x<w->(∀ y∈t.inord,pri y≠pri x)->Hp (ins i x t) w
 | .nil,_,_,h,_=>⟨h,trivial,trivial⟩
 | .node j k L R,w,hp,h,hn=>by
  obtain⟨p1,p2,p3⟩:=hp
  unfold ins
  split
  . rename_i hlt
    exact⟨h,⟨hlt,p2,p3⟩,trivial⟩
  . have:=hn k (by simp [T.inord])
    exact⟨p1,p2,ins_hp p3 (by omega) λ y hy=>hn y (by simp [T.inord,hy])⟩
theorem Lay.set {j:Nat} {nd:Nd}:∀ {t:T} {a:Int},Lay l t a->j ∉ t.ids->Lay (l.set j nd) t a
 | .nil,_,h,_=>h
 | .node k key L R,a,h,hj=>by
  simp only [T.ids,List.mem_append,List.mem_cons,not_or] at hj
  obtain⟨h1,m,h2,h3,h4,h5⟩:=h
  exact⟨h1,m,by rw [List.getElem?_set_ne (by omega)];exact h2,h3,h4.set hj.1,h5.set hj.2.2⟩
theorem hold_mem:∀ {t:T} {j:Nat},hold x t=some j->j∈t.ids
 | .nil,_,h=>by simp [hold] at h
 | .node k key L R,j,h=>by
  unfold hold at h
  split at h
  . cases h
  . cases hr:hold x R with
    | none=>rw [hr] at h;simp at h;simp [T.ids,h]
    | some j'=>rw [hr] at h;simp at h;subst h;have:=hold_mem hr;simp [T.ids,this]
theorem lay_ins:∀ {t:T} {a:Int},Lay l t a->t.ids.Nodup->i ∉ t.ids->i<l.length ->
 (hold x t=none->Lay (l.set i ⟨x,a,-1⟩) (ins i x t) i) /\
 (∀ j,hold x t=some j->∃ nd,l[j]?=some nd/\Lay ((l.set i ⟨x,nd.right,-1⟩).set j ⟨nd.key,nd.left,i⟩) (ins i x t) a)
 | .nil,a,h,_,_,hi=>by
  refine⟨λ _=>⟨rfl,_,List.getElem?_set_self hi,rfl,?_,rfl⟩,λ j h=>by simp [hold] at h⟩
  exact h
 | .node k key L R,a,h,hd,hn,hi=>by
  have hlay:=h
  obtain⟨h1,m,h2,h3,h4,h5⟩:=h
  have hd0:=hd
  have hn0:=hn
  simp only [T.ids,List.nodup_append,List.nodup_cons] at hd
  simp only [T.ids,List.mem_append,List.mem_cons,not_or] at hn
  obtain⟨d1,⟨d2,d3⟩,d4⟩:=hd
  obtain⟨n1,n2,n3⟩:=hn
  have kL:k ∉ L.ids:=λ hk=>d4 k hk k (by simp) rfl
  unfold hold ins
  by_cases hlt:pri key<pri x
  . simp only [if_pos hlt]
    refine⟨λ _=>⟨rfl,_,List.getElem?_set_self hi,rfl,hlay.set hn0,rfl⟩,λ j h=>by cases h⟩
  . simp only [if_neg hlt]
    obtain⟨g1,g2⟩:=lay_ins h5 d3 n3 hi
    refine⟨λ h=>(by cases h),λ j hj=>?_⟩
    cases hr:hold x R with
    | none =>
     rw [hr] at hj
     simp only [Option.getD_none,Option.some.injEq] at hj
     subst hj
     have hlen:k<(l.set i ⟨x,m.right,-1⟩).length:=by have:=(List.getElem?_eq_some_iff.1 h2).1;simpa using this
     refine⟨m,h2,h1,_,List.getElem?_set_self hlen,h3,(h4.set n1).set kL,(g1 hr).set λ hk=>?_⟩
     rcases ins_ids hk with e | e
     . exact n2 e.symm
     . exact d2 e
    | some j' =>
     rw [hr] at hj
     simp only [Option.getD_some,Option.some.injEq] at hj
     subst hj
     obtain⟨nd,e1,e2⟩:=g2 j' hr
     have hj':=hold_mem hr
     refine⟨nd,e1,h1,m,?_,h3,(h4.set n1).set (λ hk=>d4 j' hk j' (by simp [hj']) rfl),e2⟩
     rw [List.getElem?_set_ne (λ e=>d2 (by rw [<- e];exact hj')),List.getElem?_set_ne (λ e=>n2 e)]
     exact h2
theorem run_grow {b off:Nat}:∀ {t:T} {pb po:Nat} {s:Int},(run (gdir x) (λ _ s=>s) b off t pb po s).1=match hold x t with | none=>(pb,po) | some j=>(b,off+j*3+2)
 | .nil,_,_,_=>rfl
 | .node j k L R,pb,po,s=>by
  unfold hold
  by_cases hlt:pri k<pri x
  . rw [run_stop (show gdir x k=none from if_pos hlt),if_pos hlt]
  . rw [run_go (show gdir x k=some true from if_neg hlt),if_neg hlt,if_pos rfl,run_grow]
    cases hold x R<;>rfl
end
def NV (V:Array Value) (l:List Nd):Prop:=V.size=l.length*3/\∀ j nd,l[j]?=some nd->V[j*3]?=some (.int .i64 nd.key)/\V[j*3+1]?=some (.int .i64 nd.left)/\V[j*3+2]?=some (.int .i64 nd.right)
section
variable {V:Array Value} {l:List Nd} {i j:Nat} {nd:Nd}
theorem NV.made (n:Nat):NV (madeCells (Value.agg #[.int .i64 0,.int .i64 0,.int .i64 0]).cells (n*3)) (List.replicate n ⟨0,0,0⟩):=by
 have key:∀ m,m<n*3->(madeCells (Value.agg #[.int .i64 0,.int .i64 0,.int .i64 0]).cells (n*3))[m]?=some (.int .i64 0):=λ m hm=>by
  have:(Value.agg #[Value.int .i64 0,Value.int .i64 0,Value.int .i64 0]).cells=#[.int .i64 0,.int .i64 0,.int .i64 0]:=rfl
  rw [this]
  unfold madeCells
  rw [Array.getElem?_map,Array.getElem?_range,if_pos hm]
  have h3:m % 3<3:=Nat.mod_lt _ (by decide)
  simp only [Option.map_some]
  show some (#[Value.int .i64 0,Value.int .i64 0,Value.int .i64 0][m % 3]!)=_
  rcases (by omega:m % 3=0\/m % 3=1\/m % 3=2) with h | h | h<;>rw [h]<;>rfl
 refine⟨by rw [size_madeCells,List.length_replicate],λ j nd h=>?_⟩
 obtain⟨h1,h2⟩:=List.getElem?_eq_some_iff.1 h
 rw [List.length_replicate] at h1
 rw [List.getElem_replicate] at h2
 subst h2
 exact⟨key _ (by omega),key _ (by omega),key _ (by omega)⟩
theorem NV.set (h:NV V l) (hi:i<l.length) (k a b:Int):NV (((V.setIfInBounds (i*3) (.int .i64 k)).setIfInBounds (i*3+1) (.int .i64 a)).setIfInBounds (i*3+2) (.int .i64 b)) (l.set i ⟨k,a,b⟩):=by
 have hs:=h.1
 refine⟨by simp [hs],λ j nd hj=>?_⟩
 by_cases e:i=j
 . subst e
   rw [List.getElem?_set_self hi] at hj
   cases hj
   simp [Array.getElem?_setIfInBounds,hs]
   omega
 . rw [List.getElem?_set_ne e] at hj
   obtain⟨a1,a2,a3⟩:=h.2 j nd hj
   simp only [Array.getElem?_setIfInBounds,a1,a2,a3]
   refine⟨?_,?_,?_⟩<;>(repeat' split)<;>first | rfl | omega
theorem NV.right (h:NV V l) (hj:l[j]?=some nd) (v:Int):NV (V.setIfInBounds (j*3+2) (.int .i64 v)) (l.set j ⟨nd.key,nd.left,v⟩):=by
 have hs:=h.1
 have hlt:=(List.getElem?_eq_some_iff.1 hj).1
 refine⟨by simp [hs],λ k m hk=>?_⟩
 by_cases e:j=k
 . subst e
   rw [List.getElem?_set_self hlt] at hk
   cases hk
   obtain⟨a1,a2,a3⟩:=h.2 j nd hj
   simp [Array.getElem?_setIfInBounds,hs,a1,a2]
   omega
 . rw [List.getElem?_set_ne e] at hk
   obtain⟨a1,a2,a3⟩:=h.2 k m hk
   simp only [Array.getElem?_setIfInBounds,a1,a2,a3]
   refine⟨?_,?_,?_⟩<;>(repeat' split)<;>first | rfl | omega
theorem NV.mem {w:World} {g n:Nat} {t:TypeId} (h:NV V l) (hn:l.length=n) (hB:∀ nd∈l,B64 nd.key/\B64 nd.left/\B64 nd.right) (hb:Blk w g V t):NMem w (some ⟨g,0,none⟩) n l :=
 ⟨hn,hB,λ _=>⟨g,0,rfl,hb.lt,λ j nd hj=>by
   obtain⟨a1,a2,a3⟩:=h.2 j nd hj
   simp only [Nat.zero_add]
   exact⟨(hb.at_ a1).1,(hb.at_ a2).1,(hb.at_ a3).1⟩⟩⟩
end
end
section
open Go.ChangeShapes Go.WideShapes Go.ChangeAt Go.RowKit
def SF (s:Nat):Value:=.func (.func 242) #[] #[.pointer (some ⟨s,0,none⟩),.pointer (some ⟨s+1,0,none⟩),.pointer (some ⟨s+2,0,none⟩)]
structure RW (w0:World) (r:Int) (A:Option Addr) (n c:Nat) (k:Int) (W:World):Prop where
 gr:Gr w0 W
 b0:Blk W w0.heap.size #[.int .i64 r,.slice A n c] 281
 b1:Blk W (w0.heap.size+1) #[.int .i64 k] 3
 b2:Blk W (w0.heap.size+2) #[SF w0.heap.size] 298
section
variable {w0 W W':World} {r:Int} {A:Option Addr} {n c:Nat} {k:Int} {l:List Nd}
theorem RW.dr (h:RW w0 r A n c k W):RW w0 r A n c k W.drew:=⟨h.gr.dr,h.b0,h.b1,h.b2⟩
theorem RW.drN (h:RW w0 r A n c k W) (m:Nat):RW w0 r A n c k (W.drewN m):=⟨h.gr.drN m,h.b0,h.b1,h.b2⟩
theorem RW.come (h:RW w0 r A n c k W) (j:Int):RW w0 r A n c j (W.setCell ⟨w0.heap.size+1,0,none⟩ (.int .i64 j)) :=
 ⟨h.gr.st (by show w0.heap.size<=w0.heap.size+1;omega) _,h.b0.st (by show w0.heap.size+1≠w0.heap.size;omega) _,by simpa using h.b1.set 0 (.int .i64 j),h.b2.st (by show w0.heap.size+1≠w0.heap.size+2;omega) _⟩
def Loads (s i b off:Nat) (n c:Nat) (nd:Nd) (W:World):Prop :=
 W.cell? ⟨s,1,none⟩=some (.slice (some ⟨b,off,none⟩) n c)/\W.cell? ⟨s+2,0,none⟩=some (.func (.func 242) #[] #[.pointer (some ⟨s,0,none⟩),.pointer (some ⟨s+1,0,none⟩),.pointer (some ⟨s+2,0,none⟩)]) /\
  W.cell? ⟨b,off+i*3,none⟩=some (.int .i64 nd.key)/\W.cell? ⟨b,off+i*3+1,none⟩=some (.int .i64 nd.left)/\W.cell? ⟨b,off+i*3+2,none⟩=some (.int .i64 nd.right)
theorem RW.loads {b off i:Nat} {nd:Nd} (hR:RW w0 r (some ⟨b,off,none⟩) n c k W) (hm:NMem w0 (some ⟨b,off,none⟩) n l) (hx:l[i]?=some nd):Loads w0.heap.size i b off n c nd W:=by
 have hi:i<n:=by have:=(List.getElem?_eq_some_iff.1 hx).1;have:=hm.1;omega
 obtain⟨b',off',nd',e,hbl,hx',i0,i1,i2,d0,d1,d2⟩:=(hm.gr hR.gr).at_ hi
 cases e
 rw [hx] at hx'
 cases hx'
 exact⟨(hR.b0.at_ (k:=1) rfl).1,(hR.b2.at_ (k:=0) rfl).1,d0,d1,d2⟩
theorem sound_is (hm:NMem w0 A n l) (hn:n<=64) {a lo hi w:Int} {b:Bool} {q:Nat} (hs:Snd l a lo hi w b q):∀ (W:World) (k:Int),RW w0 r A n c k W->0<=k->k+q<=1000->-1<=lo->hi<=4294967296 ->
 Calls Tryz.prog 242 #[.int .i64 a,.int .i64 lo,.int .i64 hi,.int .i64 w,.pointer (some ⟨w0.heap.size,0,none⟩),.pointer (some ⟨w0.heap.size+1,0,none⟩),.pointer (some ⟨w0.heap.size+2,0,none⟩)] W
  λ e w'=>e=.returned (.bool b)/\RW w0 r A n c (k+q) w':=by
 have hlen:=hm.1
 induction hs with
 | nil lo hi w =>
  intro W k hR hk hq hlo hhi
  have HR:=hid hR
  clear hm hR
  go_enter Tryz.func242,Tryz.ntmps242
  go_wp2_with fail
  go_ret
  exact⟨rfl,by simpa using HR.out⟩
 | out a lo hi w h1 h2 =>
  intro W k hR hk hq hlo hhi
  have c1:=(hR.b0.at_ (k:=1) rfl).1
  have HR:=hid hR
  have ne:(a==-1)=false:=beq_eq_false_iff_ne.2 h1
  rw [hlen] at h2
  clear hm hR
  by_cases h3:a<0
  . go_enter Tryz.func242,Tryz.ntmps242
    go_wp2_with fail
    go_ret
    exact⟨rfl,by simpa using HR.out⟩
  . have h4:(n:Int)<=a:=by omega
    clear h2
    go_enter Tryz.func242,Tryz.ntmps242
    go_wp2_with fail
    go_ret
    exact⟨rfl,by simpa using HR.out⟩
 | no i nd lo hi w hx hno =>
  intro W k hR hk hq hlo hhi
  have c1:=(hR.b0.at_ (k:=1) rfl).1
  have hi1:i<n:=by have:=(List.getElem?_eq_some_iff.1 hx).1;omega
  obtain⟨b,off,nd',rfl,hbl,hx',i0,i1,i2,d0,d1,d2⟩:=(hm.gr hR.gr).at_ hi1
  rw [hx] at hx'
  cases hx'
  obtain⟨x,y,z⟩:=nd
  have HR:=hid hR
  have g0:¬ ((i:Int)<0):=by omega
  have g1:(i:Int)<(n:Int):=by omega
  have g2:((i:Int)==-1)=false:=beq_eq_false_iff_ne.2 (by omega)
  obtain⟨p,hp⟩:∃ p,prf x=p:=⟨_,rfl⟩
  have hC:=λ W=>Pri_is x W
  rw [hp] at hC
  have hno:x<=lo\/(¬ x<=lo/\hi<=x)\/(¬ x<=lo/\¬ hi<=x/\w<=p):=by
   dsimp only at hno
   have hpk:0<=x->x<=4294967295->p=pri x:=λ h h'=>by rw [<- hp];exact prf_key ⟨h,h'⟩
   by_cases e1:x<=lo
   . exact .inl e1
   . by_cases e2:hi<=x
     . exact .inr (.inl ⟨e1,e2⟩)
     . refine .inr (.inr ⟨e1,e2,?_⟩)
       rw [hpk (by omega) (by omega)]
       omega
  have kC:=hid hC
  clear hm hR hx hC hp
  dsimp only at *
  rcases hno with h | ⟨h,h'⟩ | ⟨h,h',h''⟩
  all_goals (
   go_enter Tryz.func242,Tryz.ntmps242
   go_wp2_with fail
   go_quiet ((go_at_call 235;with_reducible exact Calls.quiet_of_same (kC.out _)))
   go_wp2_with fail
   go_ret
   exact⟨rfl,by simpa using HR.out.drN _⟩)
 | left i nd lo hi w q hx h1 h2 h3 hs ih =>
  intro W k hR hk hq hlo hhi
  obtain⟨x,y,z⟩:=nd
  dsimp only at *
  have hIK:IsKey x:=by unfold IsKey;omega
  have c1:=(hR.b0.at_ (k:=1) rfl).1
  obtain⟨c2,c3⟩:=hR.b1.at_ (k:=0) rfl
  have hi1:i<n:=by have:=(List.getElem?_eq_some_iff.1 hx).1;omega
  obtain⟨bb,off,nd',rfl,hbl,hx',i0,i1,i2,d0,d1,d2⟩:=(hm.gr hR.gr).at_ hi1
  rw [hx] at hx'
  cases hx'
  dsimp only at *
  have g0:¬ ((i:Int)<0):=by omega
  have g1:(i:Int)<(n:Int):=by omega
  have g2:((i:Int)==-1)=false:=beq_eq_false_iff_ne.2 (by omega)
  have g3:¬ x<=lo:=by omega
  have g4:¬ hi<=x:=by omega
  have g5:¬ w<=pri x:=by omega
  have hC:=λ W=>Pri_is x W
  rw [prf_key hIK] at hC
  generalize pri x=p at *
  have kC:=hid hC
  have HI:=hid ih
  have HR:=hid hR
  have HM:=hid hm
  have e1:IntKind.i64.wrap (k+1)=k+1:=IntWalk.i64_in _ (by omega)
  have EQ:=hid (show k+((q+1:Nat):Int)=k+1+(q:Int) from by omega)
  have b1:=hid (show 0<=k+1 from by omega)
  have b2:=hid (show k+1+(q:Int)<=1000 from by omega)
  have b3:=hid hlo
  have b4:=hid (show x<=4294967296 from by omega)
  have HX:=hid hx
  clear hm hR hx hC ih hs hq hk h1 h2 h3 hIK
  go_enter Tryz.func242,Tryz.ntmps242
  go_wp2_with fail
  go_quiet ((go_at_call 235;with_reducible exact Calls.quiet_of_same (kC.out _)))
  clear d0
  go_wp2_with fail
  have R1:=(HR.out.drN nq).come (k+1)
  clear c1 c2 c3 d1 d2 hbl
  generalize (W.drewN nq).setCell _ _=W1 at R1 ⊢
  refine wp_region_held_drew (S:=λ w'=>w'.cell? ⟨w0.heap.size,1,none⟩=some (.slice (some ⟨bb,off,none⟩) n c)/\w'.cell? ⟨w0.heap.size+2,0,none⟩=some (.func (.func 242) #[] #[.pointer (some ⟨w0.heap.size,0,none⟩),.pointer (some ⟨w0.heap.size+1,0,none⟩),.pointer (some ⟨w0.heap.size+2,0,none⟩)]) /\
   w'.cell? ⟨bb,off+i*3,none⟩=some (.int .i64 x)/\w'.cell? ⟨bb,off+i*3+1,none⟩=some (.int .i64 y)/\w'.cell? ⟨bb,off+i*3+2,none⟩=some (.int .i64 z)) (by kernel_rfl) (R1.dr.loads HM.out HX.out) (λ hHeld=>?_)
  refine wpAnyH_take (i:=0) (oi:=⟨some 53,_,_,_,_,_⟩) (v:=?_) rfl (by kernel_rfl) (by kernel_rfl) (by kernel_rfl) (λ _ _ _ h=>h) (Or.inl ⟨by rfl,?_⟩) (by assumption) ?_
  rotate_left 1
  . (intro w hSw;(try dsimp only at hSw);go_simp;(try with_reducible rfl))
  try simp only [pL]
  refine wpAnyH_take (i:=1) (oi:=⟨some 54,_,_,_,_,_⟩) (v:=?_) rfl (by kernel_rfl) (by kernel_rfl) (by kernel_rfl) (λ _ _ _ h=>h) (Or.inl ⟨by rfl,?_⟩) (by assumption) ?_
  rotate_left 1
  . (intro w hSw;(try dsimp only at hSw);go_simp;(try with_reducible rfl))
  try simp only [pL]
  refine wpAnyH_take (i:=2) (oi:=⟨some 55,_,_,_,_,_⟩) (v:=?_) rfl (by kernel_rfl) (by kernel_rfl) (by kernel_rfl) (λ _ _ _ h=>h) (Or.inl ⟨by rfl,?_⟩) (by assumption) ?_
  rotate_left 1
  . (intro w hSw;(try dsimp only at hSw);go_simp;(try with_reducible rfl))
  try simp only [pL]
  refine wpAnyH_take (i:=3) (oi:=⟨some 56,_,_,_,_,_⟩) (v:=?_) rfl (by kernel_rfl) (by kernel_rfl) (by kernel_rfl) (λ _ _ _ h=>h) (Or.inl ⟨by rfl,?_⟩) (by assumption) ?_
  rotate_left 1
  . (intro w hSw;(try dsimp only at hSw);go_simp;(try with_reducible rfl))
  try simp only [pL]
  refine wpAnyH_take (i:=4) (oi:=⟨some 57,_,_,_,_,_⟩) (v:=?_) rfl (by kernel_rfl) (by kernel_rfl) (by kernel_rfl) (λ _ _ _ h=>h) (Or.inl ⟨by rfl,?_⟩) (by assumption) ?_
  rotate_left 1
  . (intro w hSw;(try dsimp only at hSw);go_simp;(try with_reducible rfl))
  try simp only [pL]
  refine wpAnyH_take (i:=5) (oi:=⟨some 58,_,_,_,_,_⟩) (v:=?_) rfl (by kernel_rfl) (by kernel_rfl) (by kernel_rfl) (λ _ _ _ h=>h) (Or.inl ⟨by rfl,?_⟩) (by assumption) ?_
  rotate_left 1
  . (intro w hSw;(try dsimp only at hSw);go_simp;(try with_reducible rfl))
  try simp only [pL]
  refine wpAnyH_take (i:=6) (oi:=⟨some 59,_,_,_,_,_⟩) (v:=?_) rfl (by kernel_rfl) (by kernel_rfl) (by kernel_rfl) (λ _ _ _ h=>h) (Or.inl ⟨by rfl,?_⟩) (by assumption) ?_
  rotate_left 1
  . (intro w hSw;(try dsimp only at hSw);go_simp;(try with_reducible rfl))
  try simp only [pL]
  refine wpAnyH_take (i:=7) (oi:=⟨some 60,_,_,_,_,_⟩) (v:=?_) rfl (by kernel_rfl) (by kernel_rfl) (by kernel_rfl) (λ _ _ _ h=>h) (Or.inl ⟨by rfl,?_⟩) (by assumption) ?_
  rotate_left 1
  . (intro w hSw;(try dsimp only at hSw);go_simp;(try with_reducible rfl))
  try simp only [pL]
  refine wpAnyH_take (i:=8) (oi:=⟨some 61,_,_,_,_,_⟩) (v:=?_) rfl (by kernel_rfl) (by kernel_rfl) (by kernel_rfl) (λ _ _ _ h=>h) (Or.inl ⟨by rfl,?_⟩) (by assumption) ?_
  rotate_left 1
  . (intro w hSw;(try dsimp only at hSw);go_simp;(try with_reducible rfl))
  try simp only [pL]
  refine wpAnyH_take (i:=9) (oi:=⟨some 62,_,_,_,_,_⟩) (v:=?_) rfl (by kernel_rfl) (by kernel_rfl) (by kernel_rfl) (λ _ _ _ h=>h) (Or.inl ⟨by rfl,?_⟩) (by assumption) ?_
  rotate_left 1
  . (intro w hSw;(try dsimp only at hSw);go_simp;(try with_reducible rfl))
  try simp only [pL]
  refine wpAnyH_ready (rs:=[10]) (by kernel_rfl) (by simp) ?_
  refine AllReadyH.cons (o:=⟨some 63,_,_,_,_,_⟩) rfl (λ K hK=>?_) AllReadyH.nil
  go_simp
  go_at_call 242
  with_reducible refine (HI.out _ _ R1.dr b1.out b2.out b3.out b4.out).mono ?_
  rintro e w2 ⟨rfl,hb2⟩
  go_wp2_with fail
  refine hK.out _ _ (hb2.loads HM.out HX.out) (λ hHeld2=>?_)
  clear hK K hHeld
  try simp only [pL]
  refine wpAnyH_take (i:=11) (oi:=⟨some 64,_,_,_,_,_⟩) (v:=?_) rfl (by kernel_rfl) (by kernel_rfl) (by kernel_rfl) (λ _ _ _ h=>h) (Or.inl ⟨by rfl,?_⟩) (by assumption) ?_
  rotate_left 1
  . (intro w hSw;(try dsimp only at hSw);go_simp;(try with_reducible rfl))
  try simp only [pL]
  refine wP 12 (by assumption) ?_
  refine wP 13 (by assumption) ?_
  refine wP 14 (by assumption) ?_
  refine wP 15 (by assumption) ?_
  refine wP 16 (by assumption) ?_
  refine wP 17 (by assumption) ?_
  refine wP 18 (by assumption) ?_
  refine wP 19 (by assumption) ?_
  refine wP 20 (by assumption) ?_
  refine wP 21 (by assumption) ?_
  refine wP 22 (by assumption) ?_
  refine wpAnyH_take (i:=23) (oi:=⟨some 76,_,_,_,_,_⟩) (v:=?_) rfl (by kernel_rfl) (by kernel_rfl) (by kernel_rfl) (λ _ _ _ h=>h) (Or.inl ⟨by rfl,?_⟩) (by assumption) ?_
  rotate_left 1
  . (intro w hSw;(try dsimp only at hSw);go_simp;(try with_reducible rfl))
  try simp only [pL]
  refine wpAnyH_take (i:=24) (oi:=⟨some 11,_,_,_,_,_⟩) (v:=?_) rfl (by kernel_rfl) (by kernel_rfl) (by kernel_rfl) (λ _ _ _ h=>h) (Or.inl ⟨by rfl,?_⟩) (by assumption) ?_
  rotate_left 1
  . (intro w hSw;(try dsimp only at hSw);go_simp;(try with_reducible rfl))
  try simp only [pL]
  refine wpAnyH_done (by kernel_rfl) ?_ _
  go_wp2_with fail
  go_ret
  rw [EQ.out]
  exact⟨rfl,hb2⟩
 | both i nd lo hi w b q u hx h1 h2 h3 hs hs' ih ih' =>
  intro W k hR hk hq hlo hhi
  obtain⟨x,y,z⟩:=nd
  dsimp only at *
  have hIK:IsKey x:=by unfold IsKey;omega
  have c1:=(hR.b0.at_ (k:=1) rfl).1
  obtain⟨c2,c3⟩:=hR.b1.at_ (k:=0) rfl
  have hi1:i<n:=by have:=(List.getElem?_eq_some_iff.1 hx).1;omega
  obtain⟨bb,off,nd',rfl,hbl,hx',i0,i1,i2,d0,d1,d2⟩:=(hm.gr hR.gr).at_ hi1
  rw [hx] at hx'
  cases hx'
  dsimp only at *
  have g0:¬ ((i:Int)<0):=by omega
  have g1:(i:Int)<(n:Int):=by omega
  have g2:((i:Int)==-1)=false:=beq_eq_false_iff_ne.2 (by omega)
  have g3:¬ x<=lo:=by omega
  have g4:¬ hi<=x:=by omega
  have g5:¬ w<=pri x:=by omega
  have hC:=λ W=>Pri_is x W
  rw [prf_key hIK] at hC
  generalize pri x=p at *
  have kC:=hid hC
  have HI:=hid ih
  have HI2:=hid ih'
  have HR:=hid hR
  have HM:=hid hm
  have e1:IntKind.i64.wrap (k+1)=k+1:=IntWalk.i64_in _ (by omega)
  have EQ:=hid (show k+((q+u+1:Nat):Int)=k+1+(q:Int)+(u:Int) from by omega)
  have b1:=hid (show 0<=k+1 from by omega)
  have b2:=hid (show k+1+(q:Int)<=1000 from by omega)
  have b3:=hid hlo
  have b5:=hid (show 0<=k+1+(q:Int) from by omega)
  have b6:=hid (show k+1+(q:Int)+(u:Int)<=1000 from by omega)
  have b7:=hid (show -1<=x from by omega)
  have b8:=hid hhi
  have b4:=hid (show x<=4294967296 from by omega)
  have HX:=hid hx
  clear hm hR hx hC ih ih' hs hs' hq hk h1 h2 h3 hIK
  go_enter Tryz.func242,Tryz.ntmps242
  go_wp2_with fail
  go_quiet ((go_at_call 235;with_reducible exact Calls.quiet_of_same (kC.out _)))
  clear d0
  go_wp2_with fail
  have R1:=(HR.out.drN nq).come (k+1)
  clear c1 c2 c3 d1 d2 hbl
  generalize (W.drewN nq).setCell _ _=W1 at R1 ⊢
  refine wp_region_held_drew (S:=λ w'=>w'.cell? ⟨w0.heap.size,1,none⟩=some (.slice (some ⟨bb,off,none⟩) n c)/\w'.cell? ⟨w0.heap.size+2,0,none⟩=some (.func (.func 242) #[] #[.pointer (some ⟨w0.heap.size,0,none⟩),.pointer (some ⟨w0.heap.size+1,0,none⟩),.pointer (some ⟨w0.heap.size+2,0,none⟩)]) /\
   w'.cell? ⟨bb,off+i*3,none⟩=some (.int .i64 x)/\w'.cell? ⟨bb,off+i*3+1,none⟩=some (.int .i64 y)/\w'.cell? ⟨bb,off+i*3+2,none⟩=some (.int .i64 z)) (by kernel_rfl) (R1.dr.loads HM.out HX.out) (λ hHeld=>?_)
  refine wpAnyH_take (i:=0) (oi:=⟨some 53,_,_,_,_,_⟩) (v:=?_) rfl (by kernel_rfl) (by kernel_rfl) (by kernel_rfl) (λ _ _ _ h=>h) (Or.inl ⟨by rfl,?_⟩) (by assumption) ?_
  rotate_left 1
  . (intro w hSw;(try dsimp only at hSw);go_simp;(try with_reducible rfl))
  try simp only [pL]
  refine wpAnyH_take (i:=1) (oi:=⟨some 54,_,_,_,_,_⟩) (v:=?_) rfl (by kernel_rfl) (by kernel_rfl) (by kernel_rfl) (λ _ _ _ h=>h) (Or.inl ⟨by rfl,?_⟩) (by assumption) ?_
  rotate_left 1
  . (intro w hSw;(try dsimp only at hSw);go_simp;(try with_reducible rfl))
  try simp only [pL]
  refine wpAnyH_take (i:=2) (oi:=⟨some 55,_,_,_,_,_⟩) (v:=?_) rfl (by kernel_rfl) (by kernel_rfl) (by kernel_rfl) (λ _ _ _ h=>h) (Or.inl ⟨by rfl,?_⟩) (by assumption) ?_
  rotate_left 1
  . (intro w hSw;(try dsimp only at hSw);go_simp;(try with_reducible rfl))
  try simp only [pL]
  refine wpAnyH_take (i:=3) (oi:=⟨some 56,_,_,_,_,_⟩) (v:=?_) rfl (by kernel_rfl) (by kernel_rfl) (by kernel_rfl) (λ _ _ _ h=>h) (Or.inl ⟨by rfl,?_⟩) (by assumption) ?_
  rotate_left 1
  . (intro w hSw;(try dsimp only at hSw);go_simp;(try with_reducible rfl))
  try simp only [pL]
  refine wpAnyH_take (i:=4) (oi:=⟨some 57,_,_,_,_,_⟩) (v:=?_) rfl (by kernel_rfl) (by kernel_rfl) (by kernel_rfl) (λ _ _ _ h=>h) (Or.inl ⟨by rfl,?_⟩) (by assumption) ?_
  rotate_left 1
  . (intro w hSw;(try dsimp only at hSw);go_simp;(try with_reducible rfl))
  try simp only [pL]
  refine wpAnyH_take (i:=5) (oi:=⟨some 58,_,_,_,_,_⟩) (v:=?_) rfl (by kernel_rfl) (by kernel_rfl) (by kernel_rfl) (λ _ _ _ h=>h) (Or.inl ⟨by rfl,?_⟩) (by assumption) ?_
  rotate_left 1
  . (intro w hSw;(try dsimp only at hSw);go_simp;(try with_reducible rfl))
  try simp only [pL]
  refine wpAnyH_take (i:=6) (oi:=⟨some 59,_,_,_,_,_⟩) (v:=?_) rfl (by kernel_rfl) (by kernel_rfl) (by kernel_rfl) (λ _ _ _ h=>h) (Or.inl ⟨by rfl,?_⟩) (by assumption) ?_
  rotate_left 1
  . (intro w hSw;(try dsimp only at hSw);go_simp;(try with_reducible rfl))
  try simp only [pL]
  refine wpAnyH_take (i:=7) (oi:=⟨some 60,_,_,_,_,_⟩) (v:=?_) rfl (by kernel_rfl) (by kernel_rfl) (by kernel_rfl) (λ _ _ _ h=>h) (Or.inl ⟨by rfl,?_⟩) (by assumption) ?_
  rotate_left 1
  . (intro w hSw;(try dsimp only at hSw);go_simp;(try with_reducible rfl))
  try simp only [pL]
  refine wpAnyH_take (i:=8) (oi:=⟨some 61,_,_,_,_,_⟩) (v:=?_) rfl (by kernel_rfl) (by kernel_rfl) (by kernel_rfl) (λ _ _ _ h=>h) (Or.inl ⟨by rfl,?_⟩) (by assumption) ?_
  rotate_left 1
  . (intro w hSw;(try dsimp only at hSw);go_simp;(try with_reducible rfl))
  try simp only [pL]
  refine wpAnyH_take (i:=9) (oi:=⟨some 62,_,_,_,_,_⟩) (v:=?_) rfl (by kernel_rfl) (by kernel_rfl) (by kernel_rfl) (λ _ _ _ h=>h) (Or.inl ⟨by rfl,?_⟩) (by assumption) ?_
  rotate_left 1
  . (intro w hSw;(try dsimp only at hSw);go_simp;(try with_reducible rfl))
  try simp only [pL]
  refine wpAnyH_ready (rs:=[10]) (by kernel_rfl) (by simp) ?_
  refine AllReadyH.cons (o:=⟨some 63,_,_,_,_,_⟩) rfl (λ K hK=>?_) AllReadyH.nil
  go_simp
  go_at_call 242
  with_reducible refine (HI.out _ _ R1.dr b1.out b2.out b3.out b4.out).mono ?_
  rintro e w2 ⟨rfl,hb2⟩
  go_wp2_with fail
  refine hK.out _ _ (hb2.loads HM.out HX.out) (λ hHeld2=>?_)
  clear hK K hHeld
  try simp only [pL]
  refine wpAnyH_take (i:=11) (oi:=⟨some 64,_,_,_,_,_⟩) (v:=?_) rfl (by kernel_rfl) (by kernel_rfl) (by kernel_rfl) (λ _ _ _ h=>h) (Or.inl ⟨by rfl,?_⟩) (by assumption) ?_
  rotate_left 1
  . (intro w hSw;(try dsimp only at hSw);go_simp;(try with_reducible rfl))
  try simp only [pL]
  refine wpAnyH_take (i:=12) (oi:=⟨some 65,_,_,_,_,_⟩) (v:=?_) rfl (by kernel_rfl) (by kernel_rfl) (by kernel_rfl) (λ _ _ _ h=>h) (Or.inl ⟨by rfl,?_⟩) (by assumption) ?_
  rotate_left 1
  . (intro w hSw;(try dsimp only at hSw);go_simp;(try with_reducible rfl))
  try simp only [pL]
  refine wpAnyH_take (i:=13) (oi:=⟨some 66,_,_,_,_,_⟩) (v:=?_) rfl (by kernel_rfl) (by kernel_rfl) (by kernel_rfl) (λ _ _ _ h=>h) (Or.inl ⟨by rfl,?_⟩) (by assumption) ?_
  rotate_left 1
  . (intro w hSw;(try dsimp only at hSw);go_simp;(try with_reducible rfl))
  try simp only [pL]
  refine wpAnyH_take (i:=14) (oi:=⟨some 67,_,_,_,_,_⟩) (v:=?_) rfl (by kernel_rfl) (by kernel_rfl) (by kernel_rfl) (λ _ _ _ h=>h) (Or.inl ⟨by rfl,?_⟩) (by assumption) ?_
  rotate_left 1
  . (intro w hSw;(try dsimp only at hSw);go_simp;(try with_reducible rfl))
  try simp only [pL]
  refine wpAnyH_take (i:=15) (oi:=⟨some 68,_,_,_,_,_⟩) (v:=?_) rfl (by kernel_rfl) (by kernel_rfl) (by kernel_rfl) (λ _ _ _ h=>h) (Or.inl ⟨by rfl,?_⟩) (by assumption) ?_
  rotate_left 1
  . (intro w hSw;(try dsimp only at hSw);go_simp;(try with_reducible rfl))
  try simp only [pL]
  refine wpAnyH_take (i:=16) (oi:=⟨some 69,_,_,_,_,_⟩) (v:=?_) rfl (by kernel_rfl) (by kernel_rfl) (by kernel_rfl) (λ _ _ _ h=>h) (Or.inl ⟨by rfl,?_⟩) (by assumption) ?_
  rotate_left 1
  . (intro w hSw;(try dsimp only at hSw);go_simp;(try with_reducible rfl))
  try simp only [pL]
  refine wpAnyH_take (i:=17) (oi:=⟨some 70,_,_,_,_,_⟩) (v:=?_) rfl (by kernel_rfl) (by kernel_rfl) (by kernel_rfl) (λ _ _ _ h=>h) (Or.inl ⟨by rfl,?_⟩) (by assumption) ?_
  rotate_left 1
  . (intro w hSw;(try dsimp only at hSw);go_simp;(try with_reducible rfl))
  try simp only [pL]
  refine wpAnyH_take (i:=18) (oi:=⟨some 71,_,_,_,_,_⟩) (v:=?_) rfl (by kernel_rfl) (by kernel_rfl) (by kernel_rfl) (λ _ _ _ h=>h) (Or.inl ⟨by rfl,?_⟩) (by assumption) ?_
  rotate_left 1
  . (intro w hSw;(try dsimp only at hSw);go_simp;(try with_reducible rfl))
  try simp only [pL]
  refine wpAnyH_take (i:=19) (oi:=⟨some 72,_,_,_,_,_⟩) (v:=?_) rfl (by kernel_rfl) (by kernel_rfl) (by kernel_rfl) (λ _ _ _ h=>h) (Or.inl ⟨by rfl,?_⟩) (by assumption) ?_
  rotate_left 1
  . (intro w hSw;(try dsimp only at hSw);go_simp;(try with_reducible rfl))
  try simp only [pL]
  refine wpAnyH_take (i:=20) (oi:=⟨some 73,_,_,_,_,_⟩) (v:=?_) rfl (by kernel_rfl) (by kernel_rfl) (by kernel_rfl) (λ _ _ _ h=>h) (Or.inl ⟨by rfl,?_⟩) (by assumption) ?_
  rotate_left 1
  . (intro w hSw;(try dsimp only at hSw);go_simp;(try with_reducible rfl))
  try simp only [pL]
  refine wpAnyH_take (i:=21) (oi:=⟨some 74,_,_,_,_,_⟩) (v:=?_) rfl (by kernel_rfl) (by kernel_rfl) (by kernel_rfl) (λ _ _ _ h=>h) (Or.inl ⟨by rfl,?_⟩) (by assumption) ?_
  rotate_left 1
  . (intro w hSw;(try dsimp only at hSw);go_simp;(try with_reducible rfl))
  try simp only [pL]
  refine wpAnyH_ready (rs:=[22]) (by kernel_rfl) (by simp) ?_
  refine AllReadyH.cons (o:=⟨some 75,_,_,_,_,_⟩) rfl (λ K hK=>?_) AllReadyH.nil
  go_simp
  go_at_call 242
  with_reducible refine (HI2.out _ _ hb2 b5.out b6.out b7.out b8.out).mono ?_
  rintro e w3 ⟨rfl,hb3⟩
  go_wp2_with fail
  refine hK.out _ _ (hb3.loads HM.out HX.out) (λ hHeld3=>?_)
  clear hK K hHeld2
  try simp only [pL]
  refine wpAnyH_take (i:=23) (oi:=⟨some 76,_,_,_,_,_⟩) (v:=?_) rfl (by kernel_rfl) (by kernel_rfl) (by kernel_rfl) (λ _ _ _ h=>h) (Or.inl ⟨by rfl,?_⟩) (by assumption) ?_
  rotate_left 1
  . (intro w hSw;(try dsimp only at hSw);go_simp;(try with_reducible rfl))
  try simp only [pL]
  refine wpAnyH_take (i:=24) (oi:=⟨some 11,_,_,_,_,_⟩) (v:=?_) rfl (by kernel_rfl) (by kernel_rfl) (by kernel_rfl) (λ _ _ _ h=>h) (Or.inl ⟨by rfl,?_⟩) (by assumption) ?_
  rotate_left 1
  . (intro w hSw;(try dsimp only at hSw);go_simp;(try with_reducible rfl))
  try simp only [pL]
  refine wpAnyH_done (by kernel_rfl) ?_ _
  go_wp2_with fail
  go_ret
  rw [EQ.out]
  exact⟨rfl,hb3⟩
end
end
section
open Go.ChangeShapes Go.WideShapes Go.ChangeAt Go.RowKit
theorem run_store_fn (a:Addr) (fn:Fn) (x y:Array Value) (m:Mode) (w:World):(store a (.func fn x y) m).run Tryz.prog w=stored Tryz.prog w a (.func fn x y) m:=run_store Tryz.prog w a _ m rfl
theorem Right_is {w:World} {r:Int} {A:Option Addr} {n c:Nat} {l:List Nd} (hm:NMem w A n l) {v:Bool} (hv:v=true↔∃ t,Good l r t) :
 Calls Tryz.prog 236 #[.agg #[.int .i64 r,.slice A n c]] w λ e w'=>e=.returned (.bool v)/\Gr w w':=by
 have hlen:=hm.1
 by_cases hn:n<=64
 . obtain⟨b,q,hs,hq,hg⟩:=right_ex (r:=r) (show l.length<=64 from by omega)
   have hvb:v=(b&&decide (q=n)):=by
    have h:v=true↔(b&&decide (q=n))=true:=by rw [hv,<- hg,hlen,Bool.and_eq_true,decide_eq_true_eq]
    exact Bool.eq_iff_iff.2 h
   clear hv hg
   have h1:¬ (64:Int)<(n:Int):=by omega
   have hS:∀ W,RW w r A n c 0 W->Calls Tryz.prog 242 #[.int .i64 r,.int .i64 (-1),.int .i64 4294967296,.int .i64 4294967296,.pointer (some ⟨w.heap.size,0,none⟩),.pointer (some ⟨w.heap.size+1,0,none⟩),.pointer (some ⟨w.heap.size+1+1,0,none⟩)] W
    λ e w'=>e=.returned (.bool b)/\RW w r A n c (0+q) w':=λ W hR=>sound_is hm hn hs W 0 hR (by omega) (by omega) (by omega) (by omega) (c:=c)
   have stf:=run_store_fn
   have KS:=hid hS
   clear hS hs
   go_enter Tryz.func236,Tryz.ntmps236
   go_wp2_with fail
   with_reducible refine (KS.out _ ?_).mono ?_
   . refine⟨(((Gr.refl w).al _).al _).al _,((Blk.new w _ _).al _).al _,?_,?_⟩
     . simpa [SF] using (Blk.new (w.alloc (.cells #[.int .i64 r,.slice A n c] 281)) #[.int .i64 0] 3).al (.cells #[SF w.heap.size] 298)
     . simpa [SF] using Blk.new ((w.alloc (.cells #[.int .i64 r,.slice A n c] 281)).alloc (.cells #[.int .i64 0] 3)) #[SF w.heap.size] 298
   rintro e w2 ⟨rfl,hR⟩
   rw [Int.zero_add] at hR
   have f0:=(hR.b0.at_ (k:=1) rfl).1
   have f1:=(hR.b1.at_ (k:=0) rfl).1
   have HG:=hid hR.gr
   clear hR KS stf hq
   cases b with
   | false =>
    have hv2:v=false:=hvb
    clear hvb
    subst hv2
    go_wp2_with fail
    go_ret
    exact⟨rfl,HG.out⟩
   | true =>
    by_cases hqn:q=n
    . subst hqn
      have hv2:v=true:=by rw [hvb,decide_eq_true rfl];rfl
      clear hvb
      subst hv2
      go_wp2_with fail
      go_ret
      exact⟨rfl,HG.out⟩
    . have ne:((q:Int)==(n:Int))=false:=beq_eq_false_iff_ne.2 (by omega)
      have hv2:v=false:=by rw [hvb,decide_eq_false hqn];rfl
      clear hvb hqn
      subst hv2
      go_wp2_with fail
      go_ret
      exact⟨rfl,HG.out⟩
 . obtain rfl:v=false:=by
    cases v
    . rfl
    . obtain⟨t,ht⟩:=hv.1 rfl
      have:=ht.2.2.1;omega
   have h1:(64:Int)<(n:Int):=by omega
   clear hv
   go_enter Tryz.func236,Tryz.ntmps236
   go_wp2_with fail
   go_ret
   exact⟨rfl,(Gr.refl _).al _⟩
end
section
open Go.ChangeShapes Go.WideShapes Go.ChangeAt Go.RowKit Go.Shelf
section
variable {w:World} {r:Int} {A:Option Addr} {n c:Nat} {l:List Nd}
theorem map_take_more {k:Nat} {nd:Nd} (h:l[k]?=some nd):(l.take (k+1)).map Nd.key=(l.take k).map Nd.key++[nd.key]:=by
 rw [List.take_add_one,h];simp
theorem keysFn_is (hm:NMem w A n l) (hn:n<=1000000):Calls Tryz.prog 245 #[.agg #[.int .i64 r,.slice A n c]] w λ e w'=>∃ C k,e=.returned (.slice C n k)/\IOwn w.heap.size w' C n k (l.map Nd.key)/\Gr w w':=by
 obtain⟨i0,hi0,hz0,hz1,hz2⟩:=info_parts infoInt
 have HZ:=hid hz0
 have HZ1:=hid hz1
 have HZ2:=hid hz2
 have HI0:=hid hi0
 have HM:=hid hm
 clear hz0 hz1 hz2 hi0 hm
 have g0:=(Gr.refl w).al (.cells #[.int .i64 r,.slice A n c] 281)
 go_enter Tryz.func245,Tryz.ntmps245
 go_wp2_with fail
 go_loopw [3,9] (λ L i wr=>∃ (k:Nat) (C:Option Addr) (d:Nat),k<=n/\i=.int .i64 (k:Int)/\L=.slice C k d/\Hid (IOwn w.heap.size wr C k d ((l.take k).map Nd.key))/\Hid (Gr w wr)) (λ _ i _=>n-(intOf i).toNat)
 case atStart=>exact⟨0,_,0,Nat.zero_le _,rfl,rfl,hid (by simpa using OMem.nil_),hid g0⟩
 case round =>
  clear g0
  obtain⟨k,C,d,hk,rfl,rfl,HO,HG⟩:=hrel
  by_cases hlt:k<n
  . obtain⟨b,off,nd,rfl,hbl,hx,i0',i1,i2,d0,d1,d2⟩:=(HM.out.gr HG.out).at_ hlt
    have HX:=hid (map_take_more hx)
    obtain⟨y,p,q⟩:=nd
    have HI:=hid i0'
    dsimp only at d0 d1 d2
    clear hx i0' i1 i2
    go_wp2_with (at_builtin;refine Mark.stop ?_)
    refine Mark.go ?_
    refine wpList_append_omem _ (Value.int .i64) B64 rfl (.tmp 13) (.tmp 16) 23 rfl (λ _=>rfl) w.heap.size 3 i0 (.int .i64 0) 8 Tryz.underlying23 HI0.out HZ.out HZ1.out HZ2.out rfl C k d _ rfl (HO.out.gr (((Gr.refl _).al _).al _)) _ 1 1 [y] rfl (emem_one' _ y HI.out _ (by simp)) (by unfold maxLen;omega) (by omega) ((HG.out.al _).al _).size ?_
    intro C3 k3 w3 own3 gb3
    have G3:=hid (((HG.out.al (.cells #[.int .i64 y,.int .i64 p,.int .i64 q] 292)).al (.cells #[.int .i64 y] 3)).gb gb3 (λ k hk=>(HO.out.lt k hk).1))
    clear gb3
    go_wp2_with fail
    go_roundw
    case rel=>exact⟨k+1,C3,k3,by omega,by go_num,rfl,hid (by rw [HX.out];exact own3),G3⟩
    case measure=>simp [intOf];omega
  . obtain rfl:k=n:=by omega
    have own:=HO.out
    rw [<- HM.out.1,List.take_length] at own
    go_wp2_with fail
    go_ret
    exact⟨C,d,rfl,HM.out.1▸own,HG.out⟩
def KeysR (l:List Nd) (r:Int) (R:List Int) (e:Int):Prop:=((¬ ∃ t,Good l r t)/\R=[]/\e=1)\/∃ t,Good l r t/\R=t.inord/\e=0
theorem KeysR.len {R:List Int} {e:Int} (h:KeysR l r R e):R.length<=64:=by
 rcases h with ⟨_,rfl,_⟩ | ⟨t,ht,rfl,_⟩
 . simp
 . rw [T.inord_len,ht.2.1];exact ht.2.2.1
end
end
end Go.Proofs.YtainfijdhcehlaaGreatDoor
