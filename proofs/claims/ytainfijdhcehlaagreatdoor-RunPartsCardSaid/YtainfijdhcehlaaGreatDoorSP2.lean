/-
  A part of the proof.
-/
import Derived.Test.YtainfijdhcehlaaGreatDoorSP1
import Derived.Conc.LoneCalls
set_option linter.unusedVariables false
set_option linter.unusedSimpArgs false
set_option maxRecDepth 100000
set_option maxHeartbeats 8000000
namespace Go.Proofs.YtainfijdhcehlaaGreatDoor
open Lib (hid)
open Go.Proofs.Tryz
open Go.ChangeAt Go.ChangeShapes Go.Deep Go.Joins Go.RowKit Go.Shelf Go.WideShapes
section
namespace P16
section
variable {p:List Ac} {a k:Nat} {n now:Int} {hd:Option Nat}
theorem cAt_lt (h:a<p.length):cAt a k p.length={ gst:=0,permit:=false,act:=a,pc:=0,worked:=k,ticket:=0,first:=false,told:=false,since:=-1,st:=false,aw:=false,rounds:=0,old:=0 }:=by
 have:¬ (a:Int)=p.length:=by omega
 unfold cAt first;simp [this]
theorem over_cAt (h:a<p.length):over (cAt a k p.length) p.length=cAt (a+1) 0 p.length:=by
 rw [cAt_lt h];unfold over cAt;simp only [Int.natCast_add];unfold first;congr 1
theorem new_one:P16.new [p]=W1 p 0 0 none 0:=by
 unfold P16.new W1 cAt;congr 1
theorem cAt_facts (h:a<p.length):(cAt a k p.length).gst=0/\(cAt a k p.length).pc=0/\(cAt a k p.length).worked=k/\(cAt a k p.length).act.toNat=a:=by
 rw [cAt_lt h];exact⟨rfl,rfl,rfl,by simp⟩
theorem alone_touch {kk e:Int} {hd':Option Nat} (ha:p[a]?=some (kk,n)) (hk:kk≠3)
 (ht:∀ r:Nat,touch now r p.length ((0:Nat):Int) kk (cAt a 0 p.length) ⟨if hd=some n.toNat then 1 else 0,0,0,0,[]⟩=.ok ⟨cAt (a+1) 0 p.length,⟨if hd'=some n.toNat then 1 else 0,0,0,0,[]⟩,none,some e⟩)
 (hh:∀ m,m≠n.toNat->(hd=some m↔hd'=some m)):stp (W1 p a 0 hd now) 0=(W1 p (a+1) 0 hd' now,some (0,e,n)):=by
 have hlt:a<p.length:=(zgl ha);obtain⟨f1,f2,f3,f4⟩:=cAt_facts (p:=p) (k:=0) hlt;have hcm:(λ j=>if j=n.toNat then (⟨if hd'=some n.toNat then 1 else 0,0,0,0,[]⟩:Cm) else ⟨if hd=some j then 1 else 0,0,0,0,[]⟩)=λ m=>⟨if hd'=some m then 1 else 0,0,0,0,[]⟩:=by
  funext j;by_cases e:j=n.toNat
  . rw [if_pos e,e]
  . rw [if_neg e]
    have:=hh j e;by_cases q:hd=some j
    . rw [if_pos q,if_pos (this.1 q)]
    . rw [if_neg q,if_neg (λ q'=>q (this.2 q'))]
 unfold stp W1;simp only [List.getElem?_cons_zero,List.set_cons_zero,f1,f4,ha,ht,ne_eq,not_true_eq_false,or_self,if_false,if_neg hk,hcm,Option.map];rfl
theorem alone_lock (ha:p[a]?=some (0,n)):stp (W1 p a 0 none now) 0=(W1 p (a+1) 0 (some n.toNat) now,some (0,0,n)):=by
 have hlt:a<p.length:=(zgl ha);obtain⟨f1,f2,f3,f4⟩:=cAt_facts (p:=p) (k:=0) hlt;refine alone_touch ha (by decide) (λ r=>?_) (λ m hm=>⟨(λ q=>by cases q),(λ q=>by cases q;exact absurd rfl hm)⟩);unfold touch lock;rw [if_pos rfl,if_pos f2,over_cAt hlt];simp [go]
theorem alone_give (ha:p[a]?=some (2,n)):stp (W1 p a 0 (some n.toNat) now) 0=(W1 p (a+1) 0 none now,some (0,3,n)):=by
 have hlt:a<p.length:=(zgl ha);obtain⟨f1,f2,f3,f4⟩:=cAt_facts (p:=p) (k:=0) hlt;refine alone_touch ha (by decide) (λ r=>?_) (λ m hm=>⟨(λ q=>by cases q;exact absurd rfl hm),(λ q=>by cases q)⟩);unfold touch give unlock;rw [if_neg (by decide),if_neg (by decide),if_pos f2,over_cAt hlt];simp [go,wd]
end
end P16
end
section
theorem laidOut:laidOutB prog=true:=by kernel_rfl
section
variable {H:Type} {enc:TypeId×Value->H} {P:Program} {W W':World}
theorem trodAll_stays (hl:laidOutB P=true) (hb:Below W.heap.size W W') (sp:Nat->Bool):∀ {ts:List TypeId} {vs:List Value} {ds:List (DataW H)} {ps:List MemPlace},
 (ts.all λ t=>P.readableRec t&&decide (t<P.types.size))=true->DataW.TrodAll enc P W 0 (λ _=>true) true ts vs ds ps->(∀ x∈ps,x.block<W.heap.size)->(∀ x∈ps,sp x.block=true) ->
 DataW.TrodAll enc P W' 0 sp true ts vs ds ps
 | [],[],[],_,_,h,_,_=>h
 | t::ts,v::vs,d::ds,_,hr,⟨p,q,h1,h2,e⟩,hlt,hs=>by
  simp only [List.all_cons,Bool.and_eq_true,decide_eq_true_eq] at hr;exact⟨p,q,WideElems.Trod_stays hl hr.1.1 hr.1.2 h1 (λ x hx=>hb.same (hlt x (by rw [e];exact List.mem_append_left _ hx))) (λ x hx=>hs x (by rw [e];exact List.mem_append_left _ hx)),
   trodAll_stays hl hb sp hr.2 h2 (λ x hx=>hlt x (by rw [e];exact List.mem_append_right _ hx)) (λ x hx=>hs x (by rw [e];exact List.mem_append_right _ hx)),e⟩
end
end
namespace LW
theorem returns_laid_shaped {H:Type} {enc:TypeId×Value->H} {a:Assume} {C:Checked} {os:Os} {f:FuncId} {fn:Func} {s:ChangeSpec} {conds:List PathCond} {apart fresh handsOn again:Bool} {X:World->Array Value->Prop}
 (hX:∀ (w w':World) (args:Array Value),w.heap=w'.heap->X w args->X w' args)
 (ow:ownKnob C.prog.godebug=none) (started:os.Started) (noInit:C.prog.inits.idxOf? f=none) (hfn:C.prog.funcs[f]?=some fn)
 (witness:∃ (w:World) (tape:Tape) (i:Input),w.os=os/\(w.forCall tape i).Shaped C.prog/\i.vars=[]/\Input.okWide C.prog (w.forCall tape i) .any w.heap.size f i /\
   ((s.pre enc C.prog fn conds apart (w.forCall tape i).memory i.args/\X (w.forCall tape i).memory i.args)/\sizedMet enc C.prog fn (OpenSpec.ofChange s) apart (w.forCall tape i).memory i.args)/\a.holds C.prog (lone (Frame.enter C.prog f i.args .normal) [] (w.forCall tape i)))
 (contract:∀ (W:World) (base:Nat) (args:Array Value) (ds gs:List (DataW H)) (before:List MemPlace),
   (∀ (j:Nat) t v,fn.params[j]?=some t->args[j]?=some v->Value.okWide C.prog W .any base t v) ->
   DataW.Whole enc C.prog fn.params.toList s.vars apart W args.toList ds gs before->X W args->W.ShapedOpen C.prog ->
   Calls C.prog f args W λ e W'=>∃ v,e=.returned v/\s.post enc C.prog fn apart fresh handsOn again W args v W') :
 ReturnsInHanded a C os f .any (λ w args=>(s.pre enc C.prog fn conds apart w args/\X w args)/\sizedMet enc C.prog fn (OpenSpec.ofChange s) apart w args) (s.post enc C.prog fn apart fresh handsOn again):=by
 refine returnsInHanded_of_calls ow started noInit witness ?_;intro w tape i _ hsh _ hok hpre _;obtain⟨_,_,_,fn',hfn',_,_,_,_,hval⟩:=hok;obtain rfl:fn'=fn:=Option.some.inj (hfn'.symm.trans hfn);obtain⟨⟨⟨ds,gs,before,hw,_⟩,hx⟩,_⟩:=hpre;refine (contract (w.forCall tape i) w.heap.size i.args ds gs before hval (DataW.Whole.of_heap (w':=w.forCall tape i) (by rfl) hw) (hX _ _ _ (by rfl) hx) hsh).mono λ e W' ⟨v,he,hp⟩=>?_
 subst he;exact ChangeSpec.post_blind hp
end LW
section
namespace P16
open P12 (PV PMem)
theorem mxAt_zero (m:Nat):mxAt [(0,0,0),(0,0,0),(0,0,0),(0,0,0)] m=(0,0,0):=by
 unfold mxAt
 match m with
 | 0=>rfl
 | 1=>rfl
 | 2=>rfl
 | 3=>rfl
 | n+4=>rfl
theorem mw_new (l:List (List Ac)):mw (newW l)=P16.new l:=by
 unfold mw newW P16.new;congr 1;funext m;dsimp only;rw [mxAt_zero];rfl
structure Fine (ω:Wv):Prop where
 inv:WInv (mw ω)
 progs:P12.rightB ω.progs=true
 m4:ω.mx.length=4
 tab:TabA ω.tb
theorem okA_OkA {a:Ac} (h:P12.okA a=true):OkA a:=by
 rcases P12.okA_iff.1 h with h | h<;>unfold OkA<;>omega
theorem Fine.new {l:List (List Ac)} (h:P12.rightB l=true):Fine (newW l):=by
 refine⟨?_,h,rfl,Tab.nil,λ s hs=>by cases hs⟩;rw [mw_new];obtain⟨h1,h2⟩:=right_facts h;exact WInv.new h1 λ p hp a ha=>okA_OkA ((h2 p hp).2 a ha)
section
variable {ω ψ:Wv} {who d:Int} {ev:List T3} {x:Int}
theorem Fine.right (h:Fine ω):RightW ω:=by
 have hi:=h.inv;refine⟨hi.tm,h.progs,hi.len,h.m4,h.tab,λ s hs y hy=>?_,λ c hc=>?_,λ i c p hc hp=>?_,λ y hy=>?_,?_⟩
 . obtain⟨m,hm,e⟩:=h.tab.2 s hs
   have hmem:(⟨s.1,s.2.1,none,0,0,s.2.2⟩:SV)∈svs ω.tb:=List.mem_map.2 ⟨s,hs,rfl⟩;have hg:=gt_mem h.tab.1.2 hmem;have hL:=(hi.iv m hm).L.lm y;have e2:(mw ω).cm m=⟨(mxAt ω.mx m).1,(mxAt ω.mx m).2.1,(mxAt ω.mx m).2.2,s.2.1,s.2.2⟩:=by
    show (⟨_,_,_,(gtA ω.tb m).1,(gtA ω.tb m).2⟩:Cm)=_;unfold gtA;rw [<- e];rw [hg]
   rw [e2] at hL;obtain⟨i,hi1,rfl,_⟩:=hL.1 hy;have:ω.cl.length=ω.progs.length:=hi.len;have hi1:i<ω.progs.length:=hi1;omega
 . obtain⟨i,hc⟩:=List.getElem?_of_mem hc
   have hlt:=(zgl hc);have hl:ω.cl.length=ω.progs.length:=hi.len;have hci:=hi.ci i c (ω.progs[i]'(by omega)) hc (zge _);exact⟨hci.g,λ q=>by rw [hci.pm] at q;cases q⟩
 . have hci:=hi.ci i c p hc hp
   refine⟨hci.a0,hci.a1,hci.dn.symm,hci.tb,hci.sc,hci.rd,hci.ol,λ e=>⟨hci.fin e,?_⟩,λ k n ha=>⟨hci.pcs k n ha,?_⟩⟩
   . rcases hci.wk with q | ⟨_,n,q,_⟩
     . exact q
     . have:=(zgl q)
       omega
   . rcases hci.wk with q | ⟨q0,n',q,q2⟩
     . exact .inl q
     . rw [ha] at q
       cases q;exact .inr ⟨rfl,q0,q2⟩
 . obtain⟨m,hy⟩:=List.getElem?_of_mem hy
   have hlt:=(zgl hy);have hm:m<4:=by rw [<- h.m4];exact hlt
   have e:mxAt ω.mx m=y:=mxAt_get hy;have h1:=hi.ow m hm;have h2:=(hi.iv m hm).T.nb;have h3:=(hi.iv m hm).T.sb;have h1:OkW (mxAt ω.mx m).1:=h1;have h2:0<=(mxAt ω.mx m).2.1/\(mxAt ω.mx m).2.1<4294967296:=h2;have h3:0<=(mxAt ω.mx m).2.2/\(mxAt ω.mx m).2.2<4294967296:=h3;rw [e] at h1 h2 h3;exact⟨h1,h2,h3⟩
 . rcases hi.st with q | q
   . exact .inl q
   . exact .inr (.inl q)
theorem still_stp (h:RightW ω) (hs:Still ω who) (h0:0<=who):stp (mw ω) who.toNat=(mw ω,none):=by
 unfold stp
 cases hc:(mw ω).cl[who.toNat]? with
 | none=>rfl
 | some c =>
  cases hp:(mw ω).progs[who.toNat]? with
  | none=>rfl
  | some p =>
   have hc:ω.cl[who.toNat]?=some c:=hc;have hlt:=(zgl hc);dsimp only;rw [if_pos];rcases hs with q | q | q | ⟨c',q1,q2⟩
   . exact .inl q
   . omega
   . omega
   . rw [hc] at q1;cases q1;exact .inr q2
theorem StepM.fine (h:Fine ω) (hs:StepM ω who ψ ev x):Fine ψ/\x=0/\ψ.progs=ω.progs/\((who<0/\ψ=ω/\ev=[])\/(0<=who/\StpR (mw ω) who.toNat (mw ψ) ((stp (mw ω) who.toNat).2)/\(ω.stop≠0->ψ=ω)/\mw ψ=(stp (mw ω) who.toNat).1/\ev=(stp (mw ω) who.toNat).2.toList)):=by
 have hr:=h.right;rcases hs with ⟨q,_⟩ | ⟨_,q,rfl,rfl,rfl⟩ | ⟨_,q,m4,tab,e1,rfl,rfl⟩
 . exact absurd hr q
 . refine⟨h,rfl,rfl,?_⟩
   by_cases h0:who<0
   . exact .inl ⟨h0,rfl,rfl⟩
   . have e:=still_stp hr q (by omega)
     have hi:=stp_inv h.inv who.toNat
     rw [e] at hi ⊢;exact .inr ⟨by omega,hi,λ _=>rfl,rfl,rfl⟩
 . have hi:=stp_inv h.inv who.toNat
   rw [<- e1] at hi;have hp:ψ.progs=ω.progs:=hi.pr;have h0:0<=who:=by
    by_cases h0:0<=who
    . exact h0
    . exact absurd (.inr (.inl (by omega))) q
   exact⟨⟨hi.inv,by rw [hp];exact h.progs,m4,tab⟩,rfl,hp,.inr ⟨h0,hi,λ hn=>absurd (.inl hn) q,e1,rfl⟩⟩
theorem TickM.fine (h:Fine ω) (hd:Tim d) (hn:ω.now+d<=4611686018427387904) (hs:TickM ω d ψ x):Fine ψ/\x=0/\((ω.stop≠0/\ψ=ω)\/(ω.stop=0/\ψ={ ω with now:=ω.now+d })):=by
 have hr:=h.right;rcases hs with ⟨q,_⟩ | ⟨_,_,q,rfl,rfl⟩ | ⟨_,_,q,_,rfl,rfl⟩ | ⟨_,_,_,q,_⟩
 . exact absurd ⟨hr,hd⟩ q
 . exact⟨h,rfl,.inl ⟨q,rfl⟩⟩
 . have e:mw { ω with now:=ω.now+d }=tick (mw ω) d:=by
    unfold tick;rw [if_neg (by show ¬ ω.stop≠0;omega)];rfl
   exact⟨⟨by rw [e];exact h.inv.tick hd.1 hn,h.progs,h.m4,h.tab⟩,rfl,.inr ⟨q,rfl⟩⟩
 . omega
end
end P16
end
namespace P16
theorem run_mutex_neq (x y:T3) {b:Bool} (hb:b=true↔x=y) (w:World) :
 (binOp .neq 48 (.agg #[.int .i64 x.1,.int .i64 x.2.1,.int .i64 x.2.2]) (.agg #[.int .i64 y.1,.int .i64 y.2.1,.int .i64 y.2.2])).run prog w=.ok (.bool (!b)) w:=by
 obtain⟨x1,x2,x3⟩:=x;obtain⟨y1,y2,y3⟩:=y;have hb:=hid hb;go_simp;have hb:=hb.out;simp only [Prod.mk.injEq] at hb
 repeat' split
 all_goals (congr 2;cases b<;>simp_all)
theorem client_ext {x y:Cl} (h:x.gst=y.gst/\x.permit=y.permit/\x.act=y.act/\x.pc=y.pc/\x.worked=y.worked/\x.ticket=y.ticket/\x.first=y.first/\x.told=y.told/\x.since=y.since/\x.st=y.st/\x.aw=y.aw/\x.rounds=y.rounds/\x.old=y.old):x=y:=by
 cases x;cases y;simp_all
theorem run_client_neq (x y:Cl) {b:Bool} (hb:b=true↔x=y) (w:World) :
 (binOp .neq 55 (.agg #[.int .i64 x.gst,.bool x.permit,.int .i64 x.act,.int .i64 x.pc,.int .i64 x.worked,.int .i64 x.ticket,.bool x.first,.bool x.told,.int .i64 x.since,.bool x.st,.bool x.aw,.int .i64 x.rounds,.int .i64 x.old]) (.agg #[.int .i64 y.gst,.bool y.permit,.int .i64 y.act,.int .i64 y.pc,.int .i64 y.worked,.int .i64 y.ticket,.bool y.first,.bool y.told,.int .i64 y.since,.bool y.st,.bool y.aw,.int .i64 y.rounds,.int .i64 y.old])).run prog w=.ok (.bool (!b)) w:=by
 have no:x≠y->Result.ok (Value.bool true) w=Result.ok (Value.bool (!b)) w:=λ h=>by
  have e:b=false:=by
   cases b with
   | false=>rfl
   | true=>exact absurd (hb.1 rfl) h
  rw [e];rfl
 have yes:x=y->Result.ok (Value.bool false) w=Result.ok (Value.bool (!b)) w:=λ h=>by rw [hb.2 h];rfl
 clear hb;go_simp;by_cases h0:x.gst=y.gst;rotate_left
 . rw [if_neg h0];exact no (λ e=>h0 (by rw [e]))
 rw [if_pos h0];by_cases h1:x.permit=y.permit;rotate_left
 . rw [if_neg h1];exact no (λ e=>h1 (by rw [e]))
 rw [if_pos h1];by_cases h2:x.act=y.act;rotate_left
 . rw [if_neg h2];exact no (λ e=>h2 (by rw [e]))
 rw [if_pos h2];by_cases h3:x.pc=y.pc;rotate_left
 . rw [if_neg h3];exact no (λ e=>h3 (by rw [e]))
 rw [if_pos h3];by_cases h4:x.worked=y.worked;rotate_left
 . rw [if_neg h4];exact no (λ e=>h4 (by rw [e]))
 rw [if_pos h4];by_cases h5:x.ticket=y.ticket;rotate_left
 . rw [if_neg h5];exact no (λ e=>h5 (by rw [e]))
 rw [if_pos h5];by_cases h6:x.first=y.first;rotate_left
 . rw [if_neg h6];exact no (λ e=>h6 (by rw [e]))
 rw [if_pos h6];by_cases h7:x.told=y.told;rotate_left
 . rw [if_neg h7];exact no (λ e=>h7 (by rw [e]))
 rw [if_pos h7];by_cases h8:x.since=y.since;rotate_left
 . rw [if_neg h8];exact no (λ e=>h8 (by rw [e]))
 rw [if_pos h8];by_cases h9:x.st=y.st;rotate_left
 . rw [if_neg h9];exact no (λ e=>h9 (by rw [e]))
 rw [if_pos h9];by_cases h10:x.aw=y.aw;rotate_left
 . rw [if_neg h10];exact no (λ e=>h10 (by rw [e]))
 rw [if_pos h10];by_cases h11:x.rounds=y.rounds;rotate_left
 . rw [if_neg h11];exact no (λ e=>h11 (by rw [e]))
 rw [if_pos h11];by_cases h12:x.old=y.old;rotate_left
 . rw [if_neg h12];exact no (λ e=>h12 (by rw [e]))
 rw [if_pos h12];exact yes (client_ext ⟨h0,h1,h2,h3,h4,h5,h6,h7,h8,h9,h10,h11,h12⟩)
end P16
namespace P12
theorem held_try {b:Bool} {m:Int} {a:Ac} {r:List Ac} (h:a.1=1):held (ho b m) (a::r)=none:=by rw [held,if_pos h]
theorem held_lock_no {m:Int} {a:Ac} {r:List Ac} (h:a.1=0):held (ho true m) (a::r)=none:=by rw [held,if_neg (by omega),if_pos h];rfl
theorem held_lock {m:Int} {a:Ac} {r:List Ac} (h:a.1=0):held (ho false m) (a::r)=held (ho true a.2) r:=by rw [held,if_neg (by omega),if_pos h];rfl
theorem held_unlock_no {b:Bool} {m:Int} {a:Ac} {r:List Ac} (h:a.1=2) (hb:b=false\/a.2≠m):held (ho b m) (a::r)=none:=by
 rw [held,if_neg (by omega),if_neg (by omega),if_pos h,if_neg];intro e;cases b
 . cases e
 . rcases hb with hb | hb
   . cases hb
   . exact hb (Option.some.inj e).symm
theorem held_unlock {m:Int} {a:Ac} {r:List Ac} (h:a.1=2) (hm:a.2=m):held (ho true m) (a::r)=held (ho false m) r:=by
 rw [held,if_neg (by omega),if_neg (by omega),if_pos h,if_pos (by rw [hm];rfl)];rfl
theorem held_other {b:Bool} {m:Int} {a:Ac} {r:List Ac} (h0:a.1≠0) (h1:a.1≠1) (h2:a.1≠2):held (ho b m) (a::r)=held (ho b m) r:=by
 rw [held,if_neg h1,if_neg h0,if_neg h2]
theorem tidy_end (b:Bool) (m:Int):(held (ho b m) []==some none)=!b:=by cases b<;>rfl
end P12
namespace P12
theorem take_more {α:Type} {l:List α} {k:Nat} {x:α} (h:l[k]?=some x):l.take (k+1)=l.take k++[x]:=by
 rw [List.take_add_one,h];rfl
theorem rAct_is {a:Ac} {B:Bool} (hB:okA a=B) (w:World):Calls prog 50 #[.agg #[.int .i64 a.1,.int .i64 a.2]] w λ e w'=>e=.returned (.bool B)/\Gr w w':=by
 obtain⟨k,n⟩:=a;have key:∀ B',okA (k,n)=B'->Hid (B'=B):=λ B' h=>hid (by rw [<- h,hB])
 clear hB;by_cases h3:k=3
 . subst h3
   by_cases h0:0<=n
   . by_cases h1:n<=1000
     . have HB:=key true (by unfold okA;simp;omega)
       clear key;go_enter func50,ntmps50;go_wp2_with fail;go_ret;rw [<- HB.out];exact⟨rfl,(zr w).al _⟩
     . have HB:=key false (by unfold okA;simp;omega)
       clear key;go_enter func50,ntmps50;go_wp2_with fail;go_ret;rw [<- HB.out];exact⟨rfl,(zr w).al _⟩
   . have HB:=key false (by unfold okA;simp;omega)
     clear key;go_enter func50,ntmps50;go_wp2_with fail;go_ret;rw [<- HB.out];exact⟨rfl,(zr w).al _⟩
 . have n3:(k==3)=false:=by simpa using h3
   by_cases h0:0<=k
   . by_cases h1:k<=2
     . by_cases h4:0<=n
       . by_cases h5:n<=3
         . have HB:=key true (by unfold okA;rw [if_neg (by simpa using h3)];simp;omega)
           clear key;go_enter func50,ntmps50;go_wp2_with fail;go_ret;rw [<- HB.out];exact⟨rfl,(zr w).al _⟩
         . have HB:=key false (by unfold okA;rw [if_neg (by simpa using h3)];simp;omega)
           clear key;go_enter func50,ntmps50;go_wp2_with fail;go_ret;rw [<- HB.out];exact⟨rfl,(zr w).al _⟩
       . have HB:=key false (by unfold okA;rw [if_neg (by simpa using h3)];simp;omega)
         clear key;go_enter func50,ntmps50;go_wp2_with fail;go_ret;rw [<- HB.out];exact⟨rfl,(zr w).al _⟩
     . have HB:=key false (by unfold okA;rw [if_neg (by simpa using h3)];simp;omega)
       clear key;go_enter func50,ntmps50;go_wp2_with fail;go_ret;rw [<- HB.out];exact⟨rfl,(zr w).al _⟩
   . have HB:=key false (by unfold okA;rw [if_neg (by simpa using h3)];simp;omega)
     clear key;go_enter func50,ntmps50;go_wp2_with fail;go_ret;rw [<- HB.out];exact⟨rfl,(zr w).al _⟩
theorem rTidy_is {A:Option Addr} {n c:Nat} {l:List Ac} {B:Bool} (hB:tidyB l=B) (hn:n<=9223372036854775807) (w:World) (hm:Mem w A n l) :
 Calls prog 23 #[.slice A n c] w λ e w'=>e=.returned (.bool B)/\Gr w w':=by
 have HB0:=hid (show (held (ho false (-1)) l==some none)=B from hB);clear hB;go_enter func23,ntmps23;go_wp2_with fail
 go_loopw [3,4,9] (λ m b i wr=>∃ (k:Nat) (v:Bool) (u:Int),k<=n/\b=.bool v/\m=.int .i64 u/\i=.int .i64 k/\Hid ((held (ho v u) (l.drop k)==some none)=B)/\Gr w wr) (λ _ _ i _=>n-(intOf i).toNat)
 case atStart=>exact⟨0,false,-1,Nat.zero_le _,rfl,rfl,rfl,HB0,zr _⟩
 case round =>
  obtain⟨k,v,u,hk,rfl,rfl,rfl,HB,hg⟩:=hrel;by_cases hlt:k<n
  . obtain⟨b,off,x,rfl,hbl,hx,h1,h2,c0,c1⟩:=(hm.gr hg).at_ hlt
    have hd:l.drop k=x::l.drop (k+1):=by
     obtain⟨hl,rfl⟩:=List.getElem?_eq_some_iff.1 hx;exact List.drop_eq_getElem_cons hl
    have HK:=HB.out;rw [hd] at HK;obtain⟨x0,x1⟩:=x;clear hd hx HB hm HB0;dsimp only at c0 c1 h1 h2;by_cases e1:x0=1
    . rw [held_try e1] at HK
      have HK:=hid HK;subst e1;go_wp2_with fail;go_ret;exact⟨ret_bool HK.out,hg.al _⟩
    . have n1:(x0==1)=false:=by simpa using e1
      by_cases e0:x0=0
      . cases v
        . rw [held_lock e0] at HK
          have HK:=hid HK;subst e0;clear e1;go_wp2_with fail;go_roundw
          case rel=>exact⟨k+1,true,_,by omega,rfl,rfl,by go_num,HK,hg.al _⟩
          case measure=>simp [intOf];omega
        . rw [held_lock_no e0] at HK
          have HK:=hid HK;subst e0;clear e1;go_wp2_with fail;go_ret;exact⟨ret_bool HK.out,hg.al _⟩
      . have n0:(x0==0)=false:=by simpa using e0
        by_cases e2:x0=2
        . by_cases hv:v=true/\x1=u
          . obtain⟨rfl,rfl⟩:=hv
            rw [held_unlock (a:=(x0,x1)) e2 rfl] at HK;have HK:=hid HK;subst e2;clear e0 e1;have nb:(x1 != x1)=false:=by simp
            go_wp2_with fail;go_roundw
            case rel=>exact⟨k+1,false,_,by omega,rfl,rfl,by go_num,HK,hg.al _⟩
            case measure=>simp [intOf];omega
          . rw [held_unlock_no e2 (by cases v;exact .inl rfl;exact .inr λ e=>hv ⟨rfl,e⟩)] at HK
            have HK:=hid HK;subst e2;clear e0 e1;cases v
            . go_wp2_with fail
              go_ret;exact⟨ret_bool HK.out,hg.al _⟩
            . have hu:(x1==u)=false:=by simpa using λ e=>hv ⟨rfl,e⟩
              have hu':(x1 != u)=true:=by simp [bne,hu]
              go_wp2_with fail;go_ret;exact⟨ret_bool HK.out,hg.al _⟩
        . have n2:(x0==2)=false:=by simpa using e2
          rw [held_other e0 e1 e2] at HK;have HK:=hid HK;clear e0 e1 e2;go_wp2_with fail;go_roundw
          case rel=>exact⟨k+1,v,u,by omega,rfl,rfl,by go_num,HK,hg.al _⟩
          case measure=>simp [intOf];omega
  . obtain rfl:k=n:=by omega
    have HK:=HB.out;rw [List.drop_of_length_le (by have:=hm.1;omega),tidy_end] at HK;have HK:=hid HK;clear HB hm HB0;go_wp2_with fail;go_ret;exact⟨rfl,hg⟩
theorem plainInt:prog.plainKey 3=true:=by kernel_rfl
theorem act_neq (a b:Ac) (W:World):(binOp .neq 67 (.agg #[.int .i64 a.1,.int .i64 a.2]) (.agg #[.int .i64 b.1,.int .i64 b.2])).run prog W=.ok (.bool (!(a==b))) W:=by
 have h1:(Op.equalIn 9999 3 (.int .i64 a.1) (.int .i64 b.1)).run prog W=.ok (a.1==b.1) W:=run_equalIn_int W 9998 3 .i64 .i64 a.1 b.1 underlying3;have h2:(Op.equalIn 9999 3 (.int .i64 a.2) (.int .i64 b.2)).run prog W=.ok (a.2==b.2) W:=run_equalIn_int W 9998 3 .i64 .i64 a.2 b.2 underlying3;have p1:∀ x y:Int,(part 3 #[.int .i64 x,.int .i64 y] 0).run prog W=.ok (.int .i64 x) W:=λ x y=>run_part_plain W plainInt rfl
 have p2:∀ x y:Int,(part 3 #[.int .i64 x,.int .i64 y] 1).run prog W=.ok (.int .i64 y) W:=λ x y=>run_part_plain W plainInt rfl
 have hk : (prog.fieldsOf 67).toList.map (fun f => (f.name == "_", f.type, f.offset)) = [(false, 3, 0), (false, 3, 1)] := by kernel_rfl
 rw [run_neq_struct,run_equalIn_struct W 9999 67 _ _ (by kernel_rfl) (by kernel_rfl)];generalize (prog.fieldsOf 67).toList=F at hk ⊢;rcases F with _ | ⟨f0,_ | ⟨f1,_ | ⟨f2,F⟩⟩⟩
 . simp at hk
 . simp at hk
 rotate_left
 . simp at hk
 simp only [List.map_cons,List.map_nil,List.cons.injEq,Prod.mk.injEq,and_true,beq_eq_false_iff_ne] at hk;obtain⟨⟨n0,t0,o0⟩,n1,t1,o1⟩:=hk;rw [Op.eqFields,if_pos n0,t0,o0,Sem.run_bind,p1,Result.andThen_ok,Sem.run_bind,p1,Result.andThen_ok,Sem.run_bind,h1,Result.andThen_ok,Op.eqFields,if_pos n1,t1,o1];obtain⟨a0,a1⟩:=a;obtain⟨b0,b1⟩:=b;dsimp only at h1 h2 ⊢;by_cases h:a0=b0
 . subst h
   rw [show (a0==a0)=true from by simp,if_neg (by simp),Sem.run_bind,p2,Result.andThen_ok,Sem.run_bind,p2,Result.andThen_ok,Sem.run_bind,h2,Result.andThen_ok];by_cases g:a1=b1
   . subst g
     simp [Op.eqFields]
   . have g':(a1==b1)=false:=by simpa using g
     rw [g'];simp [g]
 . have h':(a0==b0)=false:=by simpa using h
   rw [h'];simp [h]
theorem rActs_is {A B:Option Addr} {n c m d:Nat} {a b:List Ac} {v:Bool} (hv:(a==b)=v) (hn:n<=9223372036854775807) (hmm:m<=9223372036854775807) (w:World) (ha:Mem w A n a) (hb:Mem w B m b) :
 Calls prog 46 #[.slice A n c,.slice B m d] w λ e w'=>e=.returned (.bool v)/\∃ k,w'=w.drewN k:=by
 have la:=ha.1;have lb:=hb.1;by_cases hnm:n=m
 . subst hnm
   have t1:((n:Int) != (n:Int))=false:=by simp
   have HV:=hid hv;have HLA:=hid la;have HLB:=hid lb;have H0:=hid (show a.take 0=b.take 0 from rfl);clear hv la lb;go_enter func46,ntmps46;go_wp2_with fail
   go_loopw [13] (λ i wr=>∃ k:Nat,k<=n/\i=.int .i64 k/\Hid (a.take k=b.take k)/\Hid (∃ q,wr=w.drewN q)) (λ i _=>n-(intOf i).toNat)
   case atStart=>exact⟨0,Nat.zero_le _,rfl,H0,hid ⟨0,rfl⟩⟩
   case round =>
    obtain⟨k,hk,rfl,HK,HQ⟩:=hrel;have hG:Gr w wr:=by obtain⟨q,rfl⟩:=HQ.out;exact (zr w).drN q
    by_cases hlt:k<n
    . obtain⟨b1,o1,x,rfl,hb1,hx,-,-,c0,c1⟩:=(ha.gr hG).at_ hlt
      obtain⟨b2,o2,y,rfl,hb2,hy,-,-,d0,d1⟩:=(hb.gr hG).at_ hlt;obtain⟨E,hE⟩:∃ E,(x==y)=E:=⟨_,rfl⟩;have hne:=λ W=>act_neq x y W
      rw [hE] at hne;have k0:(0:Int)<=(k:Int):=by omega
      have k1:(k:Int)<(n:Int):=by omega
      have HX:=hid hx;have HY:=hid hy;have HE:=hid hE;clear hx hy hE ha hb;cases E
      . go_wp2_with fail
        go_quiet (fail)
        go_wp2_with fail;go_ret;refine⟨ret_bool ?_,by obtain⟨q,rfl⟩:=HQ.out;exact⟨_,World.drewN_drewN _ _ _⟩⟩;rw [<- HV.out];refine (beq_eq_false_iff_ne.2 λ e=>?_).symm;subst e;have h1:=HX.out;rw [HY.out] at h1;cases h1;have h2:=HE.out;simp at h2
      . go_wp2_with fail
        go_quiet (fail)
        go_wp2_with fail;go_roundw
        case rel=>exact⟨k+1,by omega,by go_num,hid (by rw [take_more HX.out,take_more HY.out,HK.out,eq_of_beq HE.out]),hid (by obtain⟨q,rfl⟩:=HQ.out;exact⟨_,World.drewN_drewN _ _ _⟩)⟩
        case measure=>simp [intOf];omega
    . obtain rfl:k=n:=by omega
      clear ha hb;go_wp2_with fail;go_ret;refine⟨ret_bool ?_,HQ.out⟩;rw [<- HV.out];have h:=HK.out;rw [List.take_of_length_le (by rw [HLA.out];exact Nat.le_refl _),List.take_of_length_le (by rw [HLB.out];exact Nat.le_refl _)] at h;rw [h];simp
 . have t1:((n:Int) != (m:Int))=true:=by simp;omega
   have HV:=hid (show v=false from by
    rw [<- hv];refine beq_eq_false_iff_ne.2 λ e=>hnm ?_
    rw [<- la,<- lb,e])
   clear hv la lb ha hb;go_enter func46,ntmps46;go_wp2_with fail;go_ret;exact⟨ret_bool HV.out.symm,0,rfl⟩
end P12
namespace P12
theorem all_no {α:Type} {p:α->Bool} {l:List α} {k:Nat} {x:α} (hx:l[k]?=some x) (h:p x=false):l.all p=false:=by
 rw [List.all_eq_false];exact⟨x,zmo hx,by rw [h];simp⟩
theorem all_more {α:Type} {p:α->Bool} {l:List α} {k:Nat} {x:α} (hx:l[k]?=some x) (h:p x=true) (g:(l.take k).all p=true):(l.take (k+1)).all p=true:=by
 rw [take_more hx,List.all_append,g];simp [h]
theorem rRight_is {A:Option Addr} {n c:Nat} {R:List PV} {B:Bool} (hB:rightB (pl R)=B) (hn:n<=9223372036854775807) (w:World) (hm:PMem w A n R) :
 Calls prog 30 #[.slice A n c] w λ e w'=>e=.returned (.bool B)/\Gr w w':=by
 have hall:(pl R).all okP=R.all okV:=by unfold pl;rw [List.all_map];rfl
 have hlen:(pl R).length=n:=by unfold pl;rw [List.length_map,hm.len]
 rw [rightB_okP,hall,hlen] at hB;have HB:=hid hB;have HL:=hid hm.len;have H0:=hid (show (R.take 0).all okV=true from rfl);clear hB hall hlen;go_enter func30,ntmps30;go_wp2_with fail
 go_loopw [9] (λ i wr=>∃ k:Nat,k<=n/\i=.int .i64 k/\Hid ((R.take k).all okV=true)/\Gr w wr) (λ i _=>n-(intOf i).toNat)
 case atStart=>exact⟨0,Nat.zero_le _,rfl,H0,zr _⟩
 case round =>
  obtain⟨k,hk,rfl,HK,hg⟩:=hrel;by_cases hlt:k<n
  . obtain⟨b,off,x,rfl,hbl,hx,hok,c0⟩:=(hm.gr hg).at_ hlt
    have HX:=hid hx;have hxn:=hok.lt;have hmx:=hok.1;have H1:=hid (show (x.l.take 0).all okA=true from rfl);have k0:(0:Int)<=(k:Int):=by omega
    have k1:(k:Int)<(n:Int):=by omega
    have hokp:∀ v,okP x.l=v->Hid (okV x=v):=λ v h=>hid h
    obtain⟨xA,xn,xc,xl⟩:=x;dsimp only at hxn hmx c0 H1 hokp;have hxl:=hmx.1;clear hx hok;go_wp2_with fail
    rename World=>wo
    go_loopw [15] (λ j wr=>∃ i:Nat,i<=xn/\j=.int .i64 i/\Hid ((xl.take i).all okA=true)/\Gr wo wr) (λ j _=>xn-(intOf j).toNat)
    case atStart=>exact⟨0,Nat.zero_le _,rfl,H1,zr _⟩
    case round =>
     obtain⟨i,hi,rfl,HI,hgi⟩:=hrel;by_cases hit:i<xn
     . obtain⟨b2,off2,y,rfl,hbl2,hy,hy1,hy2,d0,d1⟩:=(hmx.gr hgi).at_ hit
       have HY:=hid hy;obtain⟨E,hE⟩:∃ E,okA y=E:=⟨_,rfl⟩;have ca:=λ W=>hid (rAct_is hE W)
       have HE:=hid hE;have i0:(0:Int)<=(i:Int):=by omega
       have i1:(i:Int)<(xn:Int):=by omega
       clear hy hE hmx hm;cases E
       . have HF:=hokp false (by
          unfold okP;rw [all_no HY.out HE.out];simp)
         have HR:=hid (show false=B from by
          rw [<- HB.out,all_no HX.out HF.out];simp)
         clear hokp;go_wp2_with fail;refine (ca _).out.mono ?_;rintro e w2 ⟨rfl,hb2⟩;go_wp2_with fail;go_ret;exact⟨ret_bool HR.out,(hg.trans (hgi.al _)).trans hb2⟩
       . clear hokp
         go_wp2_with fail;refine (ca _).out.mono ?_;rintro e w2 ⟨rfl,hb2⟩;go_wp2_with fail;go_roundw
         case rel=>exact⟨i+1,by omega,by go_num,hid (all_more HY.out HE.out HI.out),(hgi.al _).trans hb2⟩
         case measure=>simp [intOf];omega
     . obtain rfl:i=xn:=by omega
       have hal:=HI.out;rw [List.take_of_length_le (by omega)] at hal;by_cases h64:i<=64
       . have HF:=hokp true (by unfold okP;rw [hal,hxl];simpa using h64)
         have h65:¬ (64:Int)<(i:Int):=by omega
         clear hokp hmx hm;go_wp2_with fail;go_roundw
         case rel=>exact⟨k+1,by omega,by go_num,hid (all_more HX.out HF.out HK.out),hg.trans hgi⟩
         case measure=>simp [intOf];omega
       . have HF:=hokp false (by unfold okP;rw [hxl];simp;omega)
         have HR:=hid (show false=B from by
          rw [<- HB.out,all_no HX.out HF.out];simp)
         have h65:(64:Int)<(i:Int):=by omega
         clear hokp hmx hm;go_wp2_with fail;go_ret;exact⟨ret_bool HR.out,hg.trans hgi⟩
  . obtain rfl:k=n:=by omega
    have hal:=HK.out;rw [List.take_of_length_le (by rw [HL.out];exact Nat.le_refl _)] at hal;have HR:=hid (show decide (k<=8)=B from by rw [<- HB.out,hal];simp);clear hm hal;by_cases h8:k<=8
    . have h9:(k:Int)<=8:=by omega
      rw [decide_eq_true h8] at HR;go_wp2_with fail;go_ret;exact⟨ret_bool HR.out,hg⟩
    . have h9:¬ (k:Int)<=8:=by omega
      rw [decide_eq_false h8] at HR;go_wp2_with fail;go_ret;exact⟨ret_bool HR.out,hg⟩
theorem rSame_is {A B:Option Addr} {n c m d:Nat} {R T:List PV} {v:Bool} (hv:(pl R==pl T)=v) (hn:n<=9223372036854775807) (hmm:m<=9223372036854775807) (w:World) (ha:PMem w A n R) (hb:PMem w B m T) :
 Calls prog 22 #[.slice A n c,.slice B m d] w λ e w'=>e=.returned (.bool v)/\∃ k,w'=w.drewN k:=by
 have la:(pl R).length=n:=by unfold pl;rw [List.length_map,ha.len]
 have lb:(pl T).length=m:=by unfold pl;rw [List.length_map,hb.len]
 by_cases hnm:n=m
 . subst hnm
   have t1:((n:Int) != (n:Int))=false:=by simp
   have HV:=hid hv;have HLA:=hid la;have HLB:=hid lb;have H0:=hid (show (pl R).take 0=(pl T).take 0 from rfl);clear hv la lb;go_enter func22,ntmps22;go_wp2_with fail
   go_loopw [13] (λ i wr=>∃ k:Nat,k<=n/\i=.int .i64 k/\Hid ((pl R).take k=(pl T).take k)/\Hid (∃ q,wr=w.drewN q)) (λ i _=>n-(intOf i).toNat)
   case atStart=>exact⟨0,Nat.zero_le _,rfl,H0,hid ⟨0,rfl⟩⟩
   case round =>
    obtain⟨k,hk,rfl,HK,HQ⟩:=hrel;have hG:Gr w wr:=by obtain⟨q,rfl⟩:=HQ.out;exact (zr w).drN q
    by_cases hlt:k<n
    . obtain⟨b1,o1,x,rfl,hb1,hx,okx,c0⟩:=(ha.gr hG).at_ hlt
      obtain⟨b2,o2,y,rfl,hb2,hy,oky,d0⟩:=(hb.gr hG).at_ hlt;obtain⟨E,hE⟩:∃ E,(x.l==y.l)=E:=⟨_,rfl⟩;have hro:=λ (n:Nat)=>hid (Calls.quiet_of (rActs_is (c:=x.c) (d:=y.c) hE okx.lt oky.lt (wr.drewN n) (okx.1.gr ((zr wr).drN n)) (oky.1.gr ((zr wr).drN n))))
      have k0:(0:Int)<=(k:Int):=by omega
      have k1:(k:Int)<(n:Int):=by omega
      have HX:=hid (show (pl R)[k]?=some x.l from by unfold pl;rw [List.getElem?_map,hx];rfl);have HY:=hid (show (pl T)[k]?=some y.l from by unfold pl;rw [List.getElem?_map,hy];rfl);have HE:=hid hE;clear hx hy hE ha hb okx oky;cases E
      . go_wp2_with fail
        go_quiet ((go_at_call 46;with_reducible exact (hro _).out))
        go_wp2_with fail;go_ret;refine⟨ret_bool ?_,by obtain⟨q,rfl⟩:=HQ.out;exact⟨_,World.drewN_drewN _ _ _⟩⟩;rw [<- HV.out];refine (beq_eq_false_iff_ne.2 λ e=>?_).symm;have h1:=HX.out;rw [e,HY.out] at h1;have h2:=HE.out;rw [Option.some.inj h1] at h2;simp at h2
      . go_wp2_with fail
        go_quiet ((go_at_call 46;with_reducible exact (hro _).out))
        go_wp2_with fail;go_roundw
        case rel=>exact⟨k+1,by omega,by go_num,hid (by rw [take_more HX.out,take_more HY.out,HK.out,eq_of_beq HE.out]),hid (by obtain⟨q,rfl⟩:=HQ.out;exact⟨_,World.drewN_drewN _ _ _⟩)⟩
        case measure=>simp [intOf];omega
    . obtain rfl:k=n:=by omega
      clear ha hb;go_wp2_with fail;go_ret;refine⟨ret_bool ?_,HQ.out⟩;rw [<- HV.out];have h:=HK.out;rw [List.take_of_length_le (by rw [HLA.out];exact Nat.le_refl _),List.take_of_length_le (by rw [HLB.out];exact Nat.le_refl _)] at h;rw [h];simp
 . have t1:((n:Int) != (m:Int))=true:=by simp;omega
   have HV:=hid (show v=false from by
    rw [<- hv];refine beq_eq_false_iff_ne.2 λ e=>hnm ?_
    rw [<- la,<- lb,e])
   clear hv la lb ha hb;go_enter func22,ntmps22;go_wp2_with fail;go_ret;exact⟨ret_bool HV.out.symm,0,rfl⟩
end P12
section
theorem pl_iff {x y:SV}:x.pl=y.pl↔x.addr=y.addr/\x.cnt=y.cnt/\x.line=y.line:=by simp [SV.pl]
section
variable {w:World}
theorem rSpots_is {x y:SV} (hx:x.ok w) (hy:y.ok w) {v:Bool} (hv:v=true↔x.pl=y.pl) :
 Calls prog 66 #[.agg #[.int .i64 x.addr,.int .i64 x.cnt,.slice x.A x.n x.c],.agg #[.int .i64 y.addr,.int .i64 y.cnt,.slice y.A y.n y.c]] w λ e w'=>e=.returned (.bool v)/\Gr w w':=by
 have g0:=((zr w).al (.cells #[.int .i64 x.addr,.int .i64 x.cnt,.slice x.A x.n x.c] 91)).al (.cells #[.int .i64 y.addr,.int .i64 y.cnt,.slice y.A y.n y.c] 91);obtain⟨b,hb⟩:=yes_no (x.line=y.line);have CS:=hid (L7.rSame_is (c:=x.c) (d:=y.c) (hx.gr g0).2.2.1 (hy.gr g0).2.2.1 hx.lt hy.lt hb);rw [pl_iff] at hv;clear hx hy;generalize x.addr=xa at *;generalize y.addr=ya at *;generalize x.cnt=xc at *;generalize y.cnt=yc at *;by_cases h1:xa=ya
 . by_cases h2:xc=yc
   . subst h1 h2
     have hvb:v=b:=by rw [Bool.eq_iff_iff,hv,hb];simp
     subst hvb;clear hv hb;go_enter func66,ntmps66;go_wp2_with fail;refine CS.out.mono ?_;rintro e w1 ⟨rfl,h1⟩;have G:=hid (g0.trans h1);clear h1 g0;go_wp2_with fail;go_ret;exact⟨rfl,G.out⟩
   . have h2':(xc==yc)=false:=beq_eq_false_iff_ne.2 h2
     obtain rfl:v=false:=by
      cases v
      . rfl
      . exact absurd (hv.1 rfl).2.1 h2
     subst h1;clear hv hb h2 CS;go_enter func66,ntmps66;go_wp2_with fail;go_ret;exact⟨rfl,g0⟩
 . have h1':(xa==ya)=false:=beq_eq_false_iff_ne.2 h1
   obtain rfl:v=false:=by
    cases v
    . rfl
    . exact absurd (hv.1 rfl).1 h1
   clear hv hb h1 CS;go_enter func66,ntmps66;go_wp2_with fail;go_ret;exact⟨rfl,g0⟩
variable {A B:Option Addr} {n m c d:Nat} {l r:List SV}
theorem rSame_is (hA:SMem w A n l) (hB:SMem w B m r) (hn:n<=9223372036854775807) {v:Bool} (hv:v=true↔l.map SV.pl=r.map SV.pl) :
 Calls prog 37 #[.slice A n c,.slice B m d] w λ e w'=>e=.returned (.bool v)/\Gr w w':=by
 have hla:=hA.1;have hlb:=hB.1;have HV:=hid hv;have HA:=hid hA;have HB:=hid hB;clear hA hB hv;by_cases hnm:n=m
 . subst hnm
   go_enter func37,ntmps37;go_wp2_with fail
   go_loopw [13] (λ i wr=>∃ k:Nat,k<=n/\i=.int .i64 k/\Hid (∀ j,j<k->(l.map SV.pl)[j]?=(r.map SV.pl)[j]?)/\Hid (Gr w wr)) (λ i _=>n-(intOf i).toNat)
   case atStart=>exact⟨0,Nat.zero_le _,rfl,hid (λ j hj=>absurd hj (by omega)),hid (zr _)⟩
   case round =>
    obtain⟨k,hkn,rfl,HJ,HG⟩:=hrel;by_cases hlt:k<n
    . obtain⟨b,off,x,rfl,hbl,hx,hokx,d0,d1,d2⟩:=(HA.out.gr HG.out).at_ hlt
      obtain⟨b',off',y,rfl,hbl',hy,hoky,f0,f1,f2⟩:=(HB.out.gr HG.out).at_ hlt;have k0:(0:Int)<=(k:Int):=by omega
      have k1:(k:Int)<(n:Int):=by omega
      obtain⟨b1,hb1⟩:=yes_no (x.pl=y.pl);have CS:Hid (∀ W,Gr wr W->Calls prog 66 #[.agg #[.int .i64 x.addr,.int .i64 x.cnt,.slice x.A x.n x.c],.agg #[.int .i64 y.addr,.int .i64 y.cnt,.slice y.A y.n y.c]] W λ e w'=>e=.returned (.bool b1)/\Gr W w'):=hid λ W g=>rSpots_is (hokx.gr g) (hoky.gr g) hb1
      have HX:=hid hx;have HY:=hid hy;have HB1:=hid hb1;clear hx hy hokx hoky hb1
      cases b1 with
      | true =>
       have HJ':Hid (∀ j,j<k+1->(l.map SV.pl)[j]?=(r.map SV.pl)[j]?):=hid λ j hj=>by
        by_cases h:j<k
        . exact HJ.out j h
        . obtain rfl:j=k:=by omega
          rw [List.getElem?_map,List.getElem?_map,HX.out,HY.out];exact congrArg some (HB1.out.1 rfl)
       go_wp2_with fail
       go_region_held3 (λ W=>W.cell? ⟨b,off+k*3,none⟩=some (.int .i64 x.addr)/\W.cell? ⟨b,off+k*3+1,none⟩=some (.int .i64 x.cnt)/\W.cell? ⟨b,off+k*3+2,none⟩=some (.slice x.A x.n x.c)/\W.cell? ⟨b',off'+k*3,none⟩=some (.int .i64 y.addr)/\W.cell? ⟨b',off'+k*3+1,none⟩=some (.int .i64 y.cnt)/\W.cell? ⟨b',off'+k*3+2,none⟩=some (.slice y.A y.n y.c)/\Gr wr W)
        (first | exact⟨d0,d1,d2,f0,f1,f2,(zr wr).dr⟩ | assumption | (go_split_ands;exact⟨(hb.cell (p:=⟨b,off+k*3,none⟩) (zlt hbl (Below.size (by assumption)))).trans (by assumption),(hb.cell (p:=⟨b,off+k*3+1,none⟩) (zlt hbl (Below.size (by assumption)))).trans (by assumption),(hb.cell (p:=⟨b,off+k*3+2,none⟩) (zlt hbl (Below.size (by assumption)))).trans (by assumption),(hb.cell (p:=⟨b',off'+k*3,none⟩) (zlt hbl' (Below.size (by assumption)))).trans (by assumption),(hb.cell (p:=⟨b',off'+k*3+1,none⟩) (zlt hbl' (Below.size (by assumption)))).trans (by assumption),(hb.cell (p:=⟨b',off'+k*3+2,none⟩) (zlt hbl' (Below.size (by assumption)))).trans (by assumption),Gr.trans (by assumption) hb⟩))
        (first | (go_at_call 66;(with_reducible refine (CS.out _ (by go_split_ands;assumption)).mono ?_);rintro ee w9 ⟨rfl,hb⟩))
       rename_i hH;have G9:=hid (HG.out.trans hH.2.2.2.2.2.2);clear hH;go_wp2_with fail;go_roundw
       case rel=>exact⟨k+1,by omega,by go_num,HJ',G9⟩
       case measure=>simp [intOf];omega
      | false =>
       obtain rfl:v=false:=by
        cases v
        . rfl
        . have h1:=HV.out.1 rfl
          have h2:(l.map SV.pl)[k]?=(r.map SV.pl)[k]?:=by rw [h1]
          rw [List.getElem?_map,List.getElem?_map,HX.out,HY.out] at h2;exact absurd (HB1.out.2 (Option.some.inj h2)) (by simp)
       go_wp2_with fail
       go_region_held3 (λ W=>W.cell? ⟨b,off+k*3,none⟩=some (.int .i64 x.addr)/\W.cell? ⟨b,off+k*3+1,none⟩=some (.int .i64 x.cnt)/\W.cell? ⟨b,off+k*3+2,none⟩=some (.slice x.A x.n x.c)/\W.cell? ⟨b',off'+k*3,none⟩=some (.int .i64 y.addr)/\W.cell? ⟨b',off'+k*3+1,none⟩=some (.int .i64 y.cnt)/\W.cell? ⟨b',off'+k*3+2,none⟩=some (.slice y.A y.n y.c)/\Gr wr W)
        (first | exact⟨d0,d1,d2,f0,f1,f2,(zr wr).dr⟩ | assumption | (go_split_ands;exact⟨(hb.cell (p:=⟨b,off+k*3,none⟩) (zlt hbl (Below.size (by assumption)))).trans (by assumption),(hb.cell (p:=⟨b,off+k*3+1,none⟩) (zlt hbl (Below.size (by assumption)))).trans (by assumption),(hb.cell (p:=⟨b,off+k*3+2,none⟩) (zlt hbl (Below.size (by assumption)))).trans (by assumption),(hb.cell (p:=⟨b',off'+k*3,none⟩) (zlt hbl' (Below.size (by assumption)))).trans (by assumption),(hb.cell (p:=⟨b',off'+k*3+1,none⟩) (zlt hbl' (Below.size (by assumption)))).trans (by assumption),(hb.cell (p:=⟨b',off'+k*3+2,none⟩) (zlt hbl' (Below.size (by assumption)))).trans (by assumption),Gr.trans (by assumption) hb⟩))
        (first | (go_at_call 66;(with_reducible refine (CS.out _ (by go_split_ands;assumption)).mono ?_);rintro ee w9 ⟨rfl,hb⟩))
       rename_i hH;have G9:=hid (HG.out.trans hH.2.2.2.2.2.2);clear hH;go_wp2_with fail;go_ret;exact⟨rfl,G9.out⟩
    . obtain rfl:k=n:=by omega
      obtain rfl:v=true:=HV.out.2 (List.ext_getElem? λ j=>by
       by_cases h:j<k
       . exact HJ.out j h
       . rw [List.getElem?_eq_none (by rw [List.length_map];omega),List.getElem?_eq_none (by rw [List.length_map];omega)])
      clear HV;go_wp2_with fail;go_ret;exact⟨rfl,HG.out⟩
 . obtain rfl:v=false:=by
    cases v
    . rfl
    . have:=congrArg List.length (HV.out.1 rfl)
      simp [hla,hlb] at this;exact absurd this hnm
   have hne:((n:Int)==(m:Int))=false:=beq_eq_false_iff_ne.2 (by omega);have hne':((n:Int) != (m:Int))=true:=by simp [bne,hne]
   clear HV;go_enter func37,ntmps37;go_wp2_with fail;go_ret;exact⟨rfl,zr _⟩
end
end
section
namespace P16
open P12 (PV PMem)
theorem yn (p:Prop):∃ b:Bool,b=true↔p:=by
 by_cases h:p
 . exact⟨true,by simp [h]⟩
 . exact⟨false,by simp [h]⟩
theorem no_eq {v:Bool} {p:Prop} (hv:v=true↔p) (h:¬ p):v=false:=by
 cases v with
 | false=>rfl
 | true=>exact absurd (hv.1 rfl) h
theorem all_at {α:Type} {l m:List α} {n:Nat} (hl:l.length=n) (hm:m.length=n) (h:∀ j,j<n->l[j]?=m[j]?):l=m:=by
 refine List.ext_getElem? λ i=>?_
 by_cases hi:i<n
 . exact h i hi
 . rw [List.getElem?_eq_none (by omega),List.getElem?_eq_none (by omega)]
theorem at_more {α:Type} {l m:List α} {k:Nat} (h:∀ j,j<k->l[j]?=m[j]?) (e:l[k]?=m[k]?):∀ j,j<k+1->l[j]?=m[j]?:=by
 intro j hj;by_cases hk:j<k
 . exact h j hk
 . obtain rfl:j=k:=by omega
   exact e
theorem six {W:World} {b:Nat} {t:TypeId} {r:WR} (h:Blk W b r.a t) :
 W.cell? ⟨b,0,none⟩=some (.int .i64 r.now)/\W.cell? ⟨b,1,none⟩=some (.slice r.p.A r.p.n r.p.c)/\W.cell? ⟨b,2,none⟩=some (.slice r.c.A r.c.n r.c.c)/\W.cell? ⟨b,3,none⟩=some (.slice r.m.A r.m.n r.m.c)/\W.cell? ⟨b,4,none⟩=some (.slice r.t.A r.t.n r.t.c)/\W.cell? ⟨b,5,none⟩=some (.int .i64 r.stop) :=
 ⟨(h.at_ (k:=0) rfl).1,(h.at_ (k:=1) rfl).1,(h.at_ (k:=2) rfl).1,(h.at_ (k:=3) rfl).1,(h.at_ (k:=4) rfl).1,(h.at_ (k:=5) rfl).1⟩
section
variable {w:World} {r s:WR} {ω ψ:Wv}
theorem rWSame_is (ha:WIs w r ω) (hb:WIs w s ψ) {v:Bool} (hv:v=true↔ω=ψ) :
 Calls prog 16 #[r.v,s.v] w λ e w'=>e=.returned (.bool v)/\Gr w w':=by
 by_cases e1:r.now=s.now;rotate_left
 . have hv0:v=false:=no_eq hv (λ e=>e1 (by rw [ha.now,hb.now,e]))
   have t1:(r.now != s.now)=true:=by simpa using e1
   subst hv0;clear ha hb hv e1;go_enter func16,ntmps16;go_wp2_with fail;go_ret;exact⟨rfl,((zr w).al _).al _⟩
 by_cases e2:r.stop=s.stop;rotate_left
 . have hv0:v=false:=no_eq hv (λ e=>e2 (by rw [ha.stop,hb.stop,e]))
   have t1:(r.now != s.now)=false:=by simpa using e1
   have t2:(r.stop != s.stop)=true:=by simpa using e2
   subst hv0;clear ha hb hv e1 e2;go_enter func16,ntmps16;go_wp2_with fail;go_ret;exact⟨rfl,((zr w).al _).al _⟩
 have t1:(r.now != s.now)=false:=by simpa using e1
 have t2:(r.stop != s.stop)=false:=by simpa using e2
 obtain⟨R,hR,eR⟩:=ha.p;obtain⟨T,hT,eT⟩:=hb.p;obtain⟨p,hp⟩:∃ p,(P12.pl R==P12.pl T)=p:=⟨_,rfl⟩;have cP:=λ W (g:Gr w W)=>hid (P12.rSame_is (c:=r.p.c) (d:=s.p.c) hp ha.op.lt hb.op.lt W (hR.gr g) (hT.gr g))
 obtain⟨X,hX,eX⟩:=ha.t;obtain⟨Y,hY,eY⟩:=hb.t;obtain⟨t,ht⟩:=yn (X.map SV.pl=Y.map SV.pl);have cT:=λ W (g:Gr w W)=>hid (Go.Proofs.YtainfijdhcehlaaGreatDoor.rSame_is (c:=r.t.c) (d:=s.t.c) (hX.gr g) (hY.gr g) ha.ot.lt ht)
 rw [eR,eT] at hp;rw [eX,eY] at ht;have hn:=ha.oc.lt;have hmn:=ha.om.lt;have lc:=ha.c.len;have lc':=hb.c.len;have lm:=ha.m.len;have lm':=hb.m.len;have HC:=hid ha.c;have HC':=hid hb.c;have HM:=hid ha.m;have HM':=hid hb.m;have HW:=hid (show p=true->t=true->ω.cl=ψ.cl->ω.mx=ψ.mx->v=true from λ h1 h2 h3 h4=>hv.2 (by
  have:=ha.now;have:=hb.now;have:=ha.stop;have:=hb.stop;subst h1;have h5:=eq_of_beq hp;have h6:=ht.1 h2;obtain⟨a1,a2,a3,a4,a5,a6⟩:=ω;obtain⟨b1,b2,b3,b4,b5,b6⟩:=ψ
  simp_all))
 have HN:=hid (show ω≠ψ->v=false from no_eq hv);have HV:=hid hv;have HP:=hid hp;have HT:=hid ht;have N0:=hid (show Blk ((w.alloc (.cells r.a 29)).alloc (.cells s.a 29)) w.heap.size r.a 29 from (Blk.new w _ _).al _);have N1:=hid (show Blk ((w.alloc (.cells r.a 29)).alloc (.cells s.a 29)) (w.heap.size+1) s.a 29 from by
  have:=Blk.new (w.alloc (.cells r.a 29)) s.a 29;rwa [zsA] at this)
 have G0:=hid (((zr w).al (.cells r.a 29)).al (.cells s.a 29));clear hv ha hb hR hT hX hY eR eT eX eY hp ht e1 e2;go_enter func16,ntmps16;go_wp2_with fail;refine (cP _ G0.out).out.mono ?_;rintro e w1 ⟨rfl,q1,hq1⟩;have g1:Gr ((w.alloc (.cells r.a 29)).alloc (.cells s.a 29)) w1:=by rw [hq1];exact (zr _).drN _
 have B0:=N0.out.gr g1;have B1:=N1.out.gr g1;have G1:=hid (G0.out.trans g1);have l0:=B0.lt;have l1:=B1.lt;obtain⟨q0,qp,qc,qm,qt,qs⟩:=six B0;obtain⟨u0,up,uc,um,ut,us⟩:=six B1;have HB0:=hid B0;have HB1:=hid B1;clear hq1 g1 B0 B1 cP N0 N1 G0
 cases p with
 | false =>
  have e:=HN.out (λ h=>by have:=HP.out;rw [h] at this;simp at this);subst e;go_wp2_with fail;go_ret;exact⟨rfl,G1.out⟩
 | true =>
 go_wp2_with fail;refine (cT _ G1.out).out.mono ?_;rintro e w2 ⟨rfl,g2⟩;have B0:=HB0.out.gr g2;have B1:=HB1.out.gr g2;have G2:=hid (G1.out.trans g2);clear q0 qp qc qm qt qs u0 up uc um ut us l0 l1 HB0 HB1;have l0:=B0.lt;have l1:=B1.lt;obtain⟨q0,qp,qc,qm,qt,qs⟩:=six B0;obtain⟨u0,up,uc,um,ut,us⟩:=six B1;have HB0:=hid B0;have HB1:=hid B1;clear g2 B0 B1 cT
 cases t with
 | false =>
  have e:=HN.out (λ h=>by have:=HT.out.2 (by rw [h]);simp at this);subst e;go_wp2_with fail;go_ret;exact⟨rfl,G2.out⟩
 | true =>
 by_cases e3:r.c.n=s.c.n;rotate_left
 . have t3:((r.c.n:Int) != (s.c.n:Int))=true:=by simp;omega
   have e:=HN.out (λ h=>e3 (by rw [<- lc,<- lc',h]));subst e;go_wp2_with fail;go_ret;exact⟨rfl,G2.out⟩
 by_cases e4:r.m.n=s.m.n;rotate_left
 . have t3:((r.c.n:Int) != (s.c.n:Int))=false:=by simp;omega
   have t4:((r.m.n:Int) != (s.m.n:Int))=true:=by simp;omega
   have e:=HN.out (λ h=>e4 (by rw [<- lm,<- lm',h]));subst e;go_wp2_with fail;go_ret;exact⟨rfl,G2.out⟩
 have t3:((r.c.n:Int) != (s.c.n:Int))=false:=by simp;omega
 have t4:((r.m.n:Int) != (s.m.n:Int))=false:=by simp;omega
 have LC:=hid lc;have LC':=hid lc';have LM:=hid lm;have LM':=hid lm';have E3:=hid e3;have E4:=hid e4;clear lc lc' lm lm' e3 e4;go_wp2_with fail
 go_loopw [56] (λ i wr=>∃ k:Nat,k<=r.c.n/\i=.int .i64 k/\Hid (∀ j,j<k->ω.cl[j]?=ψ.cl[j]?)/\Hid (Gr w2 wr)) (λ i _=>r.c.n-(intOf i).toNat)
 case atStart=>exact⟨0,Nat.zero_le _,rfl,hid (λ j hj=>absurd hj (by omega)),hid (zr _)⟩
 case round =>
  obtain⟨k,hk,rfl,HK,HQ⟩:=hrel;clear q0 qp qc qm qt qs u0 up uc um ut us l0 l1;have B0:=HB0.out.gr HQ.out;have B1:=HB1.out.gr HQ.out;have l0:=B0.lt;have l1:=B1.lt;obtain⟨q0,qp,qc,qm,qt,qs⟩:=six B0;obtain⟨u0,up,uc,um,ut,us⟩:=six B1;have HR:=hid B0;have HS:=hid B1;clear B0 B1;have G3:=hid (G2.out.trans HQ.out);by_cases hlt:k<r.c.n
  . have hlt':k<s.c.n:=by have:=E3.out;omega
    obtain⟨b,off,x,hA,hbl,hx,-,c0,c1,c2,c3,c4,c5,c6,c7,c8,c9,c10,c11,c12⟩:=CMem.cells (HC.out.gr G3.out) hlt;obtain⟨b',off',y,hA',hbl',hy,-,d0,d1,d2,d3,d4,d5,d6,d7,d8,d9,d10,d11,d12⟩:=CMem.cells (HC'.out.gr G3.out) hlt';rw [hA] at qc;rw [hA'] at uc;obtain⟨z,hz⟩:=yn (x=y);have hne:=λ W=>run_client_neq x y hz W
    have k0:(0:Int)<=(k:Int):=by omega
    have k1:(k:Int)<(r.c.n:Int):=by omega
    have k2:(k:Int)<(s.c.n:Int):=by omega
    have HX:=hid hx;have HY:=hid hy;have HZ:=hid hz;clear hx hy hz hA hA'
    cases z with
    | false =>
     have e:=HN.out (λ h=>by
      have h1:=HX.out;rw [h,HY.out] at h1;have:=HZ.out.2 (Option.some.inj h1).symm;simp at this)
     subst e;go_wp2_with fail
     go_quiet (fail)
     go_wp2_with fail;go_ret;exact⟨rfl,G3.out.drN _⟩
    | true =>
     have HK':=hid (at_more HK.out (by rw [HX.out,HY.out,HZ.out.1 rfl]));go_wp2_with fail
     go_quiet (fail)
     go_wp2_with fail;go_roundw
     case rel=>exact⟨k+1,by omega,by go_num,HK',hid (HQ.out.drN _)⟩
     case measure=>simp [intOf];omega
  . obtain rfl:k=r.c.n:=by omega
    have hcl:=hid (all_at LC.out (by rw [LC'.out,E3.out]) HK.out);have HQo:=hid HQ.out
    rename World=>wo
    go_wp2_with fail
    go_loopw [74] (λ i wr=>∃ k:Nat,k<=r.m.n/\i=.int .i64 k/\Hid (∀ j,j<k->ω.mx[j]?=ψ.mx[j]?)/\Hid (Gr w2 wr)) (λ i _=>r.m.n-(intOf i).toNat)
    case atStart=>exact⟨0,Nat.zero_le _,rfl,hid (λ j hj=>absurd hj (by omega)),HQo⟩
    case round =>
     clear HK HQ hk HQo HR HS q0 qp qc qm qt qs u0 up uc um ut us l0 l1 G3;obtain⟨k,hk,rfl,HK,HQ⟩:=hrel;have B0:=HB0.out.gr HQ.out;have B1:=HB1.out.gr HQ.out;have l0:=B0.lt;have l1:=B1.lt;obtain⟨q0,qp,qc,qm,qt,qs⟩:=six B0;obtain⟨u0,up,uc,um,ut,us⟩:=six B1;clear B0 B1;have G3:=hid (G2.out.trans HQ.out);by_cases hlt:k<r.m.n
     . have hlt':k<s.m.n:=by have:=E4.out;omega
       obtain⟨b,off,x,hA,hbl,hx,-,c0,c1,c2⟩:=T3Mem.cells (HM.out.gr G3.out) hlt;obtain⟨b',off',y,hA',hbl',hy,-,d0,d1,d2⟩:=T3Mem.cells (HM'.out.gr G3.out) hlt';rw [hA] at qm;rw [hA'] at um;obtain⟨z,hz⟩:=yn (x=y);have hne:=λ W=>run_mutex_neq x y hz W
       have k0:(0:Int)<=(k:Int):=by omega
       have k1:(k:Int)<(r.m.n:Int):=by omega
       have k2:(k:Int)<(s.m.n:Int):=by omega
       have HX:=hid hx;have HY:=hid hy;have HZ:=hid hz;clear hx hy hz hA hA'
       cases z with
       | false =>
        have e:=HN.out (λ h=>by
         have h1:=HX.out;rw [h,HY.out] at h1;have:=HZ.out.2 (Option.some.inj h1).symm;simp at this)
        subst e;go_wp2_with fail
        go_quiet (fail)
        go_wp2_with fail;go_ret;exact⟨rfl,G3.out.drN _⟩
       | true =>
        have HK':=hid (at_more HK.out (by rw [HX.out,HY.out,HZ.out.1 rfl]));go_wp2_with fail
        go_quiet (fail)
        go_wp2_with fail;go_roundw
        case rel=>exact⟨k+1,by omega,by go_num,HK',hid (HQ.out.drN _)⟩
        case measure=>simp [intOf];omega
     . obtain rfl:k=r.m.n:=by omega
       have e:=HW.out (by trivial) (by trivial) hcl.out (all_at LM.out (by rw [LM'.out,E4.out]) HK.out);subst e;go_wp2_with fail;go_ret;exact⟨rfl,G3.out⟩
end
end P16
end
section
namespace P16
open P12 (PV PMem POwn fewP)
theorem least (n K:Nat):∃ N:Nat,(if (K:Int)<(n:Int) then (K:Int) else (n:Int))=(N:Int)/\min (n:Int) (K:Int)=(N:Int)/\N<=n/\N<=K/\∀ {α:Type} (l:List α),l.length=n->l.take K=l.take N:=by
 by_cases h:K<n
 . exact⟨K,by rw [if_pos (by omega)],by omega,by omega,by omega,λ l _=>rfl⟩
 . exact⟨n,by rw [if_neg (by omega)],by omega,by omega,by omega,λ l hl=>by rw [List.take_of_length_le (by omega),List.take_of_length_le (by omega)]⟩
end P16
end
section
namespace P16
open P12 (PV PMem)
abbrev p0:List Ac:=[(0,0),(2,0)]
theorem p0_right:P12.rightB [p0]=true:=by decide
end P16
end
section
open Go.Conc
section
variable {P:Program} {ops:Array Oper} {Q:Exit->Act->World->Prop} {a:Act} {w:World}
def Runs (P:Program) (ops:Array Oper) (Q:Exit->Act->World->Prop) (l:List Nat) (a:Act) (w:World):Prop :=
 ∀ (b:Frame) (k:List Item) (cs:List Frame),∃ e a' w',Q e a' w'/\Arrives P (lone (b.at a (.inRegion ops l::k)) cs w) b k cs e a' w'
theorem Runs.of_wp {l:List Nat} (h:wpOps P ops Q l a w):Runs P ops Q l a w:=wp_ops l a w h
theorem Runs.region {id:Nat} (h:Runs P ops Q (List.range ops.size) a w):(Code.region id ops false).wp P Q a w :=
 λ b k cs=>let ⟨e,a',w',q,r⟩:=h b k cs;⟨e,a',w',q,.of_steps (.one step_region) r⟩
theorem Runs.value {i:Nat} {rest:List Nat} {o:Oper} {v:Value} {w':World} (ho:ops[i]?=some o) (hw:Region.wanted o (yielded ops a.tmps)=true) (hr:(execOp a.eval o).run P w=.ok (.value v) w')
 (h:Runs P ops Q rest (a.put o.dst v) w'):Runs P ops Q (i::rest) a w:=by
 intro b k cs;obtain⟨e,a',w'',hq,harr⟩:=h b k cs;have hg:=stepG_op (P:=P) (b:=b) (k:=k) (cs:=cs) (w:=w) (rest:=rest) ho hw;have hfin:(b.at a (.inRegion ops (i::rest)::k)).finish v=b.at (a.put o.dst v) (.inRegion ops rest::k):=by rw [Frame.finish_at,ho];rfl
 refine⟨e,a',w'',hq,.of_steps (.one (step_lone_go ?_)) harr⟩;rw [hg,<- hfin];simp [stepG.apply,hr]
theorem comm_step {i:Nat} {rest:List Nat} {o:Oper} {cases:Array CommCase} {blocking:Bool} {shape:CommShape} {w₁:World} (ho:ops[i]?=some o) (hw:Region.wanted o (yielded ops a.tmps)=true)
 (hr:(execOp a.eval o).run P w=.ok (.comm cases blocking shape) w₁) (b:Frame) (k:List Item) (cs:List Frame) :
 ∃ es,stepG P true (G (b.at a (.inRegion ops (i::rest)::k)) cs) w=.comm (G (b.at a (.inRegion ops (i::rest)::k)) cs) cases blocking shape w₁ es:=by
 have hg:=stepG_op (P:=P) (b:=b) (k:=k) (cs:=cs) (w:=w) (rest:=rest) ho hw;show ∃ es,stepG P true { frame:=b.at a (.inRegion ops (i::rest)::k),callers:=cs,status:=.running,dying:=none } w=_;rw [hg];simp only [stepG.apply,Sem.runT_eq,hr];by_cases hk:b.kind=.early<;>simp [G,Frame.at,hk,GStep.after]
theorem Runs.send {i:Nat} {rest:List Nat} {o:Oper} {c cap s r:Nat} {v z:Value} {buf:Array Value} {tm:Bool} {w₁:World} (ho:ops[i]?=some o) (hw:Region.wanted o (yielded ops a.tmps)=true)
 (hr:(execOp a.eval o).run P w=.ok (.comm #[scase c v z] true .send) w₁) (hc:w₁.heap[c]?=some (.chan cap buf false s r tm)) (hroom:buf.size<cap)
 (h:Runs P ops Q rest (a.put o.dst undef) (w₁.setChan c cap (buf.push v) false (s+1) r tm)):Runs P ops Q (i::rest) a w:=by
 intro b k cs;obtain⟨es,hs⟩:=comm_step (rest:=rest) ho hw hr b k cs;have st:=step_lone_send_room hs hc hroom;rw [Frame.finish_at,ho] at st;obtain⟨e,a',w',hq,harr⟩:=h b k cs;exact⟨e,a',w',hq,.of_steps (.one st) harr⟩
theorem Runs.recv {i:Nat} {rest:List Nat} {o:Oper} {c cap s r:Nat} {ok:Bool} {z:Value} {buf:Array Value} {closed tm:Bool} {w₁:World} (ho:ops[i]?=some o) (hw:Region.wanted o (yielded ops a.tmps)=true)
 (hr:(execOp a.eval o).run P w=.ok (.comm #[rcase c z] true (.recv ok)) w₁) (hc:w₁.heap[c]?=some (.chan cap buf closed s r tm)) (hsome:0<buf.size)
 (h:Runs P ops Q rest (a.put o.dst (got ok (buf.getD 0 undef) true)) (w₁.setChan c cap (buf.extract 1 buf.size) closed s (r+1) tm)):Runs P ops Q (i::rest) a w:=by
 intro b k cs;obtain⟨es,hs⟩:=comm_step (rest:=rest) ho hw hr b k cs;have st:=step_lone_recv_buf ok hs hc hsome;rw [Frame.finish_at,ho] at st;obtain⟨e,a',w',hq,harr⟩:=h b k cs;exact⟨e,a',w',hq,.of_steps (.one st) harr⟩
theorem Runs.shut {i:Nat} {rest:List Nat} {o:Oper} {c cap s r:Nat} {ok:Bool} {z:Value} {tm:Bool} {w₁:World} (ho:ops[i]?=some o) (hw:Region.wanted o (yielded ops a.tmps)=true)
 (hr:(execOp a.eval o).run P w=.ok (.comm #[rcase c z] true (.recv ok)) w₁) (hc:w₁.heap[c]?=some (.chan cap #[] true s r tm))
 (h:Runs P ops Q rest (a.put o.dst (got ok z false)) w₁):Runs P ops Q (i::rest) a w:=by
 intro b k cs;obtain⟨es,hs⟩:=comm_step (rest:=rest) ho hw hr b k cs;have st:=step_lone_recv_shut ok hs hc;rw [Frame.finish_at,ho] at st;obtain⟨e,a',w',hq,harr⟩:=h b k cs;exact⟨e,a',w',hq,.of_steps (.one st) harr⟩
theorem Runs.val (i:Nat) {rest:List Nat} {o:Oper} {d:Nat} {v:Value} {t t':Array Value} {ds:List Deferred} {w':World}
 (h:Runs P ops Q rest { tmps:=t',defers:=ds } w')
 (ho:ops[i]?=some o:=by exact rfl) (hd:o.dst=some d:=by exact rfl) (hw:Region.wanted o (yielded ops t)=true:=by rfl)
 (hr:(execOp (Act.eval { tmps:=t,defers:=ds }) o).run P w=.ok (.value v) w':=by go_simp;try with_reducible rfl)
 (ht:t.setIfInBounds d v=t':=by (try simp only [List.setIfInBounds_toArray,List.set_cons_zero,List.set_cons_succ]);exact rfl):Runs P ops Q (i::rest) { tmps:=t,defers:=ds } w :=
 Runs.value ho hw hr (by rw [hd];show Runs P ops Q rest { tmps:=t.setIfInBounds d v,defers:=ds } w';rw [ht];exact h)
theorem Runs.snd (i:Nat) {rest:List Nat} {o:Oper} {c cap s r:Nat} {v z:Value} {buf:Array Value} {tm:Bool} {w₁:World}
 (hc:w₁.heap[c]?=some (.chan cap buf false s r tm)) (hroom:buf.size<cap)
 (h:Runs P ops Q rest a (w₁.setChan c cap (buf.push v) false (s+1) r tm)) (ho:ops[i]?=some o:=by exact rfl) (hd:o.dst=none:=by exact rfl) (hw:Region.wanted o (yielded ops a.tmps)=true:=by rfl)
 (hr:(execOp a.eval o).run P w=.ok (.comm #[scase c v z] true .send) w₁:=by simp [execOp,scase,Act.eval]):Runs P ops Q (i::rest) a w :=
 Runs.send ho hw hr hc hroom (by rw [hd];exact h)
theorem Runs.rcv (i:Nat) {rest:List Nat} {o:Oper} {c cap s r d:Nat} {ok:Bool} {z:Value} {buf:Array Value} {closed tm:Bool} {t t':Array Value} {ds:List Deferred} {w₁:World}
 (hc:w₁.heap[c]?=some (.chan cap buf closed s r tm)) (hsome:0<buf.size)
 (h:Runs P ops Q rest { tmps:=t',defers:=ds } (w₁.setChan c cap (buf.extract 1 buf.size) closed s (r+1) tm))
 (ho:ops[i]?=some o:=by exact rfl) (hd:o.dst=some d:=by exact rfl) (hw:Region.wanted o (yielded ops t)=true:=by rfl)
 (hr:(execOp (Act.eval { tmps:=t,defers:=ds }) o).run P w=.ok (.comm #[rcase c z] true (.recv ok)) w₁:=by simp [go_sem,rcase])
 (ht:t.setIfInBounds d (got ok (buf.getD 0 undef) true)=t':=by (try simp only [List.setIfInBounds_toArray,List.set_cons_zero,List.set_cons_succ]);exact rfl):Runs P ops Q (i::rest) { tmps:=t,defers:=ds } w :=
 Runs.recv ho hw hr hc hsome (by rw [hd];show Runs P ops Q rest { tmps:=t.setIfInBounds d (got ok (buf.getD 0 undef) true),defers:=ds } _;rw [ht];exact h)
theorem Runs.end_ (i:Nat) {rest:List Nat} {o:Oper} {c cap s r d:Nat} {ok:Bool} {z:Value} {tm:Bool} {t t':Array Value} {ds:List Deferred} {w₁:World}
 (hc:w₁.heap[c]?=some (.chan cap #[] true s r tm))
 (h:Runs P ops Q rest { tmps:=t',defers:=ds } w₁)
 (ho:ops[i]?=some o:=by exact rfl) (hd:o.dst=some d:=by exact rfl) (hw:Region.wanted o (yielded ops t)=true:=by rfl)
 (hr:(execOp (Act.eval { tmps:=t,defers:=ds }) o).run P w=.ok (.comm #[rcase c z] true (.recv ok)) w₁:=by simp [go_sem,rcase])
 (ht:t.setIfInBounds d (got ok z false)=t':=by (try simp only [List.setIfInBounds_toArray,List.set_cons_zero,List.set_cons_succ]);exact rfl):Runs P ops Q (i::rest) { tmps:=t,defers:=ds } w :=
 Runs.shut ho hw hr hc (by rw [hd];show Runs P ops Q rest { tmps:=t.setIfInBounds d (got ok z false),defers:=ds } _;rw [ht];exact h)
theorem Runs.get (i:Nat) {rest:List Nat} {o:Oper} {c cap s r d:Nat} {z v:Value} {buf buf':Array Value} {closed tm:Bool} {t t':Array Value} {ds:List Deferred} {w₁:World}
 (hc:w₁.heap[c]?=some (.chan cap buf closed s r tm)) (hsome:0<buf.size) (hv:buf.getD 0 undef=v) (hb:buf.extract 1 buf.size=buf')
 (h:Runs P ops Q rest { tmps:=t',defers:=ds } (w₁.setChan c cap buf' closed s (r+1) tm))
 (ho:ops[i]?=some o:=by exact rfl) (hd:o.dst=some d:=by exact rfl) (hw:Region.wanted o (yielded ops t)=true:=by rfl)
 (hr:(execOp (Act.eval { tmps:=t,defers:=ds }) o).run P w=.ok (.comm #[rcase c z] true (.recv true)) w₁:=by simp [go_sem,rcase])
 (ht:t.setIfInBounds d (.tuple #[v,.bool true])=t':=by (try simp only [List.setIfInBounds_toArray,List.set_cons_zero,List.set_cons_succ]);exact rfl):Runs P ops Q (i::rest) { tmps:=t,defers:=ds } w :=
 Runs.rcv i hc hsome (by rw [hb];exact h) ho hd hw hr (by rw [hv];exact ht)
theorem Runs.none (i:Nat) {rest:List Nat} {o:Oper} {c cap s r d:Nat} {z:Value} {tm:Bool} {t t':Array Value} {ds:List Deferred} {w₁:World}
 (hc:w₁.heap[c]?=some (.chan cap #[] true s r tm)) (h:Runs P ops Q rest { tmps:=t',defers:=ds } w₁)
 (ho:ops[i]?=some o:=by exact rfl) (hd:o.dst=some d:=by exact rfl) (hw:Region.wanted o (yielded ops t)=true:=by rfl)
 (hr:(execOp (Act.eval { tmps:=t,defers:=ds }) o).run P w=.ok (.comm #[rcase c z] true (.recv true)) w₁:=by simp [go_sem,rcase])
 (ht:t.setIfInBounds d (.tuple #[z,.bool false])=t':=by (try simp only [List.setIfInBounds_toArray,List.set_cons_zero,List.set_cons_succ]);exact rfl):Runs P ops Q (i::rest) { tmps:=t,defers:=ds } w :=
 Runs.end_ i hc h ho hd hw hr ht
end
end
namespace P13
abbrev Pk:=Int×Int
def rd (v:Int):Pk:=if 0<=v then (0,v % 16) else (1,-(max v (-4611686018427387904)))
theorem rd_step {v:Int} (h:0<=v):rd v=(0,v % 16):=if_pos h
theorem rd_tick {v:Int} (h:v<0):rd v=(1,-(max v (-4611686018427387904))):=if_neg (by omega)
def okP (p:Pk):Prop:=(p.1=0/\0<=p.2/\p.2<16)\/(p.1=1/\0<p.2/\p.2<=4611686018427387904)
instance (p:Pk):Decidable (okP p):=by unfold okP;infer_instance
theorem mod16 {v:Int} (h:0<=v):0<=v % 16/\v % 16<16:=by omega
theorem rd_ok (v:Int):okP (rd v):=by
 by_cases h:0<=v
 . rw [rd_step h]
   have:=mod16 h;exact .inl ⟨rfl,this.1,this.2⟩
 . rw [rd_tick (by omega)]
   refine .inr ⟨rfl,?_,?_⟩
   . show 0 < -(max v (-4611686018427387904));omega
   . show -(max v (-4611686018427387904))<=4611686018427387904;omega
theorem rd_inb (v:Int):Inb (rd v).1/\Inb (rd v).2:=by
 have:=rd_ok v;unfold okP at this;unfold Inb;omega
theorem take_snoc {l:List Int} {j:Nat} {x:Int} (h:l[j]?=some x):l.take (j+1)=l.take j++[x]:=by rw [List.take_add_one,h];rfl
end P13
namespace P13
abbrev pk (p:Pk):Value:=.agg #[.int .i64 p.1,.int .i64 p.2]
theorem Read_is (v:Int) (w:World):Calls prog 165 #[.int .i64 v] w λ e w'=>e=.returned (pk (rd v))/\Gr w w':=by
 by_cases h:0<=v
 . rw [rd_step h]
   go_enter func165,ntmps165;go_wp2_with fail;exact bodyPost_ret (v:=pk (0,v % 16)) (by simp [results,results165,go_sem,Int.tmod_eq_emod_of_nonneg h]) rfl ⟨rfl,(zr w).al _⟩
 . rw [rd_tick (by omega)]
   by_cases h2:v < -4611686018427387904
   . rw [show max v (-4611686018427387904)=-4611686018427387904 from by omega]
     go_enter func165,ntmps165;go_wp2_with fail;exact bodyPost_ret (v:=pk (1,- -4611686018427387904)) (by simp [results,results165,go_sem]<;>omega) rfl ⟨rfl,(zr w).al _⟩
   . rw [show max v (-4611686018427387904)=v from by omega]
     go_enter func165,ntmps165;go_wp2_with fail;exact bodyPost_ret (v:=pk (1,-v)) (by simp [results,results165,go_sem]<;>omega) rfl ⟨rfl,(zr w).al _⟩
end P13
namespace P13
theorem picks_is (A:Option Addr) (n c:Nat) (w:World) :
 Calls prog 117 #[.slice A n c] w λ e w' =>
  e=.returned (.func (.func 164) #[] #[.pointer (some ⟨w.heap.size,0,none⟩)])/\w'=w.alloc (.cells #[.slice A n c] 23):=by
 have hmf:∀ W,(Instr.makeFunc (.func 164) #[] #[.pointer (some ⟨w.heap.size,0,none⟩)]).run prog W=.ok (.func (.func 164) #[] #[.pointer (some ⟨w.heap.size,0,none⟩)]) W:=λ W=>by rfl
 go_enter func117,ntmps117;go_wp2_with fail;go_ret;exact⟨rfl,rfl⟩
theorem abides_gr {β:Type} {B:Nat} {J:β->World->Prop} (h:AbidesFrom B J) {s:β} {X Y:World} (hs:J s X) (g:Gr X Y):J s Y :=
 h s X Y none hs ⟨g.os,g.tape,g.output,g.size,λ k hk _=>g.block k hk⟩ (λ r e=>by cases e)
theorem picks1_in (w0:World) {A:Option Addr} {n c:Nat} {L:List Int} (hm:IMem w0 A n L) (hn:n<=9223372036854775807)
 (m:Nat) (hm1:1<=m) (l lb:Nat) (J Jx:List Int->World->Prop) (W:World) (hW:Gr w0 W) (hJ:AbidesFrom W.heap.size J)
 (hY:∀ pre x W1,J pre W1->pre.length<L.length->YieldAt Fence.wide (m-1) prog l #[pk (rd x)] W1 λ e W' =>
   (e=.returned (.bool true)/\J (pre++[x]) W'/\Below w0.heap.size W1 W')\/(e=.returned (.bool false)/\Jx (pre++[x]) W'))
 (hL:Blk W lb #[.slice A n c] 23) (h0:J [] W) :
 CallsIn Fence.wide m prog 164 #[.func (.yield l) #[] #[],.pointer (some ⟨lb,0,none⟩)] W λ e W'=>(∃ v,e=.returned v) /\
  ((∃ ys,ys=L/\J ys W')\/(∃ pre,pre <+: L/\Jx pre W')):=by
 have hlen:=hm.1;have l0:=(hL.at_ (k:=0) rfl).1;have ll:=hL.lt;have HJ:=hid hJ;have HY:=hid hY;have HM:=hid hm;have H0:=hid h0;clear hJ hY hm hL h0;refine callsIn_of_wp func164 rfl trivial ?_ rfl;simp only [ntmps164,List.size_toArray,List.length_cons,List.length_nil,Nat.reduceAdd,Nat.reduceSub,Array.replicate_succ,Array.replicate_zero,List.push_toArray,List.append_toArray,List.nil_append,List.cons_append]
 gi_wp2_with fail
 have HG:=hid hW;clear l0 ll
 gi_loopw [7] (λ i wr=>∃ k:Nat,k<=n/\i=.int .i64 (k:Int)/\Hid (Below w0.heap.size w0 wr)/\Hid (J (L.take k) wr)) (λ i _=>n-(intOf i).toNat)
 case atStart=>exact⟨0,Nat.zero_le _,rfl,HG,H0⟩
 case round =>
  clear HG H0;obtain⟨k,hk,rfl,HG,HJK⟩:=hrel;by_cases hlt:k<n
  . obtain⟨b,off,x,rfl,hbl,hx,hxb,d0⟩:=(HM.out.gr HG.out).at_ hlt
    have k0:(0:Int)<=(k:Int):=by omega
    have k1:(k:Int)<(n:Int):=by omega
    have HX:=hid hx;have CR:=λ W=>hid (Read_is x W)
    clear hx hxb
    gi_wp2_with fail
    refine⟨trivial,?_⟩;refine (callsIn_wide.2 (CR _).out).mono ?_;rintro e w1 ⟨rfl,hb1⟩;have hj1:=abides_gr HJ.out HJK.out hb1;obtain⟨fn,tmps,assign,body,hyy,hR⟩:=HY.out (L.take k) x _ hj1 (by have:=(List.getElem?_eq_some_iff.1 HX.out).1;rw [List.length_take];omega);have HRR:=hid hR;have HG1:=hid (HG.out.trans (Below.mono hb1 HG.out.size));clear hj1 hR hb1 CR
    gi_wp2_with fail
    refine HRR.out.mono ?_;rintro e W3 (⟨rfl,hJ3,hk3⟩ | ⟨rfl,hJx3⟩)
    . have HG3:=hid (HG1.out.trans hk3)
      have HJ3:=hid (show J (L.take (k+1)) W3 from by rw [take_snoc HX.out];exact hJ3);clear hJ3 hk3 hyy HRR
      gi_wp2_with fail
      go_roundw
      case rel=>exact⟨k+1,by omega,by go_num,HG3,HJ3⟩
      case measure=>simp [intOf];omega
    . have HJX:=hid hJx3
      clear hJx3 hyy HRR
      gi_wp2_with fail
      refine bodyPost_ret (results_none rfl _ _ _) rfl ?_;exact⟨⟨_,rfl⟩,.inr ⟨_,by rw [<- take_snoc HX.out];exact List.take_prefix _ _,HJX.out⟩⟩
  . obtain rfl:k=n:=by omega
    gi_wp2_with fail
    go_end0
    exact⟨⟨_,rfl⟩,.inl ⟨_,by rw [<- hlen,List.take_length],HJK.out⟩⟩
theorem picks_stops {w0:World} {A:Option Addr} {n c:Nat} {L:List Int} (hm:IMem w0 A n L) (hn:n<=9223372036854775807) (m:Nat) (hm1:1<=m) (lb:Nat) (W:World) (hW:Gr w0 W) (hL:Blk W lb #[.slice A n c] 23) :
 SeqStopsK Fence.wide m prog 164 #[.pointer (some ⟨lb,0,none⟩)] (λ x:Int=>#[pk (rd x)]) (Below w0.heap.size) (λ ys=>ys=L) (λ pre=>pre <+: L) L.length W:=λ l J Jx W' hW' hJ _ hY h0 =>
 picks1_in w0 hm hn m hm1 l lb J Jx W' (hW.trans hW') hJ hY (hL.gr hW') h0
end P13
section
attribute [local go_sem] Oper.semAt_some
namespace P13
theorem blk_kept {W W':World} {b:Nat} {cs:Array Value} {t:TypeId} {row:Option Nat} (h:Blk W b cs t) (hg:W.grownBy W' row) (hr:∀ r,row=some r->∃ o:Obj,W.heap[r]?=some o/\o.isCells=false):Blk W' b cs t :=
 h.gb hg λ e=>by
  obtain⟨o,h1,h2⟩:=hr b e;rw [show W.heap[b]?=_ from h] at h1;cases h1;cases h2
theorem keeps_gr {W W':World} (g:Gr W W'):KeepsOthers W W':=⟨g.size,λ k o hk _=>(g.block k (zal hk)).trans hk⟩
end P13
end
section
namespace P13
theorem infoPick:(prog.info? 108).map (λ i=>(i.zero,i.size,i.bytes))=some (some (.agg #[.int .i64 0,.int .i64 0]),2,16):=by kernel_rfl
theorem info_parts {t:TypeId} {a:Option Value×Nat×Nat} (h:(prog.info? t).map (λ i=>(i.zero,i.size,i.bytes))=some a):∃ i,prog.info? t=some i/\i.zero=a.1/\i.size=a.2.1/\i.bytes=a.2.2:=by
 rw [Option.map_eq_some_iff] at h;obtain⟨i,hi,rfl⟩:=h;exact⟨i,hi,rfl,rfl,rfl⟩
def Late (B:Nat) (A:Option Addr):Prop:=∀ k,A.map (·.block)=some k->B<=k
theorem Late.none {B:Nat}:Late B none:=λ k h=>by cases h
abbrev KOwn (w:World) (base:Nat) (v:Value) (l:List Pk):Prop:=w.ownsRow base 108 2 v l.length (flat l)
theorem own_mem {w:World} {base:Nat} {v:Value} {l:List Pk} (h:KOwn w base v l) (hb:∀ x∈l,Inb x.1/\Inb x.2):∃ A c,v=.slice A l.length c/\Mem w A l.length l/\l.length<=c/\c<=9223372036854775807/\Late base A:=by
 rcases h.2 with ⟨rfl,h0⟩ | ⟨g,cap,cur,rfl,hbg,hg,hnc,hcm,hs,ht⟩
 . have hl:l=[]:=by
    cases l with
    | nil=>rfl
    | cons x r=>cases h0
   subst hl;exact⟨none,0,rfl,Mem.nil_,Nat.le_refl _,by omega,Late.none⟩
 . refine⟨_,_,rfl,⟨rfl,hb,λ _=>⟨g,0,rfl,(zal hg),λ j u hu=>?_⟩⟩,hnc,by unfold maxLen at hcm;omega,λ k hk=>by simp at hk;omega⟩
   rw [Nat.zero_add,cell_of_row w g j cur _ (0,0) hg];rw [<- ht,List.getElem?_take] at hu
   split at hu
   . simpa using hu
   . cases hu
section
variable {w:World} {base:Nat} {v:Value} {l:List Pk} {A:Option Addr} {m c:Nat} {news:List Pk}
theorem run_append_picks (h:KOwn w base v l) (hr:Mem w A m news) (hl:l.length+m<=1000000) (hbase:base<=w.heap.size) (ty:TypeId) (c:Nat) :
 ∃ v' w',(Builtin.append_ #[141,141] ty #[v,.slice A m c]).run prog w=.ok v' w'/\KOwn w' base v' (l++news)/\w.grownBy w' v.ownBlock:=by
 obtain⟨i,hi,hz,hs,hb⟩:=info_parts infoPick;unfold KOwn;rw [List.length_append,hr.1,flat_append];rcases A with _ | ad
 . have hm:m=0:=by
    rcases Nat.eq_zero_or_pos m with h0 | h0
    . exact h0
    . obtain⟨b,off,h,_⟩:=hr.2.2 h0
      cases h
   subst hm;have hn:news=[]:=zen hr.1;subst hn;exact⟨v,w,run_append_of_nil w base 141 ty 108 i 2 underlying141 hi v _ _ h c,by simpa [flat] using h,World.grownBy.refl w _⟩
 . have hcells:∀ j u,(flat news)[j]?=some u->w.cell? (ad.add j)=some u:=by
    intro j u hu;rcases Nat.eq_zero_or_pos m with h0 | h0
    . subst h0
      have hn:news=[]:=zen hr.1;subst hn;simp [flat] at hu
    . obtain⟨b,off,h,_,hc⟩:=hr.2.2 h0
      injection h with h
      subst h;rw [add_plain];exact hc j u hu
   obtain⟨v',w',hrun,h2,h3,_⟩:=run_append_own (P:=prog) w base 141 ty 108 i (.agg #[.int .i64 0,.int .i64 0]) 2 16 underlying141 hi hz hs hb rfl (by decide) v _ _ h ad m c (flat news) (by rw [flat_len,hr.1]) hcells (flat_one news) (by unfold maxLen;omega) (by omega) hbase;exact⟨v',w',hrun,h2,h3⟩
end
theorem KOwn.nil (w:World) (base:Nat):KOwn w base (.slice none 0 0) []:=World.ownsRow_nil w base _ 2
theorem KOwn.kept {w w':World} {base:Nat} {v:Value} {l:List Pk} {row:Option Nat} (h:KOwn w base v l) (hg:w.grownBy w' row) (hr:v.ownBlock=none\/v.ownBlock≠row):KOwn w' base v l:=World.ownsRow.kept h hg hr
theorem KOwn.gr {w w':World} {base:Nat} {v:Value} {l:List Pk} (h:KOwn w base v l) (g:Gr w w'):KOwn w' base v l :=
 h.kept (row:=none) ⟨g.os,g.tape,g.output,g.size,λ k hk _=>g.block k hk⟩ (by cases v.ownBlock<;>simp)
theorem KOwn.late {w:World} {base:Nat} {v:Value} {l:List Pk} (h:KOwn w base v l) {k:Nat} (hk:v.ownBlock=some k):base<=k:=by
 rcases h.2 with ⟨rfl,_⟩ | ⟨g,cap,cur,rfl,hb,_⟩
 . cases hk
 . simp only [Value.ownBlock] at hk
   cases hk;exact hb
theorem pick_row {w:World} {g:Nat} {p:Pk} {t:TypeId} (h:Blk w g #[.int .i64 p.1,.int .i64 p.2] t) (hp:Inb p.1/\Inb p.2):Mem w (some ⟨g,0,none⟩) 1 [p] :=
 ⟨rfl,λ x hx=>by rw [List.mem_singleton] at hx;subst hx;exact hp,λ _=>⟨g,0,rfl,h.lt,λ j u hu=>by
   match j,hu with
   | 0,hu=>simp [flat] at hu;subst hu;exact (h.at_ (k:=0) rfl).1
   | 1,hu=>simp [flat] at hu;subst hu;exact (h.at_ (k:=1) rfl).1⟩⟩
theorem KOwn.low {w:World} {base b2:Nat} {v:Value} {l:List Pk} (h:KOwn w base v l) (hb:b2<=base):KOwn w b2 v l:=by
 refine⟨h.1,?_⟩;rcases h.2 with h1 | ⟨g,cap,cur,hv,hbg,h2⟩
 . exact .inl h1
 . exact .inr ⟨g,cap,cur,hv,Nat.le_trans hb hbg,h2⟩
theorem wpListIn_append_picks {F:Fence} {f:Nat} {w:World} {base:Nat} {v:Value} {l:List Pk} {A:Option Addr} {m c:Nat} {news:List Pk} {ops:Array Oper} {rest:List Oper} {o:Oper} {a:Act} {Q:Exit->Act->World->Prop} (hgd:o.guard=none) (s x:Operand)
 (ho:o.op=.call { callee:=.builtin .append,args:=#[s,x],argTypes:=#[141,141] }) (hs:a.eval s=v) (hx:a.eval x=.slice A m c)
 (h:KOwn w base v l) (hr:Mem w A m news) (hl:l.length+m<=1000000) (hbase:base<=w.heap.size)
 (hK:∀ v' w',KOwn w' base v' (l++news)->w.grownBy w' v.ownBlock->wpListIn F f prog ops Q rest (a.put o.dst v') w'):wpListIn F f prog ops Q (o::rest) a w:=by
 refine wpListIn_plain hgd λ K hK'=>?_
 obtain⟨v',w',h1,h2,h3⟩:=run_append_picks h hr hl hbase o.type c;unfold Oper.wpIn;refine⟨?_,?_⟩
 . simp [Oper.about,ho,resolve,Target.leads,Sem.run_pure]
 . rw [Oper.semAt_plain F _ _ (by rw [ho];intro c hc';cases hc')]
   simp [execOp,ho,resolve,invoke,builtin,hs,hx,h1,Result.andThen];exact hK' _ _ (hK v' w' h2 h3)
end P13
end
section
attribute [local go_sem] Oper.semAt_some
namespace P13
theorem blk_notcells {W:World} {base:Nat} {v:Value} {l:List Pk} (h:KOwn W base v l):∀ (j:Nat) (o:Obj),v.ownBlock=some j->W.heap[j]?=some o->o.isCells=true:=by
 intro j o hj ho;rcases h.2 with ⟨rfl,_⟩ | ⟨g,cap,cur,rfl,_,hg,_⟩
 . cases hj
 . simp only [Value.ownBlock] at hj
   cases hj;rw [hg] at ho;cases ho;rfl
structure ApI (w:World) (b2:Nat) (pre:List Int) (W:World):Prop where
 gr:Gr w W
 row:∃ v,Blk W b2 #[v] 141/\KOwn W (b2+1) v (pre.map rd)
theorem kown_kept {W W':World} {base:Nat} {v:Value} {l:List Pk} {row:Option Nat} (h:KOwn W base v l) (hg:W.grownBy W' row) (hr:∀ r,row=some r->∃ o:Obj,W.heap[r]?=some o/\o.isCells=false):KOwn W' base v l:=by
 refine h.kept hg ?_
 cases hv:v.ownBlock with
 | none=>exact .inl rfl
 | some k =>
  refine .inr λ e=>?_
  obtain⟨o,h1,h2⟩:=hr k e.symm;rw [blk_notcells h k o hv h1] at h2;cases h2
theorem ApI.own {w:World} {b2 B:Nat} (hB:w.heap.size<=B):OwnFrom B (λ pre W=>ApI w b2 pre W):=λ pre W W' row h hg hr=>by
 obtain⟨v,h1,h2⟩:=h.row;exact⟨h.gr.gb hg (λ k e=>Nat.le_trans hB (hr k e).1),v,blk_kept h1 hg (λ r e=>(hr r e).2),kown_kept h2 hg (λ r e=>(hr r e).2)⟩
theorem ApI.gr' {w:World} {b2:Nat} {pre:List Int} {W W':World} (h:ApI w b2 pre W) (g:Gr W W'):ApI w b2 pre W':=by
 obtain⟨v,h1,h2⟩:=h.row;exact⟨h.gr.trans g,v,h1.gr g,h2.gr g⟩
theorem rd_all (l:List Int):∀ x∈l.map rd,Inb x.1/\Inb x.2:=λ x hx=>by
 obtain⟨v,_,rfl⟩:=List.mem_map.1 hx;exact rd_inb v
theorem AppendSeq_is {w:World} {A:Option Addr} {n c lb:Nat} {L:List Int} (hm:IMem w A n L) (hn:n<=100000) (hL:Blk w lb #[.slice A n c] 23) :
 Calls prog 163 #[.slice none 0 0,.func (.func 164) #[] #[.pointer (some ⟨lb,0,none⟩)]] w λ e w'=>∃ v,e=.returned v/\KOwn w' w.heap.size v (L.map rd)/\Gr w w':=by
 have hlen:=hm.1;have hstops:=λ W (g:Gr w W)=>picks_stops hm (by omega) (6-1) (by omega) lb W g (hL.gr g)
 refine (callsIn_wide (n:=6)).1 ?_;refine callsIn_of_wp_marks func163 rfl trivial ?_ rfl;simp only [ntmps163,List.size_toArray,List.length_cons,List.length_nil,Nat.reduceAdd,Nat.reduceSub,Array.replicate_succ,Array.replicate_zero,List.push_toArray,List.append_toArray,List.nil_append,List.cons_append]
 gi_wp2_with fail
 have G3:=(zr w).al (.cells #[.slice none 0 0] 141);have H2:=Blk.new w #[.slice none 0 0] 141;have hst:=hstops _ G3;have hs3:(w.alloc (.cells #[.slice none 0 0] 141)).heap.size=w.heap.size+1:=by simp
 generalize w.alloc (.cells #[.slice none 0 0] 141)=w3 at *;obtain⟨b2,hb2⟩:∃ b,w.heap.size=b:=⟨_,rfl⟩;rw [hb2] at H2;rw [hb2];have h56:w.heap.size<=b2/\b2<w3.heap.size:=by omega
 have HG3:=hid G3;have HB2:=hid hb2;clear hstops hb2 hs3 hm G3 hL;refine wpIn_rangeFunc_ownH rfl (by omega) (gf:=164) (lb:=#[.pointer (some ⟨lb,0,none⟩)]) rfl trivial (enters_of func164 (by kernel_rfl) rfl)
  hst (λ h k=>h.trans k) (λ W l o o' hl h hc hw=>belowK_b HG3.out.size W l o o' hl h hc hw) (zr _) (λ _=>rfl)
  (λ pre W=>ApI w b2 pre W) (λ c pre W=>False) (ApI.own HG3.out.size) (λ c=>λ _ _ _ _ h _ _=>h)
  ⟨HG3.out,_,H2,KOwn.nil _ _⟩
  (λ x a' W=>∃ Bx,b2<Bx/\Blk W Bx #[.int .i64 (rd x).1,.int .i64 (rd x).2] 108/\a'={ tmps:=#[.slice none 0 0,.func (.func 164) #[] #[.pointer (some ⟨lb,0,none⟩)],.pointer (some ⟨b2,0,none⟩),undef,.slice none 0 0,.pointer (some ⟨Bx,0,none⟩),.func (.func 164) #[] #[.pointer (some ⟨lb,0,none⟩)],.agg #[.int .i64 (rd x).1,.int .i64 (rd x).2],undef,undef,undef,undef,undef],defers:=[] })
  (λ x a' _ X Y row hs hg hr=>by
    obtain⟨Bx,h1,h2,h3⟩:=hs;exact⟨Bx,h1,blk_kept h2 hg (λ r e=>(hr r e).2),h3⟩)
  ?assign ?body ?done ?stop
 case assign =>
  rintro l pre x W K hI hK;have hlt4:b2<W.heap.size:=by
   obtain⟨v,h1,_⟩:=hI.row;exact h1.lt
  have ha:=(zr W).al (.cells #[.int .i64 (rd x).1,.int .i64 (rd x).2] 108);have HK:=hid (hK _ _ ((keeps_gr ha).from _) (Below.mono ha hI.gr.size) (hI.gr' ha) ⟨W.heap.size,hlt4,Blk.new W _ _,rfl⟩);clear hK
  gi_wp2_with fail
  exact HK.out
 case body =>
  rintro l pre x a' W hl ⟨r,hr⟩ hI ⟨Bx,hBx,bX,rfl⟩ hlt;obtain⟨v0,h2,hown⟩:=hI.row;have hib:=rd_inb x;have hmap:(pre++[x]).map rd=pre.map rd++[rd x]:=by simp
  have hpl:(pre.map rd).length=pre.length:=by simp
  have hib2:=rd_all pre;have HI:=hid hI;have HM:=hid hmap;generalize rd x=p at *;generalize pre.map rd=R at *;have c0:=(bX.at_ (k:=0) rfl).1;have c1:=(bX.at_ (k:=1) rfl).1;have cl:=bX.lt;have d0:=(h2.at_ (k:=0) rfl).1;have dl:=h2.lt;have g1:=(zr W).al (.cells #[.int .i64 p.1,.int .i64 p.2] 108);have HO:=hid (hown.gr g1);have HR:=hid (pick_row (Blk.new W #[.int .i64 p.1,.int .i64 p.2] 108) hib);have H2g:=hid (h2.gr g1);have hbase:b2+1<=(W.alloc (.cells #[.int .i64 p.1,.int .i64 p.2] 108)).heap.size:=by simp;omega
  have HL:=hid (show R.length+1<=1000000 by omega);have FIN:Hid (∀ v' w',KOwn w' (b2+1) v' (R++[p])->(W.alloc (.cells #[.int .i64 p.1,.int .i64 p.2] 108)).grownBy w' v0.ownBlock ->
   (w'.cell? ⟨b2,0,none⟩=some v0/\w'.frozen? ⟨b2,0,none⟩=false)/\b2<w'.heap.size/\KeepsFrom w3.heap.size W (w'.setCell ⟨b2,0,none⟩ v')/\Below w.heap.size W (w'.setCell ⟨b2,0,none⟩ v')/\ApI w b2 (pre++[x]) (w'.setCell ⟨b2,0,none⟩ v')):=hid λ v' w' hv' hgrow=>by
   have hlate:∀ k,v0.ownBlock=some k->b2+1<=k:=λ k e=>HO.out.late e
   have hnc:=blk_notcells HO.out;have f2:=H2g.out.gb hgrow (λ e=>by have:=hlate _ e;omega);have k1:KeepsOthers _ w':=KeepsOthers.of_grownBy hgrow hnc;refine⟨⟨(f2.at_ (k:=0) rfl).1,(f2.at_ (k:=0) rfl).2⟩,f2.lt,(((keeps_gr g1).trans k1).trans (KeepsOthers.setCell _ _ _)).from _,?_,?_⟩
   . exact ((Below.mono g1 HI.out.gr.size).grown hgrow (Nat.le_trans HI.out.gr.size g1.size) (λ k e=>by have:=hlate k e;omega)).setCell (p:=⟨b2,0,none⟩) (by show w.heap.size<=b2;omega) _
   . refine⟨((HI.out.gr.trans g1).gb hgrow (λ k e=>by have:=hlate k e;omega)).st (p:=⟨b2,0,none⟩) (by show w.heap.size<=b2;omega) _,v',f2.set 0 _,?_⟩
     rw [HM.out];refine hv'.kept (grownBy_setCell' w' b2 v') (.inr λ e=>?_);have:=KOwn.late hv' e;omega
  clear hI hmap h2 hown hib hpl hib2 hr hl hlt bX g1
  gi_wp2_with (gi_at_builtin;refine Mark.stop ?_)
  refine Mark.go ?_;refine wpListIn_append_picks (news:=[p]) rfl (.tmp 8) (.tmp 10) rfl rfl rfl HO.out HR.out HL.out hbase ?_;intro v' w' hv' hgrow;obtain⟨⟨f1,f2⟩,f3,hF⟩:=FIN.out _ _ hv' hgrow;obtain⟨g,cap,rfl,_,_⟩:=World.ownsRow.form hv' (by simp);generalize (R++[p]).length=N at *;have HFF:=hid hF;clear hF hv' hgrow
  gi_wp2_with fail
  exact HFF.out
 case done =>
  rintro D ys W hD rfl hI hK;obtain⟨v,h2,hown⟩:=hI.row;have c2:=(h2.at_ (k:=0) rfl).1;have l2:=h2.lt;have HK:=hid hK;have HI:=hid hI;have HO:=hid hown;clear hI hK hown
  gi_wp2_with fail
  refine⟨by simp,.inl ⟨_,_,rfl,run_takeDeferred HK.out,?_⟩⟩;have EG:=HI.out.gr.gb (grownBy_putObj' W D (.deferred none)) (λ k e=>by cases e;exact Nat.le_trans HG3.out.size hD);have EO:=kown_kept HO.out (grownBy_putObj' W D (.deferred none)) (λ r e=>by cases e;exact⟨_,HK.out,rfl⟩);generalize W.putObj D (.deferred none)=WF at *;refine⟨v,by simp [results,results163,go_sem],v,rfl,KOwn.low EO (by rw [HB2.out];omega),EG⟩
 case stop =>
  rintro D cc pre W hD hpre h hK;exact h.elim
end P13
end
namespace P13
theorem Collect_is {w:World} {A:Option Addr} {n c lb:Nat} {L:List Int} (hm:IMem w A n L) (hn:n<=100000) (hL:Blk w lb #[.slice A n c] 23) :
 Calls prog 116 #[.func (.func 164) #[] #[.pointer (some ⟨lb,0,none⟩)]] w λ e w'=>∃ v,e=.returned v/\KOwn w' w.heap.size v (L.map rd)/\Gr w w':=by
 have CA:=hid (AppendSeq_is hm hn hL);clear hm hL;go_enter func116,ntmps116;go_wp2_with fail;refine CA.out.mono ?_;rintro e w1 ⟨v,rfl,hv,hg⟩;go_wp2_with fail;go_ret;exact⟨v,rfl,hv,hg⟩
theorem All_is {w:World} {A:Option Addr} {n c:Nat} {L:List Int} (hm:IMem w A n L) (hn:n<=100000) :
 Calls prog 78 #[.slice A n c] w λ e w'=>(∃ B d,e=.returned (.slice B n d)/\n<=d/\d<=9223372036854775807/\Mem w' B n (L.map rd)/\KOwn w' w.heap.size (.slice B n d) (L.map rd))/\Gr w w':=by
 have CC:=hid (Collect_is (c:=c) (hm.gr ((zr w).al (.cells #[.slice A n c] 23))) hn (Blk.new w #[.slice A n c] 23));have hlen:=hm.1;clear hm;go_enter func78,ntmps78;go_wp2_with fail;refine (picks_is A n c w).mono ?_;rintro e w1 ⟨rfl,rfl⟩;go_wp2_with fail;refine CC.out.mono ?_;rintro e w2 ⟨v,rfl,hv,hg⟩;obtain⟨B,d,rfl,h1,h2,h3,h4⟩:=own_mem hv (rd_all L);have hl:(L.map rd).length=n:=by simp [hlen]
 rw [hl] at h1 h2 hv ⊢;clear hl;go_wp2_with fail;go_ret;exact⟨⟨B,d,rfl,h2,h3,h1,KOwn.low hv (by simp)⟩,((zr w).al _).trans hg⟩
end P13
section
open Go.Conc Go.ChangeShapes Go.WideShapes Go.ChangeAt Go.RowKit
namespace P17
open P13 (rd pk)
theorem mk_ch (n:Nat) (hn:n<=100000) (w:World):(Instr.makeChan 143 (.int .i64 (n:Int))).run prog w=.ok (.chan (some w.heap.size)) (w.alloc (.chan n #[] false 0 0 false)):=by
 obtain⟨i,hi,hz,hs,hb⟩:=P13.info_parts P13.infoPick;have hb:i.bytes=16:=hb;exact run_makeChan underlying143 hi .i64 n (by omega) (by rw [hb];omega)
def pks (l:List Int):Array Value:=(l.map λ v=>pk (rd v)).toArray
theorem pks_snoc (l:List Int) (v:Int):(pks l).push (pk (rd v))=pks (l++[v]):=by simp [pks]
theorem pks_size (l:List Int):(pks l).size=l.length:=by simp [pks]
theorem picks_is {w:World} {A:Option Addr} {n c:Nat} {L:List Int} (hm:IMem w A n L) (hn:n<=100000) :
 Calls prog 48 #[.slice A n c] w λ e w'=>∃ ch,e=.returned (.chan (some ch))/\Gr w w'/\w.heap.size<=ch/\w'.heap[ch]?=some (.chan n (pks L) true n 0 false):=by
 have cA:=hid (P13.All_is (c:=c) hm hn);have hlen:=hm.1;clear hm;go_enter func48,ntmps48;go_wp2_with fail;refine cA.out.mono ?_;rintro e w1 ⟨⟨B,d,rfl,hnd,hd,hM,-⟩,g1⟩;have HM:=hid hM;have G1:=hid g1;clear hM g1 cA;have hmk:=mk_ch n hn;go_upto_region 4 with fail;have HC:=hid (heap_alloc_new w1 (.chan n #[] false 0 0 false));have hcz:w1.heap.size<(w1.alloc (.chan n #[] false 0 0 false)).heap.size:=by rw [zsA];omega
 have HG:=hid ((zr w1).al (.chan n #[] false 0 0 false));generalize w1.alloc (.chan n #[] false 0 0 false)=W2 at HC HG hcz ⊢
 go_loopw [14] (λ i wr=>∃ j:Nat,j<=n/\i=.int .i64 (j:Int)/\Hid (Gr w1 wr)/\Hid (wr.heap[w1.heap.size]?=some (.chan n (pks (L.take j)) false j 0 false))) (λ i _=>n-(intOf i).toNat)
 case atStart=>exact⟨0,Nat.zero_le _,rfl,HG,HC⟩
 case round =>
  obtain⟨j,hj,rfl,GW,HB⟩:=hrel;by_cases hjn:j<n
  . have j0:(0:Int)<=(j:Int):=by omega
    have j1:(j:Int)<(n:Int):=by omega
    obtain⟨b,off,x,rfl,hb,hx,-,-,e0,e1⟩:=(HM.out.gr GW.out).at_ hjn;obtain⟨v,hv,rfl⟩:∃ v,L[j]?=some v/\rd v=x:=by rw [List.getElem?_map,Option.map_eq_some_iff] at hx;exact hx
    have BP:=hid (Blk.new wr #[.int .i64 (rd v).1,.int .i64 (rd v).2] 108);have GP:=hid (GW.out.al (.cells #[.int .i64 (rd v).1,.int .i64 (rd v).2] 108));have hsz:=Array.getElem?_eq_some_iff.1 HB.out;have HB2:=hid (show (wr.alloc (.cells #[.int .i64 (rd v).1,.int .i64 (rd v).2] 108)).heap[w1.heap.size]?=_ from (heap_alloc_old wr _ hsz.1).trans HB.out);go_upto_region 6 with fail;rename_i hK;generalize hV:wr.alloc (.cells #[.int .i64 (rd v).1,.int .i64 (rd v).2] 108)=V at BP GP HB2 ⊢;clear hV e0 e1;obtain⟨q0,-⟩:=BP.out.at_ (k:=0) (v:=.int .i64 (rd v).1) rfl;obtain⟨q1,-⟩:=BP.out.at_ (k:=1) (v:=.int .i64 (rd v).2) rfl;refine Runs.region ?_;show Runs _ _ _ [0,1,2] _ _;refine Runs.val 0 (v:=.chan (some w1.heap.size)) (w':=V) ?_;refine Runs.val 1 (v:=pk (rd v)) (w':=V) ?_;refine Runs.snd 2 (c:=w1.heap.size) (v:=pk (rd v)) (z:=.tuple #[]) (w₁:=V) HB2.out (by rw [pks_size,List.length_take];omega) ?_;have HB3:=hid (heap_setChan V w1.heap.size n ((pks (L.take j)).push (pk (rd v))) false (j+1) 0 false (zal HB2.out));have GP3:=hid (below_setChan GP.out (Nat.le_refl _) n ((pks (L.take j)).push (pk (rd v))) false (j+1) 0 false);rw [pks_snoc,show L.take j++[v]=L.take (j+1) from by rw [List.take_add_one,hv];rfl] at HB3 GP3 ⊢;refine Runs.of_wp (hK _ _ ?_);clear hK q0 q1 HB2 GP BP;generalize V.setChan w1.heap.size n (pks (L.take (j+1))) false (j+1) 0 false=V3 at HB3 GP3 ⊢;go_wp2_with fail;go_roundw
    case rel=>exact⟨j+1,by omega,by go_num,GP3,HB3⟩
    case measure=>simp [intOf];omega
  . obtain rfl:j=n:=by omega
    have hcl:=λ ats ty=>run_close_open (P:=prog) (w:=wr) ats ty HB.out
    go_upto_region 9 with fail;have hlt:=(zal HB.out);have HB3:=hid (heap_setChan wr w1.heap.size j (pks (L.take j)) true j 0 false hlt);have GP3:=hid (below_setChan GW.out (Nat.le_refl _) j (pks (L.take j)) true j 0 false);rw [show L.take j=L from List.take_of_length_le (by omega)] at HB3 GP3 ⊢;generalize hV:({ heap:=wr.heap.setIfInBounds w1.heap.size (.chan j (pks L) true j 0 false),tape:=wr.tape,drawn:=wr.drawn,os:=wr.os,output:=wr.output }:World)=V;rw [show wr.setChan w1.heap.size j (pks L) true j 0 false=V from hV] at HB3 GP3;clear hV hcl HB GW;go_wp2_with fail;go_ret;exact⟨_,rfl,G1.out.trans GP3.out,G1.out.size,HB3.out⟩
end P17
end
section
namespace P17
open P16
open P13 (rd pk okP rd_ok)
def OneR (ω:Wv) (p:P13.Pk) (ψ:Wv) (ev:List T3):Prop :=
 (p.1=0/\∃ x,StepM ω p.2 ψ ev x)\/(p.1=1/\ev=[]/\∃ τ y,TickM ω p.2 τ y/\((y=0/\ψ=τ)\/(y≠0/\ψ=ω)))
theorem okP_b {p:P13.Pk} (h:okP p):B64 p.2:=by
 rcases h with h | h<;>exact⟨by omega,by omega⟩
theorem goOn_is (hM:Mach) {w:World} {r:WR} {ω:Wv} {p:P13.Pk} (hg:P15.Glob w) (h:WIs w r ω) (hp:okP p) :
 Calls prog 49 #[r.v,pk p] w λ e w'=>(∃ (s:WR) (ψ:Wv) (A:Option Addr) (n c:Nat) (ev:List T3),e=.returned (.tuple #[s.v,.slice A n c])/\OneR ω p ψ ev/\((s=r/\ψ=ω)\/WNew w.heap.size w' s ψ)/\ENew w.heap.size w' A n ev)/\Gr w w':=by
 obtain⟨k,m⟩:=p;have hW:=hid h;have hb:=okP_b hp;rcases hp with ⟨hk,-⟩ | ⟨hk,-⟩
 . dsimp only at hk hb
   subst hk;clear h;have BW:=((Blk.new w r.a 29).al (.cells #[.int .i64 0,.int .i64 m] 108)).al (.cells #[.int .i64 0,.slice none 0 0,.slice none 0 0,.slice none 0 0,.slice none 0 0,.int .i64 0] 29);have BP:=(Blk.new (w.alloc (.cells r.a 29)) #[.int .i64 0,.int .i64 m] 108).al (.cells #[.int .i64 0,.slice none 0 0,.slice none 0 0,.slice none 0 0,.slice none 0 0,.int .i64 0] 29);have BZ:=Blk.new ((w.alloc (.cells r.a 29)).alloc (.cells #[.int .i64 0,.int .i64 m] 108)) #[.int .i64 0,.slice none 0 0,.slice none 0 0,.slice none 0 0,.slice none 0 0,.int .i64 0] 29;simp only [zsA] at BP BZ;have G0:=hid ((((zr w).al (.cells r.a 29)).al (.cells #[.int .i64 0,.int .i64 m] 108)).al (.cells #[.int .i64 0,.slice none 0 0,.slice none 0 0,.slice none 0 0,.slice none 0 0,.int .i64 0] 29));go_enter func49,ntmps49;go_upto_region 1 with fail;generalize ((w.alloc (.cells r.a 29)).alloc (.cells #[.int .i64 0,.int .i64 m] 108)).alloc (.cells #[.int .i64 0,.slice none 0 0,.slice none 0 0,.slice none 0 0,.slice none 0 0,.int .i64 0] 29)=V at BW BP BZ G0 ⊢;generalize hgw:w.heap.size=gw at BW BP BZ ⊢;have HB:=hid (show w.heap.size<=gw by omega);have HG:=hid (show w.heap.size<=gw+1+1 by omega);clear hgw;have ltw:=BW.lt;have ltp:=BP.lt;have ltz:=BZ.lt;have HL:=hid (show gw+1+1<V.heap.size from ltz);obtain⟨⟨b0,bz0⟩,⟨b1,bz1⟩,⟨b2,bz2⟩,⟨b3,bz3⟩,⟨b4,bz4⟩,⟨b5,bz5⟩⟩:=at6z BW;obtain⟨p0,pz0⟩:=BP.at_ (k:=0) (v:=.int .i64 0) rfl;obtain⟨p1,pz1⟩:=BP.at_ (k:=1) (v:=.int .i64 m) rfl;have WI:=hid (hW.out.gr G0.out);have cS:=hid (hM.step V r ω m (hg.gr G0.out) WI.out hb);go_wp2_with fail;refine cS.out.mono ?_;rintro e w2 ⟨⟨s,ψ,A,n,c,ev,x,rfl,hS,hWn,hE,hnc,hcm⟩,g2⟩;replace BZ:=(BZ.gr g2).al (.cells s.a 29);have BS:=Blk.new w2 s.a 29;have GW:=hid ((G0.out.trans g2).al (.cells s.a 29));have NW:=hid (hWn.gr ((zr w2).al (.cells s.a 29)));have NE:=hid (hE.gr ((zr w2).al (.cells s.a 29)));have k2:=g2.size;clear b0 bz0 b1 bz1 b2 bz2 b3 bz3 b4 bz4 b5 bz5 p0 pz0 p1 pz1 ltw ltp ltz;clear cS WI hE hWn g2 BW BP;go_upto_region 3 with fail;generalize w2.alloc (.cells s.a 29)=V2 at BZ BS GW NW NE ⊢;generalize w2.heap.size=gs at BS k2 ⊢;have ltz:=BZ.lt;have lts:=BS.lt;have hne:gs≠gw+1+1:=by have:=HL.out;omega
   obtain⟨⟨b0,bz0⟩,⟨b1,bz1⟩,⟨b2,bz2⟩,⟨b3,bz3⟩,⟨b4,bz4⟩,⟨b5,bz5⟩⟩:=at6z BS;obtain⟨⟨z0,zz0⟩,⟨z1,zz1⟩,⟨z2,zz2⟩,⟨z3,zz3⟩,⟨z4,zz4⟩,⟨z5,zz5⟩⟩:=at6z BZ;have WF:=hid (put6_blk BZ rfl (.int .i64 s.now) (.slice s.p.A s.p.n s.p.c) (.slice s.c.A s.c.n s.c.c) (.slice s.m.A s.m.n s.m.c) (.slice s.t.A s.t.n s.t.c) (.int .i64 s.stop));have GF:=hid (put6_gr (x0:=.int .i64 s.now) (x1:=.slice s.p.A s.p.n s.p.c) (x2:=.slice s.c.A s.c.n s.c.c) (x3:=.slice s.m.A s.m.n s.m.c) (x4:=.slice s.t.A s.t.n s.t.c) (x5:=.int .i64 s.stop) (b:=gw+1+1) GW.out HG.out);have NF:=hid ((NW.out.to (FromB.put6 (b:=gw+1+1) HL.out (.int .i64 s.now) (.slice s.p.A s.p.n s.p.c) (.slice s.c.A s.c.n s.c.c) (.slice s.m.A s.m.n s.m.c) (.slice s.t.A s.t.n s.t.c) (.int .i64 s.stop))).low (show w.heap.size<=V.heap.size by have:=HL.out;have:=HB.out;omega));have EF:=hid ((NE.out.to (FromB.put6 (b:=gw+1+1) HL.out (.int .i64 s.now) (.slice s.p.A s.p.n s.p.c) (.slice s.c.A s.c.n s.c.c) (.slice s.m.A s.m.n s.m.c) (.slice s.t.A s.t.n s.t.c) (.int .i64 s.stop))).low (show w.heap.size<=V.heap.size by have:=HL.out;have:=HB.out;omega));go_wp2_with fail;generalize (((((V2.setCell ⟨gw+1+1,0,none⟩ (.int .i64 s.now)).setCell ⟨gw+1+1,1,none⟩ (.slice s.p.A s.p.n s.p.c)).setCell ⟨gw+1+1,2,none⟩ (.slice s.c.A s.c.n s.c.c)).setCell ⟨gw+1+1,3,none⟩ (.slice s.m.A s.m.n s.m.c)).setCell ⟨gw+1+1,4,none⟩ (.slice s.t.A s.t.n s.t.c)).setCell ⟨gw+1+1,5,none⟩ (.int .i64 s.stop)=Wf at WF GF NF EF ⊢;clear b0 bz0 z0 zz0 b1 bz1 z1 zz1 b2 bz2 z2 zz2 b3 bz3 z3 zz3 b4 bz4 z4 zz4 b5 bz5 z5 zz5 BZ BS ltz lts;obtain⟨f0,f1,f2,f3,f4,f5⟩:=at6 WF.out;exact bodyPost_ret (v:=.tuple #[s.v,.slice A n c]) (by simp [results,results49,go_sem,f0,f1,f2,f3,f4,f5,WR.v]) rfl ⟨⟨s,ψ,A,n,c,ev,rfl,.inl ⟨rfl,x,hS⟩,.inr NF.out,EF.out⟩,GF.out⟩
 . dsimp only at hk hb
   subst hk;clear h;have BW:=((Blk.new w r.a 29).al (.cells #[.int .i64 1,.int .i64 m] 108)).al (.cells #[.int .i64 0,.slice none 0 0,.slice none 0 0,.slice none 0 0,.slice none 0 0,.int .i64 0] 29);have BP:=(Blk.new (w.alloc (.cells r.a 29)) #[.int .i64 1,.int .i64 m] 108).al (.cells #[.int .i64 0,.slice none 0 0,.slice none 0 0,.slice none 0 0,.slice none 0 0,.int .i64 0] 29);have BZ:=Blk.new ((w.alloc (.cells r.a 29)).alloc (.cells #[.int .i64 1,.int .i64 m] 108)) #[.int .i64 0,.slice none 0 0,.slice none 0 0,.slice none 0 0,.slice none 0 0,.int .i64 0] 29;simp only [zsA] at BP BZ;have G0:=hid ((((zr w).al (.cells r.a 29)).al (.cells #[.int .i64 1,.int .i64 m] 108)).al (.cells #[.int .i64 0,.slice none 0 0,.slice none 0 0,.slice none 0 0,.slice none 0 0,.int .i64 0] 29));go_enter func49,ntmps49;go_upto_region 1 with fail;generalize ((w.alloc (.cells r.a 29)).alloc (.cells #[.int .i64 1,.int .i64 m] 108)).alloc (.cells #[.int .i64 0,.slice none 0 0,.slice none 0 0,.slice none 0 0,.slice none 0 0,.int .i64 0] 29)=V at BW BP BZ G0 ⊢;generalize hgw:w.heap.size=gw at BW BP BZ ⊢;have HB:=hid (show w.heap.size<=gw by omega);have HG:=hid (show w.heap.size<=gw+1+1 by omega);clear hgw;have ltw:=BW.lt;have ltp:=BP.lt;have ltz:=BZ.lt;have HL:=hid (show gw+1+1<V.heap.size from ltz);obtain⟨⟨b0,bz0⟩,⟨b1,bz1⟩,⟨b2,bz2⟩,⟨b3,bz3⟩,⟨b4,bz4⟩,⟨b5,bz5⟩⟩:=at6z BW;obtain⟨p0,pz0⟩:=BP.at_ (k:=0) (v:=.int .i64 1) rfl;obtain⟨p1,pz1⟩:=BP.at_ (k:=1) (v:=.int .i64 m) rfl;have WI:=hid (hW.out.gr G0.out);have cS:=hid (hM.tick V r ω m (hg.gr G0.out) WI.out hb);go_wp2_with fail;refine cS.out.mono ?_;rintro e w2 ⟨⟨s,ψ,x,rfl,hS,hWn⟩,g2⟩;replace BZ:=(BZ.gr g2).al (.cells s.a 29);replace BW:=(BW.gr g2).al (.cells s.a 29);have BS:=Blk.new w2 s.a 29;have GW:=hid ((G0.out.trans g2).al (.cells s.a 29));have NW:=hid (hWn.gr ((zr w2).al (.cells s.a 29)));have k2:=g2.size;clear b0 bz0 b1 bz1 b2 bz2 b3 bz3 b4 bz4 b5 bz5 p0 pz0 p1 pz1 ltw ltp ltz;clear cS WI hWn g2 BP;go_upto_region 5 with fail;generalize w2.alloc (.cells s.a 29)=V2 at BZ BW BS GW NW ⊢;generalize w2.heap.size=gs at BS k2 ⊢;have ltz:=BZ.lt;have lts:=BS.lt;have ltw:=BW.lt;have hne:gs≠gw+1+1:=by have:=HL.out;omega
   have hnw:gw≠gw+1+1:=by omega
   obtain⟨⟨z0,zz0⟩,⟨z1,zz1⟩,⟨z2,zz2⟩,⟨z3,zz3⟩,⟨z4,zz4⟩,⟨z5,zz5⟩⟩:=at6z BZ;by_cases hx:x=0
   . subst hx
     obtain⟨⟨b0,bz0⟩,⟨b1,bz1⟩,⟨b2,bz2⟩,⟨b3,bz3⟩,⟨b4,bz4⟩,⟨b5,bz5⟩⟩:=at6z BS;have WF:=hid (put6_blk BZ rfl (.int .i64 s.now) (.slice s.p.A s.p.n s.p.c) (.slice s.c.A s.c.n s.c.c) (.slice s.m.A s.m.n s.m.c) (.slice s.t.A s.t.n s.t.c) (.int .i64 s.stop));have GF:=hid (put6_gr (x0:=.int .i64 s.now) (x1:=.slice s.p.A s.p.n s.p.c) (x2:=.slice s.c.A s.c.n s.c.c) (x3:=.slice s.m.A s.m.n s.m.c) (x4:=.slice s.t.A s.t.n s.t.c) (x5:=.int .i64 s.stop) (b:=gw+1+1) GW.out HG.out);have NF:=hid ((NW.out.to (FromB.put6 (b:=gw+1+1) HL.out (.int .i64 s.now) (.slice s.p.A s.p.n s.p.c) (.slice s.c.A s.c.n s.c.c) (.slice s.m.A s.m.n s.m.c) (.slice s.t.A s.t.n s.t.c) (.int .i64 s.stop))).low (show w.heap.size<=V.heap.size by have:=HL.out;have:=HB.out;omega));go_wp2_with fail;generalize (((((V2.setCell ⟨gw+1+1,0,none⟩ (.int .i64 s.now)).setCell ⟨gw+1+1,1,none⟩ (.slice s.p.A s.p.n s.p.c)).setCell ⟨gw+1+1,2,none⟩ (.slice s.c.A s.c.n s.c.c)).setCell ⟨gw+1+1,3,none⟩ (.slice s.m.A s.m.n s.m.c)).setCell ⟨gw+1+1,4,none⟩ (.slice s.t.A s.t.n s.t.c)).setCell ⟨gw+1+1,5,none⟩ (.int .i64 s.stop)=Wf at WF GF NF ⊢;clear b0 bz0 z0 zz0 b1 bz1 z1 zz1 b2 bz2 z2 zz2 b3 bz3 z3 zz3 b4 bz4 z4 zz4 b5 bz5 z5 zz5 BZ BS BW ltz lts ltw;obtain⟨f0,f1,f2,f3,f4,f5⟩:=at6 WF.out;exact bodyPost_ret (v:=.tuple #[s.v,.slice none 0 0]) (by simp [results,results49,go_sem,f0,f1,f2,f3,f4,f5,WR.v]) rfl ⟨⟨s,ψ,none,0,0,[],rfl,.inr ⟨rfl,rfl,ψ,0,hS,.inl ⟨rfl,rfl⟩⟩,.inr NF.out,ENew.nil⟩,GF.out⟩
   . have hxb:(x != 0)=true:=by simpa using hx
     obtain⟨⟨b0,bz0⟩,⟨b1,bz1⟩,⟨b2,bz2⟩,⟨b3,bz3⟩,⟨b4,bz4⟩,⟨b5,bz5⟩⟩:=at6z BW;have WF:=hid (put6_blk BZ rfl (.int .i64 r.now) (.slice r.p.A r.p.n r.p.c) (.slice r.c.A r.c.n r.c.c) (.slice r.m.A r.m.n r.m.c) (.slice r.t.A r.t.n r.t.c) (.int .i64 r.stop));have GF:=hid (put6_gr (x0:=.int .i64 r.now) (x1:=.slice r.p.A r.p.n r.p.c) (x2:=.slice r.c.A r.c.n r.c.c) (x3:=.slice r.m.A r.m.n r.m.c) (x4:=.slice r.t.A r.t.n r.t.c) (x5:=.int .i64 r.stop) (b:=gw+1+1) GW.out HG.out);go_wp2_with fail;generalize (((((V2.setCell ⟨gw+1+1,0,none⟩ (.int .i64 r.now)).setCell ⟨gw+1+1,1,none⟩ (.slice r.p.A r.p.n r.p.c)).setCell ⟨gw+1+1,2,none⟩ (.slice r.c.A r.c.n r.c.c)).setCell ⟨gw+1+1,3,none⟩ (.slice r.m.A r.m.n r.m.c)).setCell ⟨gw+1+1,4,none⟩ (.slice r.t.A r.t.n r.t.c)).setCell ⟨gw+1+1,5,none⟩ (.int .i64 r.stop)=Wf at WF GF ⊢;clear b0 bz0 z0 zz0 b1 bz1 z1 zz1 b2 bz2 z2 zz2 b3 bz3 z3 zz3 b4 bz4 z4 zz4 b5 bz5 z5 zz5 BZ BS BW ltz lts ltw;obtain⟨f0,f1,f2,f3,f4,f5⟩:=at6 WF.out;exact bodyPost_ret (v:=.tuple #[r.v,.slice none 0 0]) (by simp [results,results49,go_sem,f0,f1,f2,f3,f4,f5,WR.v]) rfl ⟨⟨r,ω,none,0,0,[],rfl,.inr ⟨rfl,rfl,ψ,x,hS,.inr ⟨hx,rfl⟩⟩,.inl ⟨rfl,rfl⟩,ENew.nil⟩,GF.out⟩
end P17
end
end Go.Proofs.YtainfijdhcehlaaGreatDoor
