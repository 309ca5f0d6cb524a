/-
  RunEnds: for all programs and every int the law answers true: the tidy ones of the first four, of few locks, played in turns, are all done in the end, each lock got and given back once; as long as give.states holds what the program's text lays there (the card's listed variable, tied).
-/
import Derived.Test.YtainfijdhcehlaaGreatDoorSE1
import Derived.Conc.LoneCalls
import Derived.Shelf.Bits.Mul64
import Derived.Ground.NamesProg
import Derived.Test.YtainfijdhcehlaaGreatDoorProg
import Derived.Test.YtainfijdhcehlaaGreatDoorCards
import Derived.Test.YtainfijdhcehlaaGreatDoorTie
set_option linter.unusedVariables false
set_option linter.unusedSimpArgs false
set_option maxRecDepth 100000
set_option maxHeartbeats 8000000
namespace Go.Proofs.YtainfijdhcehlaaGreatDoor
open Lib (hid)
open Go.Proofs.Tryz
open Go.ChangeAt Go.ChangeShapes Go.Deep Go.Joins Go.RowKit Go.Shelf Go.WideShapes
namespace P12
theorem all_no {α:Type} {p:α->Bool} {l:List α} {k:Nat} {x:α} (hx:l[k]?=some x) (h:p x=false):l.all p=false:=by
 rw [List.all_eq_false];exact⟨x,zmo hx,by rw [h];simp⟩
theorem all_more {α:Type} {p:α->Bool} {l:List α} {k:Nat} {x:α} (hx:l[k]?=some x) (h:p x=true) (g:(l.take k).all p=true):(l.take (k+1)).all p=true:=by
 rw [take_more hx,List.all_append,g];simp [h]
theorem rRight_is {A:Option Addr} {n c:Nat} {R:List PV} {B:Bool} (hB:rightB (pl R)=B) (hn:n<=9223372036854775807) (w:World) (hm:PMem w A n R) :
 Calls prog 30 #[.slice A n c] w λ e w'=>e=.returned (.bool B)/\Gr w w':=by
 have hall:(pl R).all okP=R.all okV:=by unfold pl;rw [List.all_map];rfl
 have hlen:(pl R).length=n:=by unfold pl;rw [List.length_map,hm.len]
 rw [rightB_okP,hall,hlen] at hB;have HB:=hid hB;have HL:=hid hm.len;have H0:=hid (show (R.take 0).all okV=true from rfl);clear hB hall hlen;go_enter func30,ntmps30;go_wp2_with fail
 go_loopw [9] (λ i wr=>∃ k:Nat,k<=n/\i=.int .i64 k/\Hid ((R.take k).all okV=true)/\Gr w wr) (λ i _=>n-(intOf i).toNat)
 case atStart=>exact⟨0,Nat.zero_le _,rfl,H0,zr _⟩
 case round =>
  obtain⟨k,hk,rfl,HK,hg⟩:=hrel;by_cases hlt:k<n
  . obtain⟨b,off,x,rfl,hbl,hx,hok,c0⟩:=(hm.gr hg).at_ hlt
    have HX:=hid hx;have hxn:=hok.lt;have hmx:=hok.1;have H1:=hid (show (x.l.take 0).all okA=true from rfl);have k0:(0:Int)<=(k:Int):=by omega
    have k1:(k:Int)<(n:Int):=by omega
    have hokp:∀ v,okP x.l=v->Hid (okV x=v):=λ v h=>hid h
    obtain⟨xA,xn,xc,xl⟩:=x;dsimp only at hxn hmx c0 H1 hokp;have hxl:=hmx.1;clear hx hok;go_wp2_with fail
    rename World=>wo
    go_loopw [15] (λ j wr=>∃ i:Nat,i<=xn/\j=.int .i64 i/\Hid ((xl.take i).all okA=true)/\Gr wo wr) (λ j _=>xn-(intOf j).toNat)
    case atStart=>exact⟨0,Nat.zero_le _,rfl,H1,zr _⟩
    case round =>
     obtain⟨i,hi,rfl,HI,hgi⟩:=hrel;by_cases hit:i<xn
     . obtain⟨b2,off2,y,rfl,hbl2,hy,hy1,hy2,d0,d1⟩:=(hmx.gr hgi).at_ hit
       have HY:=hid hy;obtain⟨E,hE⟩:∃ E,okA y=E:=⟨_,rfl⟩;have ca:=λ W=>hid (rAct_is hE W)
       have HE:=hid hE;have i0:(0:Int)<=(i:Int):=by omega
       have i1:(i:Int)<(xn:Int):=by omega
       clear hy hE hmx hm;cases E
       . have HF:=hokp false (by
          unfold okP;rw [all_no HY.out HE.out];simp)
         have HR:=hid (show false=B from by
          rw [<- HB.out,all_no HX.out HF.out];simp)
         clear hokp;go_wp2_with fail;refine (ca _).out.mono ?_;rintro e w2 ⟨rfl,hb2⟩;go_wp2_with fail;go_ret;exact⟨ret_bool HR.out,(hg.trans (hgi.al _)).trans hb2⟩
       . clear hokp
         go_wp2_with fail;refine (ca _).out.mono ?_;rintro e w2 ⟨rfl,hb2⟩;go_wp2_with fail;go_roundw
         case rel=>exact⟨i+1,by omega,by go_num,hid (all_more HY.out HE.out HI.out),(hgi.al _).trans hb2⟩
         case measure=>simp [intOf];omega
     . obtain rfl:i=xn:=by omega
       have hal:=HI.out;rw [List.take_of_length_le (by omega)] at hal;by_cases h64:i<=64
       . have HF:=hokp true (by unfold okP;rw [hal,hxl];simpa using h64)
         have h65:¬ (64:Int)<(i:Int):=by omega
         clear hokp hmx hm;go_wp2_with fail;go_roundw
         case rel=>exact⟨k+1,by omega,by go_num,hid (all_more HX.out HF.out HK.out),hg.trans hgi⟩
         case measure=>simp [intOf];omega
       . have HF:=hokp false (by unfold okP;rw [hxl];simp;omega)
         have HR:=hid (show false=B from by
          rw [<- HB.out,all_no HX.out HF.out];simp)
         have h65:(64:Int)<(i:Int):=by omega
         clear hokp hmx hm;go_wp2_with fail;go_ret;exact⟨ret_bool HR.out,hg.trans hgi⟩
  . obtain rfl:k=n:=by omega
    have hal:=HK.out;rw [List.take_of_length_le (by rw [HL.out];exact Nat.le_refl _)] at hal;have HR:=hid (show decide (k<=8)=B from by rw [<- HB.out,hal];simp);clear hm hal;by_cases h8:k<=8
    . have h9:(k:Int)<=8:=by omega
      rw [decide_eq_true h8] at HR;go_wp2_with fail;go_ret;exact⟨ret_bool HR.out,hg⟩
    . have h9:¬ (k:Int)<=8:=by omega
      rw [decide_eq_false h8] at HR;go_wp2_with fail;go_ret;exact⟨ret_bool HR.out,hg⟩
end P12
section
namespace P16
open P12 (PV PMem POwn fewP)
theorem least (n K:Nat):∃ N:Nat,(if (K:Int)<(n:Int) then (K:Int) else (n:Int))=(N:Int)/\min (n:Int) (K:Int)=(N:Int)/\N<=n/\N<=K/\∀ {α:Type} (l:List α),l.length=n->l.take K=l.take N:=by
 by_cases h:K<n
 . exact⟨K,by rw [if_pos (by omega)],by omega,by omega,by omega,λ l _=>rfl⟩
 . exact⟨n,by rw [if_neg (by omega)],by omega,by omega,by omega,λ l hl=>by rw [List.take_of_length_le (by omega),List.take_of_length_le (by omega)]⟩
end P16
end
section
namespace P16
open P12 (PV PMem)
abbrev p0:List Ac:=[(0,0),(2,0)]
theorem p0_right:P12.rightB [p0]=true:=by decide
end P16
end
section
namespace P16
section
variable {P:List Ac} {ω ψ:Wv} {a t:Nat} {k n x:Int} {ev:List T3} {h:Option Int}
theorem take_at (ha:P[a]?=some (k,n)):P.take (a+1)=P.take a++[(k,n)]:=by
 rw [List.take_add_one,ha];rfl
theorem tidy_step (hT:P12.tidyB P=true) (ha:P[a]?=some (k,n)) (hh:P12.held none (P.take a)=some h) :
 k≠1/\(k=0->h=none/\P12.held none (P.take (a+1))=some (some n))/\(k=2->h=some n/\P12.held none (P.take (a+1))=some none)/\(k=3->P12.held none (P.take (a+1))=some h):=by
 have hlt:=(zgl ha);have he:P[a]=(k,n):=(List.getElem?_eq_some_iff.1 ha).2;have hsplit:P=P.take a++(k,n)::P.drop (a+1):=by
  rw [<- he,<- List.drop_eq_getElem_cons hlt,List.take_append_drop]
 unfold P12.tidyB at hT;have hT:=eq_of_beq hT;rw [hsplit,P12.held_append,hh] at hT;have hT:P12.held h ((k,n)::P.drop (a+1))=some none:=hT;have ht:P12.held none (P.take (a+1))=P12.held h [(k,n)]:=by rw [take_at ha,P12.held_append,hh];rfl
 rw [ht];rw [P12.held] at hT ⊢;by_cases h1:k=1
 . rw [if_pos h1] at hT;cases hT
 . rw [if_neg h1] at hT ⊢
   refine⟨h1,λ e=>?_,λ e=>?_,λ e=>?_⟩
   . rw [if_pos e] at hT ⊢
     by_cases hs:h.isSome=true
     . rw [if_pos hs] at hT;cases hT
     . rw [if_neg hs]
       cases h with
       | none=>exact⟨rfl,rfl⟩
       | some _=>exact absurd rfl hs
   . rw [if_neg (by omega),if_pos e] at hT ⊢
     by_cases hs:h=some n
     . rw [if_pos hs];exact⟨hs,rfl⟩
     . rw [if_neg hs] at hT;cases hT
   . rw [if_neg (by omega),if_neg (by omega)]
     rfl
end
end P16
end
section
namespace P17
open P16
theorem held_hold {p:List Ac} (hT:P12.tidyB p=true):∀ a,a<=p.length->P12.held none (p.take a)=some (P16.hold p a):=by
 intro a
 induction a with
 | zero=>intro _;rfl
 | succ a ih =>
  intro ha;have ih:=ih (by omega);obtain⟨⟨k,n⟩,hk⟩:∃ x,p[a]?=some x:=⟨_,zge (by omega)⟩;have e:p.take (a+1)=p.take a++[(k,n)]:=take_at hk;have hh:P16.hold p (a+1)=if k=0 then some n else if k=2 then none else P16.hold p a:=by
   show (match p[a]? with | some x=>if x.1=0 then some x.2 else if x.1=2 then none else P16.hold p a | none=>_)=_;rw [hk]
  have hs:P12.held none p=(P12.held none (p.take (a+1))).bind λ g=>P12.held g (p.drop (a+1)):=by
   rw [<- P12.held_append,List.take_append_drop]
  have hT':P12.held none p=some none:=eq_of_beq hT;rw [hT'] at hs;have e2:P12.held none (p.take (a+1))=P12.held (P16.hold p a) [(k,n)]:=by rw [e,P12.held_append,ih];rfl
  have e3:P12.held (P16.hold p a) [(k,n)]=if k=1 then none else if k=0 then (if (P16.hold p a).isSome then none else some (some n)) else if k=2 then (if P16.hold p a=some n then some none else none) else some (P16.hold p a):=rfl
  rw [e2] at hs ⊢;rw [hh];rw [e3] at hs ⊢;by_cases h1:k=1
  . rw [if_pos h1] at hs;cases hs
  . rw [if_neg h1] at hs ⊢
    by_cases h0:k=0
    . rw [if_pos h0] at hs ⊢
      rw [if_pos h0];by_cases hq:(P16.hold p a).isSome=true
      . rw [if_pos hq] at hs;cases hs
      . rw [if_neg hq]
    . rw [if_neg h0] at hs ⊢
      rw [if_neg h0];by_cases h2:k=2
      . rw [if_pos h2] at hs ⊢
        rw [if_pos h2];by_cases hq:P16.hold p a=some n
        . rw [if_pos hq]
        . rw [if_neg hq] at hs;cases hs
      . rw [if_neg h2,if_neg h2]
theorem tidy_of {p:List Ac} (hT:P12.tidyB p=true):Tidy p:=by
 have key:∀ (a:Nat) (k n:Int),p[a]?=some (k,n)->k≠1/\(k=0->P16.hold p a=none)/\(k=2->P16.hold p a=some n):=by
  intro a k n hk;have ha:=(zgl hk);obtain⟨t1,t2,t3,_⟩:=tidy_step hT hk (held_hold hT a (by omega));exact⟨t1,λ e=>(t2 e).1,λ e=>(t3 e).1⟩
 refine⟨λ a n h=>(key a 1 n h).1 rfl,λ a n h=>(key a 0 n h).2.1 rfl,λ a n h=>(key a 2 n h).2.2 rfl,?_⟩;have h:=held_hold hT p.length (Nat.le_refl _);rw [List.take_length,show P12.held none p=some none from eq_of_beq hT] at h;exact (Option.some.inj h).symm
theorem nwC_snoc (q:List Ac) (a:Ac):nwC (q++[a]) 0=nwC q 0+(if a.1=3 then 0 else 1):=by
 induction q with
 | nil=>show (if a.1=3 then (0:Int) else 1)+0=0+_;omega
 | cons x q ih =>
  show (if x.1=3 then (0:Int) else 1)+nwC (q++[a]) 0=(if x.1=3 then (0:Int) else 1)+nwC q 0+_;rw [ih];omega
theorem nwC_b (q:List Ac):0<=nwC q 0/\nwC q 0<=(q.length:Int):=by
 induction q with
 | nil=>exact⟨Int.le_refl _,Int.le_refl _⟩
 | cons x q ih =>
  show 0<=(if x.1=3 then (0:Int) else 1)+nwC q 0/\(if x.1=3 then (0:Int) else 1)+nwC q 0<=((q.length+1:Nat):Int)
  split<;>omega
def actS (l:List (List Ac)):Int:=(l.map λ p=>nwC p 0).sum
theorem actS_snoc (l:List (List Ac)) (p:List Ac):actS (l++[p])=actS l+nwC p 0:=by unfold actS;simp
theorem actS_b (l:List (List Ac)) (h:∀ p∈l,p.length<=10):0<=actS l/\actS l<=10*(l.length:Int):=by
 induction l with
 | nil=>exact⟨Int.le_refl _,Int.le_refl _⟩
 | cons p l ih =>
  have h1:=nwC_b p;have h2:=h p (by simp);have h3:=ih λ q hq=>h q (by simp [hq])
  have e:actS (p::l)=nwC p 0+actS l:=by unfold actS;simp
  rw [e,List.length_cons];omega
theorem sm_acts (l:List (List Ac)):∀ k,k<=l.length->sm (λ i=>match l[i]? with | some p=>nwC p 0 | none=>0) k=actS (l.take k):=by
 intro k
 induction k with
 | zero=>intro _;rfl
 | succ k ih =>
  intro hk;obtain⟨p,hp⟩:∃ p,l[k]?=some p:=⟨_,zge (by omega)⟩;show sm _ k+(match l[k]? with | some p=>nwC p 0 | none=>0)=_;rw [ih (by omega),P12.take_snoc hp,actS_snoc,hp]
theorem evT_acts (l:List (List Ac)):evT (P16.new l)=actS l:=(evT_new (l:=l)).trans ((sm_acts l l.length (Nat.le_refl _)).trans (by rw [List.take_length]))
def md6 (x:Int):Int:=(x.tmod 6+6).tmod 6
theorem md6_b (x:Int):0<=md6 x/\md6 x<=5:=by
 have h1:x.tmod 6<6:=Int.tmod_lt_of_pos x (by omega);have h2:-6<x.tmod 6:=by
  have:=Int.tmod_lt_of_pos (-x) (show (0:Int)<6 by omega);rw [Int.neg_tmod] at this;omega
 unfold md6;generalize x.tmod 6=t at *;rw [Int.tmod_eq_emod_of_nonneg (by omega)];omega
theorem md6_wrap (x:Int):(wrap64 (x.tmod 6+6)).tmod 6=md6 x:=by
 have h1:x.tmod 6<6:=Int.tmod_lt_of_pos x (by omega);have h2:-6<x.tmod 6:=by
  have:=Int.tmod_lt_of_pos (-x) (show (0:Int)<6 by omega);rw [Int.neg_tmod] at this;omega
 unfold md6;generalize x.tmod 6=t at *;have e:wrap64 (t+6)=t+6:=by unfold wrap64;omega
 rw [e]
def actOf (a:Ac):Ac:=if a.1=3 then (3,md6 a.2) else a
def qOf (p:List Ac):List Ac:=(p.take 12).map actOf
def keepB (q:List Ac):Bool:=P12.tidyB q&&decide (cK 0 q<=3)&&decide (q.length<=10)
def keep (l:List (List Ac)):List (List Ac):=(l.map qOf).filter keepB
theorem actOf_kind (a:Ac):(actOf a).1=a.1:=by
 unfold actOf;split
 . rename_i h;exact h.symm
 . rfl
theorem keep_snoc (l:List (List Ac)) (p:List Ac):keep (l++[p])=keep l++(if keepB (qOf p)=true then [qOf p] else []):=by
 unfold keep;rw [List.map_append,List.filter_append];congr 1;show List.filter keepB [qOf p]=_;by_cases h:keepB (qOf p)=true<;>simp [h]
theorem keep_len (l:List (List Ac)):(keep l).length<=l.length:=by
 unfold keep;exact Nat.le_trans (List.length_filter_le _ _) (by simp)
theorem keep_mem {l:List (List Ac)} {q:List Ac} (h:q∈keep l):Tidy q/\q.length<=10/\cK 0 q<=3/\∀ a∈q,a.1=3->a.2<=5:=by
 unfold keep at h;obtain⟨h1,h2⟩:=List.mem_filter.1 h;obtain⟨p,_,rfl⟩:=List.mem_map.1 h1;unfold keepB at h2;simp only [Bool.and_eq_true,decide_eq_true_eq] at h2;refine⟨tidy_of h2.1.1,h2.2,h2.1.2,λ a ha h3=>?_⟩;unfold qOf at ha;obtain⟨b,_,rfl⟩:=List.mem_map.1 ha;rw [actOf_kind] at h3;unfold actOf;rw [if_pos h3];exact (md6_b b.2).2
theorem cK_snoc (k:Int) (q:List Ac) (a:Ac):cK k (q++[a])=cK k q+(if a.1=k then 1 else 0):=by
 rw [cK_append];congr 1;unfold cK;by_cases h:a.1=k<;>simp [h]
end P17
end
section
open Go.Conc
section
variable {P:Program} {ops:Array Oper} {Q:Exit->Act->World->Prop} {a:Act} {w:World}
def Runs (P:Program) (ops:Array Oper) (Q:Exit->Act->World->Prop) (l:List Nat) (a:Act) (w:World):Prop :=
 ∀ (b:Frame) (k:List Item) (cs:List Frame),∃ e a' w',Q e a' w'/\Arrives P (lone (b.at a (.inRegion ops l::k)) cs w) b k cs e a' w'
theorem Runs.of_wp {l:List Nat} (h:wpOps P ops Q l a w):Runs P ops Q l a w:=wp_ops l a w h
theorem Runs.region {id:Nat} (h:Runs P ops Q (List.range ops.size) a w):(Code.region id ops false).wp P Q a w :=
 λ b k cs=>let ⟨e,a',w',q,r⟩:=h b k cs;⟨e,a',w',q,.of_steps (.one step_region) r⟩
theorem Runs.value {i:Nat} {rest:List Nat} {o:Oper} {v:Value} {w':World} (ho:ops[i]?=some o) (hw:Region.wanted o (yielded ops a.tmps)=true) (hr:(execOp a.eval o).run P w=.ok (.value v) w')
 (h:Runs P ops Q rest (a.put o.dst v) w'):Runs P ops Q (i::rest) a w:=by
 intro b k cs;obtain⟨e,a',w'',hq,harr⟩:=h b k cs;have hg:=stepG_op (P:=P) (b:=b) (k:=k) (cs:=cs) (w:=w) (rest:=rest) ho hw;have hfin:(b.at a (.inRegion ops (i::rest)::k)).finish v=b.at (a.put o.dst v) (.inRegion ops rest::k):=by rw [Frame.finish_at,ho];rfl
 refine⟨e,a',w'',hq,.of_steps (.one (step_lone_go ?_)) harr⟩;rw [hg,<- hfin];simp [stepG.apply,hr]
theorem comm_step {i:Nat} {rest:List Nat} {o:Oper} {cases:Array CommCase} {blocking:Bool} {shape:CommShape} {w₁:World} (ho:ops[i]?=some o) (hw:Region.wanted o (yielded ops a.tmps)=true)
 (hr:(execOp a.eval o).run P w=.ok (.comm cases blocking shape) w₁) (b:Frame) (k:List Item) (cs:List Frame) :
 ∃ es,stepG P true (G (b.at a (.inRegion ops (i::rest)::k)) cs) w=.comm (G (b.at a (.inRegion ops (i::rest)::k)) cs) cases blocking shape w₁ es:=by
 have hg:=stepG_op (P:=P) (b:=b) (k:=k) (cs:=cs) (w:=w) (rest:=rest) ho hw;show ∃ es,stepG P true { frame:=b.at a (.inRegion ops (i::rest)::k),callers:=cs,status:=.running,dying:=none } w=_;rw [hg];simp only [stepG.apply,Sem.runT_eq,hr];by_cases hk:b.kind=.early<;>simp [G,Frame.at,hk,GStep.after]
theorem Runs.send {i:Nat} {rest:List Nat} {o:Oper} {c cap s r:Nat} {v z:Value} {buf:Array Value} {tm:Bool} {w₁:World} (ho:ops[i]?=some o) (hw:Region.wanted o (yielded ops a.tmps)=true)
 (hr:(execOp a.eval o).run P w=.ok (.comm #[scase c v z] true .send) w₁) (hc:w₁.heap[c]?=some (.chan cap buf false s r tm)) (hroom:buf.size<cap)
 (h:Runs P ops Q rest (a.put o.dst undef) (w₁.setChan c cap (buf.push v) false (s+1) r tm)):Runs P ops Q (i::rest) a w:=by
 intro b k cs;obtain⟨es,hs⟩:=comm_step (rest:=rest) ho hw hr b k cs;have st:=step_lone_send_room hs hc hroom;rw [Frame.finish_at,ho] at st;obtain⟨e,a',w',hq,harr⟩:=h b k cs;exact⟨e,a',w',hq,.of_steps (.one st) harr⟩
theorem Runs.recv {i:Nat} {rest:List Nat} {o:Oper} {c cap s r:Nat} {ok:Bool} {z:Value} {buf:Array Value} {closed tm:Bool} {w₁:World} (ho:ops[i]?=some o) (hw:Region.wanted o (yielded ops a.tmps)=true)
 (hr:(execOp a.eval o).run P w=.ok (.comm #[rcase c z] true (.recv ok)) w₁) (hc:w₁.heap[c]?=some (.chan cap buf closed s r tm)) (hsome:0<buf.size)
 (h:Runs P ops Q rest (a.put o.dst (got ok (buf.getD 0 undef) true)) (w₁.setChan c cap (buf.extract 1 buf.size) closed s (r+1) tm)):Runs P ops Q (i::rest) a w:=by
 intro b k cs;obtain⟨es,hs⟩:=comm_step (rest:=rest) ho hw hr b k cs;have st:=step_lone_recv_buf ok hs hc hsome;rw [Frame.finish_at,ho] at st;obtain⟨e,a',w',hq,harr⟩:=h b k cs;exact⟨e,a',w',hq,.of_steps (.one st) harr⟩
theorem Runs.shut {i:Nat} {rest:List Nat} {o:Oper} {c cap s r:Nat} {ok:Bool} {z:Value} {tm:Bool} {w₁:World} (ho:ops[i]?=some o) (hw:Region.wanted o (yielded ops a.tmps)=true)
 (hr:(execOp a.eval o).run P w=.ok (.comm #[rcase c z] true (.recv ok)) w₁) (hc:w₁.heap[c]?=some (.chan cap #[] true s r tm))
 (h:Runs P ops Q rest (a.put o.dst (got ok z false)) w₁):Runs P ops Q (i::rest) a w:=by
 intro b k cs;obtain⟨es,hs⟩:=comm_step (rest:=rest) ho hw hr b k cs;have st:=step_lone_recv_shut ok hs hc;rw [Frame.finish_at,ho] at st;obtain⟨e,a',w',hq,harr⟩:=h b k cs;exact⟨e,a',w',hq,.of_steps (.one st) harr⟩
theorem Runs.val (i:Nat) {rest:List Nat} {o:Oper} {d:Nat} {v:Value} {t t':Array Value} {ds:List Deferred} {w':World}
 (h:Runs P ops Q rest { tmps:=t',defers:=ds } w')
 (ho:ops[i]?=some o:=by exact rfl) (hd:o.dst=some d:=by exact rfl) (hw:Region.wanted o (yielded ops t)=true:=by rfl)
 (hr:(execOp (Act.eval { tmps:=t,defers:=ds }) o).run P w=.ok (.value v) w':=by go_simp;try with_reducible rfl)
 (ht:t.setIfInBounds d v=t':=by (try simp only [List.setIfInBounds_toArray,List.set_cons_zero,List.set_cons_succ]);exact rfl):Runs P ops Q (i::rest) { tmps:=t,defers:=ds } w :=
 Runs.value ho hw hr (by rw [hd];show Runs P ops Q rest { tmps:=t.setIfInBounds d v,defers:=ds } w';rw [ht];exact h)
theorem Runs.snd (i:Nat) {rest:List Nat} {o:Oper} {c cap s r:Nat} {v z:Value} {buf:Array Value} {tm:Bool} {w₁:World}
 (hc:w₁.heap[c]?=some (.chan cap buf false s r tm)) (hroom:buf.size<cap)
 (h:Runs P ops Q rest a (w₁.setChan c cap (buf.push v) false (s+1) r tm)) (ho:ops[i]?=some o:=by exact rfl) (hd:o.dst=none:=by exact rfl) (hw:Region.wanted o (yielded ops a.tmps)=true:=by rfl)
 (hr:(execOp a.eval o).run P w=.ok (.comm #[scase c v z] true .send) w₁:=by simp [execOp,scase,Act.eval]):Runs P ops Q (i::rest) a w :=
 Runs.send ho hw hr hc hroom (by rw [hd];exact h)
theorem Runs.rcv (i:Nat) {rest:List Nat} {o:Oper} {c cap s r d:Nat} {ok:Bool} {z:Value} {buf:Array Value} {closed tm:Bool} {t t':Array Value} {ds:List Deferred} {w₁:World}
 (hc:w₁.heap[c]?=some (.chan cap buf closed s r tm)) (hsome:0<buf.size)
 (h:Runs P ops Q rest { tmps:=t',defers:=ds } (w₁.setChan c cap (buf.extract 1 buf.size) closed s (r+1) tm))
 (ho:ops[i]?=some o:=by exact rfl) (hd:o.dst=some d:=by exact rfl) (hw:Region.wanted o (yielded ops t)=true:=by rfl)
 (hr:(execOp (Act.eval { tmps:=t,defers:=ds }) o).run P w=.ok (.comm #[rcase c z] true (.recv ok)) w₁:=by simp [go_sem,rcase])
 (ht:t.setIfInBounds d (got ok (buf.getD 0 undef) true)=t':=by (try simp only [List.setIfInBounds_toArray,List.set_cons_zero,List.set_cons_succ]);exact rfl):Runs P ops Q (i::rest) { tmps:=t,defers:=ds } w :=
 Runs.recv ho hw hr hc hsome (by rw [hd];show Runs P ops Q rest { tmps:=t.setIfInBounds d (got ok (buf.getD 0 undef) true),defers:=ds } _;rw [ht];exact h)
theorem Runs.end_ (i:Nat) {rest:List Nat} {o:Oper} {c cap s r d:Nat} {ok:Bool} {z:Value} {tm:Bool} {t t':Array Value} {ds:List Deferred} {w₁:World}
 (hc:w₁.heap[c]?=some (.chan cap #[] true s r tm))
 (h:Runs P ops Q rest { tmps:=t',defers:=ds } w₁)
 (ho:ops[i]?=some o:=by exact rfl) (hd:o.dst=some d:=by exact rfl) (hw:Region.wanted o (yielded ops t)=true:=by rfl)
 (hr:(execOp (Act.eval { tmps:=t,defers:=ds }) o).run P w=.ok (.comm #[rcase c z] true (.recv ok)) w₁:=by simp [go_sem,rcase])
 (ht:t.setIfInBounds d (got ok z false)=t':=by (try simp only [List.setIfInBounds_toArray,List.set_cons_zero,List.set_cons_succ]);exact rfl):Runs P ops Q (i::rest) { tmps:=t,defers:=ds } w :=
 Runs.shut ho hw hr hc (by rw [hd];show Runs P ops Q rest { tmps:=t.setIfInBounds d (got ok z false),defers:=ds } _;rw [ht];exact h)
theorem Runs.get (i:Nat) {rest:List Nat} {o:Oper} {c cap s r d:Nat} {z v:Value} {buf buf':Array Value} {closed tm:Bool} {t t':Array Value} {ds:List Deferred} {w₁:World}
 (hc:w₁.heap[c]?=some (.chan cap buf closed s r tm)) (hsome:0<buf.size) (hv:buf.getD 0 undef=v) (hb:buf.extract 1 buf.size=buf')
 (h:Runs P ops Q rest { tmps:=t',defers:=ds } (w₁.setChan c cap buf' closed s (r+1) tm))
 (ho:ops[i]?=some o:=by exact rfl) (hd:o.dst=some d:=by exact rfl) (hw:Region.wanted o (yielded ops t)=true:=by rfl)
 (hr:(execOp (Act.eval { tmps:=t,defers:=ds }) o).run P w=.ok (.comm #[rcase c z] true (.recv true)) w₁:=by simp [go_sem,rcase])
 (ht:t.setIfInBounds d (.tuple #[v,.bool true])=t':=by (try simp only [List.setIfInBounds_toArray,List.set_cons_zero,List.set_cons_succ]);exact rfl):Runs P ops Q (i::rest) { tmps:=t,defers:=ds } w :=
 Runs.rcv i hc hsome (by rw [hb];exact h) ho hd hw hr (by rw [hv];exact ht)
theorem Runs.none (i:Nat) {rest:List Nat} {o:Oper} {c cap s r d:Nat} {z:Value} {tm:Bool} {t t':Array Value} {ds:List Deferred} {w₁:World}
 (hc:w₁.heap[c]?=some (.chan cap #[] true s r tm)) (h:Runs P ops Q rest { tmps:=t',defers:=ds } w₁)
 (ho:ops[i]?=some o:=by exact rfl) (hd:o.dst=some d:=by exact rfl) (hw:Region.wanted o (yielded ops t)=true:=by rfl)
 (hr:(execOp (Act.eval { tmps:=t,defers:=ds }) o).run P w=.ok (.comm #[rcase c z] true (.recv true)) w₁:=by simp [go_sem,rcase])
 (ht:t.setIfInBounds d (.tuple #[z,.bool false])=t':=by (try simp only [List.setIfInBounds_toArray,List.set_cons_zero,List.set_cons_succ]);exact rfl):Runs P ops Q (i::rest) { tmps:=t,defers:=ds } w :=
 Runs.end_ i hc h ho hd hw hr ht
end
end
namespace P13
abbrev Pk:=Int×Int
def rd (v:Int):Pk:=if 0<=v then (0,v % 16) else (1,-(max v (-4611686018427387904)))
theorem rd_step {v:Int} (h:0<=v):rd v=(0,v % 16):=if_pos h
theorem rd_tick {v:Int} (h:v<0):rd v=(1,-(max v (-4611686018427387904))):=if_neg (by omega)
def okP (p:Pk):Prop:=(p.1=0/\0<=p.2/\p.2<16)\/(p.1=1/\0<p.2/\p.2<=4611686018427387904)
instance (p:Pk):Decidable (okP p):=by unfold okP;infer_instance
theorem mod16 {v:Int} (h:0<=v):0<=v % 16/\v % 16<16:=by omega
theorem rd_ok (v:Int):okP (rd v):=by
 by_cases h:0<=v
 . rw [rd_step h]
   have:=mod16 h;exact .inl ⟨rfl,this.1,this.2⟩
 . rw [rd_tick (by omega)]
   refine .inr ⟨rfl,?_,?_⟩
   . show 0 < -(max v (-4611686018427387904));omega
   . show -(max v (-4611686018427387904))<=4611686018427387904;omega
theorem rd_inb (v:Int):Inb (rd v).1/\Inb (rd v).2:=by
 have:=rd_ok v;unfold okP at this;unfold Inb;omega
theorem take_snoc {l:List Int} {j:Nat} {x:Int} (h:l[j]?=some x):l.take (j+1)=l.take j++[x]:=by rw [List.take_add_one,h];rfl
end P13
namespace P13
abbrev pk (p:Pk):Value:=.agg #[.int .i64 p.1,.int .i64 p.2]
theorem Read_is (v:Int) (w:World):Calls prog 165 #[.int .i64 v] w λ e w'=>e=.returned (pk (rd v))/\Gr w w':=by
 by_cases h:0<=v
 . rw [rd_step h]
   go_enter func165,ntmps165;go_wp2_with fail;exact bodyPost_ret (v:=pk (0,v % 16)) (by simp [results,results165,go_sem,Int.tmod_eq_emod_of_nonneg h]) rfl ⟨rfl,(zr w).al _⟩
 . rw [rd_tick (by omega)]
   by_cases h2:v < -4611686018427387904
   . rw [show max v (-4611686018427387904)=-4611686018427387904 from by omega]
     go_enter func165,ntmps165;go_wp2_with fail;exact bodyPost_ret (v:=pk (1,- -4611686018427387904)) (by simp [results,results165,go_sem]<;>omega) rfl ⟨rfl,(zr w).al _⟩
   . rw [show max v (-4611686018427387904)=v from by omega]
     go_enter func165,ntmps165;go_wp2_with fail;exact bodyPost_ret (v:=pk (1,-v)) (by simp [results,results165,go_sem]<;>omega) rfl ⟨rfl,(zr w).al _⟩
end P13
namespace P13
theorem picks_is (A:Option Addr) (n c:Nat) (w:World) :
 Calls prog 117 #[.slice A n c] w λ e w' =>
  e=.returned (.func (.func 164) #[] #[.pointer (some ⟨w.heap.size,0,none⟩)])/\w'=w.alloc (.cells #[.slice A n c] 23):=by
 have hmf:∀ W,(Instr.makeFunc (.func 164) #[] #[.pointer (some ⟨w.heap.size,0,none⟩)]).run prog W=.ok (.func (.func 164) #[] #[.pointer (some ⟨w.heap.size,0,none⟩)]) W:=λ W=>by rfl
 go_enter func117,ntmps117;go_wp2_with fail;go_ret;exact⟨rfl,rfl⟩
theorem abides_gr {β:Type} {B:Nat} {J:β->World->Prop} (h:AbidesFrom B J) {s:β} {X Y:World} (hs:J s X) (g:Gr X Y):J s Y :=
 h s X Y none hs ⟨g.os,g.tape,g.output,g.size,λ k hk _=>g.block k hk⟩ (λ r e=>by cases e)
theorem picks1_in (w0:World) {A:Option Addr} {n c:Nat} {L:List Int} (hm:IMem w0 A n L) (hn:n<=9223372036854775807)
 (m:Nat) (hm1:1<=m) (l lb:Nat) (J Jx:List Int->World->Prop) (W:World) (hW:Gr w0 W) (hJ:AbidesFrom W.heap.size J)
 (hY:∀ pre x W1,J pre W1->pre.length<L.length->YieldAt Fence.wide (m-1) prog l #[pk (rd x)] W1 λ e W' =>
   (e=.returned (.bool true)/\J (pre++[x]) W'/\Below w0.heap.size W1 W')\/(e=.returned (.bool false)/\Jx (pre++[x]) W'))
 (hL:Blk W lb #[.slice A n c] 23) (h0:J [] W) :
 CallsIn Fence.wide m prog 164 #[.func (.yield l) #[] #[],.pointer (some ⟨lb,0,none⟩)] W λ e W'=>(∃ v,e=.returned v) /\
  ((∃ ys,ys=L/\J ys W')\/(∃ pre,pre <+: L/\Jx pre W')):=by
 have hlen:=hm.1;have l0:=(hL.at_ (k:=0) rfl).1;have ll:=hL.lt;have HJ:=hid hJ;have HY:=hid hY;have HM:=hid hm;have H0:=hid h0;clear hJ hY hm hL h0;refine callsIn_of_wp func164 rfl trivial ?_ rfl;simp only [ntmps164,List.size_toArray,List.length_cons,List.length_nil,Nat.reduceAdd,Nat.reduceSub,Array.replicate_succ,Array.replicate_zero,List.push_toArray,List.append_toArray,List.nil_append,List.cons_append]
 gi_wp2_with fail
 have HG:=hid hW;clear l0 ll
 gi_loopw [7] (λ i wr=>∃ k:Nat,k<=n/\i=.int .i64 (k:Int)/\Hid (Below w0.heap.size w0 wr)/\Hid (J (L.take k) wr)) (λ i _=>n-(intOf i).toNat)
 case atStart=>exact⟨0,Nat.zero_le _,rfl,HG,H0⟩
 case round =>
  clear HG H0;obtain⟨k,hk,rfl,HG,HJK⟩:=hrel;by_cases hlt:k<n
  . obtain⟨b,off,x,rfl,hbl,hx,hxb,d0⟩:=(HM.out.gr HG.out).at_ hlt
    have k0:(0:Int)<=(k:Int):=by omega
    have k1:(k:Int)<(n:Int):=by omega
    have HX:=hid hx;have CR:=λ W=>hid (Read_is x W)
    clear hx hxb
    gi_wp2_with fail
    refine⟨trivial,?_⟩;refine (callsIn_wide.2 (CR _).out).mono ?_;rintro e w1 ⟨rfl,hb1⟩;have hj1:=abides_gr HJ.out HJK.out hb1;obtain⟨fn,tmps,assign,body,hyy,hR⟩:=HY.out (L.take k) x _ hj1 (by have:=(List.getElem?_eq_some_iff.1 HX.out).1;rw [List.length_take];omega);have HRR:=hid hR;have HG1:=hid (HG.out.trans (Below.mono hb1 HG.out.size));clear hj1 hR hb1 CR
    gi_wp2_with fail
    refine HRR.out.mono ?_;rintro e W3 (⟨rfl,hJ3,hk3⟩ | ⟨rfl,hJx3⟩)
    . have HG3:=hid (HG1.out.trans hk3)
      have HJ3:=hid (show J (L.take (k+1)) W3 from by rw [take_snoc HX.out];exact hJ3);clear hJ3 hk3 hyy HRR
      gi_wp2_with fail
      go_roundw
      case rel=>exact⟨k+1,by omega,by go_num,HG3,HJ3⟩
      case measure=>simp [intOf];omega
    . have HJX:=hid hJx3
      clear hJx3 hyy HRR
      gi_wp2_with fail
      refine bodyPost_ret (results_none rfl _ _ _) rfl ?_;exact⟨⟨_,rfl⟩,.inr ⟨_,by rw [<- take_snoc HX.out];exact List.take_prefix _ _,HJX.out⟩⟩
  . obtain rfl:k=n:=by omega
    gi_wp2_with fail
    go_end0
    exact⟨⟨_,rfl⟩,.inl ⟨_,by rw [<- hlen,List.take_length],HJK.out⟩⟩
theorem picks_stops {w0:World} {A:Option Addr} {n c:Nat} {L:List Int} (hm:IMem w0 A n L) (hn:n<=9223372036854775807) (m:Nat) (hm1:1<=m) (lb:Nat) (W:World) (hW:Gr w0 W) (hL:Blk W lb #[.slice A n c] 23) :
 SeqStopsK Fence.wide m prog 164 #[.pointer (some ⟨lb,0,none⟩)] (λ x:Int=>#[pk (rd x)]) (Below w0.heap.size) (λ ys=>ys=L) (λ pre=>pre <+: L) L.length W:=λ l J Jx W' hW' hJ _ hY h0 =>
 picks1_in w0 hm hn m hm1 l lb J Jx W' (hW.trans hW') hJ hY (hL.gr hW') h0
end P13
section
attribute [local go_sem] Oper.semAt_some
namespace P13
theorem blk_kept {W W':World} {b:Nat} {cs:Array Value} {t:TypeId} {row:Option Nat} (h:Blk W b cs t) (hg:W.grownBy W' row) (hr:∀ r,row=some r->∃ o:Obj,W.heap[r]?=some o/\o.isCells=false):Blk W' b cs t :=
 h.gb hg λ e=>by
  obtain⟨o,h1,h2⟩:=hr b e;rw [show W.heap[b]?=_ from h] at h1;cases h1;cases h2
theorem keeps_gr {W W':World} (g:Gr W W'):KeepsOthers W W':=⟨g.size,λ k o hk _=>(g.block k (zal hk)).trans hk⟩
end P13
end
section
namespace P13
theorem infoPick:(prog.info? 108).map (λ i=>(i.zero,i.size,i.bytes))=some (some (.agg #[.int .i64 0,.int .i64 0]),2,16):=by kernel_rfl
theorem info_parts {t:TypeId} {a:Option Value×Nat×Nat} (h:(prog.info? t).map (λ i=>(i.zero,i.size,i.bytes))=some a):∃ i,prog.info? t=some i/\i.zero=a.1/\i.size=a.2.1/\i.bytes=a.2.2:=by
 rw [Option.map_eq_some_iff] at h;obtain⟨i,hi,rfl⟩:=h;exact⟨i,hi,rfl,rfl,rfl⟩
def Late (B:Nat) (A:Option Addr):Prop:=∀ k,A.map (·.block)=some k->B<=k
theorem Late.none {B:Nat}:Late B none:=λ k h=>by cases h
abbrev KOwn (w:World) (base:Nat) (v:Value) (l:List Pk):Prop:=w.ownsRow base 108 2 v l.length (flat l)
theorem own_mem {w:World} {base:Nat} {v:Value} {l:List Pk} (h:KOwn w base v l) (hb:∀ x∈l,Inb x.1/\Inb x.2):∃ A c,v=.slice A l.length c/\Mem w A l.length l/\l.length<=c/\c<=9223372036854775807/\Late base A:=by
 rcases h.2 with ⟨rfl,h0⟩ | ⟨g,cap,cur,rfl,hbg,hg,hnc,hcm,hs,ht⟩
 . have hl:l=[]:=by
    cases l with
    | nil=>rfl
    | cons x r=>cases h0
   subst hl;exact⟨none,0,rfl,Mem.nil_,Nat.le_refl _,by omega,Late.none⟩
 . refine⟨_,_,rfl,⟨rfl,hb,λ _=>⟨g,0,rfl,(zal hg),λ j u hu=>?_⟩⟩,hnc,by unfold maxLen at hcm;omega,λ k hk=>by simp at hk;omega⟩
   rw [Nat.zero_add,cell_of_row w g j cur _ (0,0) hg];rw [<- ht,List.getElem?_take] at hu
   split at hu
   . simpa using hu
   . cases hu
section
variable {w:World} {base:Nat} {v:Value} {l:List Pk} {A:Option Addr} {m c:Nat} {news:List Pk}
theorem run_append_picks (h:KOwn w base v l) (hr:Mem w A m news) (hl:l.length+m<=1000000) (hbase:base<=w.heap.size) (ty:TypeId) (c:Nat) :
 ∃ v' w',(Builtin.append_ #[141,141] ty #[v,.slice A m c]).run prog w=.ok v' w'/\KOwn w' base v' (l++news)/\w.grownBy w' v.ownBlock:=by
 obtain⟨i,hi,hz,hs,hb⟩:=info_parts infoPick;unfold KOwn;rw [List.length_append,hr.1,flat_append];rcases A with _ | ad
 . have hm:m=0:=by
    rcases Nat.eq_zero_or_pos m with h0 | h0
    . exact h0
    . obtain⟨b,off,h,_⟩:=hr.2.2 h0
      cases h
   subst hm;have hn:news=[]:=zen hr.1;subst hn;exact⟨v,w,run_append_of_nil w base 141 ty 108 i 2 underlying141 hi v _ _ h c,by simpa [flat] using h,World.grownBy.refl w _⟩
 . have hcells:∀ j u,(flat news)[j]?=some u->w.cell? (ad.add j)=some u:=by
    intro j u hu;rcases Nat.eq_zero_or_pos m with h0 | h0
    . subst h0
      have hn:news=[]:=zen hr.1;subst hn;simp [flat] at hu
    . obtain⟨b,off,h,_,hc⟩:=hr.2.2 h0
      injection h with h
      subst h;rw [add_plain];exact hc j u hu
   obtain⟨v',w',hrun,h2,h3,_⟩:=run_append_own (P:=prog) w base 141 ty 108 i (.agg #[.int .i64 0,.int .i64 0]) 2 16 underlying141 hi hz hs hb rfl (by decide) v _ _ h ad m c (flat news) (by rw [flat_len,hr.1]) hcells (flat_one news) (by unfold maxLen;omega) (by omega) hbase;exact⟨v',w',hrun,h2,h3⟩
end
theorem KOwn.nil (w:World) (base:Nat):KOwn w base (.slice none 0 0) []:=World.ownsRow_nil w base _ 2
theorem KOwn.kept {w w':World} {base:Nat} {v:Value} {l:List Pk} {row:Option Nat} (h:KOwn w base v l) (hg:w.grownBy w' row) (hr:v.ownBlock=none\/v.ownBlock≠row):KOwn w' base v l:=World.ownsRow.kept h hg hr
theorem KOwn.gr {w w':World} {base:Nat} {v:Value} {l:List Pk} (h:KOwn w base v l) (g:Gr w w'):KOwn w' base v l :=
 h.kept (row:=none) ⟨g.os,g.tape,g.output,g.size,λ k hk _=>g.block k hk⟩ (by cases v.ownBlock<;>simp)
theorem KOwn.late {w:World} {base:Nat} {v:Value} {l:List Pk} (h:KOwn w base v l) {k:Nat} (hk:v.ownBlock=some k):base<=k:=by
 rcases h.2 with ⟨rfl,_⟩ | ⟨g,cap,cur,rfl,hb,_⟩
 . cases hk
 . simp only [Value.ownBlock] at hk
   cases hk;exact hb
theorem pick_row {w:World} {g:Nat} {p:Pk} {t:TypeId} (h:Blk w g #[.int .i64 p.1,.int .i64 p.2] t) (hp:Inb p.1/\Inb p.2):Mem w (some ⟨g,0,none⟩) 1 [p] :=
 ⟨rfl,λ x hx=>by rw [List.mem_singleton] at hx;subst hx;exact hp,λ _=>⟨g,0,rfl,h.lt,λ j u hu=>by
   match j,hu with
   | 0,hu=>simp [flat] at hu;subst hu;exact (h.at_ (k:=0) rfl).1
   | 1,hu=>simp [flat] at hu;subst hu;exact (h.at_ (k:=1) rfl).1⟩⟩
theorem KOwn.low {w:World} {base b2:Nat} {v:Value} {l:List Pk} (h:KOwn w base v l) (hb:b2<=base):KOwn w b2 v l:=by
 refine⟨h.1,?_⟩;rcases h.2 with h1 | ⟨g,cap,cur,hv,hbg,h2⟩
 . exact .inl h1
 . exact .inr ⟨g,cap,cur,hv,Nat.le_trans hb hbg,h2⟩
theorem wpListIn_append_picks {F:Fence} {f:Nat} {w:World} {base:Nat} {v:Value} {l:List Pk} {A:Option Addr} {m c:Nat} {news:List Pk} {ops:Array Oper} {rest:List Oper} {o:Oper} {a:Act} {Q:Exit->Act->World->Prop} (hgd:o.guard=none) (s x:Operand)
 (ho:o.op=.call { callee:=.builtin .append,args:=#[s,x],argTypes:=#[141,141] }) (hs:a.eval s=v) (hx:a.eval x=.slice A m c)
 (h:KOwn w base v l) (hr:Mem w A m news) (hl:l.length+m<=1000000) (hbase:base<=w.heap.size)
 (hK:∀ v' w',KOwn w' base v' (l++news)->w.grownBy w' v.ownBlock->wpListIn F f prog ops Q rest (a.put o.dst v') w'):wpListIn F f prog ops Q (o::rest) a w:=by
 refine wpListIn_plain hgd λ K hK'=>?_
 obtain⟨v',w',h1,h2,h3⟩:=run_append_picks h hr hl hbase o.type c;unfold Oper.wpIn;refine⟨?_,?_⟩
 . simp [Oper.about,ho,resolve,Target.leads,Sem.run_pure]
 . rw [Oper.semAt_plain F _ _ (by rw [ho];intro c hc';cases hc')]
   simp [execOp,ho,resolve,invoke,builtin,hs,hx,h1,Result.andThen];exact hK' _ _ (hK v' w' h2 h3)
end P13
end
section
attribute [local go_sem] Oper.semAt_some
namespace P13
theorem blk_notcells {W:World} {base:Nat} {v:Value} {l:List Pk} (h:KOwn W base v l):∀ (j:Nat) (o:Obj),v.ownBlock=some j->W.heap[j]?=some o->o.isCells=true:=by
 intro j o hj ho;rcases h.2 with ⟨rfl,_⟩ | ⟨g,cap,cur,rfl,_,hg,_⟩
 . cases hj
 . simp only [Value.ownBlock] at hj
   cases hj;rw [hg] at ho;cases ho;rfl
structure ApI (w:World) (b2:Nat) (pre:List Int) (W:World):Prop where
 gr:Gr w W
 row:∃ v,Blk W b2 #[v] 141/\KOwn W (b2+1) v (pre.map rd)
theorem kown_kept {W W':World} {base:Nat} {v:Value} {l:List Pk} {row:Option Nat} (h:KOwn W base v l) (hg:W.grownBy W' row) (hr:∀ r,row=some r->∃ o:Obj,W.heap[r]?=some o/\o.isCells=false):KOwn W' base v l:=by
 refine h.kept hg ?_
 cases hv:v.ownBlock with
 | none=>exact .inl rfl
 | some k =>
  refine .inr λ e=>?_
  obtain⟨o,h1,h2⟩:=hr k e.symm;rw [blk_notcells h k o hv h1] at h2;cases h2
theorem ApI.own {w:World} {b2 B:Nat} (hB:w.heap.size<=B):OwnFrom B (λ pre W=>ApI w b2 pre W):=λ pre W W' row h hg hr=>by
 obtain⟨v,h1,h2⟩:=h.row;exact⟨h.gr.gb hg (λ k e=>Nat.le_trans hB (hr k e).1),v,blk_kept h1 hg (λ r e=>(hr r e).2),kown_kept h2 hg (λ r e=>(hr r e).2)⟩
theorem ApI.gr' {w:World} {b2:Nat} {pre:List Int} {W W':World} (h:ApI w b2 pre W) (g:Gr W W'):ApI w b2 pre W':=by
 obtain⟨v,h1,h2⟩:=h.row;exact⟨h.gr.trans g,v,h1.gr g,h2.gr g⟩
theorem rd_all (l:List Int):∀ x∈l.map rd,Inb x.1/\Inb x.2:=λ x hx=>by
 obtain⟨v,_,rfl⟩:=List.mem_map.1 hx;exact rd_inb v
theorem AppendSeq_is {w:World} {A:Option Addr} {n c lb:Nat} {L:List Int} (hm:IMem w A n L) (hn:n<=100000) (hL:Blk w lb #[.slice A n c] 23) :
 Calls prog 163 #[.slice none 0 0,.func (.func 164) #[] #[.pointer (some ⟨lb,0,none⟩)]] w λ e w'=>∃ v,e=.returned v/\KOwn w' w.heap.size v (L.map rd)/\Gr w w':=by
 have hlen:=hm.1;have hstops:=λ W (g:Gr w W)=>picks_stops hm (by omega) (6-1) (by omega) lb W g (hL.gr g)
 refine (callsIn_wide (n:=6)).1 ?_;refine callsIn_of_wp_marks func163 rfl trivial ?_ rfl;simp only [ntmps163,List.size_toArray,List.length_cons,List.length_nil,Nat.reduceAdd,Nat.reduceSub,Array.replicate_succ,Array.replicate_zero,List.push_toArray,List.append_toArray,List.nil_append,List.cons_append]
 gi_wp2_with fail
 have G3:=(zr w).al (.cells #[.slice none 0 0] 141);have H2:=Blk.new w #[.slice none 0 0] 141;have hst:=hstops _ G3;have hs3:(w.alloc (.cells #[.slice none 0 0] 141)).heap.size=w.heap.size+1:=by simp
 generalize w.alloc (.cells #[.slice none 0 0] 141)=w3 at *;obtain⟨b2,hb2⟩:∃ b,w.heap.size=b:=⟨_,rfl⟩;rw [hb2] at H2;rw [hb2];have h56:w.heap.size<=b2/\b2<w3.heap.size:=by omega
 have HG3:=hid G3;have HB2:=hid hb2;clear hstops hb2 hs3 hm G3 hL;refine wpIn_rangeFunc_ownH rfl (by omega) (gf:=164) (lb:=#[.pointer (some ⟨lb,0,none⟩)]) rfl trivial (enters_of func164 (by kernel_rfl) rfl)
  hst (λ h k=>h.trans k) (λ W l o o' hl h hc hw=>belowK_b HG3.out.size W l o o' hl h hc hw) (zr _) (λ _=>rfl)
  (λ pre W=>ApI w b2 pre W) (λ c pre W=>False) (ApI.own HG3.out.size) (λ c=>λ _ _ _ _ h _ _=>h)
  ⟨HG3.out,_,H2,KOwn.nil _ _⟩
  (λ x a' W=>∃ Bx,b2<Bx/\Blk W Bx #[.int .i64 (rd x).1,.int .i64 (rd x).2] 108/\a'={ tmps:=#[.slice none 0 0,.func (.func 164) #[] #[.pointer (some ⟨lb,0,none⟩)],.pointer (some ⟨b2,0,none⟩),undef,.slice none 0 0,.pointer (some ⟨Bx,0,none⟩),.func (.func 164) #[] #[.pointer (some ⟨lb,0,none⟩)],.agg #[.int .i64 (rd x).1,.int .i64 (rd x).2],undef,undef,undef,undef,undef],defers:=[] })
  (λ x a' _ X Y row hs hg hr=>by
    obtain⟨Bx,h1,h2,h3⟩:=hs;exact⟨Bx,h1,blk_kept h2 hg (λ r e=>(hr r e).2),h3⟩)
  ?assign ?body ?done ?stop
 case assign =>
  rintro l pre x W K hI hK;have hlt4:b2<W.heap.size:=by
   obtain⟨v,h1,_⟩:=hI.row;exact h1.lt
  have ha:=(zr W).al (.cells #[.int .i64 (rd x).1,.int .i64 (rd x).2] 108);have HK:=hid (hK _ _ ((keeps_gr ha).from _) (Below.mono ha hI.gr.size) (hI.gr' ha) ⟨W.heap.size,hlt4,Blk.new W _ _,rfl⟩);clear hK
  gi_wp2_with fail
  exact HK.out
 case body =>
  rintro l pre x a' W hl ⟨r,hr⟩ hI ⟨Bx,hBx,bX,rfl⟩ hlt;obtain⟨v0,h2,hown⟩:=hI.row;have hib:=rd_inb x;have hmap:(pre++[x]).map rd=pre.map rd++[rd x]:=by simp
  have hpl:(pre.map rd).length=pre.length:=by simp
  have hib2:=rd_all pre;have HI:=hid hI;have HM:=hid hmap;generalize rd x=p at *;generalize pre.map rd=R at *;have c0:=(bX.at_ (k:=0) rfl).1;have c1:=(bX.at_ (k:=1) rfl).1;have cl:=bX.lt;have d0:=(h2.at_ (k:=0) rfl).1;have dl:=h2.lt;have g1:=(zr W).al (.cells #[.int .i64 p.1,.int .i64 p.2] 108);have HO:=hid (hown.gr g1);have HR:=hid (pick_row (Blk.new W #[.int .i64 p.1,.int .i64 p.2] 108) hib);have H2g:=hid (h2.gr g1);have hbase:b2+1<=(W.alloc (.cells #[.int .i64 p.1,.int .i64 p.2] 108)).heap.size:=by simp;omega
  have HL:=hid (show R.length+1<=1000000 by omega);have FIN:Hid (∀ v' w',KOwn w' (b2+1) v' (R++[p])->(W.alloc (.cells #[.int .i64 p.1,.int .i64 p.2] 108)).grownBy w' v0.ownBlock ->
   (w'.cell? ⟨b2,0,none⟩=some v0/\w'.frozen? ⟨b2,0,none⟩=false)/\b2<w'.heap.size/\KeepsFrom w3.heap.size W (w'.setCell ⟨b2,0,none⟩ v')/\Below w.heap.size W (w'.setCell ⟨b2,0,none⟩ v')/\ApI w b2 (pre++[x]) (w'.setCell ⟨b2,0,none⟩ v')):=hid λ v' w' hv' hgrow=>by
   have hlate:∀ k,v0.ownBlock=some k->b2+1<=k:=λ k e=>HO.out.late e
   have hnc:=blk_notcells HO.out;have f2:=H2g.out.gb hgrow (λ e=>by have:=hlate _ e;omega);have k1:KeepsOthers _ w':=KeepsOthers.of_grownBy hgrow hnc;refine⟨⟨(f2.at_ (k:=0) rfl).1,(f2.at_ (k:=0) rfl).2⟩,f2.lt,(((keeps_gr g1).trans k1).trans (KeepsOthers.setCell _ _ _)).from _,?_,?_⟩
   . exact ((Below.mono g1 HI.out.gr.size).grown hgrow (Nat.le_trans HI.out.gr.size g1.size) (λ k e=>by have:=hlate k e;omega)).setCell (p:=⟨b2,0,none⟩) (by show w.heap.size<=b2;omega) _
   . refine⟨((HI.out.gr.trans g1).gb hgrow (λ k e=>by have:=hlate k e;omega)).st (p:=⟨b2,0,none⟩) (by show w.heap.size<=b2;omega) _,v',f2.set 0 _,?_⟩
     rw [HM.out];refine hv'.kept (grownBy_setCell' w' b2 v') (.inr λ e=>?_);have:=KOwn.late hv' e;omega
  clear hI hmap h2 hown hib hpl hib2 hr hl hlt bX g1
  gi_wp2_with (gi_at_builtin;refine Mark.stop ?_)
  refine Mark.go ?_;refine wpListIn_append_picks (news:=[p]) rfl (.tmp 8) (.tmp 10) rfl rfl rfl HO.out HR.out HL.out hbase ?_;intro v' w' hv' hgrow;obtain⟨⟨f1,f2⟩,f3,hF⟩:=FIN.out _ _ hv' hgrow;obtain⟨g,cap,rfl,_,_⟩:=World.ownsRow.form hv' (by simp);generalize (R++[p]).length=N at *;have HFF:=hid hF;clear hF hv' hgrow
  gi_wp2_with fail
  exact HFF.out
 case done =>
  rintro D ys W hD rfl hI hK;obtain⟨v,h2,hown⟩:=hI.row;have c2:=(h2.at_ (k:=0) rfl).1;have l2:=h2.lt;have HK:=hid hK;have HI:=hid hI;have HO:=hid hown;clear hI hK hown
  gi_wp2_with fail
  refine⟨by simp,.inl ⟨_,_,rfl,run_takeDeferred HK.out,?_⟩⟩;have EG:=HI.out.gr.gb (grownBy_putObj' W D (.deferred none)) (λ k e=>by cases e;exact Nat.le_trans HG3.out.size hD);have EO:=kown_kept HO.out (grownBy_putObj' W D (.deferred none)) (λ r e=>by cases e;exact⟨_,HK.out,rfl⟩);generalize W.putObj D (.deferred none)=WF at *;refine⟨v,by simp [results,results163,go_sem],v,rfl,KOwn.low EO (by rw [HB2.out];omega),EG⟩
 case stop =>
  rintro D cc pre W hD hpre h hK;exact h.elim
end P13
end
namespace P13
theorem Collect_is {w:World} {A:Option Addr} {n c lb:Nat} {L:List Int} (hm:IMem w A n L) (hn:n<=100000) (hL:Blk w lb #[.slice A n c] 23) :
 Calls prog 116 #[.func (.func 164) #[] #[.pointer (some ⟨lb,0,none⟩)]] w λ e w'=>∃ v,e=.returned v/\KOwn w' w.heap.size v (L.map rd)/\Gr w w':=by
 have CA:=hid (AppendSeq_is hm hn hL);clear hm hL;go_enter func116,ntmps116;go_wp2_with fail;refine CA.out.mono ?_;rintro e w1 ⟨v,rfl,hv,hg⟩;go_wp2_with fail;go_ret;exact⟨v,rfl,hv,hg⟩
theorem All_is {w:World} {A:Option Addr} {n c:Nat} {L:List Int} (hm:IMem w A n L) (hn:n<=100000) :
 Calls prog 78 #[.slice A n c] w λ e w'=>(∃ B d,e=.returned (.slice B n d)/\n<=d/\d<=9223372036854775807/\Mem w' B n (L.map rd)/\KOwn w' w.heap.size (.slice B n d) (L.map rd))/\Gr w w':=by
 have CC:=hid (Collect_is (c:=c) (hm.gr ((zr w).al (.cells #[.slice A n c] 23))) hn (Blk.new w #[.slice A n c] 23));have hlen:=hm.1;clear hm;go_enter func78,ntmps78;go_wp2_with fail;refine (picks_is A n c w).mono ?_;rintro e w1 ⟨rfl,rfl⟩;go_wp2_with fail;refine CC.out.mono ?_;rintro e w2 ⟨v,rfl,hv,hg⟩;obtain⟨B,d,rfl,h1,h2,h3,h4⟩:=own_mem hv (rd_all L);have hl:(L.map rd).length=n:=by simp [hlen]
 rw [hl] at h1 h2 hv ⊢;clear hl;go_wp2_with fail;go_ret;exact⟨⟨B,d,rfl,h2,h3,h1,KOwn.low hv (by simp)⟩,((zr w).al _).trans hg⟩
end P13
section
open Go.Conc Go.ChangeShapes Go.WideShapes Go.ChangeAt Go.RowKit
namespace P17
open P13 (rd pk)
theorem mk_ch (n:Nat) (hn:n<=100000) (w:World):(Instr.makeChan 143 (.int .i64 (n:Int))).run prog w=.ok (.chan (some w.heap.size)) (w.alloc (.chan n #[] false 0 0 false)):=by
 obtain⟨i,hi,hz,hs,hb⟩:=P13.info_parts P13.infoPick;have hb:i.bytes=16:=hb;exact run_makeChan underlying143 hi .i64 n (by omega) (by rw [hb];omega)
def pks (l:List Int):Array Value:=(l.map λ v=>pk (rd v)).toArray
theorem pks_snoc (l:List Int) (v:Int):(pks l).push (pk (rd v))=pks (l++[v]):=by simp [pks]
theorem pks_size (l:List Int):(pks l).size=l.length:=by simp [pks]
theorem picks_is {w:World} {A:Option Addr} {n c:Nat} {L:List Int} (hm:IMem w A n L) (hn:n<=100000) :
 Calls prog 48 #[.slice A n c] w λ e w'=>∃ ch,e=.returned (.chan (some ch))/\Gr w w'/\w.heap.size<=ch/\w'.heap[ch]?=some (.chan n (pks L) true n 0 false):=by
 have cA:=hid (P13.All_is (c:=c) hm hn);have hlen:=hm.1;clear hm;go_enter func48,ntmps48;go_wp2_with fail;refine cA.out.mono ?_;rintro e w1 ⟨⟨B,d,rfl,hnd,hd,hM,-⟩,g1⟩;have HM:=hid hM;have G1:=hid g1;clear hM g1 cA;have hmk:=mk_ch n hn;go_upto_region 4 with fail;have HC:=hid (heap_alloc_new w1 (.chan n #[] false 0 0 false));have hcz:w1.heap.size<(w1.alloc (.chan n #[] false 0 0 false)).heap.size:=by rw [zsA];omega
 have HG:=hid ((zr w1).al (.chan n #[] false 0 0 false));generalize w1.alloc (.chan n #[] false 0 0 false)=W2 at HC HG hcz ⊢
 go_loopw [14] (λ i wr=>∃ j:Nat,j<=n/\i=.int .i64 (j:Int)/\Hid (Gr w1 wr)/\Hid (wr.heap[w1.heap.size]?=some (.chan n (pks (L.take j)) false j 0 false))) (λ i _=>n-(intOf i).toNat)
 case atStart=>exact⟨0,Nat.zero_le _,rfl,HG,HC⟩
 case round =>
  obtain⟨j,hj,rfl,GW,HB⟩:=hrel;by_cases hjn:j<n
  . have j0:(0:Int)<=(j:Int):=by omega
    have j1:(j:Int)<(n:Int):=by omega
    obtain⟨b,off,x,rfl,hb,hx,-,-,e0,e1⟩:=(HM.out.gr GW.out).at_ hjn;obtain⟨v,hv,rfl⟩:∃ v,L[j]?=some v/\rd v=x:=by rw [List.getElem?_map,Option.map_eq_some_iff] at hx;exact hx
    have BP:=hid (Blk.new wr #[.int .i64 (rd v).1,.int .i64 (rd v).2] 108);have GP:=hid (GW.out.al (.cells #[.int .i64 (rd v).1,.int .i64 (rd v).2] 108));have hsz:=Array.getElem?_eq_some_iff.1 HB.out;have HB2:=hid (show (wr.alloc (.cells #[.int .i64 (rd v).1,.int .i64 (rd v).2] 108)).heap[w1.heap.size]?=_ from (heap_alloc_old wr _ hsz.1).trans HB.out);go_upto_region 6 with fail;rename_i hK;generalize hV:wr.alloc (.cells #[.int .i64 (rd v).1,.int .i64 (rd v).2] 108)=V at BP GP HB2 ⊢;clear hV e0 e1;obtain⟨q0,-⟩:=BP.out.at_ (k:=0) (v:=.int .i64 (rd v).1) rfl;obtain⟨q1,-⟩:=BP.out.at_ (k:=1) (v:=.int .i64 (rd v).2) rfl;refine Runs.region ?_;show Runs _ _ _ [0,1,2] _ _;refine Runs.val 0 (v:=.chan (some w1.heap.size)) (w':=V) ?_;refine Runs.val 1 (v:=pk (rd v)) (w':=V) ?_;refine Runs.snd 2 (c:=w1.heap.size) (v:=pk (rd v)) (z:=.tuple #[]) (w₁:=V) HB2.out (by rw [pks_size,List.length_take];omega) ?_;have HB3:=hid (heap_setChan V w1.heap.size n ((pks (L.take j)).push (pk (rd v))) false (j+1) 0 false (zal HB2.out));have GP3:=hid (below_setChan GP.out (Nat.le_refl _) n ((pks (L.take j)).push (pk (rd v))) false (j+1) 0 false);rw [pks_snoc,show L.take j++[v]=L.take (j+1) from by rw [List.take_add_one,hv];rfl] at HB3 GP3 ⊢;refine Runs.of_wp (hK _ _ ?_);clear hK q0 q1 HB2 GP BP;generalize V.setChan w1.heap.size n (pks (L.take (j+1))) false (j+1) 0 false=V3 at HB3 GP3 ⊢;go_wp2_with fail;go_roundw
    case rel=>exact⟨j+1,by omega,by go_num,GP3,HB3⟩
    case measure=>simp [intOf];omega
  . obtain rfl:j=n:=by omega
    have hcl:=λ ats ty=>run_close_open (P:=prog) (w:=wr) ats ty HB.out
    go_upto_region 9 with fail;have hlt:=(zal HB.out);have HB3:=hid (heap_setChan wr w1.heap.size j (pks (L.take j)) true j 0 false hlt);have GP3:=hid (below_setChan GW.out (Nat.le_refl _) j (pks (L.take j)) true j 0 false);rw [show L.take j=L from List.take_of_length_le (by omega)] at HB3 GP3 ⊢;generalize hV:({ heap:=wr.heap.setIfInBounds w1.heap.size (.chan j (pks L) true j 0 false),tape:=wr.tape,drawn:=wr.drawn,os:=wr.os,output:=wr.output }:World)=V;rw [show wr.setChan w1.heap.size j (pks L) true j 0 false=V from hV] at HB3 GP3;clear hV hcl HB GW;go_wp2_with fail;go_ret;exact⟨_,rfl,G1.out.trans GP3.out,G1.out.size,HB3.out⟩
end P17
end
section
namespace P17
open P16
open P13 (rd pk okP rd_ok)
def OneR (ω:Wv) (p:P13.Pk) (ψ:Wv) (ev:List T3):Prop :=
 (p.1=0/\∃ x,StepM ω p.2 ψ ev x)\/(p.1=1/\ev=[]/\∃ τ y,TickM ω p.2 τ y/\((y=0/\ψ=τ)\/(y≠0/\ψ=ω)))
theorem okP_b {p:P13.Pk} (h:okP p):B64 p.2:=by
 rcases h with h | h<;>exact⟨by omega,by omega⟩
theorem goOn_is (hM:Mach) {w:World} {r:WR} {ω:Wv} {p:P13.Pk} (hg:P15.Glob w) (h:WIs w r ω) (hp:okP p) :
 Calls prog 49 #[r.v,pk p] w λ e w'=>(∃ (s:WR) (ψ:Wv) (A:Option Addr) (n c:Nat) (ev:List T3),e=.returned (.tuple #[s.v,.slice A n c])/\OneR ω p ψ ev/\((s=r/\ψ=ω)\/WNew w.heap.size w' s ψ)/\ENew w.heap.size w' A n ev)/\Gr w w':=by
 obtain⟨k,m⟩:=p;have hW:=hid h;have hb:=okP_b hp;rcases hp with ⟨hk,-⟩ | ⟨hk,-⟩
 . dsimp only at hk hb
   subst hk;clear h;have BW:=((Blk.new w r.a 29).al (.cells #[.int .i64 0,.int .i64 m] 108)).al (.cells #[.int .i64 0,.slice none 0 0,.slice none 0 0,.slice none 0 0,.slice none 0 0,.int .i64 0] 29);have BP:=(Blk.new (w.alloc (.cells r.a 29)) #[.int .i64 0,.int .i64 m] 108).al (.cells #[.int .i64 0,.slice none 0 0,.slice none 0 0,.slice none 0 0,.slice none 0 0,.int .i64 0] 29);have BZ:=Blk.new ((w.alloc (.cells r.a 29)).alloc (.cells #[.int .i64 0,.int .i64 m] 108)) #[.int .i64 0,.slice none 0 0,.slice none 0 0,.slice none 0 0,.slice none 0 0,.int .i64 0] 29;simp only [zsA] at BP BZ;have G0:=hid ((((zr w).al (.cells r.a 29)).al (.cells #[.int .i64 0,.int .i64 m] 108)).al (.cells #[.int .i64 0,.slice none 0 0,.slice none 0 0,.slice none 0 0,.slice none 0 0,.int .i64 0] 29));go_enter func49,ntmps49;go_upto_region 1 with fail;generalize ((w.alloc (.cells r.a 29)).alloc (.cells #[.int .i64 0,.int .i64 m] 108)).alloc (.cells #[.int .i64 0,.slice none 0 0,.slice none 0 0,.slice none 0 0,.slice none 0 0,.int .i64 0] 29)=V at BW BP BZ G0 ⊢;generalize hgw:w.heap.size=gw at BW BP BZ ⊢;have HB:=hid (show w.heap.size<=gw by omega);have HG:=hid (show w.heap.size<=gw+1+1 by omega);clear hgw;have ltw:=BW.lt;have ltp:=BP.lt;have ltz:=BZ.lt;have HL:=hid (show gw+1+1<V.heap.size from ltz);obtain⟨⟨b0,bz0⟩,⟨b1,bz1⟩,⟨b2,bz2⟩,⟨b3,bz3⟩,⟨b4,bz4⟩,⟨b5,bz5⟩⟩:=at6z BW;obtain⟨p0,pz0⟩:=BP.at_ (k:=0) (v:=.int .i64 0) rfl;obtain⟨p1,pz1⟩:=BP.at_ (k:=1) (v:=.int .i64 m) rfl;have WI:=hid (hW.out.gr G0.out);have cS:=hid (hM.step V r ω m (hg.gr G0.out) WI.out hb);go_wp2_with fail;refine cS.out.mono ?_;rintro e w2 ⟨⟨s,ψ,A,n,c,ev,x,rfl,hS,hWn,hE,hnc,hcm⟩,g2⟩;replace BZ:=(BZ.gr g2).al (.cells s.a 29);have BS:=Blk.new w2 s.a 29;have GW:=hid ((G0.out.trans g2).al (.cells s.a 29));have NW:=hid (hWn.gr ((zr w2).al (.cells s.a 29)));have NE:=hid (hE.gr ((zr w2).al (.cells s.a 29)));have k2:=g2.size;clear b0 bz0 b1 bz1 b2 bz2 b3 bz3 b4 bz4 b5 bz5 p0 pz0 p1 pz1 ltw ltp ltz;clear cS WI hE hWn g2 BW BP;go_upto_region 3 with fail;generalize w2.alloc (.cells s.a 29)=V2 at BZ BS GW NW NE ⊢;generalize w2.heap.size=gs at BS k2 ⊢;have ltz:=BZ.lt;have lts:=BS.lt;have hne:gs≠gw+1+1:=by have:=HL.out;omega
   obtain⟨⟨b0,bz0⟩,⟨b1,bz1⟩,⟨b2,bz2⟩,⟨b3,bz3⟩,⟨b4,bz4⟩,⟨b5,bz5⟩⟩:=at6z BS;obtain⟨⟨z0,zz0⟩,⟨z1,zz1⟩,⟨z2,zz2⟩,⟨z3,zz3⟩,⟨z4,zz4⟩,⟨z5,zz5⟩⟩:=at6z BZ;have WF:=hid (put6_blk BZ rfl (.int .i64 s.now) (.slice s.p.A s.p.n s.p.c) (.slice s.c.A s.c.n s.c.c) (.slice s.m.A s.m.n s.m.c) (.slice s.t.A s.t.n s.t.c) (.int .i64 s.stop));have GF:=hid (put6_gr (x0:=.int .i64 s.now) (x1:=.slice s.p.A s.p.n s.p.c) (x2:=.slice s.c.A s.c.n s.c.c) (x3:=.slice s.m.A s.m.n s.m.c) (x4:=.slice s.t.A s.t.n s.t.c) (x5:=.int .i64 s.stop) (b:=gw+1+1) GW.out HG.out);have NF:=hid ((NW.out.to (FromB.put6 (b:=gw+1+1) HL.out (.int .i64 s.now) (.slice s.p.A s.p.n s.p.c) (.slice s.c.A s.c.n s.c.c) (.slice s.m.A s.m.n s.m.c) (.slice s.t.A s.t.n s.t.c) (.int .i64 s.stop))).low (show w.heap.size<=V.heap.size by have:=HL.out;have:=HB.out;omega));have EF:=hid ((NE.out.to (FromB.put6 (b:=gw+1+1) HL.out (.int .i64 s.now) (.slice s.p.A s.p.n s.p.c) (.slice s.c.A s.c.n s.c.c) (.slice s.m.A s.m.n s.m.c) (.slice s.t.A s.t.n s.t.c) (.int .i64 s.stop))).low (show w.heap.size<=V.heap.size by have:=HL.out;have:=HB.out;omega));go_wp2_with fail;generalize (((((V2.setCell ⟨gw+1+1,0,none⟩ (.int .i64 s.now)).setCell ⟨gw+1+1,1,none⟩ (.slice s.p.A s.p.n s.p.c)).setCell ⟨gw+1+1,2,none⟩ (.slice s.c.A s.c.n s.c.c)).setCell ⟨gw+1+1,3,none⟩ (.slice s.m.A s.m.n s.m.c)).setCell ⟨gw+1+1,4,none⟩ (.slice s.t.A s.t.n s.t.c)).setCell ⟨gw+1+1,5,none⟩ (.int .i64 s.stop)=Wf at WF GF NF EF ⊢;clear b0 bz0 z0 zz0 b1 bz1 z1 zz1 b2 bz2 z2 zz2 b3 bz3 z3 zz3 b4 bz4 z4 zz4 b5 bz5 z5 zz5 BZ BS ltz lts;obtain⟨f0,f1,f2,f3,f4,f5⟩:=at6 WF.out;exact bodyPost_ret (v:=.tuple #[s.v,.slice A n c]) (by simp [results,results49,go_sem,f0,f1,f2,f3,f4,f5,WR.v]) rfl ⟨⟨s,ψ,A,n,c,ev,rfl,.inl ⟨rfl,x,hS⟩,.inr NF.out,EF.out⟩,GF.out⟩
 . dsimp only at hk hb
   subst hk;clear h;have BW:=((Blk.new w r.a 29).al (.cells #[.int .i64 1,.int .i64 m] 108)).al (.cells #[.int .i64 0,.slice none 0 0,.slice none 0 0,.slice none 0 0,.slice none 0 0,.int .i64 0] 29);have BP:=(Blk.new (w.alloc (.cells r.a 29)) #[.int .i64 1,.int .i64 m] 108).al (.cells #[.int .i64 0,.slice none 0 0,.slice none 0 0,.slice none 0 0,.slice none 0 0,.int .i64 0] 29);have BZ:=Blk.new ((w.alloc (.cells r.a 29)).alloc (.cells #[.int .i64 1,.int .i64 m] 108)) #[.int .i64 0,.slice none 0 0,.slice none 0 0,.slice none 0 0,.slice none 0 0,.int .i64 0] 29;simp only [zsA] at BP BZ;have G0:=hid ((((zr w).al (.cells r.a 29)).al (.cells #[.int .i64 1,.int .i64 m] 108)).al (.cells #[.int .i64 0,.slice none 0 0,.slice none 0 0,.slice none 0 0,.slice none 0 0,.int .i64 0] 29));go_enter func49,ntmps49;go_upto_region 1 with fail;generalize ((w.alloc (.cells r.a 29)).alloc (.cells #[.int .i64 1,.int .i64 m] 108)).alloc (.cells #[.int .i64 0,.slice none 0 0,.slice none 0 0,.slice none 0 0,.slice none 0 0,.int .i64 0] 29)=V at BW BP BZ G0 ⊢;generalize hgw:w.heap.size=gw at BW BP BZ ⊢;have HB:=hid (show w.heap.size<=gw by omega);have HG:=hid (show w.heap.size<=gw+1+1 by omega);clear hgw;have ltw:=BW.lt;have ltp:=BP.lt;have ltz:=BZ.lt;have HL:=hid (show gw+1+1<V.heap.size from ltz);obtain⟨⟨b0,bz0⟩,⟨b1,bz1⟩,⟨b2,bz2⟩,⟨b3,bz3⟩,⟨b4,bz4⟩,⟨b5,bz5⟩⟩:=at6z BW;obtain⟨p0,pz0⟩:=BP.at_ (k:=0) (v:=.int .i64 1) rfl;obtain⟨p1,pz1⟩:=BP.at_ (k:=1) (v:=.int .i64 m) rfl;have WI:=hid (hW.out.gr G0.out);have cS:=hid (hM.tick V r ω m (hg.gr G0.out) WI.out hb);go_wp2_with fail;refine cS.out.mono ?_;rintro e w2 ⟨⟨s,ψ,x,rfl,hS,hWn⟩,g2⟩;replace BZ:=(BZ.gr g2).al (.cells s.a 29);replace BW:=(BW.gr g2).al (.cells s.a 29);have BS:=Blk.new w2 s.a 29;have GW:=hid ((G0.out.trans g2).al (.cells s.a 29));have NW:=hid (hWn.gr ((zr w2).al (.cells s.a 29)));have k2:=g2.size;clear b0 bz0 b1 bz1 b2 bz2 b3 bz3 b4 bz4 b5 bz5 p0 pz0 p1 pz1 ltw ltp ltz;clear cS WI hWn g2 BP;go_upto_region 5 with fail;generalize w2.alloc (.cells s.a 29)=V2 at BZ BW BS GW NW ⊢;generalize w2.heap.size=gs at BS k2 ⊢;have ltz:=BZ.lt;have lts:=BS.lt;have ltw:=BW.lt;have hne:gs≠gw+1+1:=by have:=HL.out;omega
   have hnw:gw≠gw+1+1:=by omega
   obtain⟨⟨z0,zz0⟩,⟨z1,zz1⟩,⟨z2,zz2⟩,⟨z3,zz3⟩,⟨z4,zz4⟩,⟨z5,zz5⟩⟩:=at6z BZ;by_cases hx:x=0
   . subst hx
     obtain⟨⟨b0,bz0⟩,⟨b1,bz1⟩,⟨b2,bz2⟩,⟨b3,bz3⟩,⟨b4,bz4⟩,⟨b5,bz5⟩⟩:=at6z BS;have WF:=hid (put6_blk BZ rfl (.int .i64 s.now) (.slice s.p.A s.p.n s.p.c) (.slice s.c.A s.c.n s.c.c) (.slice s.m.A s.m.n s.m.c) (.slice s.t.A s.t.n s.t.c) (.int .i64 s.stop));have GF:=hid (put6_gr (x0:=.int .i64 s.now) (x1:=.slice s.p.A s.p.n s.p.c) (x2:=.slice s.c.A s.c.n s.c.c) (x3:=.slice s.m.A s.m.n s.m.c) (x4:=.slice s.t.A s.t.n s.t.c) (x5:=.int .i64 s.stop) (b:=gw+1+1) GW.out HG.out);have NF:=hid ((NW.out.to (FromB.put6 (b:=gw+1+1) HL.out (.int .i64 s.now) (.slice s.p.A s.p.n s.p.c) (.slice s.c.A s.c.n s.c.c) (.slice s.m.A s.m.n s.m.c) (.slice s.t.A s.t.n s.t.c) (.int .i64 s.stop))).low (show w.heap.size<=V.heap.size by have:=HL.out;have:=HB.out;omega));go_wp2_with fail;generalize (((((V2.setCell ⟨gw+1+1,0,none⟩ (.int .i64 s.now)).setCell ⟨gw+1+1,1,none⟩ (.slice s.p.A s.p.n s.p.c)).setCell ⟨gw+1+1,2,none⟩ (.slice s.c.A s.c.n s.c.c)).setCell ⟨gw+1+1,3,none⟩ (.slice s.m.A s.m.n s.m.c)).setCell ⟨gw+1+1,4,none⟩ (.slice s.t.A s.t.n s.t.c)).setCell ⟨gw+1+1,5,none⟩ (.int .i64 s.stop)=Wf at WF GF NF ⊢;clear b0 bz0 z0 zz0 b1 bz1 z1 zz1 b2 bz2 z2 zz2 b3 bz3 z3 zz3 b4 bz4 z4 zz4 b5 bz5 z5 zz5 BZ BS BW ltz lts ltw;obtain⟨f0,f1,f2,f3,f4,f5⟩:=at6 WF.out;exact bodyPost_ret (v:=.tuple #[s.v,.slice none 0 0]) (by simp [results,results49,go_sem,f0,f1,f2,f3,f4,f5,WR.v]) rfl ⟨⟨s,ψ,none,0,0,[],rfl,.inr ⟨rfl,rfl,ψ,0,hS,.inl ⟨rfl,rfl⟩⟩,.inr NF.out,ENew.nil⟩,GF.out⟩
   . have hxb:(x != 0)=true:=by simpa using hx
     obtain⟨⟨b0,bz0⟩,⟨b1,bz1⟩,⟨b2,bz2⟩,⟨b3,bz3⟩,⟨b4,bz4⟩,⟨b5,bz5⟩⟩:=at6z BW;have WF:=hid (put6_blk BZ rfl (.int .i64 r.now) (.slice r.p.A r.p.n r.p.c) (.slice r.c.A r.c.n r.c.c) (.slice r.m.A r.m.n r.m.c) (.slice r.t.A r.t.n r.t.c) (.int .i64 r.stop));have GF:=hid (put6_gr (x0:=.int .i64 r.now) (x1:=.slice r.p.A r.p.n r.p.c) (x2:=.slice r.c.A r.c.n r.c.c) (x3:=.slice r.m.A r.m.n r.m.c) (x4:=.slice r.t.A r.t.n r.t.c) (x5:=.int .i64 r.stop) (b:=gw+1+1) GW.out HG.out);go_wp2_with fail;generalize (((((V2.setCell ⟨gw+1+1,0,none⟩ (.int .i64 r.now)).setCell ⟨gw+1+1,1,none⟩ (.slice r.p.A r.p.n r.p.c)).setCell ⟨gw+1+1,2,none⟩ (.slice r.c.A r.c.n r.c.c)).setCell ⟨gw+1+1,3,none⟩ (.slice r.m.A r.m.n r.m.c)).setCell ⟨gw+1+1,4,none⟩ (.slice r.t.A r.t.n r.t.c)).setCell ⟨gw+1+1,5,none⟩ (.int .i64 r.stop)=Wf at WF GF ⊢;clear b0 bz0 z0 zz0 b1 bz1 z1 zz1 b2 bz2 z2 zz2 b3 bz3 z3 zz3 b4 bz4 z4 zz4 b5 bz5 z5 zz5 BZ BS BW ltz lts ltw;obtain⟨f0,f1,f2,f3,f4,f5⟩:=at6 WF.out;exact bodyPost_ret (v:=.tuple #[r.v,.slice none 0 0]) (by simp [results,results49,go_sem,f0,f1,f2,f3,f4,f5,WR.v]) rfl ⟨⟨r,ω,none,0,0,[],rfl,.inr ⟨rfl,rfl,ψ,x,hS,.inr ⟨hx,rfl⟩⟩,.inl ⟨rfl,rfl⟩,ENew.nil⟩,GF.out⟩
end P17
end
section
namespace P17
open P16
def Off (S:Nat->Prop) (W W':World):Prop:=W.heap.size<=W'.heap.size/\∀ k,k<W.heap.size->¬ S k->W'.heap[k]?=W.heap[k]?
def WOff (S:Nat->Prop) (W:World) (r:WR) (ω:Wv):Prop:=∀ W',Off S W W'->WIs W' r ω
section
variable {S S':Nat->Prop} {W W' W'':World} {r:WR} {ω:Wv} {B:Nat}
theorem Off.refl:Off S W W:=⟨Nat.le_refl _,λ _ _ _=>rfl⟩
theorem Off.trans (h:Off S W W') (k:Off S W' W''):Off S W W'' :=
 ⟨Nat.le_trans h.1 k.1,λ j h1 h2=>(k.2 j (zlt h1 h.1) h2).trans (h.2 j h1 h2)⟩
theorem Off.join (h:Off S W W') (k:Off S' W' W'') (hs:∀ j,j<W.heap.size->S' j->S j):Off S W W'' :=
 ⟨Nat.le_trans h.1 k.1,λ j h1 h2=>(k.2 j (zlt h1 h.1) λ q=>h2 (hs j h1 q)).trans (h.2 j h1 h2)⟩
theorem Off.mono (h:Off S W W') (hs:∀ k,k<W.heap.size->S k->S' k):Off S' W W':=⟨h.1,λ k h1 h2=>h.2 k h1 λ q=>h2 (hs k h1 q)⟩
theorem Off.gr (g:Gr W W'):Off S W W':=⟨g.size,λ k h _=>g.block k h⟩
theorem Off.st {p:Addr} (hp:S p.block) (u:Value):Off S W (W.setCell p u) :=
 ⟨by simp [World.setCell],λ k h1 h2=>Below.heap_setCell W p u k (λ e=>h2 (e▸hp))⟩
theorem off6 {b:Nat} (hb:S b) (x0 x1 x2 x3 x4 x5:Value):Off S W ((((((W.setCell ⟨b,0,none⟩ x0).setCell ⟨b,1,none⟩ x1).setCell ⟨b,2,none⟩ x2).setCell ⟨b,3,none⟩ x3).setCell ⟨b,4,none⟩ x4).setCell ⟨b,5,none⟩ x5) :=
 ((((((Off.st (p:=⟨b,0,none⟩) hb x0).trans (Off.st (p:=⟨b,1,none⟩) hb x1)).trans (Off.st (p:=⟨b,2,none⟩) hb x2)).trans (Off.st (p:=⟨b,3,none⟩) hb x3)).trans (Off.st (p:=⟨b,4,none⟩) hb x4)).trans (Off.st (p:=⟨b,5,none⟩) hb x5))
theorem Off.ch {c:Nat} (hc:S c) (cap:Nat) (buf:Array Value) (cl:Bool) (s r:Nat) (tm:Bool):Off S W (W.setChan c cap buf cl s r tm) :=
 ⟨by simp [World.setChan],λ k h1 h2=>by
   have hk:c≠k:=by rintro rfl;exact h2 hc
   simp only [World.setChan];rw [Array.getElem?_setIfInBounds_ne hk]⟩
theorem Off.gb {R:Option Nat} (hg:W.grownBy W' R) (hr:∀ k,R=some k->S k):Off S W W' :=
 ⟨hg.size,λ k h1 h2=>hg.block k h1 (λ e=>h2 (hr k e.symm))⟩
theorem Off.fromB (h:Off S W W') (hs:∀ k,S k->k<B):FromB B W W':=⟨h.1,λ k h1 h2=>h.2 k h2 λ q=>by have:=hs k q;omega⟩
theorem WOff.is (h:WOff S W r ω):WIs W r ω:=h W Off.refl
theorem WOff.to (h:WOff S W r ω) (g:Off S W W'):WOff S W' r ω:=λ _ k=>h _ (g.trans k)
theorem WOff.gr (h:WOff S W r ω) (g:Gr W W'):WOff S W' r ω:=h.to (Off.gr g)
theorem WOff.sub (h:WOff S W r ω) (hs:∀ k,k<W.heap.size->S' k->S k):WOff S' W r ω:=λ _ k=>h _ (k.mono hs)
theorem WOff.new (h:WNew B W r ω) (hs:∀ k,S k->k<B):WOff S W r ω:=λ _ k=>h _ (k.fromB hs)
theorem blk_off {b:Nat} {cs:Array Value} {t:TypeId} (h:Blk W b cs t) (g:Off S W W') (hb:¬ S b):Blk W' b cs t:=(g.2 b h.lt hb).trans h
theorem obj_off {b:Nat} {o:Obj} (h:W.heap[b]?=some o) (g:Off S W W') (hb:¬ S b):W'.heap[b]?=some o:=(g.2 b (zal h) hb).trans h
theorem own_off {base q n:Nat} {e:TypeId} {v:Value} {xs:List Value} (h:W.ownsRow base e q v n xs) (g:Off S W W') (hb:∀ k,v.ownBlock=some k->¬ S k):W'.ownsRow base e q v n xs:=by
 refine⟨h.1,?_⟩;rcases h.2 with ⟨hv,h0⟩ | ⟨g',cap,cur,hv,hbg,hg,hnc,hcm,hs,ht⟩
 . exact .inl ⟨hv,h0⟩
 . subst hv
   refine .inr ⟨g',cap,cur,rfl,hbg,obj_off hg g (hb g' rfl),hnc,hcm,hs,ht⟩
end
theorem own_low {w:World} {base b2 q n:Nat} {e:TypeId} {v:Value} {xs:List Value} (h:w.ownsRow base e q v n xs) (hb:b2<=base):w.ownsRow b2 e q v n xs:=by
 refine⟨h.1,?_⟩;rcases h.2 with ⟨hv,h0⟩ | ⟨g',cap,cur,hv,hbg,hg,hnc,hcm,hs,ht⟩
 . exact .inl ⟨hv,h0⟩
 . exact .inr ⟨g',cap,cur,hv,Nat.le_trans hb hbg,hg,hnc,hcm,hs,ht⟩
abbrev Hp:=Int×Int×T3
def hpV (x:Hp):List Value:=[.int .i64 x.1,.int .i64 x.2.1,.int .i64 x.2.2.1,.int .i64 x.2.2.2.1,.int .i64 x.2.2.2.2]
theorem hpV_len (x:Hp):(hpV x).length=5:=rfl
abbrev HOwn (w:World) (base:Nat) (v:Value) (l:List Hp):Prop:=w.ownsRow base 77 5 v l.length (l.flatMap hpV)
theorem infoHp:(prog.info? 77).map (λ i=>(i.zero,i.size,i.bytes))=some (some (.agg #[.int .i64 0,.int .i64 0,.int .i64 0,.int .i64 0,.int .i64 0]),5,40):=by kernel_rfl
theorem HOwn.nil (w:World) (base:Nat):HOwn w base (.slice none 0 0) []:=World.ownsRow_nil w base _ 5
theorem append_where {P:Program} {w:World} {base:Nat} {t ty e:TypeId} {i:TypeInfo} {z:Value} {size bytes:Nat} (ht:P.underlying t=some (.slice e)) (hi:P.info? e=some i) (hz:i.zero=some z)
 (hsize:i.size=size) (hby:i.bytes=bytes) {v:Value} {n:Nat} {xs:List Value} (hown:w.ownsRow base e size v n xs)
 {a:Addr} {m c:Nat} {news:List Value} (hl:news.length=m*size) (hnews:∀ j u,news[j]?=some u->w.cell? (a.add j)=some u) (h1:∀ u∈news,u.oneCell'=true) (hm:0<m)
 (h63:n+m<=maxLen) (hbytes:(n+m)*bytes<=140737488355328) {v':Value} {w':World} (hr:(Builtin.append_ #[t,t] ty #[v,.slice (some a) m c]).run P w=.ok v' w') :
 ∀ k,v'.ownBlock=some k->v.ownBlock=some k\/w.heap.size<=k:=by
 subst hsize;subst hby;have hsmall:n+m<=9223372036854775807:=by simp only [maxLen] at h63;omega
 rcases hown.2 with ⟨rfl,rfl⟩ | ⟨g,cap,cur,rfl,hbg,hg,hnc,hcm,hcs,htake⟩
 . have h:=run_append_nil (P:=P) w t ty e i z ht hi hz a m c news hl hnews hm (by omega) (by have hb:=hbytes;simp only [Nat.zero_add] at hb;omega)
   rw [h] at hr;cases hr;exact λ k hk=>.inr (by simp [Value.ownBlock] at hk;omega)
 . by_cases hroom:n+m<=cap
   . have hfit:n*i.size+news.length<=cur.size:=by rw [hl,hcs,<- Nat.add_mul];exact Nat.mul_le_mul_right _ hroom
     have h:=run_append_room (P:=P) w t ty e i ht hi g n cap cur hg a m c news hl hnews h1 hroom hfit;rw [h] at hr;cases hr;exact λ k hk=>.inl (by simpa [Value.ownBlock] using hk)
   . have holds:∀ j u,xs[j]?=some u->w.cell? ((⟨g,0,none⟩:Addr).add j)=some u:=hown.cells (g:=g) rfl
     have h:=run_append_grow (P:=P) w t ty e i z ht hi hz ⟨g,0,none⟩ n cap xs hown.1 holds a m c news hl hnews (by omega) (by omega) (growslice_fits (by omega) hbytes);rw [h] at hr;cases hr;exact λ k hk=>.inr (by simp [Value.ownBlock] at hk;omega)
theorem hpV_one (x:Hp):∀ u∈hpV x,u.oneCell'=true:=by
 intro u hu;simp [hpV] at hu;rcases hu with rfl | rfl | rfl | rfl | rfl<;>rfl
theorem hps_len:∀ l:List Hp,(l.flatMap hpV).length=l.length*5:=flat_len' (λ _=>rfl)
theorem run_append_hps {w:World} {base:Nat} {v:Value} {l N:List Hp} (h:HOwn w base v l) {ad:Addr} {m c:Nat} (hN:N.length=m) (hm:0<m) (hx:∀ j u,(N.flatMap hpV)[j]?=some u->w.cell? (ad.add j)=some u)
 (hl:l.length+m<=1000000) (hbase:base<=w.heap.size) (ty:TypeId) :
 ∃ v' w',(Builtin.append_ #[72,72] ty #[v,.slice (some ad) m c]).run prog w=.ok v' w'/\HOwn w' base v' (l++N)/\w.grownBy w' v.ownBlock/\∀ k,v'.ownBlock=some k->v.ownBlock=some k\/w.heap.size<=k:=by
 obtain⟨i,hi,hz,hs,hb⟩:=P13.info_parts infoHp;have hs:i.size=5:=hs;have hb:i.bytes=40:=hb;subst hN;have ho:∀ u∈N.flatMap hpV,u.oneCell'=true:=flat_one_of hpV_one N;obtain⟨v',w',hr,h2,h3,_⟩:=run_append_own (P:=prog) w base 72 ty 77 i (.agg #[.int .i64 0,.int .i64 0,.int .i64 0,.int .i64 0,.int .i64 0]) 5 40 underlying72 hi hz hs hb rfl (by decide) v _ _ h ad N.length c (N.flatMap hpV) (hps_len N) hx ho (by unfold maxLen;omega) (by omega) hbase;refine⟨v',w',hr,?_,h3,append_where underlying72 hi hz hs hb h (hps_len N) hx ho hm (by unfold maxLen;omega) (by omega) hr⟩;unfold HOwn;rw [List.length_append,List.flatMap_append];exact h2
theorem wp_append_hps {o:Oper} {a:Act} {K:Act->World->Prop} {Q:Exit->Act->World->Prop} {w:World} {base:Nat} {v:Value} {l:List Hp} {ad:Addr} {m c:Nat} (s x:Operand) (N:List Hp)
 (ho:o.op=.call { callee:=.builtin .append,args:=#[s,x],argTypes:=#[72,72] }) (hs:a.eval s=v) (hx:a.eval x=.slice (some ad) m c)
 (h:HOwn w base v l) (hN:N.length=m) (hm:0<m) (hc:∀ j u,(N.flatMap hpV)[j]?=some u->w.cell? (ad.add j)=some u) (hl:l.length+m<=1000000) (hbase:base<=w.heap.size)
 (hK:∀ v' w',HOwn w' base v' (l++N)->w.grownBy w' v.ownBlock->(∀ k,v'.ownBlock=some k->v.ownBlock=some k\/w.heap.size<=k)->K (a.put o.dst v') w'):o.wp prog a w K Q:=by
 obtain⟨v',w',h1,h2,h3,h4⟩:=run_append_hps (c:=c) h hN hm hc hl hbase o.type;unfold Oper.wp execOp;simp only [ho,resolve,invoke,builtin,Sem.run_bind,Sem.run_pure,Result.andThen_ok,List.map_toArray,List.map_cons,List.map_nil,hs,hx,h1];exact hK v' w' h2 h3 h4
theorem wpList_append_hps {ops:Array Oper} {rest:List Oper} {o:Oper} {a:Act} {Q:Exit->Act->World->Prop} {w:World} {base:Nat} {v:Value} {l:List Hp} {ad:Addr} {m c:Nat} (hgd:o.guard=none) (s x:Operand) (N:List Hp)
 (ho:o.op=.call { callee:=.builtin .append,args:=#[s,x],argTypes:=#[72,72] }) (hs:a.eval s=v) (hx:a.eval x=.slice (some ad) m c)
 (h:HOwn w base v l) (hN:N.length=m) (hm:0<m) (hc:∀ j u,(N.flatMap hpV)[j]?=some u->w.cell? (ad.add j)=some u) (hl:l.length+m<=1000000) (hbase:base<=w.heap.size)
 (hK:∀ v' w',HOwn w' base v' (l++N)->w.grownBy w' v.ownBlock->(∀ k,v'.ownBlock=some k->v.ownBlock=some k\/w.heap.size<=k)->wpList prog ops Q rest (a.put o.dst v') w'):wpList prog ops Q (o::rest) a w :=
 wpList_plain hgd λ _ hK'=>wp_append_hps s x N ho hs hx h hN hm hc hl hbase λ v' w' h1 h2 h3=>hK' _ _ (hK v' w' h1 h2 h3)
def happ (k:Nat) (now:Int) (ev:List T3):List Hp:=ev.map λ e=>((k:Int),now,e)
inductive GoW (ω:Wv):List P13.Pk->Wv->List Hp->Prop where
 | nil:GoW ω [] ω []
 | snoc {l:List P13.Pk} {χ ψ:Wv} {H:List Hp} {p:P13.Pk} {ev:List T3}:GoW ω l χ H->OneR χ p ψ ev->GoW ω (l++[p]) ψ (H++happ l.length ψ.now ev)
theorem OneR.few {ω ψ:Wv} {p:P13.Pk} {ev:List T3} (h:OneR ω p ψ ev):ev=[]\/∃ e,ev=[e]:=by
 rcases h with ⟨_,x,⟨_,_,q,_⟩ | ⟨_,_,_,q,_⟩ | ⟨_,_,_,_,_,q,_⟩⟩ | ⟨_,q,_⟩
 . exact .inl q
 . exact .inl q
 . rw [q];cases (P16.stp (mw ω) p.2.toNat).2 with
   | none=>exact .inl rfl
   | some e=>exact .inr ⟨e,rfl⟩
 . exact .inl q
theorem GoW.few {ω ψ:Wv} {l:List P13.Pk} {H:List Hp} (h:GoW ω l ψ H):H.length<=l.length:=by
 induction h with
 | nil=>exact Nat.le_refl _
 | snoc h1 h2 ih =>
  rcases h2.few with rfl | ⟨e,rfl⟩<;>simp [happ]<;>omega
end P17
end
section
namespace P17
open P16
abbrev HMem:=RMem hpV 5 (λ _:Hp=>True)
theorem hmem_cells {w:World} {A:Option Addr} {n k:Nat} {H:List Hp} (h:HMem w A n H) (hk:k<n) :
 ∃ b off x,A=some ⟨b,off,none⟩/\b<w.heap.size/\H[k]?=some x/\w.cell? ⟨b,off+k*5,none⟩=some (.int .i64 x.1)/\w.cell? ⟨b,off+k*5+1,none⟩=some (.int .i64 x.2.1)/\w.cell? ⟨b,off+k*5+2,none⟩=some (.int .i64 x.2.2.1) /\
  w.cell? ⟨b,off+k*5+3,none⟩=some (.int .i64 x.2.2.2.1)/\w.cell? ⟨b,off+k*5+4,none⟩=some (.int .i64 x.2.2.2.2):=by
 obtain⟨b,off,x,h1,h2,h3,-,h5⟩:=h.at_ hk;exact⟨b,off,x,h1,h2,h3,h5 0 _ rfl,h5 1 _ rfl,h5 2 _ rfl,h5 3 _ rfl,h5 4 _ rfl⟩
end P17
end
end Go.Proofs.YtainfijdhcehlaaGreatDoor
namespace Go.Proofs
open Go.Shelf
def Tryz.layMul_ren : Go.Shelf.Ren := ⟨fun | 212 => 79 | 263 => 118 | 264 => 119 | n => n, fun | 46 => 144 | 51 => 169 | 146 => 170 | 53 => 71 | 148 => 172 | n => n, fun | n => n⟩
theorem Tryz.layMul : Go.Proofs.Lays.n212 Tryz.prog Tryz.layMul_ren := {
  mixed := by kernel_rfl
  f212 := Tryz.func79.trans (congrArg some (by kernel_rfl))
  f263 := Tryz.func118.trans (congrArg some (by kernel_rfl))
  f264 := Tryz.func119.trans (congrArg some (by kernel_rfl))
  t46 := Tryz.underlying144
  a46 := Tryz.isAgg144
  z46 := Tryz.sizeOf144
  v46 := Tryz.zeroValue144
  t51 := Tryz.underlying169
  a51 := Tryz.isAgg169
  z51 := Tryz.sizeOf169
  v51 := Tryz.zeroValue169
  t53 := Tryz.underlying71
  a53 := Tryz.isAgg71
  z53 := Tryz.sizeOf71
  v53 := Tryz.zeroValue71
  t146 := Tryz.underlying170
  a146 := Tryz.isAgg170
  z146 := Tryz.sizeOf170
  v146 := Tryz.zeroValue170
  t148 := Tryz.underlying172
  a148 := Tryz.isAgg172
  z148 := Tryz.sizeOf172
  v148 := Tryz.zeroValue172 }
end Go.Proofs
namespace Go.Proofs.YtainfijdhcehlaaGreatDoor
open Lib (hid)
open Go.Proofs.Tryz
open Go.ChangeAt Go.ChangeShapes Go.Deep Go.Joins Go.RowKit Go.Shelf Go.WideShapes
section
namespace P17
def rep {α:Type} (k:Nat) (r:List α):List α:=(List.replicate k r).flatten
theorem rep_succ {α:Type} (k:Nat) (r:List α):rep (k+1) r=r++rep k r:=by unfold rep;rw [List.replicate_succ,List.flatten_cons]
theorem rep_len {α:Type} (k:Nat) (r:List α):(rep k r).length=k*r.length:=by
 induction k with
 | zero=>simp [rep]
 | succ k ih=>rw [rep_succ,List.length_append,ih,Nat.succ_mul];omega
theorem rep_mem {α:Type} {k:Nat} {r:List α} {x:α} (h:x∈rep k r):x∈r:=by
 induction k with
 | zero=>simp [rep] at h
 | succ k ih =>
  rw [rep_succ] at h;rcases List.mem_append.1 h with q | q
  . exact q
  . exact ih q
def rndL (n:Nat) (d:Int):List Int:=(List.range n).map (λ i:Nat=>(i:Int))++[-d]
theorem rndL_len (n:Nat) (d:Int):(rndL n d).length=n+1:=by unfold rndL;simp
theorem Mul_small {x y Q:Nat} (h:x*y=Q) (hQ:Q<1000000000) (hx:x<1000000) (hy:y<1000000) (w:World) :
 Calls prog 79 #[.int .u64 (x:Int),.int .u64 (y:Int)] w λ e w'=>e=.returned (.tuple #[.int .u64 0,.int .u64 (Q:Int)])/\Gr w w':=by
 refine (Any.bits_Mul Tryz.layMul x y (by omega) (by omega) w).mono ?_;rintro e w' ⟨rfl,rfl⟩;rw [h,Nat.div_eq_of_lt (by omega),Nat.mod_eq_of_lt (by omega)];exact⟨rfl,zr _⟩
theorem rep_add {α:Type} (i m:Nat) (r:List α):rep (i+m) r=rep i r++rep m r:=by unfold rep;rw [<- List.flatten_append,List.replicate_append_replicate]
theorem dbl {j k n p Q:Nat} (hp:p=j*n) (hQ:k*n=Q) (hj:1<=j) (hlt:p<Q):∃ i,1<=i/\i<=j/\j+i<=k/\i*n=Nat.min p (Q-p):=by
 have hjk:j<k:=Nat.lt_of_not_le λ q=>by have:=Nat.mul_le_mul_right n q;omega
 have e:(k-j)*n=Q-p:=by rw [Nat.sub_mul,hQ,hp]
 by_cases h:j<=k-j
 . have:=Nat.mul_le_mul_right n h
   exact⟨j,hj,Nat.le_refl _,by omega,by rw [<- hp];exact (Nat.min_eq_left (by omega)).symm⟩
 . have:=Nat.mul_le_mul_right n (Nat.le_of_not_le h)
   exact⟨k-j,by omega,by omega,by omega,by rw [e];exact (Nat.min_eq_right (by omega)).symm⟩
theorem rep_cell {w:World} {g j i:Nat} {l Z:List Int} {t:TypeId} (h:Blk w g ((rep j l++Z).map (Value.int .i64 ·)).toArray t) (hij:i<=j) {q:Nat} {v:Value}
 (hv:((rep i l).map (Value.int .i64 ·))[q]?=some v):w.cell? ⟨g,0+q,none⟩=some v:=by
 rw [Nat.zero_add];refine (h.at_ (k:=q) (v:=v) ?_).1;obtain⟨m,rfl⟩:∃ m,j=i+m:=⟨j-i,by omega⟩;have hq:=(zgl hv);rw [rep_add,List.map_append,List.map_append,List.append_assoc];simp only [List.getElem?_toArray];rw [List.getElem?_append_left hq];exact hv
def zs (k:Nat):List Int:=List.replicate k 0
theorem zs_len (k:Nat):(zs k).length=k:=by unfold zs;simp
theorem made_zero (Q:Nat):madeCells (Value.int .i64 0).cells (Q*1)=((zs Q).map (Value.int .i64 ·)).toArray:=by
 rw [Nat.mul_one];unfold madeCells zs;apply Array.ext
 . simp
 . intro i h1 h2
   simp [Nat.mod_one,Value.cells]
theorem splice_first {n Q:Nat} {l:List Int} (h:l.length=n) (hQ:n<=Q):splice ((zs Q).map (Value.int .i64 ·)) 0 (l.map (Value.int .i64 ·))=(rep 1 l++zs (Q-n)).map (Value.int .i64 ·):=by
 unfold splice zs rep;simp [h]
theorem splice_next {j i n p Q:Nat} {l:List Int} (h:l.length=n) (hp:p=j*n) (hi:i*n<=Q-p) :
 splice ((rep j l++zs (Q-p)).map (Value.int .i64 ·)) p ((rep i l).map (Value.int .i64 ·))=(rep (j+i) l++zs (Q-(p+i*n))).map (Value.int .i64 ·):=by
 unfold splice;rw [rep_add,List.map_append,List.map_append,List.map_append];have e1:((rep j l).map (Value.int .i64 ·)).length=p:=by rw [List.length_map,rep_len,h,hp]
 have e2:((rep i l).map (Value.int .i64 ·)).length=i*n:=by rw [List.length_map,rep_len,h]
 rw [List.take_left' e1,e2,List.drop_append,e1,List.drop_of_length_le (by omega),List.nil_append,List.append_assoc];congr 2;unfold zs;rw [<- List.map_drop,List.drop_replicate];congr 2;omega
section
variable {w:World} {A:Option Addr} {n c k:Nat} {l:List Int}
theorem Repeat_is (hm:IMem w A n l) (hn:n<=100000) (hk1:1<=k) (hk:k<=100000) (hQ0:k*n<=100000) :
 Calls prog 51 #[.slice A n c,.int .i64 (k:Int)] w λ e w' =>
  (∃ Q g,Q=k*n/\e=.returned (.slice (some ⟨g,0,none⟩) Q Q)/\w.heap.size<=g/\Blk w' g ((rep k l).map (.int .i64 ·)).toArray 3)/\Gr w w':=by
 obtain⟨Q,hQ⟩:∃ Q,n*k=Q:=⟨_,rfl⟩;have hQk:k*n=Q:=by rw [Nat.mul_comm];exact hQ
 have hQ1:Q<=100000:=by omega
 have cM:=λ W=>hid (Mul_small hQ (by omega) (by omega) (by omega) W)
 have hnQ:n<=Q:=by rw [<- hQk];exact Nat.le_mul_of_pos_left n hk1
 have u1:IntKind.u64.wrap (n:Int)=(n:Int):=by rw [IntKind.wrap_u64];omega
 have u2:IntKind.u64.wrap (k:Int)=(k:Int):=by rw [IntKind.wrap_u64];omega
 have u3:IntKind.i64.wrap (Q:Int)=(Q:Int):=wrap_id (by omega) (by omega);have u4:¬ (9223372036854775807:Int)<(Q:Int):=by omega
 have u5:¬ (k:Int)<0:=by omega
 obtain⟨i0,hi0,hz0,hz1,hz2⟩:=P13.info_parts infoInt;have hmk:=λ W=>run_makeN (P:=prog) 23 3 i0 _ underlying23 hi0 hz0 Q (by rw [hz2];show 8*Q<=_;omega) (by omega) W
 rw [hz1] at hmk;obtain⟨M,hM⟩:∃ M,madeCells (Value.int .i64 0).cells (Q*1)=M:=⟨_,rfl⟩;have hMz:M=((zs Q).map (Value.int .i64 ·)).toArray:=by
  rw [<- hM];exact made_zero Q
 rw [hM] at hmk;have HMz:=hid hMz;have hsz:=hid (show (prog.info? 3).map (·.size)=some 1 by rw [hi0];simp [hz1]);have HI:=hid hm;have HQ:=hid hQ;have HQK:=hid hQk;clear hm hi0 hz0 hz1 hz2 hM hMz hQ hQk hQ0;go_enter func51,ntmps51;go_wp2_with fail;refine (cM _).out.mono ?_;rintro e w1 ⟨rfl,g1⟩;go_wp2_with (with_reducible refine wpList_copy_splice rfl (.tmp 31) (.tmp 32) 23 23 rfl 3 underlying23 hsz.out _ _ _ _ _ _ rfl rfl w1.heap.size 0 ((zs Q).map (Value.int .i64 ·)) 3 ?hg (l.map (Value.int .i64 ·)) ?cn ?cp ?cf ?c1 w1.heap.size w1 ?cb ?cB ?_)
 case hg=>rw [HMz.out];exact heap_alloc_new w1 _
 case cn=>rw [List.length_map,HI.out.1];exact (Nat.min_eq_left hnQ).symm
 case cp =>
  intro h0;have h0:0<n:=by have:=HI.out.1;first | omega | (rw [List.length_map] at h0;omega)
  obtain⟨b,off,e,hb,hx⟩:=HI.out.2.2 h0;refine⟨_,e,λ j x hv=>?_⟩;rw [add_plain];exact (((zr w1).al _).cell (p:=⟨b,off+j,none⟩) (zlt hb g1.size)).trans ((g1.cell (p:=⟨b,off+j,none⟩) hb).trans (hx j x hv))
 case cf=>rw [List.length_map,List.length_map,HI.out.1,zs_len];omega
 case c1=>intro v hv;obtain⟨x,_,rfl⟩:=List.mem_map.1 hv;rfl
 case cb=>exact (zr w1).al _
 case cB=>exact Nat.le_refl _
 intro w2 HG hB2;have hl:=HI.out.1;have BX:Hid (Blk w2 w1.heap.size ((rep 1 l++zs (Q-n)).map (Value.int .i64 ·)).toArray 3):=hid (by have h:=HG.out;rw [splice_first hl hnQ] at h;exact h);have G2:=hid (g1.trans hB2);have hgs:=g1.size;rw [hl];clear hB2 HG HMz hmk M;generalize w1.heap.size=g at *;go_wp2_with fail
 go_loopw [8] (λ pv wr=>∃ j p:Nat,pv=.int .i64 (p:Int)/\1<=j/\p<=Q/\Hid (p=j*n)/\Hid (Blk wr g ((rep j l++zs (Q-p)).map (Value.int .i64 ·)).toArray 3)/\Hid (Gr w wr)) (λ pv _=>Q-(intOf pv).toNat)
 case atStart=>exact⟨1,n,rfl,Nat.le_refl _,hnQ,hid (by omega),BX,G2⟩
 case round =>
  obtain⟨j,p,rfl,hj,hpQ,HP,HB,HGW⟩:=hrel;by_cases hlt:p<Q
  . obtain⟨i,hi1,hij,hjk,hin⟩:=dbl HP.out HQK.out hj hlt
    obtain⟨s,hs⟩:∃ s,i*n=s:=⟨_,rfl⟩;obtain⟨t,ht⟩:∃ t,p+s=t:=⟨_,rfl⟩;have hn0:0<n:=Nat.pos_of_ne_zero λ q=>by have:=HQK.out;rw [q,Nat.mul_zero] at this;omega
    have HS1:=hid (show 1<=s by rw [<- hs];exact Nat.mul_pos (by omega) hn0);have hmin:i*n<=Q-p:=by rw [hin];exact Nat.min_le_right _ _
    have HTQ:=hid (show t<=Q by omega);clear hmin;have u6:IntKind.i64.wrap ((p:Int)+(s:Int))=(t:Int):=by have:=HTQ.out;rw [wrap_id (by omega) (by omega)];omega
    have U6:=hid u6;have HS:=hid hs;have HT:=hid ht;clear hs ht;have p0:(0:Int)<=(p:Int):=by omega
    have p1:(p:Int)<(Q:Int):=by omega
    go_wp2_with fail;refine wp_region_held_drew (S:=(λ _=>True)) (by kernel_rfl) trivial (λ hS=>?_);refine wG 0 hS ?_;refine wG 1 hS ?_;refine wG 2 hS ?_;refine wG 3 hS ?_;refine wG 4 hS ?_;refine wG 5 hS ?_;refine wG 6 hS ?_;refine wR1 7 (λ K hK=>?_);have HB1:=hid (show Blk wr.drew g ((rep j l++zs (Q-p)).map (.int .i64 ·)).toArray 3 from HB.out);refine step_copy_splice rfl (.tmp 41) (.tmp 44) 23 23 rfl 3 underlying23 hsz.out _ _ _ _ _ _ rfl rfl g p ((rep j l++zs (Q-p)).map (.int .i64 ·)) 3 HB1.out ((rep i l).map (.int .i64 ·)) ?cn ?cp ?cf ?c1 g wr (Below.refl _ _).drew (Nat.le_refl _) ?_
    case cn=>rw [List.length_map,rep_len,HI.out.1];exact hin
    case cp=>exact λ _=>⟨if_neg (by omega),_,rfl,λ q v hv=>by rw [add_plain];exact rep_cell HB1.out hij hv⟩
    case cf =>
     have h1:i*n<=Q-p:=by rw [hin];exact Nat.min_le_right _ _
     rw [List.length_map,List.length_map,List.length_append,rep_len,rep_len,zs_len,HI.out.1,<- HP.out];omega
    case c1=>intro v hv;obtain⟨x,_,rfl⟩:=List.mem_map.1 hv;rfl
    intro w3 HG3 hB3;have hs1:((rep i l).map (Value.int .i64 ·)).length=s:=by rw [List.length_map,rep_len,HI.out.1];exact HS.out
    rw [hs1];have HB3:=hid (show Blk w3 g ((rep (j+i) l++zs (Q-t)).map (Value.int .i64 ·)).toArray 3 by have h:=HG3.out;rw [splice_next HI.out.1 HP.out (by rw [hin];exact Nat.min_le_right _ _),HS.out,HT.out] at h;exact h);have HG4:=hid (HGW.out.trans' (hB3.mono hgs));clear HG3 hB3 hs1;refine hK.out _ _ trivial (λ hS=>?_);clear hK K
    try simp only [pL]
    refine wG 8 hS ?_;refine wG 9 hS ?_;refine wpAnyH_done (by kernel_rfl) ?_ _;clear hS;go_wp2_with fail;go_roundw
    case rel=>exact⟨j+i,t,by first | rfl | rw [U6.out],by omega,HTQ.out,hid (by rw [Nat.add_mul,<- HP.out,HS.out,HT.out]),HB3,HG4⟩
    case measure=>(first | simp [intOf,U6.out] | simp [intOf]);have:=HT.out;have:=HS1.out;have:=HTQ.out;omega
  . obtain rfl:p=Q:=by omega
    have e:rep j l=rep k l:=by
     by_cases hn0:n=0
     . have hl0:l=[]:=zen (by rw [HI.out.1];exact hn0)
       have z:∀ m,rep m ([]:List Int)=[]:=λ m=>zen (by rw [rep_len];simp)
       rw [hl0,z,z]
     . rw [show j=k from Nat.eq_of_mul_eq_mul_right (by omega) (HP.out.symm.trans HQK.out.symm)]
    have HB4:=hid (show Blk wr g ((rep k l).map (Value.int .i64 ·)).toArray 3 by have h:=HB.out;rw [e,Nat.sub_self,show zs 0=[] from rfl,List.append_nil] at h;exact h);clear HB e;go_wp2_with fail;go_ret;exact⟨⟨p,g,HQK.out.symm,rfl,hgs,HB4.out⟩,HGW.out⟩
end
end P17
end
section
namespace P17
theorem imem_rep {w:World} {b:Nat} {l:List Int} {t:TypeId} (h:Blk w b (l.map (Value.int .i64 ·)).toArray t) (hb:∀ x∈l,B64 x):IMem w (some ⟨b,0,none⟩) l.length l :=
 ⟨rfl,hb,λ _=>⟨b,0,rfl,h.lt,λ j x hx=>by rw [Nat.zero_add];exact (h.at_ (by simp [hx])).1⟩⟩
theorem Repeat_one {w:World} {A:Option Addr} {c:Nat} {x:Int} (hm:IMem w A 1 [x]) :
 Calls prog 51 #[.slice A 1 c,.int .i64 1] w λ e w'=>(∃ B,e=.returned (.slice B 1 1)/\IMem w' B 1 [x])/\Gr w w':=by
 refine (Repeat_is (k:=1) (c:=c) hm (by omega) (by omega) (by omega) (by omega)).mono ?_;rintro e w' ⟨⟨Q,g,rfl,rfl,-,hB⟩,g1⟩;exact⟨⟨_,rfl,imem_rep (l:=[x]) hB hm.2.1⟩,g1⟩
section
variable {w:World} {n:Nat} {d:Int}
theorem round_is (hn:n<=16) (hd:1<=d/\d<=4611686018427387904) :
 Calls prog 52 #[.int .i64 (n:Int),.int .i64 1,.int .i64 d] w λ e w'=>(∃ A c,e=.returned (.slice A (n+1) c)/\IMem w' A (n+1) (rndL n d))/\Gr w w':=by
 have HIi:=P13.info_parts infoInt;obtain⟨ii,hii,hz0,hs0,hb0⟩:=HIi;have Hii:=hid hii;have Hz:=hid hz0;have Hs:=hid hs0;have Hb:=hid hb0;have HD:=hid hd;obtain⟨d1,d2⟩:=hd;clear hii hz0 hs0 hb0;go_enter func52,ntmps52;go_wp2_with fail
 go_loopw [7,10] (λ v i wr=>∃ (k:Nat) (A:Option Addr) (c:Nat),k<=n/\i=.int .i64 (k:Int)/\v=.slice A k c/\Hid (IOwn w.heap.size wr A k c ((List.range k).map λ i:Nat=>(i:Int)))/\Hid (Gr w wr)) (λ _ i _=>n-(intOf i).toNat)
 case atStart=>exact⟨0,none,0,Nat.zero_le _,rfl,rfl,hid OMem.nil_,hid (zr _)⟩
 case round =>
  obtain⟨k,A,c,hk,rfl,rfl,HO,HG⟩:=hrel;by_cases hkn:k<n
  . have k0:(0:Int)<=(k:Int):=by omega
    have k1:(k:Int)<(n:Int):=by omega
    have hb:B64 (k:Int):=by unfold B64;omega
    have cR:=hid (Repeat_one (c:=1) (emem_one (enc:=Value.int .i64) (ok:=B64) wr (k:Int) hb 3));have g1:=hid ((zr wr).al (.cells #[.int .i64 (k:Int)] 3));have hsz:=HG.out.size;go_wp2_with fail;refine cR.out.mono ?_;rintro e w1 ⟨⟨B,rfl,hB⟩,g2⟩;have G2:=hid (g1.out.trans g2);have hsz2:=G2.out.size;go_wp2_with (at_builtin;refine wpList_append_omem2 _ (Value.int .i64) B64 rfl (.tmp 13) (.tmp 17) 23 rfl (λ _=>rfl) w.heap.size 3 ii (.int .i64 0) 8 underlying23 Hii.out Hz.out Hs.out Hb.out rfl _ _ _ _ rfl (HO.out.gr G2.out) _ 1 1 [(k:Int)] rfl hB (by unfold maxLen;omega) (by omega) (by omega) ?_);intro A' c' w3 hO hgr hw;have HO3:=hid (show IOwn w.heap.size w3 A' (k+1) c' ((List.range (k+1)).map λ i:Nat=>(i:Int)) by rw [List.range_succ,List.map_append];exact hO);have HG3:=hid ((HG.out.trans G2.out).gb hgr (λ j hj=>(HO.out.lt j hj).1));clear hO hgr hw hB g2;go_wp2_with fail;go_roundw
    case rel=>exact⟨k+1,A',c',by omega,by go_num,rfl,HO3,HG3⟩
    case measure=>simp [intOf];omega
  . obtain rfl:k=n:=by omega
    have hb:B64 (-d):=by unfold B64;omega
    have hsz:=HG.out.size;have g1:=hid ((zr wr).al (.cells #[.int .i64 (-d)] 3));go_wp2_with (at_builtin;refine wpList_append_omem2 _ (Value.int .i64) B64 rfl (.tmp 20) (.tmp 23) 23 rfl (λ _=>rfl) w.heap.size 3 ii (.int .i64 0) 8 underlying23 Hii.out Hz.out Hs.out Hb.out rfl _ _ _ _ rfl (HO.out.gr g1.out) _ 1 1 [-d] rfl (emem_one (enc:=Value.int .i64) (ok:=B64) wr (-d) hb 3) (by unfold maxLen;omega) (by omega) (by have:=g1.out.size;omega) ?_);intro A' c' w3 hO hgr hw;have HO3:=hid (show IMem w3 A' (k+1) (rndL k d) from hO.1);have HG3:=hid ((HG.out.trans g1.out).gb hgr (λ j hj=>(HO.out.lt j hj).1));clear hO hgr hw;go_wp2_with fail;go_ret;exact⟨⟨A',c',rfl,HO3.out⟩,HG3.out⟩
end
end P17
end
section
namespace P17
open P12 (PV PMem pl)
section
variable {w:World} {A:Option Addr} {n c:Nat} {R:List PV} {d:Int}
theorem Turns_is (hm:PMem w A n R) (hr:P12.rightB (pl R)=true) (hn:n<=8) (hd:1<=d/\d<=4611686018427387904) :
 Calls prog 31 #[.slice A n c,.int .i64 2000,.int .i64 1,.int .i64 d] w λ e w' =>
  (∃ B m c',e=.returned (.tuple #[.slice B m c',.int .i64 0])/\m=2000*(n+1)/\IMem w' B m (rep 2000 (rndL n d)))/\Gr w w':=by
 have cR:=hid (P12.Right_is (c:=c) hr (by omega) w hm);have cC:=λ W=>hid (P4.Right_ok d true (by unfold P4.near;simp;omega) W)
 have cU:=λ W=>hid (round_is (w:=W) (n:=n) (d:=d) (by omega) hd)
 obtain⟨Q,hQ⟩:∃ Q:Int,2000*((n:Int)+1)=Q:=⟨_,rfl⟩;have q1:wrap64 ((n:Int)*1)=(n:Int):=by rw [Int.mul_one];unfold wrap64;omega
 have q3:wrap64 ((n:Int)+1)=(n:Int)+1:=by unfold wrap64;omega
 have q4:wrap64 (2000*((n:Int)+1))=Q:=by rw [hQ];unfold wrap64;omega
 have q2:¬ 20000<Q:=by omega
 obtain⟨d1,d2⟩:=hd;have d3:¬ d<1:=by omega
 have HQ:=hid hQ;clear hQ hm hr;go_enter func31,ntmps31;go_wp2_with fail;refine cR.out.mono ?_;rintro e w1 ⟨rfl,g1⟩;go_wp2_with fail;refine (cC _).out.mono ?_;rintro e w2 ⟨rfl,g2⟩;go_wp2_with fail;refine (cU _).out.mono ?_;rintro e w3 ⟨⟨B,c1,rfl,hB⟩,g3⟩;have cP:=Repeat_is (k:=2000) (c:=c1) hB (by omega) (by omega) (by omega) (by omega);rw [show ((2000:Nat):Int)=2000 from rfl] at cP;have cP:=hid cP;go_wp2_with fail;refine cP.out.mono ?_;rintro e w4 ⟨⟨m,g,rfl,rfl,-,hG⟩,g4⟩;have hl:(rep 2000 (rndL n d)).length=2000*(n+1):=by rw [rep_len,rndL_len]
 have hI:=imem_rep hG (λ x hx=>hB.2.1 x (rep_mem hx));rw [hl] at hI;have HI:=hid hI;have G4:=hid (((g1.trans g2).trans g3).trans g4);clear hI hG hB cP hl;go_wp2_with fail;go_ret2;exact⟨⟨_,_,_,rfl,rfl,HI.out⟩,G4.out⟩
end
end P17
end
section
namespace P17
open P16
theorem z32:(0:Int)<=0/\(0:Int)<4294967296:=by decide
theorem z4:(0:Int)<=0/\(0:Int)<=4:=by decide
theorem zw:OkW 0:=by unfold OkW;decide
theorem first_right (p:List Ac):CRight p (first 0 false 0 p.length):=by
 unfold first;refine⟨Int.le_refl _,by show (0:Int)<=p.length;omega,?_,z32,.inl rfl,z4,zw,λ _=>⟨rfl,rfl⟩,λ k n _=>⟨.inl rfl,.inl rfl⟩⟩;dsimp only;by_cases h:(0:Int)=p.length<;>simp [h]
theorem new_right {l:List (List Ac)} (h:P12.rightB l=true):RightW (newW l):=by
 have hl:(newW l).cl.length=(newW l).progs.length:=by unfold newW;simp
 have h0:0<=(newW l).now/\(newW l).now<=4611686018427387904:=by show (0:Int)<=0/\(0:Int)<=4611686018427387904;decide
 refine⟨h0,h,hl,rfl,⟨Tab.nil,λ s hs=>nomatch hs⟩,λ s hs=>(nomatch hs),λ c hc=>?_,λ i c p hc hp=>?_,λ x hx=>?_,.inl rfl⟩
 . obtain⟨p,_,rfl⟩:=List.mem_map.1 hc
   unfold first;dsimp only
   split
   . exact⟨.inr (.inr rfl),λ q=>by cases q⟩
   . exact⟨.inl rfl,λ q=>by cases q⟩
 . have hc:(l.map λ p=>first 0 false 0 p.length)[i]?=some c:=hc
   have hp:l[i]?=some p:=hp;rw [List.getElem?_map,hp] at hc;cases hc;exact first_right p
 . have hx:x∈[((0:Int),(0:Int),(0:Int)),(0,0,0),(0,0,0),(0,0,0)]:=hx
   simp at hx;subst hx;exact⟨zw,z32,z32⟩
theorem one_right {p:List Ac} (hp:P12.rightB [p]=true) {χ:Wv} {a:Nat} {hd:Option Nat} {now:Int} (he:mw χ=W1 p a 0 hd now) (h4:χ.mx.length=4) (tab:TabA χ.tb) (hn:0<=now/\now<=4611686018427387904) (ha:a<p.length):RightW χ:=by
 have e1:χ.now=now:=congrArg Mw.now he;have e2:χ.progs=[p]:=congrArg Mw.progs he;have e3:χ.cl=[cAt a 0 p.length]:=congrArg Mw.cl he;have e4:χ.stop=0:=congrArg Mw.stop he;have ec:∀ m,(mw χ).cm m=⟨if hd=some m then 1 else 0,0,0,0,[]⟩:=λ m=>by rw [he];rfl
 have et:∀ s,s∈χ.tb->False:=λ s hs=>by
  obtain⟨m,_,hm⟩:=tab.2 s hs;have h1:gt (svs χ.tb) s.1≠(0,[]):=(gt_has tab.1.2).1 ⟨_,List.mem_map.2 ⟨s,hs,rfl⟩,rfl⟩;rw [hm] at h1;have a1:(gtA χ.tb m).1=0:=congrArg Cm.c (ec m);have a2:(gtA χ.tb m).2=[]:=congrArg Cm.l (ec m);exact h1 (Prod.ext a1 a2)
 refine⟨by rw [e1];exact hn,by rw [e2];exact hp,by rw [e2,e3];rfl,h4,tab,λ s hs=>(et s hs).elim,λ c hc=>?_,λ i c q hc hq=>?_,λ x hx=>?_,.inl e4⟩
 . rw [e3] at hc
   obtain rfl:=List.mem_singleton.1 hc;rw [cAt_lt ha];exact⟨.inl rfl,λ q=>by cases q⟩
 . rw [e3] at hc
   rw [e2] at hq
   cases i with
   | succ i=>simp at hc
   | zero =>
    simp at hc hq;subst hq;subst hc;rw [cAt_lt ha];refine⟨by show (0:Int)<=a;omega,by show (a:Int)<=p.length;omega,?_,z32,.inl rfl,z4,zw,λ _=>⟨rfl,rfl⟩,λ k n _=>⟨.inl rfl,.inl rfl⟩⟩;constructor
    . intro h;have h:(a:Int)=p.length:=h;omega
    . intro h;exact absurd (show (0:Int)=2 from h) (by decide)
 . obtain⟨m,hx⟩:=List.getElem?_of_mem hx
   have e:=mxAt_get hx;have a1:(mxAt χ.mx m).1=(if hd=some m then 1 else 0):=congrArg Cm.word (ec m);have a2:(mxAt χ.mx m).2.1=0:=congrArg Cm.nx (ec m);have a3:(mxAt χ.mx m).2.2=0:=congrArg Cm.sv (ec m);rw [e] at a1 a2 a3;rw [a1,a2,a3];refine⟨?_,z32,z32⟩;unfold OkW
   split<;>decide
theorem one_step {p:List Ac} (hp:P12.rightB [p]=true) {χ ψ:Wv} {a:Nat} {hd:Option Nat} {now:Int} {ev:List T3} {x:Int} (hr:RightW χ) (he:mw χ=W1 p a 0 hd now) (ha:a<p.length) (h:StepM χ 0 ψ ev x) :
 ψ.mx.length=4/\TabA ψ.tb/\mw ψ=(P16.stp (W1 p a 0 hd now) 0).1/\ev=(P16.stp (W1 p a 0 hd now) 0).2.toList:=by
 have e3:χ.cl=[cAt a 0 p.length]:=congrArg Mw.cl he;have e4:χ.stop=0:=congrArg Mw.stop he;rcases h with ⟨q,_⟩ | ⟨_,q,_⟩ | ⟨_,_,h1,h2,h3,h5,_⟩
 . exact absurd hr q
 . rcases q with q | q | q | ⟨c,q,q2⟩
   . exact absurd e4 q
   . omega
   . rw [e3] at q;simp at q
   . rw [e3] at q
     simp at q;subst q;rw [cAt_lt ha] at q2;exact absurd rfl q2
 . rw [he] at h3 h5
   exact⟨h1,h2,h3,h5⟩
end P17
end
section
namespace P17
open P16
theorem svs_sub {l r:List Sp} (hl:TabA l) (hr:TabA r) (h:∀ m,gtA l m=gtA r m):∀ x,x∈svs l->x∈svs r:=by
 intro x hx;obtain⟨s,hs,rfl⟩:=List.mem_map.1 hx;obtain⟨m,_,hm⟩:=hl.2 s hs;have h1:gt (svs l) s.1=(s.2.1,s.2.2):=gt_mem hl.1.2 hx;have h2:gt (svs l) s.1≠(0,[]):=(gt_has hl.1.2).1 ⟨_,hx,rfl⟩;have h3:gt (svs r) s.1=gt (svs l) s.1:=by rw [hm];exact (h m).symm
 obtain⟨y,hy,hya⟩:=(gt_has hr.1.2).2 (by rw [h3];exact h2);obtain⟨t,ht,rfl⟩:=List.mem_map.1 hy;have h4:=gt_mem hr.1.2 hy;have hya:t.1=s.1:=hya;have h4:gt (svs r) t.1=(t.2.1,t.2.2):=h4;rw [hya,h3,h1,Prod.mk.injEq] at h4;exact List.mem_map.2 ⟨t,ht,by rw [hya,h4.1,h4.2]⟩
theorem mx_ext {l r:List T3} (h1:l.length=4) (h2:r.length=4) (h:∀ m,mxAt l m=mxAt r m):l=r:=by
 refine List.ext_getElem? λ i=>?_
 by_cases hi:i<4
 . have e1:=zge (l:=l) (i:=i) (by omega)
   have e2:=zge (l:=r) (i:=i) (by omega);rw [e1,e2,<- mxAt_get e1,<- mxAt_get e2,h]
 . rw [List.getElem?_eq_none (by omega),List.getElem?_eq_none (by omega)]
theorem wv_ext {ω ψ:Wv} (h:mw ω=mw ψ) (h1:ω.mx.length=4) (h2:ψ.mx.length=4) (t1:TabA ω.tb) (t2:TabA ψ.tb):ω=ψ:=by
 have e1:ω.now=ψ.now:=congrArg Mw.now h;have e2:ω.progs=ψ.progs:=congrArg Mw.progs h;have e3:ω.cl=ψ.cl:=congrArg Mw.cl h;have e4:ω.stop=ψ.stop:=congrArg Mw.stop h;have ec:∀ m,(mw ω).cm m=(mw ψ).cm m:=λ m=>by rw [h]
 have e5:ω.mx=ψ.mx:=mx_ext h1 h2 λ m=>by
  have a1:(mxAt ω.mx m).1=(mxAt ψ.mx m).1:=congrArg Cm.word (ec m);have a2:(mxAt ω.mx m).2.1=(mxAt ψ.mx m).2.1:=congrArg Cm.nx (ec m);have a3:(mxAt ω.mx m).2.2=(mxAt ψ.mx m).2.2:=congrArg Cm.sv (ec m);exact Prod.ext a1 (Prod.ext a2 a3)
 have eg:∀ m,gtA ω.tb m=gtA ψ.tb m:=λ m=>by
  have a1:=congrArg Cm.c (ec m);have a2:=congrArg Cm.l (ec m);exact Prod.ext a1 a2
 have e6:svs ω.tb=svs ψ.tb:=tok_ext t1.1.2 t2.1.2 λ x=>⟨svs_sub t1 t2 eg x,svs_sub t2 t1 (λ m=>(eg m).symm) x⟩
 have e7:ω.tb=ψ.tb:=by rw [<- svs_pl ω.tb,<- svs_pl ψ.tb,e6]
 cases ω;cases ψ;simp only at e1 e2 e3 e4 e5 e7;subst e1 e2 e3 e4 e5 e7;rfl
section
variable {ω ψ χ:Wv} {p:P13.Pk} {ev:List T3} {l r:List P13.Pk} {H:List Hp}
theorem StepM.one {who:Int} {x:Int} {ψ':Wv} {ev':List T3} {x':Int} (h:StepM ω who ψ ev x) (h':StepM ω who ψ' ev' x'):ψ=ψ'/\ev=ev':=by
 rcases h with ⟨a,rfl,rfl,_⟩ | ⟨a,b,rfl,rfl,_⟩ | ⟨a,b,c1,c2,c3,c4,_⟩
 . rcases h' with ⟨_,rfl,rfl,_⟩ | ⟨a',_⟩ | ⟨a',_⟩
   . exact⟨rfl,rfl⟩
   . exact absurd a' a
   . exact absurd a' a
 . rcases h' with ⟨a',_⟩ | ⟨_,_,rfl,rfl,_⟩ | ⟨_,b',_⟩
   . exact absurd a a'
   . exact⟨rfl,rfl⟩
   . exact absurd b b'
 . rcases h' with ⟨a',_⟩ | ⟨_,b',_⟩ | ⟨_,_,d1,d2,d3,d4,_⟩
   . exact absurd a a'
   . exact absurd b' b
   . exact⟨wv_ext (c3.trans d3.symm) c1 d1 c2 d2,c4.trans d4.symm⟩
theorem TickM.one {d y y':Int} {τ τ':Wv} (h:TickM ω d τ y) (h':TickM ω d τ' y'):τ=τ'/\y=y':=by
 rcases h with ⟨a,rfl,rfl⟩ | ⟨a,b,c,rfl,rfl⟩ | ⟨a,b,c,e,rfl,rfl⟩ | ⟨a,b,c,e,rfl,rfl⟩ <;>
 rcases h' with ⟨a',rfl,rfl⟩ | ⟨a',b',c',rfl,rfl⟩ | ⟨a',b',c',e',rfl,rfl⟩ | ⟨a',b',c',e',rfl,rfl⟩ <;>
 first
  | exact⟨rfl,rfl⟩
  | exact absurd ⟨a',b'⟩ a
  | exact absurd ⟨a,b⟩ a'
  | exact absurd c' c
  | exact absurd c c'
  | omega
theorem OneR.one {ψ':Wv} {ev':List T3} (h:OneR ω p ψ ev) (h':OneR ω p ψ' ev'):ψ=ψ'/\ev=ev':=by
 rcases h with ⟨a,x,h⟩ | ⟨a,rfl,τ,y,h,k⟩
 . rcases h' with ⟨_,x',h'⟩ | ⟨a',_⟩
   . exact StepM.one h h'
   . omega
 . rcases h' with ⟨a',_⟩ | ⟨_,rfl,τ',y',h',k'⟩
   . omega
   . obtain⟨rfl,rfl⟩:=TickM.one h h'
     rcases k with ⟨k1,rfl⟩ | ⟨k1,rfl⟩<;>rcases k' with ⟨k2,rfl⟩ | ⟨k2,rfl⟩<;>first | exact⟨rfl,rfl⟩ | exact absurd k1 k2 | exact absurd k2 k1
theorem GoW.empty (h:GoW ω [] ψ H):ψ=ω/\H=[]:=by
 generalize e:([]:List P13.Pk)=l at h
 cases h with
 | nil=>exact⟨rfl,rfl⟩
 | snoc h1 h2=>simp at e
theorem GoW.last (h:GoW ω (l++[p]) ψ H):∃ χ H' ev,GoW ω l χ H'/\OneR χ p ψ ev/\H=H'++happ l.length ψ.now ev:=by
 generalize e:l++[p]=r at h
 cases h with
 | nil=>simp at e
 | snoc h1 h2 =>
  obtain⟨rfl,e2⟩:=List.append_inj' e rfl;cases e2;exact⟨_,_,_,h1,h2,rfl⟩
theorem GoW.one:∀ {l:List P13.Pk} {ψ ψ':Wv} {H H':List Hp},GoW ω l ψ H->GoW ω l ψ' H'->ψ=ψ'/\H=H':=by
 intro l ψ ψ' H H' h
 induction h generalizing ψ' H' with
 | nil=>intro h';obtain⟨rfl,rfl⟩:=GoW.empty h';exact⟨rfl,rfl⟩
 | snoc h1 h2 ih =>
  intro h';obtain⟨χ,H2,ev,k1,k2,rfl⟩:=GoW.last h';obtain⟨rfl,rfl⟩:=ih k1;obtain⟨rfl,rfl⟩:=OneR.one h2 k2;exact⟨rfl,rfl⟩
def later (k:Nat) (H:List Hp):List Hp:=H.map λ x=>(x.1+(k:Int),x.2)
theorem GoW.join {F:List Hp} (h:GoW ω l χ F) (k:GoW χ r ψ H):GoW ω (l++r) ψ (F++later l.length H):=by
 induction k with
 | nil=>simpa [later] using h
 | @snoc l' χ' ψ' H' p ev h1 h2 ih =>
  have:=ih.snoc h2;rw [List.append_assoc,List.append_assoc] at this;have e:later l.length (H'++happ l'.length ψ'.now ev)=later l.length H'++happ (l++l').length ψ'.now ev:=by
   unfold later happ;rw [List.map_append,List.map_map];congr 1;refine List.map_congr_left λ x _=>?_
   show ((l'.length:Int)+(l.length:Int),ψ'.now,x)=((((l++l').length:Nat):Int),ψ'.now,x);have:(l'.length:Int)+(l.length:Int)=(((l++l').length:Nat):Int):=by rw [List.length_append];omega
   rw [this]
  rw [e];exact this
end
theorem alive17 {ψ:Wv} {H:List Hp} (h:GoW (newW [p0]) ([0,-5,0].map P13.rd) ψ H):ψ.now=5/\H=[(0,0,0,0,0),(2,5,0,3,0)]:=by
 have e:([0,-5,0]:List Int).map P13.rd=(([]++[(0,0)])++[(1,5)])++[(0,0)]:=by decide
 rw [e] at h;obtain⟨χ2,H2,ev3,h2,k3,rfl⟩:=GoW.last h;clear h;obtain⟨χ1,H1,ev2,h1,k2,rfl⟩:=GoW.last h2;clear h2;obtain⟨χ0,H0,ev1,h0,k1,rfl⟩:=GoW.last h1;clear h1;obtain⟨rfl,rfl⟩:=GoW.empty h0;have a0:mw (newW [p0])=W1 p0 0 0 none 0:=by rw [mw_new];exact new_one
 have s1:P16.stp (W1 p0 0 0 none 0) 0=(W1 p0 1 0 (some 0) 0,some (0,0,0)):=alone_lock (p:=p0) (a:=0) (n:=0) rfl;rcases k1 with ⟨_,x1,k1⟩ | ⟨q,_⟩
 case inr=>exact absurd q (by decide)
 obtain⟨m1,t1,e1,rfl⟩:=one_step p0_right (new_right p0_right) a0 (by decide) k1;rw [s1] at e1 ⊢;have e1:mw χ1=W1 p0 1 0 (some 0) 0:=e1;have r1:RightW χ1:=one_right p0_right e1 m1 t1 (by decide) (by decide);rcases k2 with ⟨q,_⟩ | ⟨_,rfl,τ,y,k2,hy⟩
 . exact absurd q (by decide)
 have n1:χ1.now=0:=congrArg Mw.now e1;have st1:χ1.stop=0:=congrArg Mw.stop e1;obtain rfl:χ2={ χ1 with now:=χ1.now+5 }:=by
  rcases k2 with ⟨q,_⟩ | ⟨_,_,q,_⟩ | ⟨_,_,_,_,q,q2⟩ | ⟨_,_,_,q,_⟩
  . exact absurd ⟨r1,by unfold Tim;decide⟩ q
  . exact absurd st1 q
  . rcases hy with ⟨_,e⟩ | ⟨e,_⟩
    . exact e.trans q
    . exact absurd q2 e
  . rw [n1] at q
    exact absurd q (by decide)
 have e2:mw { χ1 with now:=χ1.now+5 }=W1 p0 1 0 (some 0) 5:=by
  have:mw { χ1 with now:=χ1.now+5 }={ mw χ1 with now:=χ1.now+5 }:=rfl;rw [this,e1,n1];rfl
 have r2:RightW { χ1 with now:=χ1.now+5 }:=one_right p0_right e2 m1 t1 (by decide) (by decide);rcases k3 with ⟨_,x3,k3⟩ | ⟨q,_⟩
 case inr=>exact absurd q (by decide)
 obtain⟨_,_,e3,rfl⟩:=one_step p0_right r2 e2 (by decide) k3;have s2:P16.stp (W1 p0 1 0 (some 0) 5) 0=(W1 p0 2 0 none 5,some (0,3,0)):=alone_give (p:=p0) (a:=1) (n:=0) rfl;rw [s2] at e3 ⊢;have n3:ψ.now=5:=congrArg Mw.now e3;refine⟨n3,?_⟩;rw [n3,n1];rfl
end P17
end
section
open Go.Conc Go.ChangeShapes Go.WideShapes Go.ChangeAt Go.RowKit
namespace P17
open P16
open P13 (rd pk okP rd_ok)
def GoR (ω:Wv) (L:List Int) (ψ:Wv) (H:List Hp) (x:Int):Prop :=
 (20000<L.length/\ψ=zeroW/\H=[]/\x=2)\/(L.length<=20000/\¬ RightW ω/\ψ=zeroW/\H=[]/\x=1)\/(L.length<=20000/\RightW ω/\GoW ω (L.map rd) ψ H/\x=0)
def GoQ (w:World) (ω:Wv) (L:List Int) (e:Ending) (w':World):Prop :=
 (∃ (s:WR) (ψ:Wv) (A:Option Addr) (n c:Nat) (H:List Hp) (x:Int),e=.returned (.tuple #[s.v,.slice A n c,.int .i64 x])/\GoR ω L ψ H x /\
   WOff (λ k=>k<w.heap.size\/(Value.slice A n c).ownBlock=some k) w' s ψ/\HOwn w' w.heap.size (.slice A n c) H/\H.length=n)/\Gr w w'
theorem pks_tail (v:Int) (l:List Int):(pks (v::l)).extract 1 (pks (v::l)).size=pks l:=by
 unfold pks;apply Array.ext';simp only [List.extract_toArray,List.map_cons,List.length_cons,List.size_toArray,List.length_map];simp;exact List.take_of_length_le (by simp)
theorem new2 (w:World) (o:Obj) (cs:Array Value) (t:TypeId):((w.alloc o).alloc (.cells cs t)).heap[w.heap.size+1]?=some (.cells cs t (0,0)):=by
 have:=Blk.new (w.alloc o) cs t;rwa [zsA] at this
theorem tick0 {ω τ:Wv} {y:Int} (hr:RightW ω) (h:TickM ω 0 τ y):τ=ω:=by
 rcases h with ⟨q,_⟩ | ⟨_,_,_,q,_⟩ | ⟨_,_,_,_,q,_⟩ | ⟨_,_,_,q,_,_⟩
 . exact absurd ⟨hr,by decide,by decide⟩ q
 . exact q
 . rw [q];simp
 . have:=hr.now;omega
section
variable {w:World} {r:WR} {ω:Wv} {A:Option Addr} {n c:Nat} {L:List Int}
theorem go_goes (hM:Mach) (hg:P15.Glob w) (h:WIs w r ω) (hm:IMem w A n L) (hn:n<=20000) (hr:RightW ω) :
 Calls prog 28 #[r.v,.slice A n c] w (GoQ w ω L):=by
 have hlen:=hm.1;have cR:=λ W (g:Gr w W)=>hid (P16.Right_is (W:=W) (h.gr g) (v:=true) (by simp [hr]))
 have n1:¬ (20000:Int)<(n:Int):=by omega
 have BW:=(Blk.new w r.a 29).al (.cells #[.int .i64 0,.slice none 0 0,.slice none 0 0,.slice none 0 0,.slice none 0 0,.int .i64 0] 29);have BZ:=Blk.new (w.alloc (.cells r.a 29)) #[.int .i64 0,.slice none 0 0,.slice none 0 0,.slice none 0 0,.slice none 0 0,.int .i64 0] 29;rw [zsA] at BZ;have G0:=hid (((zr w).al (.cells r.a 29)).al (.cells #[.int .i64 0,.slice none 0 0,.slice none 0 0,.slice none 0 0,.slice none 0 0,.int .i64 0] 29));have HM:=hid hm;have HW:=hid h;clear hm h;go_enter func28,ntmps28;go_upto_region 1 with fail;generalize (w.alloc (.cells r.a 29)).alloc (.cells #[.int .i64 0,.slice none 0 0,.slice none 0 0,.slice none 0 0,.slice none 0 0,.int .i64 0] 29)=V at BW BZ G0 ⊢;have ltw:=BW.lt;obtain⟨⟨b0,bz0⟩,⟨b1,bz1⟩,⟨b2,bz2⟩,⟨b3,bz3⟩,⟨b4,bz4⟩,⟨b5,bz5⟩⟩:=at6z BW;replace cR:=cR V G0.out;go_wp2_with fail;refine cR.out.mono ?_;rintro e w1 ⟨rfl,g1⟩;replace BW:=BW.gr g1;replace BZ:=hid (BZ.gr g1);have G1:=hid (G0.out.trans g1);have cT:=hid (hM.tick w1 r ω 0 (hg.gr G1.out) (HW.out.gr G1.out) (by unfold B64;decide));have z1:w.heap.size+1<w1.heap.size:=BZ.out.lt;clear b0 bz0 b1 bz1 b2 bz2 b3 bz3 b4 bz4 b5 bz5 ltw cR g1 G0;have ltw:=BW.lt;obtain⟨⟨b0,bz0⟩,⟨b1,bz1⟩,⟨b2,bz2⟩,⟨b3,bz3⟩,⟨b4,bz4⟩,⟨b5,bz5⟩⟩:=at6z BW;go_wp2_with fail;refine cT.out.mono ?_;rintro e w2 ⟨⟨s,τ,x,rfl,hT,hWn⟩,g2⟩;obtain rfl:ω=τ:=(tick0 hr hT).symm;have BN:=hid (Blk.new w2 s.a 29);have G3:=hid ((G1.out.trans g2).al (.cells s.a 29));have k2:=g2.size;have NW:=hid ((((WOff.new (S:=λ k=>k<w1.heap.size) hWn (λ k hk=>hk)).sub (S':=λ k=>k<w1.heap.size\/w2.heap.size<=k) (λ k h1 h2=>by rcases h2 with q | q<;>omega)).gr ((zr w2).al (.cells s.a 29))));replace BZ:=hid ((BZ.out.gr g2).al (.cells s.a 29));clear b0 bz0 b1 bz1 b2 bz2 b3 bz3 b4 bz4 b5 bz5 ltw cT BW hT hWn g2 G1;go_upto_region 8 with fail;generalize hV3:w2.alloc (.cells s.a 29)=W3 at BN BZ G3 NW ⊢;have k3:W3.heap.size=w2.heap.size+1:=by rw [<- hV3,zsA]
 clear hV3;generalize w2.heap.size=gN at BN NW k2 k3 ⊢;generalize w1.heap.size=B1 at NW z1 k2;have cP:=hid (picks_is (c:=c) (HM.out.gr G3.out) (show n<=100000 by omega));go_wp2_with fail;refine cP.out.mono ?_;rintro e w4 ⟨ch,rfl,g4,hch,hC⟩;have hlt4:=(zal hC);have HC:=hid hC;have G4:=hid (G3.out.trans g4);replace BN:=hid (BN.out.gr g4);replace BZ:=hid (BZ.out.gr g4);have NW4:=hid ((NW.out.gr g4).sub (S':=λ k=>k<B1\/k=gN\/k=ch\/(Value.slice none 0 0).ownBlock=some k) (λ k h1 h2=>(h2.elim .inl λ q=>.inr (q.elim (λ q=>by omega) λ q=>q.elim (λ q=>by omega) λ q=>by cases q))));have KS:=g4.size;clear cP hC g4 NW G3;go_upto_region 9 with fail;have KN:=hid (show gN<w4.heap.size by omega);have KC:=hid hlt4;have ZB:=hid (show w.heap.size+1<B1/\B1<=gN/\gN<ch from ⟨z1,k2,by omega⟩);clear z1 k2 k3 KS hch hlt4;obtain⟨K2,hK2⟩:∃ K,K=w4.heap.size:=⟨_,rfl⟩;rw [<- hK2] at KN KC;have KW0:=hid (show K2<=w4.heap.size by omega);clear hK2
 go_loopw [9,10] (λ av at_ wr=>∃ (j:Nat) (χ:Wv) (H:List Hp) (q:WR),j<=n/\at_=.int .i64 (j:Int)/\Hid (GoW ω ((L.map rd).take j) χ H)/\Hid (Blk wr gN q.a 29)/\Hid (Blk wr (w.heap.size+1) #[.int .i64 0,.slice none 0 0,.slice none 0 0,.slice none 0 0,.slice none 0 0,.int .i64 0] 29) /\
  Hid (WOff (λ k=>k<B1\/k=gN\/k=ch\/av.ownBlock=some k) wr q χ)/\Hid (HOwn wr K2 av H)/\Hid (Gr w wr)/\Hid (K2<=wr.heap.size)/\Hid (wr.heap[ch]?=some (.chan n (pks (L.drop j)) true n j false))) (λ _ i _=>n-(intOf i).toNat)
 case atStart=>exact⟨0,ω,[],s,Nat.zero_le _,rfl,hid (by rw [List.take_zero];exact .nil),BN,BZ,NW4,hid (HOwn.nil _ _),G4,KW0,HC⟩
 case round =>
  obtain⟨av0,rfl⟩:∃ x,x=u9:=⟨_,rfl⟩;obtain⟨j,χ,H,q,hj,rfl,HG,BQ,BZR,WQ,HO,GW,KW,CB⟩:=hrel;by_cases hjn:j<n
  . have j0:(0:Int)<=(j:Int):=by omega
    obtain⟨v,hv⟩:∃ v,L[j]?=some v:=⟨L[j]'(by omega),zge _⟩;have hd:L.drop j=v::L.drop (j+1):=by
     rw [List.drop_eq_getElem_cons (by omega)];congr 1;rw [zge (by omega)] at hv;exact Option.some.inj hv
    have CB1:wr.heap[ch]?=some (.chan n (pks (v::L.drop (j+1))) true n j false):=by rw [<- hd];exact CB.out
    have HTK:=hid (show (L.map rd).take (j+1)=(L.map rd).take j++[rd v] by rw [List.take_add_one,List.getElem?_map,hv];rfl);have htl:=hid (show ((L.map rd).take j).length=j by rw [List.length_take,List.length_map];omega);clear hd hv CB;go_upto_region 9 with fail;rename_i hK;refine Runs.region ?_;show Runs _ _ _ [0,1] _ _;refine Runs.get 0 (c:=ch) (z:=.agg #[.int .i64 0,.int .i64 0]) (w₁:=wr) (v:=.agg #[.int .i64 (rd v).1,.int .i64 (rd v).2]) (buf':=pks (L.drop (j+1))) CB1 (by simp [pks]) (by simp [pks,pk]) (pks_tail _ _) ?_;refine Runs.val 1 (v:=.bool true) ?_;refine Runs.of_wp (hK _ _ ?_);have CB2:=hid (heap_setChan wr ch n (pks (L.drop (j+1))) true n (j+1) false (zal CB1));have O1:Off (λ k=>k=ch) wr (wr.setChan ch n (pks (L.drop (j+1))) true n (j+1) false):=Off.ch (S:=λ k=>k=ch) rfl ..;have g1:Gr w (wr.setChan ch n (pks (L.drop (j+1))) true n (j+1) false):=below_setChan GW.out (by have:=ZB.out;omega) ..;have hrow:∀ k,av0.ownBlock=some k->K2<=k/\k<wr.heap.size:=λ k hk=>World.ownsRow.lt HO.out k hk
    have hzb:=ZB.out;have hkn:=KN.out;have hkw:=KW.out;have hkc:=KC.out;have BQ1:=blk_off BQ.out O1 (by omega);have BZ1:=blk_off BZR.out O1 (by omega);have WQ1:=WQ.out.to (O1.mono (S':=λ k=>k<B1\/k=gN\/k=ch\/av0.ownBlock=some k) λ k _ q=>.inr (.inr (.inl q)));have HO1:=own_off HO.out O1 (λ k hk q=>by have:=hrow k hk;omega);have kw1:=O1.1;clear hK CB1 O1 BQ BZR WQ HO GW KW hkc;generalize wr.setChan ch n (pks (L.drop (j+1))) true n (j+1) false=V1 at CB2 g1 BQ1 BZ1 WQ1 HO1 kw1 ⊢;have BP:=Blk.new V1 #[.int .i64 (rd v).1,.int .i64 (rd v).2] 108;have A2:=(zr V1).al (.cells #[.int .i64 (rd v).1,.int .i64 (rd v).2] 108);have CB3:=hid (obj_off CB2.out (Off.gr (S:=λ _=>False) A2) (λ h=>h));have BQ2:=BQ1.gr A2;have BZ2:=hid (BZ1.gr A2);have WQ2:=hid (WQ1.gr A2);have HO2:=hid (own_off HO1 (Off.gr (S:=λ _=>False) A2) (λ _ _ h=>h));have g2:=hid (g1.al (.cells #[.int .i64 (rd v).1,.int .i64 (rd v).2] 108));have kw2:K2<=V1.heap.size:=by omega
    have hrow2:=hid (show ∀ k,av0.ownBlock=some k->K2<=k/\k<V1.heap.size from λ k hk=>by have:=hrow k hk;omega);clear CB2 BQ1 BZ1 WQ1 HO1 g1 kw1 A2 hrow hkw;go_upto_region 11 with fail;have k2:(V1.alloc (.cells #[.int .i64 (rd v).1,.int .i64 (rd v).2] 108)).heap.size=V1.heap.size+1:=zsA _ _;generalize V1.alloc (.cells #[.int .i64 (rd v).1,.int .i64 (rd v).2] 108)=V2 at BP BQ2 BZ2 WQ2 HO2 g2 CB3 k2 ⊢;generalize V1.heap.size=gP at BP kw2 hrow2 k2 ⊢;have ltp:=BP.lt;have ltn:=BQ2.lt;obtain⟨p0,-⟩:=BP.at_ (k:=0) (v:=.int .i64 (rd v).1) rfl;obtain⟨p1,-⟩:=BP.at_ (k:=1) (v:=.int .i64 (rd v).2) rfl;obtain⟨q0,q1,q2,q3,q4,q5⟩:=at6 BQ2;have cG:=hid (goOn_is hM (p:=rd v) (hg.gr g2.out) WQ2.out.is (rd_ok v));go_wp2_with fail;refine cG.out.mono ?_;rintro e w6 ⟨⟨q',ψ,A',n',c',ev,rfl,hO,hQ,hE⟩,g6⟩;have B12:=Blk.new w6 q'.a 29;have A7:=g6.al (.cells q'.a 29);have BQ6:=hid (BQ2.gr A7);have BZ6:=hid (BZ2.out.gr A7);have CB6:=hid (obj_off CB3.out (Off.gr (S:=λ _=>False) A7) (λ h=>h));have HO6:=hid (own_off HO2.out (Off.gr (S:=λ _=>False) A7) (λ _ _ h=>h));have g7:=hid (g2.out.trans A7);have hrow3:=hrow2.out;have WQ6:Hid (WOff (λ k=>k<B1\/k=gN\/k=ch\/av0.ownBlock=some k) (w6.alloc (.cells q'.a 29)) q' ψ):=hid (by
     rcases hQ with ⟨rfl,rfl⟩ | hN
     . exact WQ2.out.gr A7
     . refine (WOff.new hN (λ k hk=>?_)).gr ((zr w6).al _)
       have hkc2:=KC.out;rcases hk with h | h | h | h
       . omega
       . omega
       . omega
       . have:=hrow3 k h;omega)
    have hnow:=hid (show q'.now=ψ.now from WQ6.out.is.now);have E6:=hid (hE.gr ((zr w6).al (.cells q'.a 29)));have hlen':=hE.is.len;have kv:=g6.size;have kw6:K2<=w6.heap.size:=by omega
    have HSM:=hid (show ∀ k,av0.ownBlock=some k->K2<=k/\k<V2.heap.size from λ k hk=>by have:=hrow3 k hk;omega);clear p0 p1 q0 q1 q2 q3 q4 q5 ltp ltn cG BP BQ2 BZ2 WQ2 HO2 g2 CB3 hrow2 hrow3 hE hQ g6 A7;go_upto_region 13 with fail;generalize w6.alloc (.cells q'.a 29)=V6 at B12 BQ6 BZ6 CB6 HO6 g7 WQ6 E6 ⊢;have kp:gP<V2.heap.size:=by omega
    clear k2;generalize V2.heap.size=B2 at E6 HSM kv kp;generalize w6.heap.size=g12 at B12 kv kw6 ⊢;have l12:=B12.lt;have HBO:=hid hO;have hn1':n'<=1:=by rw [<- hlen'];rcases hO.few with h | ⟨_,h⟩<;>rw [h]<;>simp
    clear hO
    go_loopw [9,42] (λ av i wr=>∃ m:Nat,m<=n'/\i=.int .i64 (m:Int)/\Hid (HOwn wr K2 av (H++happ j ψ.now (ev.take m)))/\Hid (Off (λ k=>av0.ownBlock=some k) V6 wr)/\Hid (Gr w wr)/\Hid (∀ k,av.ownBlock=some k->av0.ownBlock=some k\/V6.heap.size<=k)) (λ _ i _=>n'-(intOf i).toNat)
    case atStart=>exact⟨0,Nat.zero_le _,rfl,hid (by rw [List.take_zero];show HOwn _ _ _ (H++[]);rw [List.append_nil];exact HO6.out),hid Off.refl,g7,hid λ k hk=>.inl hk⟩
    case round =>
     obtain⟨m,hmn,rfl,HI,OI,GI,RI⟩:=hrel;by_cases hm:m<n'
     . have m0:(0:Int)<=(m:Int):=by omega
       have m1:(m:Int)<(n':Int):=by omega
       obtain⟨be,oe,y,rfl,hbe,hy,-,e0,e1,e2⟩:=T3Mem.cells (k:=m) (E6.out.to (OI.out.fromB (B:=B2) (λ k hk=>(HSM.out k hk).2))).is hm;have b12:=blk_off B12 OI.out (λ h=>by have:=HSM.out _ h;omega);have l0:=(b12.at_ (k:=0) (v:=.int .i64 q'.now) rfl).1;have ltg:=b12.lt;have HY:=hid hy;have hown:=HI.out;have hL:(H++happ j ψ.now (ev.take m)).length<=20001:=by
        have q1:=HG.out.few;have q2:=htl.out;have q3:ev.length<=1:=by rcases HBO.out.few with h | ⟨_,h⟩<;>rw [h]<;>simp
        rw [List.length_append];unfold happ;rw [List.length_map,List.length_take];omega
       have kI:K2<=wr.heap.size:=by have:=OI.out.1;omega
       obtain⟨HH,hHH⟩:∃ HH,H++happ j ψ.now (ev.take m)=HH:=⟨_,rfl⟩;rw [hHH] at hown hL;have HHH:=hid hHH;clear hHH HI;clear hy b12;go_wp2_with (at_builtin;refine wpList_append_hps rfl (.tmp 46) (.tmp 52) [((j:Int),q'.now,y)] rfl rfl rfl (w:=(wr.alloc (.cells #[.int .i64 y.1,.int .i64 y.2.1,.int .i64 y.2.2] 40)).alloc (.cells #[.int .i64 (j:Int),.int .i64 q'.now,.int .i64 y.1,.int .i64 y.2.1,.int .i64 y.2.2] 77)) (base:=K2) ((hown.alloc _).alloc _) rfl (by decide) (World.news_of_block (cs:=#[.int .i64 (j:Int),.int .i64 q'.now,.int .i64 y.1,.int .i64 y.2.1,.int .i64 y.2.2]) (t:=77) (fr:=(0,0)) (new2 wr _ _ _)) (by omega) ?c5 ?_)
       case c5=>first | omega | (simp only [zsA];omega)
       intro v' w7 HI2 hgrow hwh;have hR:=λ k=>hown.lt k
       replace HI2:HOwn w7 K2 v' (H++happ j ψ.now (ev.take (m+1))):=by
        have e1:H++happ j ψ.now (ev.take (m+1))=HH++[((j:Int),q'.now,y)]:=by
         rw [<- HHH.out,hnow.out,List.append_assoc,List.take_add_one,HY.out];unfold happ;rw [List.map_append];rfl
        rw [e1];exact HI2
       have O2:=(OI.out.trans (Off.gr (((zr wr).al (.cells #[.int .i64 y.1,.int .i64 y.2.1,.int .i64 y.2.2] 40)).al (.cells #[.int .i64 (j:Int),.int .i64 q'.now,.int .i64 y.1,.int .i64 y.2.1,.int .i64 y.2.2] 77)))).join (Off.gb (S:=λ k=>u9.ownBlock=some k) hgrow λ k hk=>hk) (λ k h1 h2=>(RI.out k h2).resolve_right (by omega));have G2:=((GI.out.al (.cells #[.int .i64 y.1,.int .i64 y.2.1,.int .i64 y.2.2] 40)).al (.cells #[.int .i64 (j:Int),.int .i64 q'.now,.int .i64 y.1,.int .i64 y.2.1,.int .i64 y.2.2] 77)).gb hgrow (λ k hk=>by have q1:=(hR k hk).1;have q2:=ZB.out;have q3:=KN.out;omega);have R2:∀ k,v'.ownBlock=some k->av0.ownBlock=some k\/V6.heap.size<=k:=λ k hk=>by
        rcases hwh k hk with h | h
        . exact RI.out k h
        . try simp only [zsA] at h
          have:=OI.out.1;exact .inr (by omega)
       clear hgrow hwh hown hR e0 e1 e2 l0 ltg hbe;go_wp2_with fail;go_roundw
       case rel=>exact⟨m+1,by omega,by go_num,hid HI2,hid O2,hid G2,hid R2⟩
       case measure=>simp [intOf];omega
     . have e9:ev.take m=ev:=List.take_of_length_le (by omega)
       have hmn':m=n':=by omega
       subst hmn';have hzb:=ZB.out;have hkn:=KN.out;have hkc:=KC.out;have b12:=blk_off B12 OI.out (λ h=>by have:=HSM.out _ h;omega);have bn:=blk_off BQ6.out OI.out (λ h=>by have:=HSM.out _ h;omega);have bz:=blk_off BZ6.out OI.out (λ h=>by have:=HSM.out _ h;omega);have cb:=obj_off CB6.out OI.out (λ h=>by have:=HSM.out _ h;omega);have wq:=((WQ6.out.sub (S':=λ k=>(k<B1\/k=gN\/k=ch\/av0.ownBlock=some k)\/V6.heap.size<=k) (λ k h1 h2=>h2.resolve_right (by omega))).to (OI.out.mono λ k _ h=>.inl (.inr (.inr (.inr h))))).sub (S':=λ k=>k<B1\/k=gN\/k=ch\/u9.ownBlock=some k)
        (λ k _ h=>h.elim (λ h=>.inl (.inl h)) λ h=>h.elim (λ h=>.inl (.inr (.inl h))) λ h=>h.elim (λ h=>.inl (.inr (.inr (.inl h)))) λ h=>(RI.out k h).elim (λ h=>.inl (.inr (.inr (.inr h)))) λ h=>.inr h)
       have hI:=HI.out;rw [e9] at hI;have hR:=λ k=>hI.lt k
       have sz1:=OI.out.1;have BF:=hid (put6_blk bn rfl (.int .i64 q'.now) (.slice q'.p.A q'.p.n q'.p.c) (.slice q'.c.A q'.c.n q'.c.c) (.slice q'.m.A q'.m.n q'.m.c) (.slice q'.t.A q'.t.n q'.t.c) (.int .i64 q'.stop));have ZF:=hid (blk_off bz (off6 (S:=λ k=>k=gN) rfl (.int .i64 q'.now) (.slice q'.p.A q'.p.n q'.p.c) (.slice q'.c.A q'.c.n q'.c.c) (.slice q'.m.A q'.m.n q'.m.c) (.slice q'.t.A q'.t.n q'.t.c) (.int .i64 q'.stop)) (by omega));have CF:=hid (obj_off cb (off6 (S:=λ k=>k=gN) rfl (.int .i64 q'.now) (.slice q'.p.A q'.p.n q'.p.c) (.slice q'.c.A q'.c.n q'.c.c) (.slice q'.m.A q'.m.n q'.m.c) (.slice q'.t.A q'.t.n q'.t.c) (.int .i64 q'.stop)) (by omega));have WF:=hid (wq.to (off6 (S:=λ k=>k<B1\/k=gN\/k=ch\/u9.ownBlock=some k) (.inr (.inl rfl)) (.int .i64 q'.now) (.slice q'.p.A q'.p.n q'.p.c) (.slice q'.c.A q'.c.n q'.c.c) (.slice q'.m.A q'.m.n q'.m.c) (.slice q'.t.A q'.t.n q'.t.c) (.int .i64 q'.stop)));have OF:=hid (own_off hI (off6 (S:=λ k=>k=gN) rfl (.int .i64 q'.now) (.slice q'.p.A q'.p.n q'.p.c) (.slice q'.c.A q'.c.n q'.c.c) (.slice q'.m.A q'.m.n q'.m.c) (.slice q'.t.A q'.t.n q'.t.c) (.int .i64 q'.stop)) (λ k h1 h2=>by have:=hR k h1;omega));have GF:=hid (put6_gr (x0:=.int .i64 q'.now) (x1:=.slice q'.p.A q'.p.n q'.p.c) (x2:=.slice q'.c.A q'.c.n q'.c.c) (x3:=.slice q'.m.A q'.m.n q'.m.c) (x4:=.slice q'.t.A q'.t.n q'.t.c) (x5:=.int .i64 q'.stop) (b:=gN) GI.out (by omega));have SF:=hid (show K2<=_ from Nat.le_trans (show K2<=wr.heap.size by omega) (off6 (S:=λ k=>k=gN) (W:=wr) rfl (.int .i64 q'.now) (.slice q'.p.A q'.p.n q'.p.c) (.slice q'.c.A q'.c.n q'.c.c) (.slice q'.m.A q'.m.n q'.m.c) (.slice q'.t.A q'.t.n q'.t.c) (.int .i64 q'.stop)).1);have GV:=hid (show GoW ω ((L.map rd).take (j+1)) ψ (H++happ j ψ.now ev) by have:=GoW.snoc HG.out HBO.out;rw [<- HTK.out,htl.out] at this;exact this);have ltn:=bn.lt;have lt12:=b12.lt;have hne:g12≠gN:=by omega
       obtain⟨⟨n0,nz0⟩,⟨n1,nz1⟩,⟨n2,nz2⟩,⟨n3,nz3⟩,⟨n4,nz4⟩,⟨n5,nz5⟩⟩:=at6z bn;obtain⟨⟨d0,dz0⟩,⟨d1,dz1⟩,⟨d2,dz2⟩,⟨d3,dz3⟩,⟨d4,dz4⟩,⟨d5,dz5⟩⟩:=at6z b12;clear cb wq hI hR sz1 b12 bz e9 HI WQ6 CB6 HBO;go_wp2_with fail;go_roundw
       case rel=>exact⟨j+1,ψ,H++happ j ψ.now ev,q',by omega,by go_num,GV,BF,ZF,WF,OF,GF,SF,CF⟩
       case measure=>simp [intOf];omega
  . have hjn':j=n:=by omega
    subst hjn';have hzb:=ZB.out;have hkn:=KN.out;have CB1:wr.heap[ch]?=some (.chan j #[] true j j false):=by have:=CB.out;rw [List.drop_of_length_le (by omega)] at this;exact this
    obtain⟨A9,c9,hv9⟩:=own_form HO.out;subst hv9;go_upto_region 9 with fail;rename_i hK;refine Runs.region ?_;show Runs _ _ _ [0,1] _ _;refine Runs.none 0 (c:=ch) (z:=.agg #[.int .i64 0,.int .i64 0]) (w₁:=wr) CB1 ?_;refine Runs.val 1 (v:=.bool false) ?_;refine Runs.of_wp (hK _ _ ?_);clear hK CB CB1;have bn:=BQ.out;have bz:=BZR.out;have hR:=λ k=>HO.out.lt k
    have BF:=hid (put6_blk bz rfl (.int .i64 q.now) (.slice q.p.A q.p.n q.p.c) (.slice q.c.A q.c.n q.c.c) (.slice q.m.A q.m.n q.m.c) (.slice q.t.A q.t.n q.t.c) (.int .i64 q.stop));have WF:=hid ((WQ.out.to (off6 (S:=λ k=>k<B1\/k=gN\/k=ch\/(Value.slice A9 H.length c9).ownBlock=some k) (b:=w.heap.size+1) (.inl (by omega)) (.int .i64 q.now) (.slice q.p.A q.p.n q.p.c) (.slice q.c.A q.c.n q.c.c) (.slice q.m.A q.m.n q.m.c) (.slice q.t.A q.t.n q.t.c) (.int .i64 q.stop))).sub (S':=λ k=>k<w.heap.size\/(Value.slice A9 H.length c9).ownBlock=some k) (λ k _ h=>h.elim (λ h=>.inl (by omega)) λ h=>.inr (.inr (.inr h))));have OF:=hid (own_low (own_off HO.out (off6 (S:=λ k=>k=w.heap.size+1) rfl (.int .i64 q.now) (.slice q.p.A q.p.n q.p.c) (.slice q.c.A q.c.n q.c.c) (.slice q.m.A q.m.n q.m.c) (.slice q.t.A q.t.n q.t.c) (.int .i64 q.stop)) (λ k h1 h2=>by have:=hR k h1;omega)) (show w.heap.size<=K2 by omega));have GF:=hid (put6_gr (x0:=.int .i64 q.now) (x1:=.slice q.p.A q.p.n q.p.c) (x2:=.slice q.c.A q.c.n q.c.c) (x3:=.slice q.m.A q.m.n q.m.c) (x4:=.slice q.t.A q.t.n q.t.c) (x5:=.int .i64 q.stop) (b:=w.heap.size+1) GW.out (by omega));have GV:=hid (show GoW ω (L.map rd) χ H by have:=HG.out;rwa [List.take_of_length_le (by rw [List.length_map];omega)] at this);have ltn:=bn.lt;have ltz:=bz.lt;obtain⟨q0,q1,q2,q3,q4,q5⟩:=at6 bn;obtain⟨⟨z0,zz0⟩,⟨z1,zz1⟩,⟨z2,zz2⟩,⟨z3,zz3⟩,⟨z4,zz4⟩,⟨z5,zz5⟩⟩:=at6z bz;clear bn bz HG HO WQ BQ BZR GW KW hR hzb hkn;go_wp2_with fail;clear ltn ltz q0 q1 q2 q3 q4 q5 z0 zz0 z1 zz1 z2 zz2 z3 zz3 z4 zz4 z5 zz5;generalize (((((wr.setCell ⟨w.heap.size+1,0,none⟩ (.int .i64 q.now)).setCell ⟨w.heap.size+1,1,none⟩ (.slice q.p.A q.p.n q.p.c)).setCell ⟨w.heap.size+1,2,none⟩ (.slice q.c.A q.c.n q.c.c)).setCell ⟨w.heap.size+1,3,none⟩ (.slice q.m.A q.m.n q.m.c)).setCell ⟨w.heap.size+1,4,none⟩ (.slice q.t.A q.t.n q.t.c)).setCell ⟨w.heap.size+1,5,none⟩ (.int .i64 q.stop)=Wf at BF WF OF GF ⊢;obtain⟨f0,f1,f2,f3,f4,f5⟩:=at6 BF.out;exact bodyPost_ret (v:=.tuple #[q.v,.slice A9 H.length c9,.int .i64 0]) (by simp [results,results28,go_sem,f0,f1,f2,f3,f4,f5,WR.v]) rfl
     ⟨⟨q,χ,A9,H.length,c9,H,0,rfl,.inr (.inr ⟨by omega,hr,GV.out,rfl⟩),WF.out,OF.out,rfl⟩,GF.out⟩
end
end P17
end
section
open Go.Conc Go.ChangeShapes Go.WideShapes Go.ChangeAt Go.RowKit
namespace P17
open P16
def zeroR:WR:=⟨0,⟨none,0,0⟩,⟨none,0,0⟩,⟨none,0,0⟩,⟨none,0,0⟩,0⟩
section
variable {w:World} {r:WR} {ω:Wv} {A:Option Addr} {n c:Nat} {L:List Int}
theorem zeroR_off {S:Nat->Prop} {W:World}:WOff S W zeroR zeroW:=λ W' _=>zeroW_is W'
theorem go_long (h:WIs w r ω) (hm:IMem w A n L) (hn:20000<n) :
 Calls prog 28 #[r.v,.slice A n c] w (GoQ w ω L):=by
 have hlen:=hm.1;have n1:(20000:Int)<(n:Int):=by omega
 have BZ:=Blk.new (w.alloc (.cells r.a 29)) #[.int .i64 0,.slice none 0 0,.slice none 0 0,.slice none 0 0,.slice none 0 0,.int .i64 0] 29;rw [zsA] at BZ;have G0:=hid (((zr w).al (.cells r.a 29)).al (.cells #[.int .i64 0,.slice none 0 0,.slice none 0 0,.slice none 0 0,.slice none 0 0,.int .i64 0] 29));go_enter func28,ntmps28;go_upto_region 1 with fail;generalize (w.alloc (.cells r.a 29)).alloc (.cells #[.int .i64 0,.slice none 0 0,.slice none 0 0,.slice none 0 0,.slice none 0 0,.int .i64 0] 29)=V at BZ G0 ⊢;have ltz:=BZ.lt;obtain⟨⟨z0,zz0⟩,⟨z1,zz1⟩,⟨z2,zz2⟩,⟨z3,zz3⟩,⟨z4,zz4⟩,⟨z5,zz5⟩⟩:=at6z BZ;have BF:=hid (put6_blk BZ rfl (.int .i64 0) (.slice none 0 0) (.slice none 0 0) (.slice none 0 0) (.slice none 0 0) (.int .i64 0));have GF:=hid (put6_gr (x0:=.int .i64 0) (x1:=.slice none 0 0) (x2:=.slice none 0 0) (x3:=.slice none 0 0) (x4:=.slice none 0 0) (x5:=.int .i64 0) (b:=w.heap.size+1) G0.out (by omega));go_wp2_with fail;clear z0 zz0 z1 zz1 z2 zz2 z3 zz3 z4 zz4 z5 zz5 ltz BZ;generalize (((((V.setCell ⟨w.heap.size+1,0,none⟩ (.int .i64 0)).setCell ⟨w.heap.size+1,1,none⟩ (.slice none 0 0)).setCell ⟨w.heap.size+1,2,none⟩ (.slice none 0 0)).setCell ⟨w.heap.size+1,3,none⟩ (.slice none 0 0)).setCell ⟨w.heap.size+1,4,none⟩ (.slice none 0 0)).setCell ⟨w.heap.size+1,5,none⟩ (.int .i64 0)=Wf at BF GF ⊢;obtain⟨f0,f1,f2,f3,f4,f5⟩:=at6 BF.out;exact bodyPost_ret (v:=.tuple #[zeroR.v,.slice none 0 0,.int .i64 2]) (by simp [results,results28,go_sem,f0,f1,f2,f3,f4,f5,WR.v,zeroR]) rfl
  ⟨⟨zeroR,zeroW,none,0,0,[],2,rfl,.inl ⟨by omega,rfl,rfl,rfl⟩,zeroR_off,HOwn.nil _ _,rfl⟩,GF.out⟩
theorem go_wrong (h:WIs w r ω) (hm:IMem w A n L) (hn:n<=20000) (hr:¬ RightW ω) :
 Calls prog 28 #[r.v,.slice A n c] w (GoQ w ω L):=by
 have hlen:=hm.1;have cR:=λ W (g:Gr w W)=>hid (P16.Right_is (W:=W) (h.gr g) (v:=false) (by simp [hr]))
 have n1:¬ (20000:Int)<(n:Int):=by omega
 have BW:=(Blk.new w r.a 29).al (.cells #[.int .i64 0,.slice none 0 0,.slice none 0 0,.slice none 0 0,.slice none 0 0,.int .i64 0] 29);have BZ:=Blk.new (w.alloc (.cells r.a 29)) #[.int .i64 0,.slice none 0 0,.slice none 0 0,.slice none 0 0,.slice none 0 0,.int .i64 0] 29;rw [zsA] at BZ;have G0:=hid (((zr w).al (.cells r.a 29)).al (.cells #[.int .i64 0,.slice none 0 0,.slice none 0 0,.slice none 0 0,.slice none 0 0,.int .i64 0] 29));go_enter func28,ntmps28;go_upto_region 1 with fail;generalize (w.alloc (.cells r.a 29)).alloc (.cells #[.int .i64 0,.slice none 0 0,.slice none 0 0,.slice none 0 0,.slice none 0 0,.int .i64 0] 29)=V at BW BZ G0 ⊢;have ltw:=BW.lt;obtain⟨⟨b0,bz0⟩,⟨b1,bz1⟩,⟨b2,bz2⟩,⟨b3,bz3⟩,⟨b4,bz4⟩,⟨b5,bz5⟩⟩:=at6z BW;replace cR:=cR V G0.out;go_wp2_with fail;refine cR.out.mono ?_;rintro e w1 ⟨rfl,g1⟩;replace BZ:=BZ.gr g1;have G1:=hid (G0.out.trans g1);clear b0 bz0 b1 bz1 b2 bz2 b3 bz3 b4 bz4 b5 bz5 ltw cR g1 G0 BW;have ltz:=BZ.lt;obtain⟨⟨z0,zz0⟩,⟨z1,zz1⟩,⟨z2,zz2⟩,⟨z3,zz3⟩,⟨z4,zz4⟩,⟨z5,zz5⟩⟩:=at6z BZ;have BF:=hid (put6_blk BZ rfl (.int .i64 0) (.slice none 0 0) (.slice none 0 0) (.slice none 0 0) (.slice none 0 0) (.int .i64 0));have GF:=hid (put6_gr (x0:=.int .i64 0) (x1:=.slice none 0 0) (x2:=.slice none 0 0) (x3:=.slice none 0 0) (x4:=.slice none 0 0) (x5:=.int .i64 0) (b:=w.heap.size+1) G1.out (by omega));go_wp2_with fail;clear z0 zz0 z1 zz1 z2 zz2 z3 zz3 z4 zz4 z5 zz5 ltz BZ;generalize (((((w1.setCell ⟨w.heap.size+1,0,none⟩ (.int .i64 0)).setCell ⟨w.heap.size+1,1,none⟩ (.slice none 0 0)).setCell ⟨w.heap.size+1,2,none⟩ (.slice none 0 0)).setCell ⟨w.heap.size+1,3,none⟩ (.slice none 0 0)).setCell ⟨w.heap.size+1,4,none⟩ (.slice none 0 0)).setCell ⟨w.heap.size+1,5,none⟩ (.int .i64 0)=Wf at BF GF ⊢;obtain⟨f0,f1,f2,f3,f4,f5⟩:=at6 BF.out;exact bodyPost_ret (v:=.tuple #[zeroR.v,.slice none 0 0,.int .i64 1]) (by simp [results,results28,go_sem,f0,f1,f2,f3,f4,f5,WR.v,zeroR]) rfl
  ⟨⟨zeroR,zeroW,none,0,0,[],1,rfl,.inr (.inl ⟨by omega,hr,rfl,rfl,rfl⟩),zeroR_off,HOwn.nil _ _,rfl⟩,GF.out⟩
theorem Go_is (hM:Mach) (hg:P15.Glob w) (h:WIs w r ω) (hm:IMem w A n L):Calls prog 28 #[r.v,.slice A n c] w (GoQ w ω L):=by
 by_cases hn:20000<n
 . exact go_long h hm hn
 . by_cases hr:RightW ω
   . exact go_goes hM hg h hm (by omega) hr
   . exact go_wrong h hm (by omega) hr
end
end P17
end
section
open Go.Conc Go.ChangeShapes Go.WideShapes Go.ChangeAt Go.RowKit
namespace P17
open P16
open P12 (PV PMem)
open P13 (rd)
def PlayR (l:List (List Ac)) (L:List Int) (ψ:Wv) (H:List Hp) (x:Int):Prop :=
 (20000<L.length/\ψ=zeroW/\H=[]/\x=2)\/(L.length<=20000/\P12.rightB l=false/\ψ=zeroW/\H=[]/\x=1)\/(L.length<=20000/\P12.rightB l=true/\GoW (newW l) (L.map rd) ψ H/\x=0)
def PlayQ (w:World) (l:List (List Ac)) (L:List Int) (e:Ending) (w':World):Prop :=
 (∃ (s:WR) (ψ:Wv) (A:Option Addr) (n c:Nat) (H:List Hp) (x:Int),e=.returned (.tuple #[s.v,.slice A n c,.int .i64 x])/\PlayR l L ψ H x /\
   WOff (λ k=>k<w.heap.size\/(Value.slice A n c).ownBlock=some k) w' s ψ/\HOwn w' w.heap.size (.slice A n c) H/\H.length=n)/\Gr w w'
section
variable {w:World} {A P:Option Addr} {n c m d:Nat} {L:List Int} {R:List PV}
theorem play_long (hm:IMem w A n L) (hn:20000<n):Calls prog 26 #[.slice P m d,.slice A n c] w (PlayQ w (P12.pl R) L):=by
 have hlen:=hm.1;have n1:(20000:Int)<(n:Int):=by omega
 have BZ:=Blk.new w #[.int .i64 0,.slice none 0 0,.slice none 0 0,.slice none 0 0,.slice none 0 0,.int .i64 0] 29;have G0:=hid ((zr w).al (.cells #[.int .i64 0,.slice none 0 0,.slice none 0 0,.slice none 0 0,.slice none 0 0,.int .i64 0] 29));go_enter func26,ntmps26;go_upto_region 1 with fail;generalize w.alloc (.cells #[.int .i64 0,.slice none 0 0,.slice none 0 0,.slice none 0 0,.slice none 0 0,.int .i64 0] 29)=V at BZ G0 ⊢;have ltz:=BZ.lt;obtain⟨⟨z0,zz0⟩,⟨z1,zz1⟩,⟨z2,zz2⟩,⟨z3,zz3⟩,⟨z4,zz4⟩,⟨z5,zz5⟩⟩:=at6z BZ;have BF:=hid (put6_blk BZ rfl (.int .i64 0) (.slice none 0 0) (.slice none 0 0) (.slice none 0 0) (.slice none 0 0) (.int .i64 0));have GF:=hid (put6_gr (x0:=.int .i64 0) (x1:=.slice none 0 0) (x2:=.slice none 0 0) (x3:=.slice none 0 0) (x4:=.slice none 0 0) (x5:=.int .i64 0) (b:=w.heap.size) G0.out (Nat.le_refl _));go_wp2_with fail;clear z0 zz0 z1 zz1 z2 zz2 z3 zz3 z4 zz4 z5 zz5 ltz BZ;generalize (((((V.setCell ⟨w.heap.size,0,none⟩ (.int .i64 0)).setCell ⟨w.heap.size,1,none⟩ (.slice none 0 0)).setCell ⟨w.heap.size,2,none⟩ (.slice none 0 0)).setCell ⟨w.heap.size,3,none⟩ (.slice none 0 0)).setCell ⟨w.heap.size,4,none⟩ (.slice none 0 0)).setCell ⟨w.heap.size,5,none⟩ (.int .i64 0)=Wf at BF GF ⊢;obtain⟨f0,f1,f2,f3,f4,f5⟩:=at6 BF.out;exact bodyPost_ret (v:=.tuple #[zeroR.v,.slice none 0 0,.int .i64 2]) (by simp [results,results26,go_sem,f0,f1,f2,f3,f4,f5,WR.v,zeroR]) rfl
  ⟨⟨zeroR,zeroW,none,0,0,[],2,rfl,.inl ⟨by omega,rfl,rfl,rfl⟩,zeroR_off,HOwn.nil _ _,rfl⟩,GF.out⟩
theorem play_short (hM:Mach) (hg:P15.Glob w) (hP:PMem w P m R) (hp:m<=9223372036854775807) (hm:IMem w A n L) (hn:n<=20000):Calls prog 26 #[.slice P m d,.slice A n c] w (PlayQ w (P12.pl R) L):=by
 have hlen:=hm.1;have n1:¬ (20000:Int)<(n:Int):=by omega
 have BZ:=Blk.new w #[.int .i64 0,.slice none 0 0,.slice none 0 0,.slice none 0 0,.slice none 0 0,.int .i64 0] 29;have G0:=hid ((zr w).al (.cells #[.int .i64 0,.slice none 0 0,.slice none 0 0,.slice none 0 0,.slice none 0 0,.int .i64 0] 29));have HM:=hid hm;have HP:=hid hP;clear hm hP;go_enter func26,ntmps26;go_upto_region 3 with fail;generalize w.alloc (.cells #[.int .i64 0,.slice none 0 0,.slice none 0 0,.slice none 0 0,.slice none 0 0,.int .i64 0] 29)=V at BZ G0 ⊢;have cN:=hid (hM.new V P m d R (hg.gr G0.out) (HP.out.gr G0.out) hp);go_wp2_with fail;refine cN.out.mono ?_;rintro e w2 ⟨⟨s,ω,x,rfl,hN,hW⟩,g2⟩;have BS:=Blk.new w2 s.a 29;replace BZ:=(BZ.gr g2).al (.cells s.a 29);have G3:=hid ((G0.out.trans g2).al (.cells s.a 29));have W3':=hid ((hW.is).gr ((zr w2).al (.cells s.a 29)));have k2:=g2.size;clear cN hW g2;go_upto_region 4 with fail;generalize w2.alloc (.cells s.a 29)=W3 at BS BZ G3 W3' ⊢;generalize w2.heap.size=gs at BS k2 ⊢;rcases hN with ⟨hr,rfl,rfl⟩ | ⟨hr,rfl,rfl⟩
 . have ltb:=BS.lt
   have ltz0:=BZ.lt;obtain⟨⟨b0,bz0⟩,⟨b1,bz1⟩,⟨b2,bz2⟩,⟨b3,bz3⟩,⟨b4,bz4⟩,⟨b5,bz5⟩⟩:=at6z BS;have cG:=hid (Go_is (c:=c) hM (hg.gr G3.out) W3'.out (HM.out.gr G3.out));go_wp2_with fail;refine cG.out.mono ?_;rintro e w4 ⟨⟨q,ψ,B,k,f,H,x,rfl,hR,hO,hH,hk⟩,g4⟩;replace BZ:=BZ.gr g4;have G4:=hid (G3.out.trans g4);have hrow:=λ j=>hH.lt j
   clear b0 bz0 b1 bz1 b2 bz2 b3 bz3 b4 bz4 b5 bz5 ltb cG BS g4;have BF:=hid (put6_blk BZ rfl (.int .i64 q.now) (.slice q.p.A q.p.n q.p.c) (.slice q.c.A q.c.n q.c.c) (.slice q.m.A q.m.n q.m.c) (.slice q.t.A q.t.n q.t.c) (.int .i64 q.stop));have GF:=hid (put6_gr (x0:=.int .i64 q.now) (x1:=.slice q.p.A q.p.n q.p.c) (x2:=.slice q.c.A q.c.n q.c.c) (x3:=.slice q.m.A q.m.n q.m.c) (x4:=.slice q.t.A q.t.n q.t.c) (x5:=.int .i64 q.stop) (b:=w.heap.size) G4.out (Nat.le_refl _));have WF:=hid ((hO.to (off6 (S:=λ j=>j<W3.heap.size\/(Value.slice B k f).ownBlock=some j) (b:=w.heap.size) (.inl ltz0) (.int .i64 q.now) (.slice q.p.A q.p.n q.p.c) (.slice q.c.A q.c.n q.c.c) (.slice q.m.A q.m.n q.m.c) (.slice q.t.A q.t.n q.t.c) (.int .i64 q.stop))).sub (S':=λ j=>j<w.heap.size\/(Value.slice B k f).ownBlock=some j) (λ j _ h=>h.elim (λ h=>.inl (by omega)) .inr));have OF:=hid (own_low (own_off hH (off6 (S:=λ j=>j=w.heap.size) rfl (.int .i64 q.now) (.slice q.p.A q.p.n q.p.c) (.slice q.c.A q.c.n q.c.c) (.slice q.m.A q.m.n q.m.c) (.slice q.t.A q.t.n q.t.c) (.int .i64 q.stop)) (λ j h1 h2=>by have:=hrow j h1;omega)) (show w.heap.size<=W3.heap.size by omega));have GV:PlayR (P12.pl R) L ψ H x:=by
    rcases hR with ⟨h1,_⟩ | ⟨_,h1,_⟩ | ⟨h1,_,h2,h3⟩
    . omega
    . exact absurd (new_right hr) h1
    . exact .inr (.inr ⟨h1,hr,h2,h3⟩)
   have ltz:=BZ.lt;obtain⟨⟨z0,zz0⟩,⟨z1,zz1⟩,⟨z2,zz2⟩,⟨z3,zz3⟩,⟨z4,zz4⟩,⟨z5,zz5⟩⟩:=at6z BZ;have HK:=hid hk;clear hR hO hH BZ ltz0 hrow hk;go_wp2_with fail;clear z0 zz0 z1 zz1 z2 zz2 z3 zz3 z4 zz4 z5 zz5 ltz;generalize (((((w4.setCell ⟨w.heap.size,0,none⟩ (.int .i64 q.now)).setCell ⟨w.heap.size,1,none⟩ (.slice q.p.A q.p.n q.p.c)).setCell ⟨w.heap.size,2,none⟩ (.slice q.c.A q.c.n q.c.c)).setCell ⟨w.heap.size,3,none⟩ (.slice q.m.A q.m.n q.m.c)).setCell ⟨w.heap.size,4,none⟩ (.slice q.t.A q.t.n q.t.c)).setCell ⟨w.heap.size,5,none⟩ (.int .i64 q.stop)=Wf at BF GF WF OF ⊢;obtain⟨f0,f1,f2,f3,f4,f5⟩:=at6 BF.out;exact bodyPost_ret (v:=.tuple #[q.v,.slice B k f,.int .i64 x]) (by simp [results,results26,go_sem,f0,f1,f2,f3,f4,f5,WR.v]) rfl
    ⟨⟨q,ψ,B,k,f,H,x,rfl,GV,WF.out,OF.out,HK.out⟩,GF.out⟩
 . have ltz:=BZ.lt
   obtain⟨⟨z0,zz0⟩,⟨z1,zz1⟩,⟨z2,zz2⟩,⟨z3,zz3⟩,⟨z4,zz4⟩,⟨z5,zz5⟩⟩:=at6z BZ;have BF:=hid (put6_blk BZ rfl (.int .i64 0) (.slice none 0 0) (.slice none 0 0) (.slice none 0 0) (.slice none 0 0) (.int .i64 0));have GF:=hid (put6_gr (x0:=.int .i64 0) (x1:=.slice none 0 0) (x2:=.slice none 0 0) (x3:=.slice none 0 0) (x4:=.slice none 0 0) (x5:=.int .i64 0) (b:=w.heap.size) G3.out (Nat.le_refl _));clear BS;go_wp2_with fail;clear z0 zz0 z1 zz1 z2 zz2 z3 zz3 z4 zz4 z5 zz5 ltz BZ;generalize (((((W3.setCell ⟨w.heap.size,0,none⟩ (.int .i64 0)).setCell ⟨w.heap.size,1,none⟩ (.slice none 0 0)).setCell ⟨w.heap.size,2,none⟩ (.slice none 0 0)).setCell ⟨w.heap.size,3,none⟩ (.slice none 0 0)).setCell ⟨w.heap.size,4,none⟩ (.slice none 0 0)).setCell ⟨w.heap.size,5,none⟩ (.int .i64 0)=Wf at BF GF ⊢;obtain⟨f0,f1,f2,f3,f4,f5⟩:=at6 BF.out;exact bodyPost_ret (v:=.tuple #[zeroR.v,.slice none 0 0,.int .i64 1]) (by simp [results,results26,go_sem,f0,f1,f2,f3,f4,f5,WR.v,zeroR]) rfl
    ⟨⟨zeroR,zeroW,none,0,0,[],1,rfl,.inr (.inl ⟨by omega,hr,rfl,rfl,rfl⟩),zeroR_off,HOwn.nil _ _,rfl⟩,GF.out⟩
theorem Play_is (hM:Mach) (hg:P15.Glob w) (hP:PMem w P m R) (hp:m<=9223372036854775807) (hm:IMem w A n L):Calls prog 26 #[.slice P m d,.slice A n c] w (PlayQ w (P12.pl R) L):=by
 by_cases hn:20000<n
 . exact play_long hm hn
 . exact play_short hM hg hP hp hm (by omega)
end
end P17
end
section
namespace P17
open P16
open P12 (PV PMem)
theorem imem_blk {w:World} {b:Nat} {l:List Int} {t:TypeId} (h:Blk w b (l.map λ x=>Value.int .i64 x).toArray t) (hb:∀ x∈l,B64 x):IMem w (some ⟨b,0,none⟩) l.length l :=
 ⟨rfl,hb,λ _=>⟨b,0,rfl,h.lt,λ j x hx=>by rw [Nat.zero_add];exact (h.at_ (by simp [hx])).1⟩⟩
theorem run_hp_eq (a b c d e:Int) (w:World):(binOp .eql 77 (.agg #[.int .i64 a,.int .i64 b,.int .i64 c,.int .i64 d,.int .i64 e]) (.agg #[.int .i64 a,.int .i64 b,.int .i64 c,.int .i64 d,.int .i64 e])).run prog w=.ok (.bool true) w:=by
 go_simp
section
variable {w:World}
theorem alive17_is (hM:Mach) (hg:P15.Glob w):Calls prog 27 #[] w λ e w'=>e=.returned (.bool true)/\Gr w w':=by
 have b0:=((Blk.new w #[.int .i64 0,.int .i64 0,.int .i64 2,.int .i64 0] 67).al (.cells #[.slice (some ⟨w.heap.size,0,none⟩) 2 2] 64)).al (.cells #[.int .i64 0,.int .i64 (-5),.int .i64 0] 3);have b1:=(Blk.new (w.alloc (.cells #[.int .i64 0,.int .i64 0,.int .i64 2,.int .i64 0] 67)) #[.slice (some ⟨w.heap.size,0,none⟩) 2 2] 64).al (.cells #[.int .i64 0,.int .i64 (-5),.int .i64 0] 3);have b2:=Blk.new ((w.alloc (.cells #[.int .i64 0,.int .i64 0,.int .i64 2,.int .i64 0] 67)).alloc (.cells #[.slice (some ⟨w.heap.size,0,none⟩) 2 2] 64)) #[.int .i64 0,.int .i64 (-5),.int .i64 0] 3;have g1:=(((zr w).al (.cells #[.int .i64 0,.int .i64 0,.int .i64 2,.int .i64 0] 67)).al (.cells #[.slice (some ⟨w.heap.size,0,none⟩) 2 2] 64)).al (.cells #[.int .i64 0,.int .i64 (-5),.int .i64 0] 3);have hm:=P12.mem_blk b0 (l:=p0) rfl (by simp [Inb]);have hP:=P12.pmem_one (x:=⟨some ⟨w.heap.size,0,none⟩,2,2,p0⟩) b1 ⟨hm,Nat.le_refl _,by show (2:Nat)<=9223372036854775807;decide⟩;have hI:IMem _ _ 3 [0,-5,0]:=imem_blk (l:=[0,-5,0]) b2 (by simp [B64]);rw [zsA] at hP;simp only [zsA] at hI;have cP:=hid (Play_is (c:=3) (d:=1) hM (hg.gr g1) hP (by decide) hI);have G1:=hid g1;clear b0 b1 b2 hm hP hI g1;go_enter func27,ntmps27;go_wp2_with fail;refine cP.out.mono ?_;rintro e w1 ⟨⟨s,ψ,A,n,c,H,x,rfl,hR,hW,hH,hn⟩,g2⟩;obtain⟨rfl,h5,rfl⟩:x=0/\ψ.now=5/\H=[(0,0,0,0,0),(2,5,0,3,0)]:=by
  rcases hR with ⟨q,_⟩ | ⟨_,q,_⟩ | ⟨_,_,q,q2⟩
  . exact absurd q (by decide)
  . exact absurd (show P12.rightB [p0]=false from q) (by decide)
  . obtain⟨e1,e2⟩:=alive17 q
    exact⟨q2,e1,e2⟩
 obtain rfl:2=n:=hn;have HS5:=hid (show s.now=5 from hW.is.now.trans h5);clear h5;obtain⟨g,hA,-,hO⟩:=own_orow hpV_len hH (by decide);subst hA;have f0:=(hO.at_ (i:=1) (x:=(2,5,0,3,0)) rfl (j:=0) (v:=.int .i64 2) rfl).1;have f1:=(hO.at_ (i:=1) (x:=(2,5,0,3,0)) rfl (j:=1) (v:=.int .i64 5) rfl).1;have f2:=(hO.at_ (i:=1) (x:=(2,5,0,3,0)) rfl (j:=2) (v:=.int .i64 0) rfl).1;have f3:=(hO.at_ (i:=1) (x:=(2,5,0,3,0)) rfl (j:=3) (v:=.int .i64 3) rfl).1;have f4:=(hO.at_ (i:=1) (x:=(2,5,0,3,0)) rfl (j:=4) (v:=.int .i64 0) rfl).1;have hlt:=hO.lt;have B:=Blk.new w1 s.a 29;have G3:=hid ((G1.out.trans g2).al (.cells s.a 29));have g3:=(zr w1).al (.cells s.a 29);have hne:=run_hp_eq 2 5 0 3 0;replace f0:=(g3.cell (p:=⟨g,5,none⟩) hlt).trans f0;replace f1:=(g3.cell (p:=⟨g,6,none⟩) hlt).trans f1;replace f2:=(g3.cell (p:=⟨g,7,none⟩) hlt).trans f2;replace f3:=(g3.cell (p:=⟨g,8,none⟩) hlt).trans f3;replace f4:=(g3.cell (p:=⟨g,9,none⟩) hlt).trans f4;clear hR hW hH hO hlt g2 g3 cP G1;go_upto_region 2 with fail;generalize w1.alloc (.cells s.a 29)=W at B G3 f0 f1 f2 f3 f4 ⊢;have lt:=B.lt;have p0:=(B.at_ (k:=0) (v:=.int .i64 s.now) rfl).1;rw [HS5.out] at p0;go_wp2_with fail;go_ret;exact⟨rfl,G3.out⟩
end
end P17
end
section
namespace P17
open P16
open P12 (badAt badAt_is ret_bool)
def okC (a:Cl):Bool:=a.gst==2
theorem undone_is {a:Cl} {B:Bool} (hf:okC a=B) (W:World) :
 Calls prog 54 #[.agg #[.int .i64 a.gst,.bool a.permit,.int .i64 a.act,.int .i64 a.pc,.int .i64 a.worked,.int .i64 a.ticket,.bool a.first,.bool a.told,.int .i64 a.since,.bool a.st,.bool a.aw,.int .i64 a.rounds,.int .i64 a.old]] W λ e w'=>e=.returned (.bool (!B))/\Gr W w':=by
 have hb:(a.gst != 2)=!B:=by rw [<- hf];rfl
 go_enter func54,ntmps54;go_wp2_with fail;go_ret;exact⟨rfl,(zr W).al _⟩
theorem IndexFuncC_ok (A:Option Addr) (n c:Nat) (l:List Cl) (w:World) (hm:CMem w A n l) (hn:n<=9223372036854775807) :
 Calls prog 80 #[.slice A n c,.func (.func 54) #[] #[]] w λ e w'=>e=.returned (.int .i64 (badAt okC l 0))/\Gr w w':=by
 go_enter func80,ntmps80;go_wp2_with fail
 go_loopw [8] (λ i wr=>∃ k:Nat,k<=n/\i=.int .i64 k/\Hid (badAt okC (l.drop k) k=badAt okC l 0)/\Gr w wr) (λ i _=>n-(intOf i).toNat)
 case atStart=>exact⟨0,Nat.zero_le _,rfl,hid rfl,zr _⟩
 case round =>
  obtain⟨k,hk,rfl,HB,hg⟩:=hrel;by_cases hlt:k<n
  . obtain⟨b,off,x,rfl,hbl,hx,-,c0,c1,c2,c3,c4,c5,c6,c7,c8,c9,c10,c11,c12⟩:=CMem.cells (RMem.gr hm hg) hlt
    have hd:l.drop k=x::l.drop (k+1):=by
     obtain⟨hl,rfl⟩:=List.getElem?_eq_some_iff.1 hx;exact List.drop_eq_getElem_cons hl
    cases hf:okC x
    . have hr:badAt okC l 0=(k:Int):=by rw [<- HB.out,hd];simp [badAt,hf]
      have HR:=hid hr;have cc:=λ w=>hid (undone_is hf w)
      clear hr hd hf hx HB hm;go_wp2_with fail;refine (cc _).out.mono ?_;rintro e w1 ⟨rfl,hb1⟩;go_wp2_with fail;go_ret;rw [HR.out];exact⟨rfl,hg.trans hb1⟩
    . have hr:Hid (badAt okC (l.drop (k+1)) (k+1)=badAt okC l 0):=hid (by rw [<- HB.out,hd];simp [badAt,hf])
      have cc:=λ w=>hid (undone_is hf w)
      clear hd hf hx HB hm;go_wp2_with fail;refine (cc _).out.mono ?_;rintro e w1 ⟨rfl,hb1⟩;go_wp2_with fail;go_roundw
      case rel=>exact⟨k+1,by omega,by go_num,hr,hg.trans hb1⟩
      case measure=>simp [intOf];omega
  . obtain rfl:k=n:=by omega
    have hr:badAt okC l 0=-1:=by rw [<- HB.out,List.drop_of_length_le (by have:=RMem.len hm;omega)];rfl
    have HR:=hid hr;clear hr HB hm;go_wp2_with fail;go_ret;rw [HR.out];exact⟨rfl,hg⟩
theorem ContainsFuncC_ok (A:Option Addr) (n c:Nat) (l:List Cl) (w:World) (hm:CMem w A n l) (hn:n<=9223372036854775807) :
 Calls prog 53 #[.slice A n c,.func (.func 54) #[] #[]] w λ e w'=>e=.returned (.bool (!l.all okC))/\Gr w w':=by
 have cc:=λ w hm=>hid (IndexFuncC_ok A n c l w hm hn)
 have HB:=hid (badAt_is okC l 0);generalize badAt okC l 0=r at *;go_enter func53,ntmps53;go_wp2_with fail;refine (cc _ hm).out.mono ?_;rintro e w1 ⟨rfl,hb1⟩;go_wp2_with fail;go_ret;exact⟨ret_bool HB.out,hb1⟩
theorem Done_is {w:World} {r:WR} {ω:Wv} {v:Bool} (h:WIs w r ω) (hv:v=true↔RightW ω) :
 Calls prog 32 #[r.v] w λ e w'=>e=.returned (.tuple #[.bool (v&&ω.cl.all okC),.int .i64 (if v=true then 0 else 1)])/\Gr w w':=by
 have cR:=λ W (g:Gr w W)=>hid (P16.Right_is (W:=W) (h.gr g) (v:=v) hv)
 have cC:=λ W (g:Gr w W)=>hid (ContainsFuncC_ok r.c.A r.c.n r.c.c ω.cl W (h.c.gr g) h.oc.lt)
 clear hv;have BW:=Blk.new w r.a 29;have G0:=hid ((zr w).al (.cells r.a 29));go_enter func32,ntmps32;go_upto_region 1 with fail;generalize w.alloc (.cells r.a 29)=V at BW G0 ⊢;have ltw:=BW.lt;obtain⟨⟨b0,bz0⟩,⟨b1,bz1⟩,⟨b2,bz2⟩,⟨b3,bz3⟩,⟨b4,bz4⟩,⟨b5,bz5⟩⟩:=at6z BW;replace cR:=cR V G0.out;go_wp2_with fail;refine cR.out.mono ?_;rintro e w1 ⟨rfl,g1⟩;replace BW:=BW.gr g1;have G1:=hid (G0.out.trans g1);clear b0 bz0 b1 bz1 b2 bz2 b3 bz3 b4 bz4 b5 bz5 ltw cR g1;have ltw:=BW.lt;obtain⟨b2,bz2⟩:=BW.at_ (k:=2) (v:=.slice r.c.A r.c.n r.c.c) rfl;replace cC:=cC w1 G1.out
 cases v with
 | false =>
  clear cC;go_wp2_with fail;go_ret2;exact⟨rfl,G1.out⟩
 | true =>
  go_wp2_with fail;refine cC.out.mono ?_;rintro e w2 ⟨rfl,g2⟩;go_wp2_with fail;go_ret2;exact⟨by simp,G1.out.trans g2⟩
end P17
end
section
namespace P17
open P16
section
variable {ω ψ χ:Wv} {p:P13.Pk} {ev:List T3} {l r:List P13.Pk} {H:List Hp} {d:Int}
theorem GoW.parts (h:GoW ω (l++r) ψ H):∃ χ F R,GoW ω l χ F/\GoW χ r ψ R/\H=F++later l.length R:=by
 generalize hn:r.length=n
 induction n generalizing r ψ H with
 | zero =>
  obtain rfl:=zen hn;rw [List.append_nil] at h;exact⟨ψ,H,[],h,.nil,by simp [later]⟩
 | succ n ih =>
  rcases List.eq_nil_or_concat r with rfl | ⟨r',p,rfl⟩
  . simp at hn
  rw [List.concat_eq_append] at h hn ⊢;rw [<- List.append_assoc] at h;obtain⟨χ1,H1,ev,k1,k2,rfl⟩:=GoW.last h;obtain⟨χ,F,R,j1,j2,rfl⟩:=ih k1 (by simpa using hn);exact⟨χ,F,_,j1,j2.snoc k2,((GoW.one (j1.join (j2.snoc k2)) (by rw [<- List.append_assoc];exact (j1.join j2).snoc k2)).2).symm⟩
theorem OneR.fine (hf:Fine ω) (hp:P13.okP p) (h:OneR ω p ψ ev):Fine ψ:=by
 rcases h with ⟨_,x,h⟩ | ⟨q,_,τ,y,h,hy⟩
 . exact (StepM.fine hf h).1
 . have ht:Tim p.2:=by
    rcases hp with ⟨q',_⟩ | ⟨_,h1,h2⟩
    . omega
    . exact⟨by omega,h2⟩
   have hr:=hf.right;by_cases hn:ω.now+p.2<=4611686018427387904
   . obtain⟨f,rfl,_⟩:=TickM.fine hf ht hn h
     rcases hy with ⟨_,rfl⟩ | ⟨e,_⟩
     . exact f
     . exact absurd rfl e
   . rcases h with ⟨q,_⟩ | ⟨_,_,q,rfl,rfl⟩ | ⟨_,_,_,q,_⟩ | ⟨_,_,_,_,rfl,rfl⟩
     . exact absurd ⟨hr,ht⟩ q
     . rcases hy with ⟨_,rfl⟩ | ⟨_,rfl⟩<;>exact hf
     . exact absurd q hn
     . rcases hy with ⟨e,_⟩ | ⟨_,rfl⟩
       . omega
       . exact hf
theorem GoW.fine (hf:Fine ω) (h:GoW ω l ψ H):(∀ p∈l,P13.okP p)->Fine ψ:=by
 induction h with
 | nil=>exact λ _=>hf
 | snoc h1 h2 ih=>exact λ hp=>OneR.fine (ih λ q hq=>hp q (List.mem_append_left _ hq)) (hp _ (by simp)) h2
structure Bal (ω ψ:Wv) (H:List Hp):Prop where
 ev:evT (mw ψ)+(H.length:Int)=evT (mw ω)
 kd:∀ x∈H,x.2.2.2.1=0\/x.2.2.2.1=3
theorem Bal.refl:Bal ω ω []:=⟨by simp,by simp⟩
theorem Bal.trans {F R:List Hp} {k:Nat} (h:Bal ω χ F) (g:Bal χ ψ R):Bal ω ψ (F++later k R):=by
 refine⟨?_,λ x hx=>?_⟩
 . have h1:=h.ev
   have h2:=g.ev;have:(later k R).length=R.length:=by unfold later;rw [List.length_map]
   rw [List.length_append,this];omega
 . rcases List.mem_append.1 hx with q | q
   . exact h.kd x q
   . unfold later at q
     obtain⟨y,hy,rfl⟩:=List.mem_map.1 q;exact g.kd y hy
theorem step_go {who:Nat} (hf:Fine ω) (hg:P16.Good (mw ω)) (h:OneR ω (0,(who:Int)) ψ ev) {k:Nat} :
 Fine ψ/\mw ψ=(P16.stp (mw ω) who).1/\ψ.progs=ω.progs/\Bal ω ψ (happ k ψ.now ev):=by
 rcases h with ⟨_,x,h⟩ | ⟨q,_⟩
 case inr=>exact absurd (show (0:Int)=1 from q) (by decide)
 obtain⟨f,-,pr,q | ⟨_,_,_,e1,rfl⟩⟩:=StepM.fine hf h
 . have:=q.1;dsimp only at this;omega
 dsimp only at e1 ⊢;rw [Int.toNat_natCast] at e1 ⊢;have h1:=step_ev (who:=who) hg;have h2:=(own_step (who:=who) hg.wi hg.ow hg.st).2.2;refine⟨f,e1,pr,?_,λ x hx=>?_⟩
 . rw [e1]
   unfold happ
   cases hs:(P16.stp (mw ω) who).2 with
   | none=>rw [hs] at h1;simpa using h1
   | some x=>rw [hs] at h1;simpa using h1
 . unfold happ at hx
   obtain⟨y,hy,rfl⟩:=List.mem_map.1 hx;exact h2 y (by simpa using hy)
theorem evT_tickR {w:Mw}:evT (tickR w d)=evT w:=by
 obtain⟨h1,h2,_⟩:=tickR_cl (w:=w) (d:=d);unfold evT;rw [h2];congr 1;funext i;unfold evW;rw [h1,h2]
theorem tick_go (hf:Fine ω) (hd:1<=d/\d<=4611686018427387904) (h:OneR ω (1,d) ψ ev) {k:Nat}:Fine ψ/\mw ψ=tickR (mw ω) d/\ψ.progs=ω.progs/\Bal ω ψ (happ k ψ.now ev):=by
 rcases h with ⟨q,_⟩ | ⟨_,rfl,τ,y,h,hy⟩
 . exact absurd (show (1:Int)=0 from q) (by decide)
 have ht:Tim d:=⟨by omega,hd.2⟩;have hr:=hf.right;have key:Fine ψ/\mw ψ=tickR (mw ω) d/\ψ.progs=ω.progs:=by
  by_cases hn:ω.now+d<=4611686018427387904
  . obtain⟨f,rfl,q⟩:=TickM.fine hf ht hn h
    obtain rfl:ψ=τ:=by rcases hy with ⟨_,e⟩ | ⟨e,_⟩;(· exact e);exact absurd rfl e
    rcases q with ⟨q,rfl⟩ | ⟨q,rfl⟩
    . refine⟨f,?_,rfl⟩
      unfold tickR;rw [if_neg (λ e=>q e.1)]
    . refine⟨f,?_,rfl⟩
      unfold tickR;rw [if_pos ⟨q,hn⟩];rfl
  . have e:ψ=ω:=by
     rcases h with ⟨q,_⟩ | ⟨_,_,q,rfl,rfl⟩ | ⟨_,_,_,q,_⟩ | ⟨_,_,q,q2,rfl,rfl⟩
     . exact absurd ⟨hr,ht⟩ q
     . rcases hy with ⟨_,e⟩ | ⟨_,e⟩<;>exact e
     . exact absurd q hn
     . rcases hy with ⟨e,_⟩ | ⟨_,e⟩
       . omega
       . exact e
    subst e;refine⟨hf,?_,rfl⟩;unfold tickR;rw [if_neg (λ e=>hn e.2)]
 refine⟨key.1,key.2.1,key.2.2,?_,λ x hx=>by cases hx⟩;rw [key.2.1,evT_tickR];simp [happ]
def sp (k:Nat):List P13.Pk:=(List.range k).map λ i:Nat=>((0:Int),(i:Int))
def rp (n:Nat) (d:Int):List P13.Pk:=sp n++[(1,d)]
def tl (n:Nat) (d:Int):Nat->List P13.Pk
 | 0=>[]
 | k+1=>rp n d++tl n d k
theorem sp_succ (k:Nat):sp (k+1)=sp k++[(0,(k:Int))]:=by unfold sp;rw [List.range_succ,List.map_append];rfl
theorem later_happ (k:Nat) (now:Int) (ev:List T3):happ k now ev=later k (happ 0 now ev):=by
 unfold later happ;rw [List.map_map];refine List.map_congr_left λ x _=>?_
 show ((k:Int),now,x)=((0:Nat)+(k:Int),now,x);simp
theorem sweep_go (hf:Fine ω) (hg:P16.Good (mw ω)):∀ (k:Nat) {ψ:Wv} {H:List Hp},GoW ω (sp k) ψ H->Fine ψ/\mw ψ=sweep (mw ω) k/\ψ.progs=ω.progs/\Bal ω ψ H:=by
 intro k
 induction k with
 | zero =>
  intro ψ H h;obtain⟨rfl,rfl⟩:=GoW.empty h;exact⟨hf,rfl,rfl,Bal.refl⟩
 | succ k ih =>
  intro ψ H h;rw [sp_succ] at h;obtain⟨χ,H1,ev,k1,k2,rfl⟩:=GoW.last h;obtain⟨f1,e1,p1,b1⟩:=ih k1;have g1:P16.Good (mw χ):=by rw [e1];exact (sweep_J hg k).1
  obtain⟨f2,e2,p2,b2⟩:=step_go (k:=0) f1 g1 k2;refine⟨f2,by rw [e2,e1];rfl,p2.trans p1,?_⟩;rw [later_happ];exact b1.trans b2
theorem round_go (hf:Fine ω) (hg:P16.Good (mw ω)) (hd:1<=d/\d<=4611686018427387904) (h:GoW ω (rp ω.progs.length d) ψ H) :
 Fine ψ/\mw ψ=rnd d (mw ω)/\ψ.progs=ω.progs/\Bal ω ψ H:=by
 unfold rp at h;obtain⟨χ,H1,ev,k1,k2,rfl⟩:=GoW.last h;obtain⟨f1,e1,p1,b1⟩:=sweep_go hf hg _ k1;obtain⟨f2,e2,p2,b2⟩:=tick_go (k:=0) f1 hd k2;refine⟨f2,by rw [e2,e1];rfl,p2.trans p1,?_⟩;rw [later_happ];exact b1.trans b2
theorem rounds_go (hd:1<=d/\d<=4611686018427387904):∀ (k:Nat) {ω ψ:Wv} {H:List Hp},Fine ω->P16.Good (mw ω)->GoW ω (tl ω.progs.length d k) ψ H ->
 Fine ψ/\P16.Good (mw ψ)/\mw ψ=rnds d k (mw ω)/\ψ.progs=ω.progs/\Bal ω ψ H:=by
 intro k
 induction k with
 | zero =>
  intro ω ψ H hf hg h;obtain⟨rfl,rfl⟩:=GoW.empty h;exact⟨hf,hg,rfl,rfl,Bal.refl⟩
 | succ k ih =>
  intro ω ψ H hf hg h;obtain⟨χ,F,R,k1,k2,rfl⟩:=GoW.parts (l:=rp ω.progs.length d) (r:=tl ω.progs.length d k) h;obtain⟨f1,e1,p1,b1⟩:=round_go hf hg hd k1;have g1:P16.Good (mw χ):=by rw [e1];exact (hg.rnd (by omega)).1
  rw [<- p1] at k2;obtain⟨f2,g2,e2,p2,b2⟩:=ih f1 g1 k2;exact⟨f2,g2,by rw [e2,e1];rfl,p2.trans p1,b1.trans b2⟩
end
theorem turns_end {l:List (List Ac)} (h4:l.length<=4) (hr:P12.rightB l=true) (ht:∀ p∈l,Tidy p/\p.length<=10/\cK 0 p<=3/\∀ a∈p,a.1=3->a.2<=5)
 {d:Int} (hd:1<=d/\d<=4611686018427387904) {ψ:Wv} {H:List Hp} (h:GoW (newW l) (tl l.length d 2000) ψ H) :
 ψ.stop=0/\(∀ c∈ψ.cl,c.gst=2)/\(H.length:Int)=evT (P16.new l)/\∀ x∈H,x.2.2.2.1=0\/x.2.2.2.1=3:=by
 obtain⟨h8,hok⟩:=right_facts hr;have hok':∀ p,p∈l->∀ a,a∈p->OkA a:=λ p hp a ha=>okA_OkA ((hok p hp).2 a ha)
 have g0:P16.Good (P16.new l):=P16.Good.new h8 hok' λ p hp=>(ht p hp).1
 have g0':P16.Good (mw (newW l)):=by rw [mw_new];exact g0
 obtain⟨f,g,e,pr,b⟩:=rounds_go hd 2000 (Fine.new hr) g0' h;have t0:tot (P16.new l)<=l.length*104:=tot_new hok' λ p hp=>by
  obtain⟨h1,h2,h3,h5⟩:=ht p hp;exact left_few h1 h2 h3 h5 λ a ha=>hok' p hp a ha
 have t1:tot (P16.new l)<=((416:Nat):Int):=by omega
 have dn:Done (mw ψ):=by
  rw [e,mw_new,show 2000=3*(416+1)+749 from rfl,rnds_add];exact (ends (by omega) 416 _ g0 t1).rnds 749
 refine⟨g.st,λ c hc=>?_,?_,b.kd⟩
 . obtain⟨i,hi⟩:=List.getElem?_of_mem hc
   exact dn i c hi
 . have h1:=b.ev
   rw [evT_done g.wi dn,mw_new] at h1;omega
end P17
end
section
namespace P17
open P16
theorem rnd_rd {n:Nat} {d:Int} (hn:n<=16) (hd:1<=d/\d<=4611686018427387904):(rndL n d).map P13.rd=rp n d:=by
 unfold rndL rp sp;rw [List.map_append,List.map_map];congr 1
 . refine List.map_congr_left λ i hi=>?_
   have:=List.mem_range.1 hi;show P13.rd (i:Int)=(0,(i:Int));rw [P13.rd_step (by omega)];congr 1;omega
 . show [P13.rd (-d)]=[(1,d)]
   rw [P13.rd_tick (by omega)];congr 2;omega
theorem rep_rd {n:Nat} {d:Int} (hn:n<=16) (hd:1<=d/\d<=4611686018427387904) (k:Nat):(rep k (rndL n d)).map P13.rd=tl n d k:=by
 induction k with
 | zero=>rfl
 | succ k ih =>
  rw [rep_succ,List.map_append,ih,rnd_rd hn hd];rfl
end P17
end
section
namespace P17
open P16
open P12 (PV PMem POwn pl fewP)
theorem hown_hmem {w:World} {base n c:Nat} {A:Option Addr} {H:List Hp} (h:HOwn w base (.slice A n c) H) (hl:H.length=n):HMem w A n H:=by
 subst hl;rcases Nat.eq_zero_or_pos H.length with h0 | h0
 . rw [h0]
   obtain rfl:=zen h0;exact⟨rfl,by simp,λ h=>by omega⟩
 . obtain⟨b,rfl,hbb,ho⟩:=own_orow hpV_len h h0
   exact orow_rmem ho rfl (by simp)
theorem cK_act (p:List Ac):cK 0 (p.map actOf)=cK 0 p:=by
 induction p with
 | nil=>rfl
 | cons a p ih =>
  have e:∀ (x:Ac) (l:List Ac),cK 0 (x::l)=(if x.1=0 then 1 else 0)+cK 0 l:=λ x l=>by
   unfold cK;by_cases h:x.1=0<;>simp [h]<;>omega
  rw [List.map_cons,e,e,ih,actOf_kind]
theorem cK_le (k:Int) (p:List Ac):cK k p<=p.length:=by unfold cK;exact List.length_filter_le _ _
section
variable {w:World} {A:Option Addr} {n c:Nat} {R:List PV} {d:Int}
theorem RunEnds_walk (hM:Mach) (hg:P15.Glob w) (hc:n<=c) (hn:n<=9223372036854775807) (hm:PMem w A n R) (hd:B64 d) :
 Calls prog 10 #[.slice A n c,.int .i64 d] w λ e w'=>e=.returned (.bool true)/\Gr w w':=by
 obtain⟨N,a5,b5,n5,k5,t5⟩:=least n 4;have b5:min (n:Int) 4=(N:Int):=b5;have a5:(if (4:Int)<(n:Int) then (4:Int) else (n:Int))=(N:Int):=a5;have p5:(0:Int)<=(N:Int):=by omega
 have m5:(N:Int)<=(c:Int):=by omega
 have HM:=hid hm;have HT5:=hid (t5 R hm.len);obtain⟨D,eD,D0,D1⟩:∃ D:Int,(wrap64 (d.tmod 3000000+3000000)).tmod 3000000=D/\0<=D/\D<3000000:=by
  refine⟨_,rfl,?_⟩;have h1:d.tmod 3000000<3000000:=Int.tmod_lt_of_pos d (by omega);have h2:-3000000<d.tmod 3000000:=by
   have:=Int.tmod_lt_of_pos (-d) (show (0:Int)<3000000 by omega);rw [Int.neg_tmod] at this;omega
  generalize d.tmod 3000000=t at *;have e:wrap64 (t+3000000)=t+3000000:=by unfold wrap64;omega
  rw [e,Int.tmod_eq_emod_of_nonneg (by omega)];omega
 clear hm t5;go_enter func10,ntmps10;go_upto_region 3 with fail;clear eD;go_wp2_with fail;clear a5 b5
 go_loopw [5,37] (λ v i wr=>∃ (k:Nat) (B:Option Addr) (m e:Nat),k<=N/\i=.int .i64 (k:Int)/\v=.slice B m e/\m<=k/\Hid (∃ S,POwn wr w.heap.size w.heap.size B m e S/\pl S=keep ((pl R).take k))/\Hid (Gr w wr)) (λ _ i _=>N-(intOf i).toNat)
 case atStart=>exact⟨0,none,0,0,Nat.zero_le _,rfl,rfl,Nat.le_refl _,hid ⟨[],POwn.nil,rfl⟩,hid (zr _)⟩
 case round =>
  rename World=>wo
  obtain⟨k,B,m,e,hk,rfl,rfl,hmk,HS,HG⟩:=hrel;by_cases hlt:k<N
  . obtain⟨b,off,x,rfl,hbl,hx,hok,d0⟩:=(HM.out.gr HG.out).at_ (show k<n by omega)
    obtain⟨XA,xn,xc,xl⟩:=x;dsimp only at d0;have HKP:=hid (show keep ((pl R).take (k+1))=keep ((pl R).take k)++(if keepB (qOf xl)=true then [qOf xl] else []) from by
     have hx':(pl R)[k]?=some xl:=by unfold pl;rw [List.getElem?_map,hx];rfl
     rw [P12.take_snoc hx',keep_snoc])
    have k0:(0:Int)<=(k:Int):=by omega
    have k1:(k:Int)<(N:Int):=by omega
    obtain⟨q,a6,b6,n6,k6,t6⟩:=least xn 12;have b6:min (xn:Int) 12=(q:Int):=b6;have a6:(if (12:Int)<(xn:Int) then (12:Int) else (xn:Int))=(q:Int):=a6;have HXM:=hid hok.1;have hxl:xl.length=xn:=hok.1.1;have HT6:=hid (t6 xl hxl);have q0:(0:Int)<=(q:Int):=by omega
    have hxc:xn<=xc:=hok.2.1;have q1:(q:Int)<=(xc:Int):=by omega
    have hq12:q<=12:=k6;clear hx hok t6;go_wp2_with fail;clear a6 b6
    go_loopw [8,9,47] (λ v lk i w'=>∃ (j:Nat) (L:Int) (v':Value),j<=q/\i=.int .i64 (j:Int)/\lk=.int .i64 L/\v'=v/\Hid (((cK 0 (xl.take j):Nat):Int)=L)/\0<=L/\L<=12/\Hid (P12.AOwn w' wo.heap.size v' ((xl.take j).map actOf))/\Hid (Gr wo w')) (λ _ _ i _=>q-(intOf i).toNat)
    case atStart=>exact⟨0,0,_,Nat.zero_le _,rfl,rfl,rfl,hid rfl,by omega,by omega,hid (P12.AOwn.nil _ _),hid (zr _)⟩
    case round =>
     obtain⟨j,L,v,hj,rfl,rfl,hv8,HLC,L0,L1,HO,HGI⟩:=hrel;subst hv8;by_cases hjq:j<q
     . obtain⟨b',off',a,rfl,hbl',hx2,hi1,hi2,c0,c1⟩:=(HXM.out.gr HGI.out).at_ (show j<xn by omega)
       obtain⟨T,hT⟩:∃ T,(xl.take j).map actOf=T:=⟨_,rfl⟩;rw [hT] at HO;have hTl:T.length<=12:=by rw [<- hT,List.length_map,List.length_take];omega
       have HT:=hid hT;clear hT;obtain⟨ak,an⟩:=a;dsimp only at hi1 hi2 c0 c1;have BK0:=Blk.new wr #[.int .i64 ak,.int .i64 an] 67;have HOV:=hid (HO.out.gr ((zr wr).al (.cells #[.int .i64 ak,.int .i64 an] 67)));have HGV:=hid (HGI.out.al (.cells #[.int .i64 ak,.int .i64 an] 67));have hgb:=HGI.out.size;have hvb:∀ k,v.ownBlock=some k->k≠wr.heap.size:=λ k hk=>by have:=(HO.out.lt k hk).2;omega
       go_upto_region 11 with fail;clear c0 c1 HO HGI;generalize wr.alloc (.cells #[.int .i64 ak,.int .i64 an] 67)=V at BK0 HOV HGV ⊢;generalize wr.heap.size=gb at BK0 hgb hvb ⊢;have BK:=BK0;clear BK0;by_cases h0:ak=0
       . subst h0
         have HX:=hid (show (xl.take (j+1)).map actOf=T++[actOf (0,an)] from by rw [P12.take_snoc hx2,List.map_append,HT.out];rfl);have HC2:=hid (show ((cK 0 (xl.take (j+1)):Nat):Int)=L+1 from by rw [P12.take_snoc hx2,cK_snoc,if_pos rfl];have:=HLC.out;omega);have HL1:=hid (show cK 0 (xl.take (j+1))<=12 from Nat.le_trans (cK_le _ _) (by rw [List.length_take];omega));obtain⟨b0,-⟩:=BK.at_ (k:=0) (v:=.int .i64 0) rfl;obtain⟨b1,bz1⟩:=BK.at_ (k:=1) (v:=.int .i64 an) rfl;have hkb:=BK.lt;clear hx2;go_upto_region 15 with fail;clear bz1 hkb;have hl:T.length<=100000:=by omega
         have hvs:=HGV.out.size;have g1:=hid ((zr V).al (.cells #[.int .i64 0,.int .i64 an] 67));have HM1:=hid (P12.mem_blk (l:=[(0,an)]) (Blk.new V #[.int .i64 0,.int .i64 an] 67) rfl (by intro y hy;simp at hy;subst hy;exact⟨by unfold Inb;omega,hi2⟩));go_wp2_with (at_builtin;refine P12.wpList_append_acts rfl (.tmp 65) (.tmp 67) rfl rfl rfl (HOV.out.gr g1.out) HM1.out (by omega) (by have:=g1.out.size;omega) ?_);intro v' w3 hO hgr;have HO3:=hid (show P12.AOwn w3 wo.heap.size v' ((xl.take (j+1)).map actOf) by rw [HX.out,show actOf (0,an)=(0,an) from rfl];exact hO);have HG3:=hid ((HGV.out.trans' (g1.out.mono hvs)).gb hgr (λ z hz=>HOV.out.late hz));clear hO hgr b0 b1 hvs;go_wp2_with fail;go_roundw
         case rel =>
          exact⟨j+1,L+1,_,by omega,by go_num,rfl,rfl,HC2,by omega,by have:=HL1.out;have:=HC2.out;omega,HO3,HG3⟩
         case measure=>simp [intOf];omega
       . by_cases h3:ak=3
         . subst h3
           have HX:=hid (show (xl.take (j+1)).map actOf=T++[actOf (3,an)] from by rw [P12.take_snoc hx2,List.map_append,HT.out];rfl);have HC2:=hid (show ((cK 0 (xl.take (j+1)):Nat):Int)=L from by rw [P12.take_snoc hx2,cK_snoc,if_neg (by first | assumption | decide)];have:=HLC.out;omega);have HL1:=hid (show cK 0 (xl.take (j+1))<=12 from Nat.le_trans (cK_le _ _) (by rw [List.length_take];omega));obtain⟨z,hz⟩:∃ z,md6 an=z:=⟨_,rfl⟩;have u7:(wrap64 (an.tmod 6+6)).tmod 6=z:=by rw [md6_wrap];exact hz
           have HZ:=hid hz;have HZB:=hid (show 0<=z/\z<=5 by rw [<- hz];exact md6_b an);clear hz;obtain⟨b0,-⟩:=BK.at_ (k:=0) (v:=.int .i64 3) rfl;obtain⟨b1,bz1⟩:=BK.at_ (k:=1) (v:=.int .i64 an) rfl;have hkb:=BK.lt;clear hx2;go_upto_region 15 with fail;have BK2:Blk (V.setCell ⟨gb,1,none⟩ (.int .i64 z)) gb #[.int .i64 3,.int .i64 z] 67:=by have:=BK.set 1 (.int .i64 z);simpa using this
           have HOV2:=hid (show P12.AOwn (V.setCell ⟨gb,1,none⟩ (.int .i64 z)) wo.heap.size v T from own_off HOV.out (Off.st (S:=λ k=>k=gb) (p:=⟨gb,1,none⟩) rfl _) (λ k h1 h2=>hvb k h1 h2));have HGV2:=hid (HGV.out.st (p:=⟨gb,1,none⟩) hgb (.int .i64 z));clear b0 b1 bz1 hkb u7;generalize V.setCell ⟨gb,1,none⟩ (.int .i64 z)=V2 at BK2 HOV2 HGV2 ⊢;clear BK HOV HGV;obtain⟨b0,-⟩:=BK2.at_ (k:=0) (v:=.int .i64 3) rfl;obtain⟨b1,-⟩:=BK2.at_ (k:=1) (v:=.int .i64 z) rfl;have HOV:=HOV2;have HGV:=HGV2;have hl:T.length<=100000:=by omega
           have hvs:=HGV.out.size;have g1:=hid ((zr V2).al (.cells #[.int .i64 3,.int .i64 z] 67));have HM1:=hid (P12.mem_blk (l:=[(3,z)]) (Blk.new V2 #[.int .i64 3,.int .i64 z] 67) rfl (by intro y hy;simp at hy;subst hy;exact⟨by unfold Inb;omega,by have:=HZB.out;unfold Inb;omega⟩));go_wp2_with (at_builtin;refine P12.wpList_append_acts rfl (.tmp 65) (.tmp 67) rfl rfl rfl (HOV.out.gr g1.out) HM1.out (by omega) (by have:=g1.out.size;omega) ?_);intro v' w3 hO hgr;have HO3:=hid (show P12.AOwn w3 wo.heap.size v' ((xl.take (j+1)).map actOf) by rw [HX.out,show actOf (3,an)=(3,z) from by unfold actOf;rw [if_pos rfl];exact Prod.ext rfl HZ.out];exact hO);have HG3:=hid ((HGV.out.trans' (g1.out.mono hvs)).gb hgr (λ z hz=>HOV.out.late hz));clear hO hgr b0 b1 hvs;go_wp2_with fail;go_roundw
           case rel =>
            exact⟨j+1,L,_,by omega,by go_num,rfl,rfl,HC2,by omega,by have:=HL1.out;have:=HC2.out;omega,HO3,HG3⟩
           case measure=>simp [intOf];omega
         . have h0b:(ak==0)=false:=by simpa using h0
           have h3b:(ak==3)=false:=by simpa using h3
           have HX:=hid (show (xl.take (j+1)).map actOf=T++[actOf (ak,an)] from by rw [P12.take_snoc hx2,List.map_append,HT.out];rfl);have HC2:=hid (show ((cK 0 (xl.take (j+1)):Nat):Int)=L from by rw [P12.take_snoc hx2,cK_snoc,if_neg (by first | assumption | decide)];have:=HLC.out;omega);have HL1:=hid (show cK 0 (xl.take (j+1))<=12 from Nat.le_trans (cK_le _ _) (by rw [List.length_take];omega));obtain⟨b0,-⟩:=BK.at_ (k:=0) (v:=.int .i64 ak) rfl;obtain⟨b1,bz1⟩:=BK.at_ (k:=1) (v:=.int .i64 an) rfl;have hkb:=BK.lt;clear hx2;go_upto_region 15 with fail;clear bz1 hkb;have hl:T.length<=100000:=by omega
           have hvs:=HGV.out.size;have g1:=hid ((zr V).al (.cells #[.int .i64 ak,.int .i64 an] 67));have HM1:=hid (P12.mem_blk (l:=[(ak,an)]) (Blk.new V #[.int .i64 ak,.int .i64 an] 67) rfl (by intro y hy;simp at hy;subst hy;exact⟨hi1,hi2⟩));go_wp2_with (at_builtin;refine P12.wpList_append_acts rfl (.tmp 65) (.tmp 67) rfl rfl rfl (HOV.out.gr g1.out) HM1.out (by omega) (by have:=g1.out.size;omega) ?_);intro v' w3 hO hgr;have HO3:=hid (show P12.AOwn w3 wo.heap.size v' ((xl.take (j+1)).map actOf) by rw [HX.out,show actOf (ak,an)=(ak,an) from if_neg h3];exact hO);have HG3:=hid ((HGV.out.trans' (g1.out.mono hvs)).gb hgr (λ z hz=>HOV.out.late hz));clear hO hgr b0 b1 hvs;go_wp2_with fail;go_roundw
           case rel =>
            exact⟨j+1,L,_,by omega,by go_num,rfl,rfl,HC2,by omega,by have:=HL1.out;have:=HC2.out;omega,HO3,HG3⟩
           case measure=>simp [intOf];omega
     . obtain rfl:j=q:=by omega
       have hl0:xl.length=xn:=HXM.out.1;have hq:((xl.take j).map actOf).length=j:=by rw [List.length_map,List.length_take];omega
       have hxt:xl.take j=xl.take 12:=HT6.out.symm;have hqo:(xl.take j).map actOf=qOf xl:=by unfold qOf;rw [hxt]
       have hlk:((cK 0 (qOf xl):Nat):Int)=L:=by rw [<- hqo,cK_act];exact HLC.out
       obtain⟨QA,qc,hv9,hqm,hqc,hqc2,hlate⟩:=P12.own_mem HO.out (λ y hy=>by
        obtain⟨z,hz,rfl⟩:=List.mem_map.1 hy;have hz2:=HXM.out.2.1 z (List.mem_of_mem_take hz);unfold actOf
        split
        . have:=md6_b z.2
          unfold Inb;exact⟨by omega,by dsimp only;omega⟩
        . exact hz2)
       rw [hqo] at hq hqm hqc hv9;rw [hq] at hqm hqc hv9;subst hv9;obtain⟨q0,hq0⟩:∃ q0,qOf xl=q0:=⟨_,rfl⟩;rw [hq0] at hqm hlk hq HKP;have HQM:=hid hqm;have HLT:=hid hlate;have HLK:=hid hlk;have HQL:=hid hq;obtain⟨S,hP,hpl⟩:=HS.out;have HP:=hid hP;have HPL:=hid hpl;have HWR:=hid HGI.out;clear hl0 hq hxt hqo hqm HO hlate HS HLC hlk hq0 hP hpl HGI HXM HT6;obtain⟨TB,hTB⟩:∃ TB,P12.tidyB q0=TB:=⟨_,rfl⟩;have cT:=hid (P12.rTidy_is (c:=qc) hTB (by omega) wr HQM.out);have HTB:=hid hTB;clear hTB;go_wp2_with fail;refine cT.out.mono ?_;rintro e' w4 ⟨rfl,g4⟩;have HG4r:=hid g4;have G4:=hid (HWR.out.trans g4);have G5:=hid (HG.out.trans G4.out);clear g4 cT
       cases TB with
       | false =>
        have HKB:=hid (show ¬ keepB q0=true from by unfold keepB;have:=HLK.out;have:=HQL.out;rw [HTB.out];simp);have HS5:Hid (∃ S,POwn w4 w.heap.size w.heap.size B m e S/\pl S=keep ((pl R).take (k+1))):=hid ⟨S,HP.out.gr G4.out,by rw [HKP.out,if_neg HKB.out,List.append_nil];exact HPL.out⟩;go_wp2_with fail;go_roundw
        case rel=>exact⟨k+1,B,m,e,by omega,by go_num,rfl,by omega,HS5,G5⟩
        case measure=>simp [intOf];omega
       | true =>
        by_cases hL3:3<L
        . have HKB:=hid (show ¬ keepB q0=true from by unfold keepB;have:=HLK.out;have:=HQL.out;rw [HTB.out];simp;omega)
          have HS5:Hid (∃ S,POwn w4 w.heap.size w.heap.size B m e S/\pl S=keep ((pl R).take (k+1))):=hid ⟨S,HP.out.gr G4.out,by rw [HKP.out,if_neg HKB.out,List.append_nil];exact HPL.out⟩;go_wp2_with fail;go_roundw
          case rel=>exact⟨k+1,B,m,e,by omega,by go_num,rfl,by omega,HS5,G5⟩
          case measure=>simp [intOf];omega
        . by_cases hJ:10<j
          . have HKB:=hid (show ¬ keepB q0=true from by unfold keepB;have:=HLK.out;have:=HQL.out;rw [HTB.out];simp;omega)
            have HS5:Hid (∃ S,POwn w4 w.heap.size w.heap.size B m e S/\pl S=keep ((pl R).take (k+1))):=hid ⟨S,HP.out.gr G4.out,by rw [HKP.out,if_neg HKB.out,List.append_nil];exact HPL.out⟩;have HJi:=(show (10:Int)<(j:Int) by omega);go_wp2_with fail;go_roundw
            case rel=>exact⟨k+1,B,m,e,by omega,by go_num,rfl,by omega,HS5,G5⟩
            case measure=>simp [intOf];omega
          . have HKB:=hid (show keepB q0=true from by unfold keepB;have:=HLK.out;have:=HQL.out;rw [HTB.out];simp;omega)
            have HJi:=(show ¬ (10:Int)<(j:Int) by omega);have g5:=hid ((zr w4).al (.cells #[.slice QA j qc] 64));have hcok:PV.ok (w4.alloc (.cells #[.slice QA j qc] 64)) ⟨QA,j,qc,q0⟩:=⟨HQM.out.gr (show Gr wr _ from by have:=HWR.out;exact (show Gr wr w4 from HG4r.out).trans g5.out),hqc,hqc2⟩;have HPM:=hid (P12.pmem_one (x:=⟨QA,j,qc,q0⟩) (Blk.new w4 #[.slice QA j qc] 64) hcok);have HOFF:Hid (∀ z∈[(⟨QA,j,qc,q0⟩:PV)],0<z.n->∀ i,z.A.map (·.block)=some i->w.heap.size<=i/\i<(w4.alloc (.cells #[.slice QA j qc] 64)).heap.size/\B.map (·.block)≠some i):=hid λ z hz hz0 i hi=>by
             rw [List.mem_singleton] at hz;subst hz;have h1:=HLT.out i hi;have h2:=HG.out.size;obtain⟨b2,off2,e2,hb2,_⟩:=hcok.1.2.2 hz0;have hi2:QA.map (·.block)=some i:=hi;rw [show QA=some ⟨b2,off2,none⟩ from e2] at hi2;simp at hi2;subst hi2;exact⟨by omega,hb2,λ e3=>by have:=(HP.out.row.lt _ e3).2;omega⟩
            have hbase:w.heap.size<=(w4.alloc (.cells #[.slice QA j qc] 64)).heap.size:=(G5.out.trans g5.out).size;clear hcok;go_wp2_with (at_builtin;refine P12.wpList_append_progs (news:=[(⟨QA,j,qc,q0⟩:PV)]) rfl (.tmp 82) (.tmp 84) rfl rfl rfl ((HP.out.gr G4.out).gr g5.out) HPM.out HOFF.out (by omega) hbase ?_);intro A' c' w5 hGw;have HP5:Hid (∃ S,POwn w5 w.heap.size w.heap.size A' (m+1) c' S/\pl S=keep ((pl R).take (k+1))):=hid ⟨_,hGw.1,by rw [HKP.out,if_pos HKB.out,<- HPL.out];unfold pl;rw [List.map_append];rfl⟩;have HG5:=hid ((G5.out.trans g5.out).gb hGw.2 (λ i e=>(HP.out.row.lt i e).1));clear hGw;go_wp2_with fail;go_roundw
            case rel=>exact⟨k+1,A',m+1,c',by omega,by go_num,rfl,by omega,HP5,HG5⟩
            case measure=>simp [intOf];omega
  . obtain rfl:k=N:=by omega
    obtain⟨S,hP,hpl⟩:=HS.out;have hml:=keep_len ((pl R).take k);have hkm:∀ p∈keep ((pl R).take k),Tidy p/\p.length<=10/\cK 0 p<=3/\∀ a∈p,a.1=3->a.2<=5:=λ p hp=>keep_mem hp
    rw [<- hpl] at hkm;have hlm:(pl S).length=m:=by unfold pl;rw [List.length_map];exact hP.len
    have HKM:=hid hkm;have HLM:=hid hlm;have HP:=hid hP.mem;have m0:(0:Int)<=(m:Int):=by omega
    clear hml hkm hpl hP HS HM HT5;obtain⟨V0,hV0⟩:∃ V0,P12.rightB (pl S)=V0:=⟨_,rfl⟩;have cR:=hid (P12.rRight_is (c:=e) hV0 (by omega) wo HP.out);have HV0:=hid hV0;clear hV0 hlm
    cases V0 with
    | false =>
     go_wp2_with fail;refine cR.out.mono ?_;rintro e' w1 ⟨rfl,g1⟩;have cA:=hid (alive17_is (w:=w1) hM (hg.gr (HG.out.trans g1)));have G1:=hid (HG.out.trans g1);clear g1 cR;go_wp2_with fail;refine cA.out.mono ?_;rintro e' w2 ⟨rfl,g2⟩;have G2:=hid (G1.out.trans g2);clear g2;go_wp2_with fail;go_ret;exact⟨rfl,G2.out⟩
    | true =>
     go_wp2_with fail;refine cR.out.mono ?_;rintro e' w1 ⟨rfl,g1⟩;have HP1:=hid (HP.out.gr g1);have cT:=hid (Turns_is (c:=e) (d:=1+D) HP1.out HV0.out (by omega) (by omega));have G1:=hid (HG.out.trans g1);clear g1 cR HG;go_wp2_with fail;refine cT.out.mono ?_;rintro e' w2 ⟨⟨B1,M,c1,rfl,hMl,hI⟩,g2⟩;have HI:=hid hI;have HML:=hid hMl;have HP2:=hid (HP1.out.gr g2);have G2:=hid (G1.out.trans g2);have cP:=hid (Play_is (c:=c1) (d:=e) hM (hg.gr G2.out) HP2.out (by omega) hI);clear hMl hI g2 cT;go_wp2_with fail;refine cP.out.mono ?_;rintro e' w3 ⟨⟨s,ψ,A1,n1,c2,H,x1,rfl,hR1,hO1,hH1,hn1⟩,g3⟩;have hlr:(rep 2000 (rndL m (1+D))).length=2000*(m+1):=by rw [rep_len,rndL_len]
     obtain⟨hGW,rfl⟩:GoW (newW (pl S)) ((rep 2000 (rndL m (1+D))).map P13.rd) ψ H/\x1=0:=by
      rcases hR1 with ⟨q,_⟩ | ⟨_,q,_⟩ | ⟨_,_,q,q2⟩
      . omega
      . rw [HV0.out] at q;cases q
      . exact⟨q,q2⟩
     have hrw:RightW ψ:=(GoW.fine (Fine.new HV0.out) hGW (λ p hp=>by obtain⟨x,_,rfl⟩:=List.mem_map.1 hp;exact P13.rd_ok x)).right;rw [rep_rd (by omega) (by omega)] at hGW;have hlm:=HLM.out;rw [<- hlm] at hGW;obtain⟨t1,t2,t3,t4⟩:=turns_end (by omega) HV0.out HKM.out (d:=1+D) (by omega) hGW;rw [evT_acts] at t3;have hab:=actS_b (pl S) (λ p hp=>(HKM.out p hp).2.1);have hss:s.stop=0:=hO1.is.stop.trans t1;have hall:ψ.cl.all okC=true:=List.all_eq_true.2 λ c hc=>by unfold okC;exact beq_iff_eq.2 (t2 c hc)
     have HKD:=hid t4;have HN1:=hid (show actS (pl S)=(n1:Int) from by rw [<- t3,hn1]);have hn40:n1<=40:=by have:=HN1.out;omega
     have HH:=hid (hown_hmem hH1 hn1);have a3:=(zr w3).al (.cells s.a 29);have BX:=hid (Blk.new w3 s.a 29);have WX:=hid (hO1.is.gr a3);have HH3:=hid (HH.out.gr a3);have HP3:=hid ((HP2.out.gr g3).gr a3);have G3:=hid ((G2.out.trans g3).trans a3);have HSS:=hid hss;have HALL:=hid hall;have HRW:=hid hrw;clear hR1 hO1 hH1 hn1 hGW t1 t2 t3 t4 hab hlr hlm cP g3 a3 HH HP2 HP1 HP HI hss hall hrw;go_upto_region 24 with fail;generalize w3.alloc (.cells s.a 29)=V at BX WX HH3 HP3 G3 ⊢;generalize w3.heap.size=gw at BX ⊢;have cD:=Done_is WX.out (v:=true) (by simp [HRW.out]);rw [HALL.out] at cD;simp only [Bool.true_and,if_true] at cD;have cD:=hid cD;have ltx:=BX.out.lt;obtain⟨b0,b1,b2,b3,b4,b5⟩:=at6 BX.out;go_wp2_with fail;refine cD.out.mono ?_;rintro e' w4 ⟨rfl,g4⟩;have HX4:=BX.out.gr g4;have hst:w4.cell? ⟨gw,5,none⟩=some (.int .i64 0):=by rw [<- HSS.out];exact (HX4.at_ (k:=5) (v:=.int .i64 s.stop) rfl).1
     have ltx4:=HX4.lt;have G4:=hid (G3.out.trans g4);have HH4:=hid (HH3.out.gr g4);have HP4:=hid (HP3.out.gr g4);have cA:=hid (alive17_is (w:=w4) hM (hg.gr G4.out));clear b0 b1 b2 b3 b4 b5 ltx cD g4 HX4 BX WX HH3 HP3 G3;go_wp2_with fail;refine cA.out.mono ?_;rintro e' w5 ⟨rfl,g5⟩;have G5:=hid (G4.out.trans g5);have HH5:=hid (HH4.out.gr g5);have HP5:=hid (HP4.out.gr g5);clear cA g5 hst ltx4 G4 HH4 HP4;go_wp2_with fail
     go_loopw [19,134] (λ ct i wr=>∃ (kk:Nat) (L:Int),kk<=m/\i=.int .i64 (kk:Int)/\ct=.int .i64 L/\Hid (actS ((pl S).take kk)=L)/\0<=L/\L<=40/\Hid (Gr w5 wr)) (λ _ i _=>m-(intOf i).toNat)
     case atStart=>exact⟨0,0,Nat.zero_le _,rfl,rfl,hid rfl,by omega,by omega,hid (zr _)⟩
     case round =>
      rename World=>w6
      obtain⟨kk,L,hkk,rfl,rfl,HL,L0,L1,HG6⟩:=hrel;by_cases hkm:kk<m
      . obtain⟨b,off,x,rfl,hbl,hx,hok,d0⟩:=(HP5.out.gr HG6.out).at_ hkm
        have hx':(pl S)[kk]?=some x.l:=by unfold pl;rw [List.getElem?_map,hx];rfl
        have HKP:=hid (show actS ((pl S).take (kk+1))=L+nwC x.l 0 from by rw [P12.take_snoc hx',actS_snoc,HL.out]);have hx10:=(HKM.out x.l (zmo hx')).2.1;have hab:=actS_b ((pl S).take (kk+1)) (λ p hp=>(HKM.out p (List.mem_of_mem_take hp)).2.1);have hab2:((pl S).take (kk+1)).length<=4:=by rw [List.length_take];have:=HLM.out;omega
        have hab3:=hid (show actS ((pl S).take (kk+1))<=40 from by omega);have kk0:(0:Int)<=(kk:Int):=by omega
        have kk1:(kk:Int)<(m:Int):=by omega
        obtain⟨XA,xn,xc,xl⟩:=x;have HXM:Mem w6 XA xn xl:=hok.1;have hxl:xl.length=xn:=hok.1.1;dsimp only at d0 hx10;clear hx hx' hok hab hab2;go_wp2_with fail
        go_loopw [19,140] (λ ct i wr=>∃ (jj:Nat) (L2:Int),jj<=xn/\i=.int .i64 (jj:Int)/\ct=.int .i64 L2/\Hid (nwC (xl.take jj) 0+L=L2)/\0<=L2/\L2<=50/\Hid (Gr w6 wr)) (λ _ i _=>xn-(intOf i).toNat)
        case atStart=>exact⟨0,L,Nat.zero_le _,rfl,rfl,hid (by rw [List.take_zero];show (0:Int)+L=L;omega),by omega,by omega,hid (zr _)⟩
        case round =>
         obtain⟨jj,L2,hjj,rfl,rfl,HL2,L20,L21,HGI⟩:=hrel;by_cases hjx:jj<xn
         . obtain⟨b',off',a,rfl,hbl',hx2,hi1,hi2,c0,c1⟩:=(HXM.gr HGI.out).at_ hjx
           obtain⟨ak,an⟩:=a;dsimp only at hi1 hi2 c0 c1;have BK:=Blk.new wr #[.int .i64 ak,.int .i64 an] 67;have HGV:=hid (HGI.out.al (.cells #[.int .i64 ak,.int .i64 an] 67));go_upto_region 34 with fail;clear c0 c1 HGI;generalize wr.alloc (.cells #[.int .i64 ak,.int .i64 an] 67)=V at BK HGV ⊢;generalize wr.heap.size=gb at BK ⊢;by_cases h3:ak=3
           . subst h3
             have HT2:=hid (show nwC (xl.take (jj+1)) 0+L=L2 from by rw [P12.take_snoc hx2,nwC_snoc,if_pos rfl];have:=HL2.out;omega);have HB2:=hid (nwC_b (xl.take (jj+1)));have HB3:=hid (show (xl.take (jj+1)).length<=10 from by rw [List.length_take];omega);obtain⟨b0,-⟩:=BK.at_ (k:=0) (v:=.int .i64 3) rfl;clear hx2;go_wp2_with fail;go_roundw
             case rel=>exact⟨jj+1,L2,by omega,by go_num,rfl,HT2,by have:=HT2.out;have:=HB2.out;omega,by have:=HT2.out;have:=HB2.out;have:=HB3.out;omega,HGV⟩
             case measure=>simp [intOf];omega
           . have h3b:(ak != 3)=true:=by simpa using h3
             have HT2:=hid (show nwC (xl.take (jj+1)) 0+L=L2+1 from by rw [P12.take_snoc hx2,nwC_snoc,if_neg h3];have:=HL2.out;omega);have HB2:=hid (nwC_b (xl.take (jj+1)));have HB3:=hid (show (xl.take (jj+1)).length<=10 from by rw [List.length_take];omega);obtain⟨b0,-⟩:=BK.at_ (k:=0) (v:=.int .i64 ak) rfl;clear hx2;go_wp2_with fail;go_roundw
             case rel=>exact⟨jj+1,L2+1,by omega,by go_num,rfl,HT2,by have:=HT2.out;have:=HB2.out;omega,by have:=HT2.out;have:=HB2.out;have:=HB3.out;omega,HGV⟩
             case measure=>simp [intOf];omega
         . obtain rfl:jj=xn:=by omega
           have HG7:=hid (HG6.out.trans HGI.out);have HL3:=hid (show actS ((pl S).take (kk+1))=L2 from by rw [HKP.out];have:=HL2.out;rw [List.take_of_length_le (by omega)] at this;show L+nwC xl 0=L2;omega);go_wp2_with fail;go_roundw
           case rel=>exact⟨kk+1,L2,by omega,by go_num,rfl,HL3,L20,by have:=HL3.out;have:=hab3.out;omega,HG7⟩
           case measure=>simp [intOf];omega
      . obtain rfl:kk=m:=by omega
        have HH6:=hid (HH5.out.gr HG6.out);have HG7:=hid (G5.out.trans HG6.out);have hLn:L=(n1:Int):=by have:=HL.out;rw [List.take_of_length_le (by rw [HLM.out];exact Nat.le_refl _)] at this;rw [<- this,HN1.out]
        subst hLn;clear HH5 G5 HP5 HL;go_wp2_with fail
        go_loopw [153] (λ i wr=>∃ jj:Nat,jj<=n1/\i=.int .i64 (jj:Int)/\Hid (Gr w6 wr)) (λ i _=>n1-(intOf i).toNat)
        case atStart=>exact⟨0,Nat.zero_le _,rfl,hid (zr _)⟩
        case round =>
         obtain⟨jj,hjj,rfl,HGI⟩:=hrel;by_cases hjn:jj<n1
         . obtain⟨b',off',x,rfl,hbl',hx2,c0,c1,c2,c3,c4⟩:=hmem_cells (HH6.out.gr HGI.out) hjn
           have hkd:=HKD.out x (zmo hx2);obtain⟨xa,xo,xw,xk,xm⟩:=x;dsimp only at c0 c1 c2 c3 c4 hkd;have j0:(0:Int)<=(jj:Int):=by omega
           have j1:(jj:Int)<(n1:Int):=by omega
           have BK:=Blk.new wr #[.int .i64 xa,.int .i64 xo,.int .i64 xw,.int .i64 xk,.int .i64 xm] 77;have HGV:=hid (HGI.out.al (.cells #[.int .i64 xa,.int .i64 xo,.int .i64 xw,.int .i64 xk,.int .i64 xm] 77));clear hx2;go_upto_region 41 with fail;clear c0 c1 c2 c3 c4 HGI;generalize wr.alloc (.cells #[.int .i64 xa,.int .i64 xo,.int .i64 xw,.int .i64 xk,.int .i64 xm] 77)=V at BK HGV ⊢;generalize wr.heap.size=gb at BK ⊢;obtain⟨b3,-⟩:=BK.at_ (k:=3) (v:=.int .i64 xk) rfl;rcases hkd with rfl | rfl
           . go_wp2_with fail
             go_roundw
             case rel=>exact⟨jj+1,by omega,by go_num,HGV⟩
             case measure=>simp [intOf];omega
           . go_wp2_with fail
             go_roundw
             case rel=>exact⟨jj+1,by omega,by go_num,HGV⟩
             case measure=>simp [intOf];omega
         . obtain rfl:jj=n1:=by omega
           have HG8:=hid (HG7.out.trans HGI.out);go_wp2_with fail;go_ret;exact⟨rfl,HG8.out⟩
end
end P17
end
section
namespace P15
def laidL : List (String × DataW Unit) := [("deadbolt/give.states", Rows.laid_deadbolt_give_states)]
theorem laidL_shaped (os:Os) (args:Array Value):((World.laidAll prog os laidL).forCall (λ _ _=>0) ⟨#[],args,[]⟩).Shaped prog :=
 World.shaped_of_ZipB (by kernel_rfl) (by kernel_rfl)
theorem laidL_met (os:Os) (args:Array Value):laidMetH prog laidL ((World.laidAll prog os laidL).forCall (λ _ _=>0) ⟨#[],args,[]⟩).memory:=by
 rw [MakeChecks.laidMetH_plain _ _ _ (by kernel_rfl)];exact laidMet_laidAll _ (by kernel_rfl) (by kernel_rfl)
section
variable {W:World}
theorem metL (h:laidMetH prog laidL W):laidMet prog laidL W:=by
 rwa [MakeChecks.laidMetH_plain _ _ _ (by kernel_rfl)] at h
theorem states_of {rest : List (String × DataW Unit)} (h : laidMet prog (("deadbolt/give.states", Rows.laid_deadbolt_give_states) :: rest) W) : Glob W := by
 obtain ⟨ps, ⟨g, t, cs, fuel, p, q, hg, ht, hv, hd, _, _⟩, _⟩ := h;obtain rfl := Option.some.inj ((show prog.globalNamed "deadbolt/give.states" = some 0 by kernel_rfl).symm.trans hg)
 obtain rfl:=Option.some.inj ((show (prog.globals[0]?).map (·.type)=some 263 by kernel_rfl).symm.trans ht);obtain⟨xs,m,_,ex,hcl,hl,hel⟩:=DataW.trod_array underlying263 hd;have c1:prog.cellsOf 3=1:=by kernel_rfl
 have c8:prog.cellsOf 263=8:=by kernel_rfl
 rw [c8] at hcl;rw [c1] at hel;have e3:xs.map (·.1)=[.lit (.int .i64 0),.lit (.int .i64 3),.lit (.int .i64 1),.lit (.int .i64 3),.lit (.int .i64 2),.lit (.int .i64 3),.lit (.int .i64 2),.lit (.int .i64 3)]:=(DataW.agg.inj (Prod.mk.inj ex).1).symm;have each:∀ i (z:Int),i<8->(xs.map (·.1))[i]?=some (.lit (.int .i64 z))->cs.toList[i]?=some (.int .i64 z):=by
  intro i z hi hb;have hE:=hel i hi;rw [zge (by omega)] at hE;obtain⟨s,e1,e2,_⟩:=DataW.trod_int underlying3 hE;rw [List.getElem?_map,zge (by omega:i<xs.length),e2] at hb;simp only [Option.map_some,Option.some.injEq,DataW.lit.injEq,Lit.int.injEq,true_and] at hb;rw [<- hb];have h0:((cs.toList.drop (i*1)).take 1)[0]?=some (.int .i64 s):=by rw [e1];rfl
  simpa using h0
 unfold Glob;rw [hv];refine congrArg some (Array.ext' (List.ext_getElem? λ i=>?_))
 match i with
 | 0=>exact each 0 _ (by omega) (by rw [e3];rfl)
 | 1=>exact each 1 _ (by omega) (by rw [e3];rfl)
 | 2=>exact each 2 _ (by omega) (by rw [e3];rfl)
 | 3=>exact each 3 _ (by omega) (by rw [e3];rfl)
 | 4=>exact each 4 _ (by omega) (by rw [e3];rfl)
 | 5=>exact each 5 _ (by omega) (by rw [e3];rfl)
 | 6=>exact each 6 _ (by omega) (by rw [e3];rfl)
 | 7=>exact each 7 _ (by omega) (by rw [e3];rfl)
 | n+8 =>
  rw [List.getElem?_eq_none (by omega),List.getElem?_eq_none (by simp)]
theorem globL (h:laidMetH prog laidL W) (hs:W.ShapedOpen prog):Glob W:=states_of (metL h)
end
end P15
end
namespace P16
abbrev laidL:=P15.laidL
theorem laidL_shaped (os:Os) (args:Array Value):((World.laidAll prog os laidL).forCall (λ _ _=>0) ⟨#[],args,[]⟩).Shaped prog:=P15.laidL_shaped os args
theorem laidL_met (os:Os) (args:Array Value):laidMetH prog laidL ((World.laidAll prog os laidL).forCall (λ _ _=>0) ⟨#[],args,[]⟩).memory:=P15.laidL_met os args
theorem globL {W:World} (h:laidMetH prog laidL W) (hs:W.ShapedOpen prog):P15.Glob W:=P15.globL h hs
end P16
theorem RunEnds_lifted (os:Os) (started:os.Started) (H:Type) (enc:TypeId×Value->H) :
 ReturnsInHanded {} Tryz.checked os 10 .any (λ w args=>(Rows.runEndsSpec.pre enc prog Tryz.f10 Rows.runEndsRow.domain false w args/\laidMetH prog P16.laidL w)/\sizedMet enc prog Tryz.f10 (OpenSpec.ofChange Rows.runEndsSpec) false w args)
  (Rows.runEndsSpec.post enc prog Tryz.f10 false true false false):=by
 refine LW.returns_laid_shaped (C:=Tryz.checked) (X:=λ w _=>laidMetH prog P16.laidL w) (λ _ _ _ hh h=>laidMetH.of_heap hh h) own started (by kernel_rfl) func10
  (ChangeSpec.witness_shaped (enc:=enc) (C:=Tryz.checked) (os:=os) (X:=λ w _=>laidMetH prog P16.laidL w) false (World.laidAll prog os P16.laidL) #[.slice none 0 0,.int .i64 0] 8 (World.laidAll_os _ _ _) (P16.laidL_shaped os _) (by kernel_rfl) (by kernel_rfl) (by kernel_rfl) (P16.laidL_met os _)) ?_
 intro W base args ds gs before hval0 hW hL hS;have hval:∀ (j:Nat) t v,Tryz.f10.params[j]?=some t->args[j]?=some v->Value.okWide prog W .any base t v:=hval0;have hW':=hW;obtain⟨p,q,hA0,hV,rfl,hfz,hnd⟩:=hW;have hA:DataW.TrodAll enc prog W 0 (λ _=>true) true Tryz.f10.params.toList args.toList ds p:=hA0;rw [Tryz.params10] at hA hval;have hK:=hA;obtain⟨v0,vs0,d0,ds0,p0,q0,hargs,rfl,hp,h0,r0⟩:=trodAll_cons hA;obtain⟨v1,vs1,d1,ds1,p1,q1,rfl,rfl,rfl,h1,r1⟩:=trodAll_cons r0;obtain⟨rfl,rfl,rfl⟩:=trodAll_nil r1;obtain rfl:args=#[v0,v1]:=by cases args;simp_all
 obtain⟨rfl,rfl⟩:=trodVars_none hV;obtain⟨A0,n0,c0,R0,rfl,hc0,hn0,hm0⟩:=P12.open_acts2 (hval 0 22 v0 rfl rfl) h0;obtain⟨a1,rfl,rfl,rfl,w1⟩:=open_int underlying3 (hval 1 3 v1 rfl rfl) h1;clear hA0 hval0;refine (P17.RunEnds_walk P16.mach (P16.globL hL hS) hc0 hn0 hm0 (wfb w1)).mono λ e W' ⟨he,hg⟩=>?_
 subst he;exact⟨_,rfl,post_below (pa:=p) (pv:=[]) hW' (λ _ _ _=>(trodAll_cons_mk (shut_bool underlying4 _) trodAll_mk0))
  (λ sp hs=>trodAll_stays laidOut hg sp (by kernel_rfl) hK (λ x hx=>hW'.lt x (List.mem_append_left _ hx)) (λ x hx=>hs x (List.mem_append_left _ hx))) (λ _ _=>rfl) rfl
  hg (ok_one (by kernel_rfl) rfl (okWide_bool_mk underlying4 _))⟩
theorem RunEnds_closed:joinedFacts Tryz.pinned.checked.prog 10 Tryz.f10 Rows.runEndsSpec Rows.runEndsRow=true:=by kernel_rfl
theorem RunEnds_over:Rows.runEndsRow.holds Tryz.pinned (OpenSpec.ofChange Rows.runEndsSpec) :=
 OpenClaim.holds_of_wide 10 Tryz.f10 rfl rfl rfl rfl rfl rfl rfl ⟨rfl,rfl,rfl,rfl,rfl⟩ rfl rfl rfl rfl rfl (by kernel_rfl) func10 RunEnds_closed
  (of_decide_eq_true (by kernel_rfl)) (by unfold Func.isWrapper;first | (rw [if_pos (by decide +kernel)];kernel_rfl) | (rw [if_neg (by decide +kernel)];exact⟨rfl,rfl⟩))
  (λ os started H enc _=>RunEnds_lifted os started H enc)
theorem RunEnds_card:Rows.RunEndsCardSaid :=
 Claim7.holds_tied_plain_at .later [] [.data] true _ true
  RunEnds_over (λ _ h=>by cases h) (by kernel_rfl) (λ _ h=>by cases h) runEnds_row_tie rfl ⟨rfl,rfl⟩ (by kernel_rfl) rfl
  (λ f fn hf hfn=>by
    obtain rfl : f = 10 := Option.some.inj ((show prog.funcNamed "deadbolt/deadboltlaw17.RunEnds" = some 10 by kernel_rfl).symm.trans hf) |>.symm
    obtain rfl:fn=Tryz.f10:=(Option.some.inj (func10.symm.trans hfn)).symm;exact⟨by kernel_rfl,λ j t ht=>by
     rw [Tryz.params10] at ht;have hm:t∈[22,3]:=by
      have:=Array.mem_of_getElem? ht;simpa using this
     have hall:([22,3]:List TypeId).all (λ t=>prog.wantsStandIn t==false)=true:=by kernel_rfl
     have hw:=List.all_eq_true.1 hall t hm;exact beq_iff_eq.1 hw⟩)
  (by kernel_rfl)
#print axioms RunEnds_card
end Go.Proofs.YtainfijdhcehlaaGreatDoor
