/-
  A part of the proof.
-/
import Derived.Test.YtainfijdhcehlaaGreatDoorRR2
import Derived.Conc.LoneCalls
import Derived.RangeFuncNested
import Derived.RangeFuncBound
import Derived.RangeFuncCalls
import Derived.RangeFuncLeaves
import Derived.Shelf.Abstract
import Derived.OwnWalkIn
import Derived.TacticsInMore
import Derived.LoopNIn
import Derived.LoopIn
import Derived.Deep.SlicePairs
import Derived.Deep.AppendLies
import Derived.Lib.SmallJoins
import Derived.Deep.RegionHeld3
import Derived.Deep.DeepCutAuto
set_option linter.unusedVariables false
set_option linter.unusedSimpArgs false
set_option maxRecDepth 100000
set_option maxHeartbeats 8000000
namespace Go.Proofs.YtainfijdhcehlaaGreatDoor
open Lib (hid)
section
open Go.Conc
section
variable {P:Program} {ops:Array Oper} {Q:Exit->Act->World->Prop} {a:Act} {w:World}
def Runs (P:Program) (ops:Array Oper) (Q:Exit->Act->World->Prop) (l:List Nat) (a:Act) (w:World):Prop :=
 ∀ (b:Frame) (k:List Item) (cs:List Frame),∃ e a' w',Q e a' w'/\Arrives P (lone (b.at a (.inRegion ops l::k)) cs w) b k cs e a' w'
theorem Runs.of_wp {l:List Nat} (h:wpOps P ops Q l a w):Runs P ops Q l a w:=wp_ops l a w h
theorem Runs.region {id:Nat} (h:Runs P ops Q (List.range ops.size) a w):(Code.region id ops false).wp P Q a w :=
 λ b k cs=>let ⟨e,a',w',q,r⟩:=h b k cs;⟨e,a',w',q,.of_steps (.one step_region) r⟩
theorem Runs.value {i:Nat} {rest:List Nat} {o:Oper} {v:Value} {w':World} (ho:ops[i]?=some o) (hw:Region.wanted o (yielded ops a.tmps)=true) (hr:(execOp a.eval o).run P w=.ok (.value v) w')
 (h:Runs P ops Q rest (a.put o.dst v) w'):Runs P ops Q (i::rest) a w:=by
 intro b k cs;obtain⟨e,a',w'',hq,harr⟩:=h b k cs;have hg:=stepG_op (P:=P) (b:=b) (k:=k) (cs:=cs) (w:=w) (rest:=rest) ho hw;have hfin:(b.at a (.inRegion ops (i::rest)::k)).finish v=b.at (a.put o.dst v) (.inRegion ops rest::k):=by rw [Frame.finish_at,ho];rfl
 refine⟨e,a',w'',hq,.of_steps (.one (step_lone_go ?_)) harr⟩;rw [hg,<- hfin];simp [stepG.apply,hr]
theorem comm_step {i:Nat} {rest:List Nat} {o:Oper} {cases:Array CommCase} {blocking:Bool} {shape:CommShape} {w₁:World} (ho:ops[i]?=some o) (hw:Region.wanted o (yielded ops a.tmps)=true)
 (hr:(execOp a.eval o).run P w=.ok (.comm cases blocking shape) w₁) (b:Frame) (k:List Item) (cs:List Frame) :
 ∃ es,stepG P true (G (b.at a (.inRegion ops (i::rest)::k)) cs) w=.comm (G (b.at a (.inRegion ops (i::rest)::k)) cs) cases blocking shape w₁ es:=by
 have hg:=stepG_op (P:=P) (b:=b) (k:=k) (cs:=cs) (w:=w) (rest:=rest) ho hw;show ∃ es,stepG P true { frame:=b.at a (.inRegion ops (i::rest)::k),callers:=cs,status:=.running,dying:=none } w=_;rw [hg];simp only [stepG.apply,Sem.runT_eq,hr];by_cases hk:b.kind=.early<;>simp [G,Frame.at,hk,GStep.after]
theorem Runs.send {i:Nat} {rest:List Nat} {o:Oper} {c cap s r:Nat} {v z:Value} {buf:Array Value} {tm:Bool} {w₁:World} (ho:ops[i]?=some o) (hw:Region.wanted o (yielded ops a.tmps)=true)
 (hr:(execOp a.eval o).run P w=.ok (.comm #[scase c v z] true .send) w₁) (hc:w₁.heap[c]?=some (.chan cap buf false s r tm)) (hroom:buf.size<cap)
 (h:Runs P ops Q rest (a.put o.dst undef) (w₁.setChan c cap (buf.push v) false (s+1) r tm)):Runs P ops Q (i::rest) a w:=by
 intro b k cs;obtain⟨es,hs⟩:=comm_step (rest:=rest) ho hw hr b k cs;have st:=step_lone_send_room hs hc hroom;rw [Frame.finish_at,ho] at st;obtain⟨e,a',w',hq,harr⟩:=h b k cs;exact⟨e,a',w',hq,.of_steps (.one st) harr⟩
theorem Runs.recv {i:Nat} {rest:List Nat} {o:Oper} {c cap s r:Nat} {ok:Bool} {z:Value} {buf:Array Value} {closed tm:Bool} {w₁:World} (ho:ops[i]?=some o) (hw:Region.wanted o (yielded ops a.tmps)=true)
 (hr:(execOp a.eval o).run P w=.ok (.comm #[rcase c z] true (.recv ok)) w₁) (hc:w₁.heap[c]?=some (.chan cap buf closed s r tm)) (hsome:0<buf.size)
 (h:Runs P ops Q rest (a.put o.dst (got ok (buf.getD 0 undef) true)) (w₁.setChan c cap (buf.extract 1 buf.size) closed s (r+1) tm)):Runs P ops Q (i::rest) a w:=by
 intro b k cs;obtain⟨es,hs⟩:=comm_step (rest:=rest) ho hw hr b k cs;have st:=step_lone_recv_buf ok hs hc hsome;rw [Frame.finish_at,ho] at st;obtain⟨e,a',w',hq,harr⟩:=h b k cs;exact⟨e,a',w',hq,.of_steps (.one st) harr⟩
theorem Runs.shut {i:Nat} {rest:List Nat} {o:Oper} {c cap s r:Nat} {ok:Bool} {z:Value} {tm:Bool} {w₁:World} (ho:ops[i]?=some o) (hw:Region.wanted o (yielded ops a.tmps)=true)
 (hr:(execOp a.eval o).run P w=.ok (.comm #[rcase c z] true (.recv ok)) w₁) (hc:w₁.heap[c]?=some (.chan cap #[] true s r tm))
 (h:Runs P ops Q rest (a.put o.dst (got ok z false)) w₁):Runs P ops Q (i::rest) a w:=by
 intro b k cs;obtain⟨es,hs⟩:=comm_step (rest:=rest) ho hw hr b k cs;have st:=step_lone_recv_shut ok hs hc;rw [Frame.finish_at,ho] at st;obtain⟨e,a',w',hq,harr⟩:=h b k cs;exact⟨e,a',w',hq,.of_steps (.one st) harr⟩
theorem Runs.val (i:Nat) {rest:List Nat} {o:Oper} {d:Nat} {v:Value} {t t':Array Value} {ds:List Deferred} {w':World}
 (h:Runs P ops Q rest { tmps:=t',defers:=ds } w')
 (ho:ops[i]?=some o:=by exact rfl) (hd:o.dst=some d:=by exact rfl) (hw:Region.wanted o (yielded ops t)=true:=by rfl)
 (hr:(execOp (Act.eval { tmps:=t,defers:=ds }) o).run P w=.ok (.value v) w':=by go_simp;try with_reducible rfl)
 (ht:t.setIfInBounds d v=t':=by (try simp only [List.setIfInBounds_toArray,List.set_cons_zero,List.set_cons_succ]);exact rfl):Runs P ops Q (i::rest) { tmps:=t,defers:=ds } w :=
 Runs.value ho hw hr (by rw [hd];show Runs P ops Q rest { tmps:=t.setIfInBounds d v,defers:=ds } w';rw [ht];exact h)
theorem Runs.snd (i:Nat) {rest:List Nat} {o:Oper} {c cap s r:Nat} {v z:Value} {buf:Array Value} {tm:Bool} {w₁:World}
 (hc:w₁.heap[c]?=some (.chan cap buf false s r tm)) (hroom:buf.size<cap)
 (h:Runs P ops Q rest a (w₁.setChan c cap (buf.push v) false (s+1) r tm)) (ho:ops[i]?=some o:=by exact rfl) (hd:o.dst=none:=by exact rfl) (hw:Region.wanted o (yielded ops a.tmps)=true:=by rfl)
 (hr:(execOp a.eval o).run P w=.ok (.comm #[scase c v z] true .send) w₁:=by simp [execOp,scase,Act.eval]):Runs P ops Q (i::rest) a w :=
 Runs.send ho hw hr hc hroom (by rw [hd];exact h)
theorem Runs.rcv (i:Nat) {rest:List Nat} {o:Oper} {c cap s r d:Nat} {ok:Bool} {z:Value} {buf:Array Value} {closed tm:Bool} {t t':Array Value} {ds:List Deferred} {w₁:World}
 (hc:w₁.heap[c]?=some (.chan cap buf closed s r tm)) (hsome:0<buf.size)
 (h:Runs P ops Q rest { tmps:=t',defers:=ds } (w₁.setChan c cap (buf.extract 1 buf.size) closed s (r+1) tm))
 (ho:ops[i]?=some o:=by exact rfl) (hd:o.dst=some d:=by exact rfl) (hw:Region.wanted o (yielded ops t)=true:=by rfl)
 (hr:(execOp (Act.eval { tmps:=t,defers:=ds }) o).run P w=.ok (.comm #[rcase c z] true (.recv ok)) w₁:=by simp [go_sem,rcase])
 (ht:t.setIfInBounds d (got ok (buf.getD 0 undef) true)=t':=by (try simp only [List.setIfInBounds_toArray,List.set_cons_zero,List.set_cons_succ]);exact rfl):Runs P ops Q (i::rest) { tmps:=t,defers:=ds } w :=
 Runs.recv ho hw hr hc hsome (by rw [hd];show Runs P ops Q rest { tmps:=t.setIfInBounds d (got ok (buf.getD 0 undef) true),defers:=ds } _;rw [ht];exact h)
theorem Runs.end_ (i:Nat) {rest:List Nat} {o:Oper} {c cap s r d:Nat} {ok:Bool} {z:Value} {tm:Bool} {t t':Array Value} {ds:List Deferred} {w₁:World}
 (hc:w₁.heap[c]?=some (.chan cap #[] true s r tm))
 (h:Runs P ops Q rest { tmps:=t',defers:=ds } w₁)
 (ho:ops[i]?=some o:=by exact rfl) (hd:o.dst=some d:=by exact rfl) (hw:Region.wanted o (yielded ops t)=true:=by rfl)
 (hr:(execOp (Act.eval { tmps:=t,defers:=ds }) o).run P w=.ok (.comm #[rcase c z] true (.recv ok)) w₁:=by simp [go_sem,rcase])
 (ht:t.setIfInBounds d (got ok z false)=t':=by (try simp only [List.setIfInBounds_toArray,List.set_cons_zero,List.set_cons_succ]);exact rfl):Runs P ops Q (i::rest) { tmps:=t,defers:=ds } w :=
 Runs.shut ho hw hr hc (by rw [hd];show Runs P ops Q rest { tmps:=t.setIfInBounds d (got ok z false),defers:=ds } _;rw [ht];exact h)
theorem Runs.get (i:Nat) {rest:List Nat} {o:Oper} {c cap s r d:Nat} {z v:Value} {buf buf':Array Value} {closed tm:Bool} {t t':Array Value} {ds:List Deferred} {w₁:World}
 (hc:w₁.heap[c]?=some (.chan cap buf closed s r tm)) (hsome:0<buf.size) (hv:buf.getD 0 undef=v) (hb:buf.extract 1 buf.size=buf')
 (h:Runs P ops Q rest { tmps:=t',defers:=ds } (w₁.setChan c cap buf' closed s (r+1) tm))
 (ho:ops[i]?=some o:=by exact rfl) (hd:o.dst=some d:=by exact rfl) (hw:Region.wanted o (yielded ops t)=true:=by rfl)
 (hr:(execOp (Act.eval { tmps:=t,defers:=ds }) o).run P w=.ok (.comm #[rcase c z] true (.recv true)) w₁:=by simp [go_sem,rcase])
 (ht:t.setIfInBounds d (.tuple #[v,.bool true])=t':=by (try simp only [List.setIfInBounds_toArray,List.set_cons_zero,List.set_cons_succ]);exact rfl):Runs P ops Q (i::rest) { tmps:=t,defers:=ds } w :=
 Runs.rcv i hc hsome (by rw [hb];exact h) ho hd hw hr (by rw [hv];exact ht)
theorem Runs.none (i:Nat) {rest:List Nat} {o:Oper} {c cap s r d:Nat} {z:Value} {tm:Bool} {t t':Array Value} {ds:List Deferred} {w₁:World}
 (hc:w₁.heap[c]?=some (.chan cap #[] true s r tm)) (h:Runs P ops Q rest { tmps:=t',defers:=ds } w₁)
 (ho:ops[i]?=some o:=by exact rfl) (hd:o.dst=some d:=by exact rfl) (hw:Region.wanted o (yielded ops t)=true:=by rfl)
 (hr:(execOp (Act.eval { tmps:=t,defers:=ds }) o).run P w=.ok (.comm #[rcase c z] true (.recv true)) w₁:=by simp [go_sem,rcase])
 (ht:t.setIfInBounds d (.tuple #[z,.bool false])=t':=by (try simp only [List.setIfInBounds_toArray,List.set_cons_zero,List.set_cons_succ]);exact rfl):Runs P ops Q (i::rest) { tmps:=t,defers:=ds } w :=
 Runs.end_ i hc h ho hd hw hr ht
end
end
section
open Go.ChangeShapes Go.WideShapes Go.ChangeAt Go.RowKit
namespace P13
abbrev Pk:=Int×Int
def rd (v:Int):Pk:=if 0<=v then (0,v % 16) else (1,-(max v (-4611686018427387904)))
theorem rd_step {v:Int} (h:0<=v):rd v=(0,v % 16):=if_pos h
theorem rd_tick {v:Int} (h:v<0):rd v=(1,-(max v (-4611686018427387904))):=if_neg (by omega)
def okP (p:Pk):Prop:=(p.1=0/\0<=p.2/\p.2<16)\/(p.1=1/\0<p.2/\p.2<=4611686018427387904)
instance (p:Pk):Decidable (okP p):=by unfold okP;infer_instance
theorem mod16 {v:Int} (h:0<=v):0<=v % 16/\v % 16<16:=by omega
theorem rd_ok (v:Int):okP (rd v):=by
 by_cases h:0<=v
 . rw [rd_step h]
   have:=mod16 h;exact .inl ⟨rfl,this.1,this.2⟩
 . rw [rd_tick (by omega)]
   refine .inr ⟨rfl,?_,?_⟩
   . show 0 < -(max v (-4611686018427387904));omega
   . show -(max v (-4611686018427387904))<=4611686018427387904;omega
theorem rd_inb (v:Int):Inb (rd v).1/\Inb (rd v).2:=by
 have:=rd_ok v;unfold okP at this;unfold Inb;omega
theorem take_snoc {l:List Int} {j:Nat} {x:Int} (h:l[j]?=some x):l.take (j+1)=l.take j++[x]:=by rw [List.take_add_one,h];rfl
end P13
end
section
open Go.ChangeShapes Go.WideShapes Go.ChangeAt Go.RowKit Go.Shelf
namespace P13
abbrev pk (p:Pk):Value:=.agg #[.int .i64 p.1,.int .i64 p.2]
theorem Read_is (v:Int) (w:World):Calls Tryz.prog 165 #[.int .i64 v] w λ e w'=>e=.returned (pk (rd v))/\Gr w w':=by
 by_cases h:0<=v
 . rw [rd_step h]
   go_enter Tryz.func165,Tryz.ntmps165;go_wp2_with fail;exact bodyPost_ret (v:=pk (0,v % 16)) (by simp [results,Tryz.results165,go_sem,Int.tmod_eq_emod_of_nonneg h]) rfl ⟨rfl,(Gr.refl w).al _⟩
 . rw [rd_tick (by omega)]
   by_cases h2:v < -4611686018427387904
   . rw [show max v (-4611686018427387904)=-4611686018427387904 from by omega]
     go_enter Tryz.func165,Tryz.ntmps165;go_wp2_with fail;exact bodyPost_ret (v:=pk (1,- -4611686018427387904)) (by simp [results,Tryz.results165,go_sem]<;>omega) rfl ⟨rfl,(Gr.refl w).al _⟩
   . rw [show max v (-4611686018427387904)=v from by omega]
     go_enter Tryz.func165,Tryz.ntmps165;go_wp2_with fail;exact bodyPost_ret (v:=pk (1,-v)) (by simp [results,Tryz.results165,go_sem]<;>omega) rfl ⟨rfl,(Gr.refl w).al _⟩
end P13
end
section
open Go.ChangeShapes Go.WideShapes Go.ChangeAt Go.RowKit Go.Shelf
namespace P13
theorem picks_is (A:Option Addr) (n c:Nat) (w:World) :
 Calls Tryz.prog 117 #[.slice A n c] w λ e w' =>
  e=.returned (.func (.func 164) #[] #[.pointer (some ⟨w.heap.size,0,none⟩)])/\w'=w.alloc (.cells #[.slice A n c] 23):=by
 have hmf:∀ W,(Instr.makeFunc (.func 164) #[] #[.pointer (some ⟨w.heap.size,0,none⟩)]).run Tryz.prog W=.ok (.func (.func 164) #[] #[.pointer (some ⟨w.heap.size,0,none⟩)]) W:=λ W=>by rfl
 go_enter Tryz.func117,Tryz.ntmps117;go_wp2_with fail;go_ret;exact⟨rfl,rfl⟩
theorem abides_gr {β:Type} {B:Nat} {J:β->World->Prop} (h:AbidesFrom B J) {s:β} {X Y:World} (hs:J s X) (g:Gr X Y):J s Y :=
 h s X Y none hs ⟨g.os,g.tape,g.output,g.size,λ k hk _=>g.block k hk⟩ (λ r e=>by cases e)
theorem picks1_in (w0:World) {A:Option Addr} {n c:Nat} {L:List Int} (hm:IMem w0 A n L) (hn:n<=9223372036854775807)
 (m:Nat) (hm1:1<=m) (l lb:Nat) (J Jx:List Int->World->Prop) (W:World) (hW:Gr w0 W) (hJ:AbidesFrom W.heap.size J)
 (hY:∀ pre x W1,J pre W1->pre.length<L.length->YieldAt Fence.wide (m-1) Tryz.prog l #[pk (rd x)] W1 λ e W' =>
   (e=.returned (.bool true)/\J (pre++[x]) W'/\Below w0.heap.size W1 W')\/(e=.returned (.bool false)/\Jx (pre++[x]) W'))
 (hL:Blk W lb #[.slice A n c] 23) (h0:J [] W) :
 CallsIn Fence.wide m Tryz.prog 164 #[.func (.yield l) #[] #[],.pointer (some ⟨lb,0,none⟩)] W λ e W'=>(∃ v,e=.returned v) /\
  ((∃ ys,ys=L/\J ys W')\/(∃ pre,pre <+: L/\Jx pre W')):=by
 have hlen:=hm.1;have l0:=(hL.at_ (k:=0) rfl).1;have ll:=hL.lt;have HJ:=hid hJ;have HY:=hid hY;have HM:=hid hm;have H0:=hid h0;clear hJ hY hm hL h0;refine callsIn_of_wp Tryz.func164 rfl trivial ?_ rfl;simp only [Tryz.ntmps164,List.size_toArray,List.length_cons,List.length_nil,Nat.reduceAdd,Nat.reduceSub,Array.replicate_succ,Array.replicate_zero,List.push_toArray,List.append_toArray,List.nil_append,List.cons_append]
 gi_wp2_with fail
 have HG:=hid hW;clear l0 ll
 gi_loopw [7] (λ i wr=>∃ k:Nat,k<=n/\i=.int .i64 (k:Int)/\Hid (Below w0.heap.size w0 wr)/\Hid (J (L.take k) wr)) (λ i _=>n-(intOf i).toNat)
 case atStart=>exact⟨0,Nat.zero_le _,rfl,HG,H0⟩
 case round =>
  clear HG H0;obtain⟨k,hk,rfl,HG,HJK⟩:=hrel;by_cases hlt:k<n
  . obtain⟨b,off,x,rfl,hbl,hx,hxb,d0⟩:=(HM.out.gr HG.out).at_ hlt
    have k0:(0:Int)<=(k:Int):=by omega
    have k1:(k:Int)<(n:Int):=by omega
    have HX:=hid hx;have CR:=λ W=>hid (Read_is x W)
    clear hx hxb
    gi_wp2_with fail
    refine⟨trivial,?_⟩;with_reducible refine (callsIn_wide.2 (CR _).out).mono ?_
    rintro e w1 ⟨rfl,hb1⟩;have hj1:=abides_gr HJ.out HJK.out hb1;obtain⟨fn,tmps,assign,body,hyy,hR⟩:=HY.out (L.take k) x _ hj1 (by have:=(List.getElem?_eq_some_iff.1 HX.out).1;rw [List.length_take];omega);have HRR:=hid hR;have HG1:=hid (HG.out.trans (Below.mono hb1 HG.out.size));clear hj1 hR hb1 CR
    gi_wp2_with fail
    refine HRR.out.mono ?_;rintro e W3 (⟨rfl,hJ3,hk3⟩ | ⟨rfl,hJx3⟩)
    . have HG3:=hid (HG1.out.trans hk3)
      have HJ3:=hid (show J (L.take (k+1)) W3 from by rw [take_snoc HX.out];exact hJ3);clear hJ3 hk3 hyy HRR
      gi_wp2_with fail
      go_roundw
      case rel=>exact⟨k+1,by omega,by go_num,HG3,HJ3⟩
      case measure=>simp [intOf];omega
    . have HJX:=hid hJx3
      clear hJx3 hyy HRR
      gi_wp2_with fail
      refine bodyPost_ret (results_none rfl _ _ _) rfl ?_;exact⟨⟨_,rfl⟩,.inr ⟨_,by rw [<- take_snoc HX.out];exact List.take_prefix _ _,HJX.out⟩⟩
  . obtain rfl:k=n:=by omega
    gi_wp2_with fail
    go_end0
    exact⟨⟨_,rfl⟩,.inl ⟨_,by rw [<- hlen,List.take_length],HJK.out⟩⟩
theorem picks_stops {w0:World} {A:Option Addr} {n c:Nat} {L:List Int} (hm:IMem w0 A n L) (hn:n<=9223372036854775807) (m:Nat) (hm1:1<=m) (lb:Nat) (W:World) (hW:Gr w0 W) (hL:Blk W lb #[.slice A n c] 23) :
 SeqStopsK Fence.wide m Tryz.prog 164 #[.pointer (some ⟨lb,0,none⟩)] (λ x:Int=>#[pk (rd x)]) (Below w0.heap.size) (λ ys=>ys=L) (λ pre=>pre <+: L) L.length W:=λ l J Jx W' hW' hJ _ hY h0 =>
 picks1_in w0 hm hn m hm1 l lb J Jx W' (hW.trans hW') hJ hY (hL.gr hW') h0
end P13
end
section
open Go.ChangeShapes Go.WideShapes Go.ChangeAt Go.RowKit Go.Shelf
attribute [local go_sem] Oper.semAt_some
namespace P13
theorem blk_kept {W W':World} {b:Nat} {cs:Array Value} {t:TypeId} {row:Option Nat} (h:Blk W b cs t) (hg:W.grownBy W' row) (hr:∀ r,row=some r->∃ o:Obj,W.heap[r]?=some o/\o.isCells=false):Blk W' b cs t :=
 h.gb hg λ e=>by
  obtain⟨o,h1,h2⟩:=hr b e;rw [show W.heap[b]?=_ from h] at h1;cases h1;cases h2
theorem keeps_gr {W W':World} (g:Gr W W'):KeepsOthers W W':=⟨g.size,λ k o hk _=>(g.block k (Array.getElem?_eq_some_iff.1 hk).1).trans hk⟩
end P13
end
section
open Go.ChangeShapes Go.WideShapes Go.ChangeAt Go.RowKit Go.Deep Go.Joins
namespace P13
theorem infoPick:(Tryz.prog.info? 108).map (λ i=>(i.zero,i.size,i.bytes))=some (some (.agg #[.int .i64 0,.int .i64 0]),2,16):=by kernel_rfl
theorem info_parts {t:TypeId} {a:Option Value×Nat×Nat} (h:(Tryz.prog.info? t).map (λ i=>(i.zero,i.size,i.bytes))=some a):∃ i,Tryz.prog.info? t=some i/\i.zero=a.1/\i.size=a.2.1/\i.bytes=a.2.2:=by
 rw [Option.map_eq_some_iff] at h;obtain⟨i,hi,rfl⟩:=h;exact⟨i,hi,rfl,rfl,rfl⟩
def Late (B:Nat) (A:Option Addr):Prop:=∀ k,A.map (·.block)=some k->B<=k
theorem Late.none {B:Nat}:Late B none:=λ k h=>by cases h
abbrev KOwn (w:World) (base:Nat) (v:Value) (l:List Pk):Prop:=w.ownsRow base 108 2 v l.length (flat l)
theorem own_mem {w:World} {base:Nat} {v:Value} {l:List Pk} (h:KOwn w base v l) (hb:∀ x∈l,Inb x.1/\Inb x.2):∃ A c,v=.slice A l.length c/\Mem w A l.length l/\l.length<=c/\c<=9223372036854775807/\Late base A:=by
 rcases h.2 with ⟨rfl,h0⟩ | ⟨g,cap,cur,rfl,hbg,hg,hnc,hcm,hs,ht⟩
 . have hl:l=[]:=by
    cases l with
    | nil=>rfl
    | cons x r=>cases h0
   subst hl;exact⟨none,0,rfl,Mem.nil_,Nat.le_refl _,by omega,Late.none⟩
 . refine⟨_,_,rfl,⟨rfl,hb,λ _=>⟨g,0,rfl,(Array.getElem?_eq_some_iff.1 hg).1,λ j u hu=>?_⟩⟩,hnc,by unfold maxLen at hcm;omega,λ k hk=>by simp at hk;omega⟩
   rw [Nat.zero_add,cell_of_row w g j cur _ (0,0) hg];rw [<- ht,List.getElem?_take] at hu;split at hu
   . simpa using hu
   . cases hu
section
variable {w:World} {base:Nat} {v:Value} {l:List Pk} {A:Option Addr} {m c:Nat} {news:List Pk}
theorem run_append_picks (h:KOwn w base v l) (hr:Mem w A m news) (hl:l.length+m<=1000000) (hbase:base<=w.heap.size) (ty:TypeId) (c:Nat) :
 ∃ v' w',(Builtin.append_ #[141,141] ty #[v,.slice A m c]).run Tryz.prog w=.ok v' w'/\KOwn w' base v' (l++news)/\w.grownBy w' v.ownBlock:=by
 obtain⟨i,hi,hz,hs,hb⟩:=info_parts infoPick;unfold KOwn;rw [List.length_append,hr.1,flat_append];rcases A with _ | ad
 . have hm:m=0:=by
    rcases Nat.eq_zero_or_pos m with h0 | h0
    . exact h0
    . obtain⟨b,off,h,_⟩:=hr.2.2 h0
      cases h
   subst hm;have hn:news=[]:=List.eq_nil_of_length_eq_zero hr.1;subst hn;exact⟨v,w,run_append_of_nil w base 141 ty 108 i 2 Tryz.underlying141 hi v _ _ h c,by simpa [flat] using h,World.grownBy.refl w _⟩
 . have hcells:∀ j u,(flat news)[j]?=some u->w.cell? (ad.add j)=some u:=by
    intro j u hu;rcases Nat.eq_zero_or_pos m with h0 | h0
    . subst h0
      have hn:news=[]:=List.eq_nil_of_length_eq_zero hr.1;subst hn;simp [flat] at hu
    . obtain⟨b,off,h,_,hc⟩:=hr.2.2 h0
      injection h with h
      subst h;rw [add_plain];exact hc j u hu
   obtain⟨v',w',hrun,h2,h3,_⟩:=run_append_own (P:=Tryz.prog) w base 141 ty 108 i (.agg #[.int .i64 0,.int .i64 0]) 2 16 Tryz.underlying141 hi hz hs hb rfl (by decide) v _ _ h ad m c (flat news) (by rw [flat_len,hr.1]) hcells (flat_one news) (by unfold maxLen;omega) (by omega) hbase;exact⟨v',w',hrun,h2,h3⟩
end
theorem KOwn.nil (w:World) (base:Nat):KOwn w base (.slice none 0 0) []:=World.ownsRow_nil w base _ 2
theorem KOwn.kept {w w':World} {base:Nat} {v:Value} {l:List Pk} {row:Option Nat} (h:KOwn w base v l) (hg:w.grownBy w' row) (hr:v.ownBlock=none\/v.ownBlock≠row):KOwn w' base v l:=World.ownsRow.kept h hg hr
theorem KOwn.gr {w w':World} {base:Nat} {v:Value} {l:List Pk} (h:KOwn w base v l) (g:Gr w w'):KOwn w' base v l :=
 h.kept (row:=none) ⟨g.os,g.tape,g.output,g.size,λ k hk _=>g.block k hk⟩ (by cases v.ownBlock<;>simp)
theorem KOwn.late {w:World} {base:Nat} {v:Value} {l:List Pk} (h:KOwn w base v l) {k:Nat} (hk:v.ownBlock=some k):base<=k:=by
 rcases h.2 with ⟨rfl,_⟩ | ⟨g,cap,cur,rfl,hb,_⟩
 . cases hk
 . simp only [Value.ownBlock] at hk
   cases hk;exact hb
theorem pick_row {w:World} {g:Nat} {p:Pk} {t:TypeId} (h:Blk w g #[.int .i64 p.1,.int .i64 p.2] t) (hp:Inb p.1/\Inb p.2):Mem w (some ⟨g,0,none⟩) 1 [p] :=
 ⟨rfl,λ x hx=>by rw [List.mem_singleton] at hx;subst hx;exact hp,λ _=>⟨g,0,rfl,h.lt,λ j u hu=>by
   match j,hu with
   | 0,hu=>simp [flat] at hu;subst hu;exact (h.at_ (k:=0) rfl).1
   | 1,hu=>simp [flat] at hu;subst hu;exact (h.at_ (k:=1) rfl).1⟩⟩
theorem KOwn.low {w:World} {base b2:Nat} {v:Value} {l:List Pk} (h:KOwn w base v l) (hb:b2<=base):KOwn w b2 v l:=by
 refine⟨h.1,?_⟩;rcases h.2 with h1 | ⟨g,cap,cur,hv,hbg,h2⟩
 . exact .inl h1
 . exact .inr ⟨g,cap,cur,hv,Nat.le_trans hb hbg,h2⟩
theorem wpListIn_append_picks {F:Fence} {f:Nat} {w:World} {base:Nat} {v:Value} {l:List Pk} {A:Option Addr} {m c:Nat} {news:List Pk} {ops:Array Oper} {rest:List Oper} {o:Oper} {a:Act} {Q:Exit->Act->World->Prop} (hgd:o.guard=none) (s x:Operand)
 (ho:o.op=.call { callee:=.builtin .append,args:=#[s,x],argTypes:=#[141,141] }) (hs:a.eval s=v) (hx:a.eval x=.slice A m c)
 (h:KOwn w base v l) (hr:Mem w A m news) (hl:l.length+m<=1000000) (hbase:base<=w.heap.size)
 (hK:∀ v' w',KOwn w' base v' (l++news)->w.grownBy w' v.ownBlock->wpListIn F f Tryz.prog ops Q rest (a.put o.dst v') w'):wpListIn F f Tryz.prog ops Q (o::rest) a w:=by
 refine wpListIn_plain hgd λ K hK'=>?_
 obtain⟨v',w',h1,h2,h3⟩:=run_append_picks h hr hl hbase o.type c;unfold Oper.wpIn;refine⟨?_,?_⟩
 . simp [Oper.about,ho,resolve,Target.leads,Sem.run_pure]
 . rw [Oper.semAt_plain F _ _ (by rw [ho];intro c hc';cases hc')]
   simp [execOp,ho,resolve,invoke,builtin,hs,hx,h1,Result.andThen];exact hK' _ _ (hK v' w' h2 h3)
end P13
end
section
open Go.ChangeShapes Go.WideShapes Go.ChangeAt Go.RowKit Go.Shelf
attribute [local go_sem] Oper.semAt_some
namespace P13
theorem blk_notcells {W:World} {base:Nat} {v:Value} {l:List Pk} (h:KOwn W base v l):∀ (j:Nat) (o:Obj),v.ownBlock=some j->W.heap[j]?=some o->o.isCells=true:=by
 intro j o hj ho;rcases h.2 with ⟨rfl,_⟩ | ⟨g,cap,cur,rfl,_,hg,_⟩
 . cases hj
 . simp only [Value.ownBlock] at hj
   cases hj;rw [hg] at ho;cases ho;rfl
structure ApI (w:World) (b2:Nat) (pre:List Int) (W:World):Prop where
 gr:Gr w W
 row:∃ v,Blk W b2 #[v] 141/\KOwn W (b2+1) v (pre.map rd)
theorem kown_kept {W W':World} {base:Nat} {v:Value} {l:List Pk} {row:Option Nat} (h:KOwn W base v l) (hg:W.grownBy W' row) (hr:∀ r,row=some r->∃ o:Obj,W.heap[r]?=some o/\o.isCells=false):KOwn W' base v l:=by
 refine h.kept hg ?_
 cases hv:v.ownBlock with
 | none=>exact .inl rfl
 | some k =>
  refine .inr λ e=>?_
  obtain⟨o,h1,h2⟩:=hr k e.symm;rw [blk_notcells h k o hv h1] at h2;cases h2
theorem ApI.own {w:World} {b2 B:Nat} (hB:w.heap.size<=B):OwnFrom B (λ pre W=>ApI w b2 pre W):=λ pre W W' row h hg hr=>by
 obtain⟨v,h1,h2⟩:=h.row;exact⟨h.gr.gb hg (λ k e=>Nat.le_trans hB (hr k e).1),v,blk_kept h1 hg (λ r e=>(hr r e).2),kown_kept h2 hg (λ r e=>(hr r e).2)⟩
theorem ApI.gr' {w:World} {b2:Nat} {pre:List Int} {W W':World} (h:ApI w b2 pre W) (g:Gr W W'):ApI w b2 pre W':=by
 obtain⟨v,h1,h2⟩:=h.row;exact⟨h.gr.trans g,v,h1.gr g,h2.gr g⟩
theorem rd_all (l:List Int):∀ x∈l.map rd,Inb x.1/\Inb x.2:=λ x hx=>by
 obtain⟨v,_,rfl⟩:=List.mem_map.1 hx;exact rd_inb v
theorem AppendSeq_is {w:World} {A:Option Addr} {n c lb:Nat} {L:List Int} (hm:IMem w A n L) (hn:n<=100000) (hL:Blk w lb #[.slice A n c] 23) :
 Calls Tryz.prog 163 #[.slice none 0 0,.func (.func 164) #[] #[.pointer (some ⟨lb,0,none⟩)]] w λ e w'=>∃ v,e=.returned v/\KOwn w' w.heap.size v (L.map rd)/\Gr w w':=by
 have hlen:=hm.1;have hstops:=λ W (g:Gr w W)=>picks_stops hm (by omega) (6-1) (by omega) lb W g (hL.gr g)
 refine (callsIn_wide (n:=6)).1 ?_;refine callsIn_of_wp_marks Tryz.func163 rfl trivial ?_ rfl;simp only [Tryz.ntmps163,List.size_toArray,List.length_cons,List.length_nil,Nat.reduceAdd,Nat.reduceSub,Array.replicate_succ,Array.replicate_zero,List.push_toArray,List.append_toArray,List.nil_append,List.cons_append]
 gi_wp2_with fail
 have G3:=(Gr.refl w).al (.cells #[.slice none 0 0] 141);have H2:=Blk.new w #[.slice none 0 0] 141;have hst:=hstops _ G3;have hs3:(w.alloc (.cells #[.slice none 0 0] 141)).heap.size=w.heap.size+1:=by simp
 generalize w.alloc (.cells #[.slice none 0 0] 141)=w3 at *;obtain⟨b2,hb2⟩:∃ b,w.heap.size=b:=⟨_,rfl⟩;rw [hb2] at H2;rw [hb2];have h56:w.heap.size<=b2/\b2<w3.heap.size:=by omega
 have HG3:=hid G3;have HB2:=hid hb2;clear hstops hb2 hs3 hm G3 hL;refine wpIn_rangeFunc_ownH rfl (by omega) (gf:=164) (lb:=#[.pointer (some ⟨lb,0,none⟩)]) rfl trivial (enters_of Tryz.func164 (by kernel_rfl) rfl)
  hst (λ h k=>h.trans k) (λ W l o o' hl h hc hw=>belowK_b HG3.out.size W l o o' hl h hc hw) (Gr.refl _) (λ _=>rfl)
  (λ pre W=>ApI w b2 pre W) (λ c pre W=>False) (ApI.own HG3.out.size) (λ c=>λ _ _ _ _ h _ _=>h)
  ⟨HG3.out,_,H2,KOwn.nil _ _⟩
  (λ x a' W=>∃ Bx,b2<Bx/\Blk W Bx #[.int .i64 (rd x).1,.int .i64 (rd x).2] 108/\a'={ tmps:=#[.slice none 0 0,.func (.func 164) #[] #[.pointer (some ⟨lb,0,none⟩)],.pointer (some ⟨b2,0,none⟩),undef,.slice none 0 0,.pointer (some ⟨Bx,0,none⟩),.func (.func 164) #[] #[.pointer (some ⟨lb,0,none⟩)],.agg #[.int .i64 (rd x).1,.int .i64 (rd x).2],undef,undef,undef,undef,undef],defers:=[] })
  (λ x a' _ X Y row hs hg hr=>by
    obtain⟨Bx,h1,h2,h3⟩:=hs;exact⟨Bx,h1,blk_kept h2 hg (λ r e=>(hr r e).2),h3⟩)
  ?assign ?body ?done ?stop
 case assign =>
  rintro l pre x W K hI hK;have hlt4:b2<W.heap.size:=by
   obtain⟨v,h1,_⟩:=hI.row;exact h1.lt
  have ha:=(Gr.refl W).al (.cells #[.int .i64 (rd x).1,.int .i64 (rd x).2] 108);have HK:=hid (hK _ _ ((keeps_gr ha).from _) (Below.mono ha hI.gr.size) (hI.gr' ha) ⟨W.heap.size,hlt4,Blk.new W _ _,rfl⟩);clear hK
  gi_wp2_with fail
  exact HK.out
 case body =>
  rintro l pre x a' W hl ⟨r,hr⟩ hI ⟨Bx,hBx,bX,rfl⟩ hlt;obtain⟨v0,h2,hown⟩:=hI.row;have hib:=rd_inb x;have hmap:(pre++[x]).map rd=pre.map rd++[rd x]:=by simp
  have hpl:(pre.map rd).length=pre.length:=by simp
  have hib2:=rd_all pre;have HI:=hid hI;have HM:=hid hmap;generalize rd x=p at *;generalize pre.map rd=R at *;have c0:=(bX.at_ (k:=0) rfl).1;have c1:=(bX.at_ (k:=1) rfl).1;have cl:=bX.lt;have d0:=(h2.at_ (k:=0) rfl).1;have dl:=h2.lt;have g1:=(Gr.refl W).al (.cells #[.int .i64 p.1,.int .i64 p.2] 108);have HO:=hid (hown.gr g1);have HR:=hid (pick_row (Blk.new W #[.int .i64 p.1,.int .i64 p.2] 108) hib);have H2g:=hid (h2.gr g1);have hbase:b2+1<=(W.alloc (.cells #[.int .i64 p.1,.int .i64 p.2] 108)).heap.size:=by simp;omega
  have HL:=hid (show R.length+1<=1000000 by omega);have FIN:Hid (∀ v' w',KOwn w' (b2+1) v' (R++[p])->(W.alloc (.cells #[.int .i64 p.1,.int .i64 p.2] 108)).grownBy w' v0.ownBlock ->
   (w'.cell? ⟨b2,0,none⟩=some v0/\w'.frozen? ⟨b2,0,none⟩=false)/\b2<w'.heap.size/\KeepsFrom w3.heap.size W (w'.setCell ⟨b2,0,none⟩ v')/\Below w.heap.size W (w'.setCell ⟨b2,0,none⟩ v')/\ApI w b2 (pre++[x]) (w'.setCell ⟨b2,0,none⟩ v')):=hid λ v' w' hv' hgrow=>by
   have hlate:∀ k,v0.ownBlock=some k->b2+1<=k:=λ k e=>HO.out.late e
   have hnc:=blk_notcells HO.out;have f2:=H2g.out.gb hgrow (λ e=>by have:=hlate _ e;omega);have k1:KeepsOthers _ w':=KeepsOthers.of_grownBy hgrow hnc;refine⟨⟨(f2.at_ (k:=0) rfl).1,(f2.at_ (k:=0) rfl).2⟩,f2.lt,(((keeps_gr g1).trans k1).trans (KeepsOthers.setCell _ _ _)).from _,?_,?_⟩
   . exact ((Below.mono g1 HI.out.gr.size).grown hgrow (Nat.le_trans HI.out.gr.size g1.size) (λ k e=>by have:=hlate k e;omega)).setCell (p:=⟨b2,0,none⟩) (by show w.heap.size<=b2;omega) _
   . refine⟨((HI.out.gr.trans g1).gb hgrow (λ k e=>by have:=hlate k e;omega)).st (p:=⟨b2,0,none⟩) (by show w.heap.size<=b2;omega) _,v',f2.set 0 _,?_⟩
     rw [HM.out];refine hv'.kept (grownBy_setCell' w' b2 v') (.inr λ e=>?_);have:=KOwn.late hv' e;omega
  clear hI hmap h2 hown hib hpl hib2 hr hl hlt bX g1
  gi_wp2_with (gi_at_builtin;refine Mark.stop ?_)
  refine Mark.go ?_;refine wpListIn_append_picks (news:=[p]) rfl (.tmp 8) (.tmp 10) rfl rfl rfl HO.out HR.out HL.out hbase ?_;intro v' w' hv' hgrow;obtain⟨⟨f1,f2⟩,f3,hF⟩:=FIN.out _ _ hv' hgrow;obtain⟨g,cap,rfl,_,_⟩:=World.ownsRow.form hv' (by simp);generalize (R++[p]).length=N at *;have HFF:=hid hF;clear hF hv' hgrow
  gi_wp2_with fail
  exact HFF.out
 case done =>
  rintro D ys W hD rfl hI hK;obtain⟨v,h2,hown⟩:=hI.row;have c2:=(h2.at_ (k:=0) rfl).1;have l2:=h2.lt;have HK:=hid hK;have HI:=hid hI;have HO:=hid hown;clear hI hK hown
  gi_wp2_with fail
  refine⟨by simp,.inl ⟨_,_,rfl,run_takeDeferred HK.out,?_⟩⟩;have EG:=HI.out.gr.gb (grownBy_putObj' W D (.deferred none)) (λ k e=>by cases e;exact Nat.le_trans HG3.out.size hD);have EO:=kown_kept HO.out (grownBy_putObj' W D (.deferred none)) (λ r e=>by cases e;exact⟨_,HK.out,rfl⟩);generalize W.putObj D (.deferred none)=WF at *;refine⟨v,by simp [results,Tryz.results163,go_sem],v,rfl,KOwn.low EO (by rw [HB2.out];omega),EG⟩
 case stop =>
  rintro D cc pre W hD hpre h hK;exact h.elim
end P13
end
section
open Go.ChangeShapes Go.WideShapes Go.ChangeAt Go.RowKit Go.Shelf
namespace P13
theorem Collect_is {w:World} {A:Option Addr} {n c lb:Nat} {L:List Int} (hm:IMem w A n L) (hn:n<=100000) (hL:Blk w lb #[.slice A n c] 23) :
 Calls Tryz.prog 116 #[.func (.func 164) #[] #[.pointer (some ⟨lb,0,none⟩)]] w λ e w'=>∃ v,e=.returned v/\KOwn w' w.heap.size v (L.map rd)/\Gr w w':=by
 have CA:=hid (AppendSeq_is hm hn hL);clear hm hL;go_enter Tryz.func116,Tryz.ntmps116;go_wp2_with fail;with_reducible refine CA.out.mono ?_
 rintro e w1 ⟨v,rfl,hv,hg⟩;go_wp2_with fail;go_ret;exact⟨v,rfl,hv,hg⟩
theorem All_is {w:World} {A:Option Addr} {n c:Nat} {L:List Int} (hm:IMem w A n L) (hn:n<=100000) :
 Calls Tryz.prog 78 #[.slice A n c] w λ e w'=>(∃ B d,e=.returned (.slice B n d)/\n<=d/\d<=9223372036854775807/\Mem w' B n (L.map rd)/\KOwn w' w.heap.size (.slice B n d) (L.map rd))/\Gr w w':=by
 have CC:=hid (Collect_is (c:=c) (hm.gr ((Gr.refl w).al (.cells #[.slice A n c] 23))) hn (Blk.new w #[.slice A n c] 23));have hlen:=hm.1;clear hm;go_enter Tryz.func78,Tryz.ntmps78;go_wp2_with fail;with_reducible refine (picks_is A n c w).mono ?_
 rintro e w1 ⟨rfl,rfl⟩;go_wp2_with fail;with_reducible refine CC.out.mono ?_
 rintro e w2 ⟨v,rfl,hv,hg⟩;obtain⟨B,d,rfl,h1,h2,h3,h4⟩:=own_mem hv (rd_all L);have hl:(L.map rd).length=n:=by simp [hlen]
 rw [hl] at h1 h2 hv ⊢;clear hl;go_wp2_with fail;go_ret;exact⟨⟨B,d,rfl,h2,h3,h1,KOwn.low hv (by simp)⟩,((Gr.refl w).al _).trans hg⟩
end P13
end
section
open Go.Conc Go.ChangeShapes Go.WideShapes Go.ChangeAt Go.RowKit
namespace P17
open P13 (rd pk)
theorem mk_ch (n:Nat) (hn:n<=100000) (w:World):(Instr.makeChan 143 (.int .i64 (n:Int))).run Tryz.prog w=.ok (.chan (some w.heap.size)) (w.alloc (.chan n #[] false 0 0 false)):=by
 obtain⟨i,hi,hz,hs,hb⟩:=P13.info_parts P13.infoPick;have hb:i.bytes=16:=hb;exact run_makeChan Tryz.underlying143 hi .i64 n (by omega) (by rw [hb];omega)
def pks (l:List Int):Array Value:=(l.map λ v=>pk (rd v)).toArray
theorem pks_snoc (l:List Int) (v:Int):(pks l).push (pk (rd v))=pks (l++[v]):=by simp [pks]
theorem pks_size (l:List Int):(pks l).size=l.length:=by simp [pks]
theorem picks_is {w:World} {A:Option Addr} {n c:Nat} {L:List Int} (hm:IMem w A n L) (hn:n<=100000) :
 Calls Tryz.prog 48 #[.slice A n c] w λ e w'=>∃ ch,e=.returned (.chan (some ch))/\Gr w w'/\w.heap.size<=ch/\w'.heap[ch]?=some (.chan n (pks L) true n 0 false):=by
 have cA:=hid (P13.All_is (c:=c) hm hn);have hlen:=hm.1;clear hm;go_enter Tryz.func48,Tryz.ntmps48;go_wp2_with fail;with_reducible refine cA.out.mono ?_
 rintro e w1 ⟨⟨B,d,rfl,hnd,hd,hM,-⟩,g1⟩;have HM:=hid hM;have G1:=hid g1;clear hM g1 cA;have hmk:=mk_ch n hn;go_upto_region 4 with fail;have HC:=hid (heap_alloc_new w1 (.chan n #[] false 0 0 false));have hcz:w1.heap.size<(w1.alloc (.chan n #[] false 0 0 false)).heap.size:=by rw [World.size_alloc];omega
 have HG:=hid ((Gr.refl w1).al (.chan n #[] false 0 0 false));generalize w1.alloc (.chan n #[] false 0 0 false)=W2 at HC HG hcz ⊢
 go_loopw [14] (λ i wr=>∃ j:Nat,j<=n/\i=.int .i64 (j:Int)/\Hid (Gr w1 wr)/\Hid (wr.heap[w1.heap.size]?=some (.chan n (pks (L.take j)) false j 0 false))) (λ i _=>n-(intOf i).toNat)
 case atStart=>exact⟨0,Nat.zero_le _,rfl,HG,HC⟩
 case round =>
  obtain⟨j,hj,rfl,GW,HB⟩:=hrel;by_cases hjn:j<n
  . have j0:(0:Int)<=(j:Int):=by omega
    have j1:(j:Int)<(n:Int):=by omega
    obtain⟨b,off,x,rfl,hb,hx,-,-,e0,e1⟩:=(HM.out.gr GW.out).at_ hjn;obtain⟨v,hv,rfl⟩:∃ v,L[j]?=some v/\rd v=x:=by rw [List.getElem?_map,Option.map_eq_some_iff] at hx;exact hx
    have BP:=hid (Blk.new wr #[.int .i64 (rd v).1,.int .i64 (rd v).2] 108);have GP:=hid (GW.out.al (.cells #[.int .i64 (rd v).1,.int .i64 (rd v).2] 108));have hsz:=Array.getElem?_eq_some_iff.1 HB.out;have HB2:=hid (show (wr.alloc (.cells #[.int .i64 (rd v).1,.int .i64 (rd v).2] 108)).heap[w1.heap.size]?=_ from (heap_alloc_old wr _ hsz.1).trans HB.out);go_upto_region 6 with fail;rename_i hK;generalize hV:wr.alloc (.cells #[.int .i64 (rd v).1,.int .i64 (rd v).2] 108)=V at BP GP HB2 ⊢;clear hV e0 e1;obtain⟨q0,-⟩:=BP.out.at_ (k:=0) (v:=.int .i64 (rd v).1) rfl;obtain⟨q1,-⟩:=BP.out.at_ (k:=1) (v:=.int .i64 (rd v).2) rfl;refine Runs.region ?_;show Runs _ _ _ [0,1,2] _ _;refine Runs.val 0 (v:=.chan (some w1.heap.size)) (w':=V) ?_;refine Runs.val 1 (v:=pk (rd v)) (w':=V) ?_;refine Runs.snd 2 (c:=w1.heap.size) (v:=pk (rd v)) (z:=.tuple #[]) (w₁:=V) HB2.out (by rw [pks_size,List.length_take];omega) ?_;have HB3:=hid (heap_setChan V w1.heap.size n ((pks (L.take j)).push (pk (rd v))) false (j+1) 0 false (Array.getElem?_eq_some_iff.1 HB2.out).1);have GP3:=hid (below_setChan GP.out (Nat.le_refl _) n ((pks (L.take j)).push (pk (rd v))) false (j+1) 0 false);rw [pks_snoc,show L.take j++[v]=L.take (j+1) from by rw [List.take_add_one,hv];rfl] at HB3 GP3 ⊢;refine Runs.of_wp (hK _ _ ?_);clear hK q0 q1 HB2 GP BP;generalize V.setChan w1.heap.size n (pks (L.take (j+1))) false (j+1) 0 false=V3 at HB3 GP3 ⊢;go_wp2_with fail;go_roundw
    case rel=>exact⟨j+1,by omega,by go_num,GP3,HB3⟩
    case measure=>simp [intOf];omega
  . obtain rfl:j=n:=by omega
    have hcl:=λ ats ty=>run_close_open (P:=Tryz.prog) (w:=wr) ats ty HB.out
    go_upto_region 9 with fail;have hlt:=(Array.getElem?_eq_some_iff.1 HB.out).1;have HB3:=hid (heap_setChan wr w1.heap.size j (pks (L.take j)) true j 0 false hlt);have GP3:=hid (below_setChan GW.out (Nat.le_refl _) j (pks (L.take j)) true j 0 false);rw [show L.take j=L from List.take_of_length_le (by omega)] at HB3 GP3 ⊢;generalize hV:({ heap:=wr.heap.setIfInBounds w1.heap.size (.chan j (pks L) true j 0 false),tape:=wr.tape,drawn:=wr.drawn,os:=wr.os,output:=wr.output }:World)=V;rw [show wr.setChan w1.heap.size j (pks L) true j 0 false=V from hV] at HB3 GP3;clear hV hcl HB GW;go_wp2_with fail;go_ret;exact⟨_,rfl,G1.out.trans GP3.out,G1.out.size,HB3.out⟩
end P17
end
end Go.Proofs.YtainfijdhcehlaaGreatDoor
