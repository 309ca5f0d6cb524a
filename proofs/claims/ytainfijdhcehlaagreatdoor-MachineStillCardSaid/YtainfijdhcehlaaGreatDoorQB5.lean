/-
  A part of the proof.
-/
import Derived.Test.YtainfijdhcehlaaGreatDoorQB1
import Derived.Test.YtainfijdhcehlaaGreatDoorQB2
import Derived.Test.YtainfijdhcehlaaGreatDoorQB4
import Derived.Laws.CopyOwn
import Derived.Laws.MakeOwn
import Derived.Laws.Entries
set_option linter.unusedVariables false
set_option linter.unusedSimpArgs false
set_option maxRecDepth 100000
set_option maxHeartbeats 8000000
namespace Go.Proofs.YtainfijdhcehlaaGreatDoor
open Lib (hid)
section
open Go.RowKit
theorem run_makeN {P:Program} (t e:TypeId) (i:TypeInfo) (z:Value) (ht:P.underlying t=some (.slice e)) (hi:P.info? e=some i) (hz:i.zero=some z)
 (n:Nat) (hb:i.bytes*n<=281474976710656) (h63:n<=9223372036854775807) (w:World) :
 (Instr.makeSlice t (.int .i64 (n:Int)) (.int .i64 (n:Int))).run P w=.ok (.slice (some ⟨w.heap.size,0,none⟩) n n) (w.alloc (.cells (madeCells z.cells (n*i.size)) e)):=by
 simpa using run_make (P:=P) w t e i z ht hi hz .i64 .i64 n n (by omega) (by omega) (by rw [<- Int.natCast_mul];omega) (by omega)
theorem run_copyN {P:Program} (w:World) (dT sT ty elem:TypeId) (size:Nat) (g m dCap:Nat) (a:Addr) (sCap:Nat) (cur:Array Value) (t:TypeId) (cs:List Value)
 (hu:P.underlying dT=some (.slice elem)) (hs:(P.info? elem).map (·.size)=some size)
 (hg:w.heap[g]?=some (.cells cur t (0,0))) (hn:cs.length=m*size)
 (hsrc:∀ j v,cs[j]?=some v->w.cell? (a.add j)=some v) (hfit:cs.length=cur.size) (h1:∀ v∈cs,v.oneCell'=true) :
 (Builtin.copy_ #[dT,sT] ty #[.slice (some ⟨g,0,none⟩) m dCap,.slice (some a) m sCap]).run P w=.ok (goInt m) (w.setRow g cs.toArray):=by
 have hl:=run_loadCells_list (P:=P) w a cs hsrc
 have hst:=run_storeCells_at P g 0 t cs 0 cur w hg (by simp;omega) h1
 have hd:cur.toList.drop (0+0+cs.length)=[]:=List.drop_of_length_le (by simp;omega)
 rw [hd] at hst
 simp only [Nat.add_zero,List.take_zero,List.nil_append,List.append_nil] at hst
 cases hq:P.info? elem with
 | none=>simp [hq] at hs
 | some i =>
  have hi:i.size=size:=by simpa [hq] using hs
  simp [Builtin.copy_,run_underlying hu,Builtin.lenOf,Builtin.firstCells,sizeOf,typeInfo,hq,hi,<- hn,hl,hst]
theorem wpList_copyN {P:Program} {w:World} {ops:Array Oper} {rest:List Oper} {o:Oper} {a:Act} {Q:Exit->Act->World->Prop} (hgd:o.guard=none) (d s:Operand) (dT sT:TypeId)
 (ho:o.op=.call { callee:=.builtin .copy,args:=#[d,s],argTypes:=#[dT,sT] }) (elem:TypeId) (size:Nat) (hu:P.underlying dT=some (.slice elem)) (hsz:(P.info? elem).map (·.size)=some size)
 (g m dCap:Nat) (b off:Nat) (sCap:Nat) (hd:a.eval d=.slice (some ⟨g,0,none⟩) m dCap) (hs:a.eval s=.slice (some ⟨b,off,none⟩) m sCap)
 (cur:Array Value) (t:TypeId) (hg:w.heap[g]?=some (.cells cur t (0,0))) (cs:List Value) (hn:cs.length=m*size)
 (hsrc:∀ j v,cs[j]?=some v->w.cell? ⟨b,off+j,none⟩=some v) (hfit:cs.length=cur.size) (h1:∀ v∈cs,v.oneCell'=true)
 (h:∀ w',Hid (w'.heap[g]?=some (.cells cs.toArray t (0,0)))->Below g w w'->w'.heap.size=w.heap.size->wpList P ops Q rest (a.put o.dst (goInt m)) w'):wpList P ops Q (o::rest) a w:=by
 refine wpList_plain hgd λ K hK=>?_
 have hadd:∀ j,(⟨b,off,none⟩:Addr).add j=⟨b,off+j,none⟩:=λ j=>by unfold Addr.add;split<;>simp_all
 have hrun:=run_copyN (P:=P) w dT sT o.type elem size g m dCap ⟨b,off,none⟩ sCap cur t cs hu hsz hg hn (λ j v hv=>by rw [hadd];exact hsrc j v hv) hfit h1
 unfold Oper.wp
 simp [execOp,ho,resolve,invoke,builtin,hd,hs,hrun,Result.andThen]
 exact hK _ _ (h _ (hid (setRow_heap w g _ _ t _ hg)) (below_setRow (Below.refl _ _) (Nat.le_refl _) _) (by simp [World.setRow]))
end
section
open Go.ChangeShapes Go.WideShapes Go.ChangeAt Go.RowKit Go.Shelf
section
variable {W1 W:World} {r:Int} {A:Option Addr} {n c tb kb b off:Nat} {x:Int} {l:List Nd}
def Drawn (W1:World) (_:Int) (W:World):Prop:=∃ q,W=W1.drewN q
theorem Drawn.self (W1:World) (s:Int):Drawn W1 s W1:=⟨0,rfl⟩
theorem grow_further (hm:∀ (i:Nat) (nd:Nd),l[i]?=some nd->W1.cell? ⟨b,off+i*3,none⟩=some (.int .i64 nd.key)) (hK:∀ (i:Nat) (nd:Nd),l[i]?=some nd->IsKey nd.key) (hx:IsKey x) (hk:W1.cell? ⟨kb,0,none⟩=some (.int .i64 x)) :
 Further 248 #[.pointer (some ⟨kb,0,none⟩)] (Drawn W1) (gdir x) (λ _ s=>s) b off l:=by
 rintro s W i nd ⟨q,rfl⟩ hi
 have c0:(W1.drewN q).cell? ⟨b,off+i*3,none⟩=some (.int .i64 nd.key):=hm i nd hi
 have c1:(W1.drewN q).cell? ⟨kb,0,none⟩=some (.int .i64 x):=hk
 have hC:=λ W=>Pri_is nd.key W
 have hC2:=λ W=>Pri_is x W
 rw [prf_key (hK i nd hi)] at hC
 rw [prf_key hx] at hC2
 have HD:Hid (∀ m,Drawn W1 s ((W1.drewN q).drewN m)):=hid λ m=>⟨q+m,by simp [World.drewN,Nat.add_assoc]⟩
 clear hm hK hk hx hi
 generalize W1.drewN q=V at *
 obtain⟨y,p,u⟩:=nd
 dsimp only at *
 unfold gdir
 obtain⟨py,hpy⟩:∃ py,pri y=py:=⟨_,rfl⟩
 obtain⟨px,hpx⟩:∃ px,pri x=px:=⟨_,rfl⟩
 rw [hpy] at hC ⊢
 rw [hpx] at hC2 ⊢
 have K1:=hid hC
 have K2:=hid hC2
 clear hC hC2 hpy hpx
 show Calls Tryz.prog 248 #[.pointer (some ⟨b,off+i*3,none⟩),.pointer (some ⟨kb,0,none⟩)] V _
 by_cases hlt:py<px
 . rw [if_pos hlt]
   go_enter Tryz.func248,Tryz.ntmps248
   go_wp2_with fail
   go_quiet ((go_at_call 235;first | (with_reducible exact Calls.quiet_of_same (K1.out _)) | (with_reducible exact Calls.quiet_of_same (K2.out _))))
   go_wp2_with fail
   go_ret
   exact⟨rfl,HD.out _⟩
 . rw [if_neg hlt]
   go_enter Tryz.func248,Tryz.ntmps248
   go_wp2_with fail
   go_quiet ((go_at_call 235;first | (with_reducible exact Calls.quiet_of_same (K1.out _)) | (with_reducible exact Calls.quiet_of_same (K2.out _))))
   go_wp2_with fail
   go_ret
   exact⟨rfl,HD.out _⟩
theorem New_is (w:World):Calls Tryz.prog 239 #[] w λ e w'=>e=.returned (.agg #[.int .i64 (-1),.slice none 0 0])/\Gr w w':=by
 have B0:=Blk.new w #[.int .i64 0,.slice none 0 0] 281
 go_enter Tryz.func239,Tryz.ntmps239
 go_wp2_with fail
 exact bodyPost_ret (v:=.agg #[.int .i64 (-1),.slice none 0 0]) (by simp [results,Tryz.results239,go_sem]) rfl ⟨rfl,(Gr.refl w).al _⟩
structure GS (w1:World) (R:List Int) (n tb nb:Nat) (k:Nat) (root:Int) (l:List Nd) (t:T) (V:Array Value) (wr:World):Prop where
 gr:Gr w1 wr
 b0:Blk wr tb #[.int .i64 root,.slice (some ⟨nb,0,none⟩) n n] 281
 b1:Blk wr nb V 292
 nv:NV V l
 ge:w1.heap.size<=tb/\w1.heap.size<=nb/\tb≠nb
 len:l.length=n
 bnd:∀ nd∈l,IsKey nd.key/\B64 nd.left/\B64 nd.right
 lay:Lay l t root
 nod:t.ids.Nodup
 ids:∀ i∈t.ids,i<k
 ord:t.inord=R.take k
 hp:Hp t 4294967296
theorem GS.gr' {w1 wr wr':World} {R:List Int} {n tb nb k:Nat} {root:Int} {l:List Nd} {t:T} {V:Array Value} (S:GS w1 R n tb nb k root l t V wr) (g:Gr wr wr'):GS w1 R n tb nb k root l t V wr' :=
 ⟨S.gr.trans g,S.b0.gr g,S.b1.gr g,S.nv,S.ge,S.len,S.bnd,S.lay,S.nod,S.ids,S.ord,S.hp⟩
section
variable {w1 W:World} {n tb nb k:Nat} {R:List Int} {root x:Int} {l:List Nd} {t:T} {V:Array Value}
def V3 (V:Array Value) (k:Nat) (x v:Int):Array Value:=((V.setIfInBounds (k*3) (.int .i64 x)).setIfInBounds (k*3+1) (.int .i64 v)).setIfInBounds (k*3+2) (.int .i64 (-1))
def W4 (W:World) (nb k:Nat) (x v:Int):World:=(((W.setCell ⟨nb,k*3,none⟩ (.int .i64 x)).setCell ⟨nb,k*3+1,none⟩ (.int .i64 v)).setCell ⟨nb,k*3+2,none⟩ (.int .i64 (-1))).drew
theorem GS.w4 (S:GS w1 R n tb nb k root l t V W) (v:Int):Gr w1 (W4 W nb k x v)/\Blk (W4 W nb k x v) tb #[.int .i64 root,.slice (some ⟨nb,0,none⟩) n n] 281/\Blk (W4 W nb k x v) nb (V3 V k x v) 292:=by
 obtain⟨e1,e2,e3⟩:=S.ge
 refine⟨(((S.gr.st e2 _).st e2 _).st e2 _).dr,?_,?_⟩
 . exact (((S.b0.st (p:=⟨nb,_,none⟩) (λ e=>e3 e.symm) _).st (p:=⟨nb,_,none⟩) (λ e=>e3 e.symm) _).st (p:=⟨nb,_,none⟩) (λ e=>e3 e.symm) _)
 . exact ((S.b1.set _ _).set _ _).set _ _
theorem GS.rest (S:GS w1 R n tb nb k root l t V W) (hR:Rising R) (hK:∀ x∈R,IsKey x) (hx:R[k]?=some x) :
 k ∉ t.ids/\(ins k x t).ids.Nodup/\(∀ i∈(ins k x t).ids,i<k+1)/\(ins k x t).inord=R.take (k+1)/\Hp (ins k x t) 4294967296:=by
 have hk:k ∉ t.ids:=λ h=>by have:=S.ids k h;omega
 have hxk:=hK x (List.mem_of_getElem? hx)
 refine⟨hk,ins_nodup S.nod hk,λ i hi=>?_,?_,ins_hp S.hp (pri_range x).2 λ y hy e=>?_⟩
 . rcases ins_ids hi with rfl | h
   . omega
   . have:=S.ids i h;omega
 . rw [ins_inord,S.ord,List.take_add_one,hx];rfl
 . rw [S.ord] at hy
   have hy':=List.mem_of_mem_take hy
   have:=pri_inj (hK y hy') hxk e
   subst this
   obtain⟨i,hi,hiy⟩:=List.mem_take_iff_getElem.1 hy
   obtain⟨h1,h2⟩:=List.getElem?_eq_some_iff.1 hx
   have:=List.pairwise_iff_getElem.1 hR i k (by omega) h1 (by omega)
   omega
theorem GS.root64 (S:GS w1 R n tb nb k root l t V W) (hn:n<=64):B64 root:=by
 have:=S.len
 unfold B64
 by_cases h:root=-1
 . omega
 . have:=S.lay.bad h;omega
theorem GS.nohold (S:GS w1 R n tb nb k root l t V W) (hn:n<=64) (hk:k<n) (hR:Rising R) (hK:∀ x∈R,IsKey x) (hx:R[k]?=some x) (hh:hold x t=none) :
 GS w1 R n tb nb (k+1) k (l.set k ⟨x,root,-1⟩) (ins k x t) (V3 V k x root) ((W4 W nb k x root).setCell ⟨tb,0,none⟩ (.int .i64 k)):=by
 obtain⟨g,c0,c1⟩:=S.w4 (x:=x) root
 obtain⟨r1,r2,r3,r4,r5⟩:=S.rest hR hK hx
 have hl:=S.len
 refine⟨g.st S.ge.1 _,by simpa using c0.set 0 (.int .i64 k),c1.st S.ge.2.2 _,S.nv.set (by omega) _ _ _,S.ge,by simpa using hl,λ nd h=>?_,(lay_ins S.lay S.nod r1 (by omega)).1 hh,r2,r3,r4,r5⟩
 rcases List.mem_or_eq_of_mem_set h with h | rfl
 . exact S.bnd nd h
 . exact⟨hK x (List.mem_of_getElem? hx),S.root64 hn,(show B64 (-1) from ⟨by decide,by decide⟩)⟩
theorem GS.held {j:Nat} {nd:Nd} (S:GS w1 R n tb nb k root l t V W) (hn:n<=64) (hk:k<n) (hR:Rising R) (hK:∀ x∈R,IsKey x) (hx:R[k]?=some x) (hh:hold x t=some j) (hj:l[j]?=some nd) :
 GS w1 R n tb nb (k+1) root ((l.set k ⟨x,nd.right,-1⟩).set j ⟨nd.key,nd.left,k⟩) (ins k x t) ((V3 V k x nd.right).setIfInBounds (j*3+2) (.int .i64 k)) ((W4 W nb k x nd.right).setCell ⟨nb,j*3+2,none⟩ (.int .i64 k)):=by
 obtain⟨g,c0,c1⟩:=S.w4 (x:=x) nd.right
 obtain⟨r1,r2,r3,r4,r5⟩:=S.rest hR hK hx
 have hl:=S.len
 have hjk:k≠j:=λ e=>by have:=S.ids j (hold_mem hh);omega
 have hj':(l.set k ⟨x,nd.right,-1⟩)[j]?=some nd:=by rw [List.getElem?_set_ne hjk];exact hj
 obtain⟨nd',e1,hlay⟩:=(lay_ins S.lay S.nod r1 (by omega)).2 j hh
 rw [hj] at e1
 cases e1
 have hb:=S.bnd nd (List.mem_of_getElem? hj)
 refine⟨g.st S.ge.2.1 _,c0.st (λ e=>S.ge.2.2 e.symm) _,c1.set _ _,(S.nv.set (by omega) _ _ _).right hj' k,S.ge,by simpa using hl,λ m h=>?_,hlay,r2,r3,r4,r5⟩
 rcases List.mem_or_eq_of_mem_set h with h | rfl
 . rcases List.mem_or_eq_of_mem_set h with h | rfl
   . exact S.bnd m h
   . exact⟨hK x (List.mem_of_getElem? hx),hb.2.2,(show B64 (-1) from ⟨by decide,by decide⟩)⟩
 . refine⟨hb.1,hb.2.1,?_⟩
   show B64 (k:Int)
   unfold B64;omega
end
theorem infoNode:(Tryz.prog.info? 292).map (λ i=>(i.zero,i.size,i.bytes))=some (some (.agg #[.int .i64 0,.int .i64 0,.int .i64 0]),3,24):=by kernel_rfl
section
variable {w0 w w1 wr:World} {C:Option Addr} {base n c tb nb k:Nat} {L R:List Int} {root:Int} {l:List Nd} {t:T} {V:Array Value}
theorem grow_way {x:Int} (S:GS w1 R n tb nb k root l t V wr) (hx:IsKey x) :
 Calls Tryz.prog 237 #[.pointer (some ⟨tb,0,none⟩),.func (.func 248) #[] #[.pointer (some ⟨wr.heap.size,0,none⟩)]] (wr.alloc (.cells #[.int .i64 x] 3)) λ e w' =>
  e=.returned (.pointer (some ⟨(match hold x t with | none=>(tb,0) | some j=>(nb,0+j*3+2)).1,(match hold x t with | none=>(tb,0) | some j=>(nb,0+j*3+2)).2,none⟩))/\Drawn (wr.alloc (.cells #[.int .i64 x] 3)) 0 w':=by
 have hm:NMem (wr.alloc (.cells #[.int .i64 x] 3)) (some ⟨nb,0,none⟩) n l:=S.nv.mem S.len (λ nd h=>by
  obtain⟨h1,h2,h3⟩:=S.bnd nd h
  exact⟨by unfold IsKey at h1;unfold B64;omega,h2,h3⟩) (S.b1.al _)
 have hKp:Keeps (Drawn (wr.alloc (.cells #[.int .i64 x] 3))) tb root (some ⟨nb,0,none⟩) n n l:=by
  refine⟨?_,?_,?_,?_⟩
  . rintro s W ⟨q,rfl⟩;exact ((S.b0.al _).at_ (k:=0) rfl).1
  . rintro s W ⟨q,rfl⟩;exact ((S.b0.al _).at_ (k:=1) rfl).1
  . rintro s W ⟨q,rfl⟩;exact hm.gr ((Gr.refl _).drN q)
  . rintro s W ⟨q,rfl⟩;exact⟨q+1,rfl⟩
 have hF:=follow_is (enters_of Tryz.func248 (by kernel_rfl) rfl) hKp
  (grow_further (λ i nd h=>(hm.cells h).1) (λ i nd h=>(S.bnd nd (List.mem_of_getElem? h)).1) hx ((Blk.new wr #[.int .i64 x] 3).at_ (k:=0) rfl).1) (.inr rfl) S.lay (Drawn.self _ 0)
 rw [run_grow] at hF
 exact hF.mono λ e w' h=>⟨h.1,h.2⟩
theorem grow_is (ho:IOwn base w C n c L) (hn:n<=64) (hL:L.Nodup) (hK:∀ x∈L,IsKey x) (hbase:w0.heap.size<=base) (hg:Gr w0 w) :
 Calls Tryz.prog 244 #[.slice C n c] w λ e w'=>∃ r g l t,e=.returned (.agg #[.int .i64 r,.slice (some ⟨g,0,none⟩) n n])/\NMem w' (some ⟨g,0,none⟩) n l/\Good l r t/\t.inord=srt L/\Gr w0 w'/\w0.heap.size<=g:=by
 have hlen:=ho.1.1
 have g0:=(Gr.refl w).al (.cells #[.int .i64 0,.slice none 0 0] 281)
 have B0:=Blk.new w #[.int .i64 0,.slice none 0 0] 281
 have hS:=hid (Sort_is (ho.gr g0) (by omega))
 have hRr:=srt_rising hL
 have hRl:=srt_len L
 have hRk:∀ x∈srt L,IsKey x:=λ x hx=>hK x ((srt_perm L).mem_iff.1 hx)
 rw [hlen] at hRl
 have hN:=λ W=>New_is W
 have KN:=hid hN
 obtain⟨i0,hj,hz0,hz1,hz2⟩:=info_parts infoNode
 have hmk:=λ W=>run_makeN (P:=Tryz.prog) 279 292 i0 _ Tryz.underlying279 hj hz0 n (by rw [hz2];omega) (by omega) W
 rw [hz1] at hmk
 obtain⟨M,hM⟩:∃ M,madeCells (Value.agg #[.int .i64 0,.int .i64 0,.int .i64 0]).cells (n*3)=M:=⟨_,rfl⟩
 have hNV:=NV.made n
 rw [hM] at hmk hNV
 obtain⟨R,hR⟩:∃ R,srt L=R:=⟨_,rfl⟩
 rw [hR] at hS hRr hRl hRk ⊢
 have HNV:=hid hNV
 have HRr:=hid hRr
 have HRk:=hid hRk
 have HO:=hid ho
 have HG:=hid hg
 clear hM hNV hRr hRk hR hz0 hz1 hz2 hj hN hg ho hL hK
 go_enter Tryz.func244,Tryz.ntmps244
 go_wp2_with fail
 with_reducible refine hS.out.mono ?_
 rintro e w1 ⟨rfl,own1,gb1⟩
 have G1:=hid ((HG.out.trans g0).gb gb1 (λ k hk=>by have:=(HO.out.lt k hk).1;omega))
 have B1:Blk w1 w.heap.size #[.int .i64 0,.slice none 0 0] 281:=B0.gb gb1 (λ e=>by have:=(HO.out.lt _ e).2;omega)
 have M1:=hid own1.mem
 clear own1 gb1 B0 hS g0
 go_wp2_with fail
 with_reducible refine (KN.out _).mono ?_
 rintro e w2 ⟨rfl,hb2⟩
 go_wp2_with fail
 have M2:=hid (M1.out.gr hb2)
 have B2:=hid (B1.gr hb2)
 have G2:=hid (G1.out.trans hb2)
 clear M1 B1 G1 hb2 hmk KN
 have S0:GS w2 R n w2.heap.size (w2.heap.size+1) 0 (-1) (List.replicate n ⟨0,0,0⟩) .nil M ((w2.alloc (.cells #[.int .i64 (-1),.slice (some ⟨w2.heap.size+1,0,none⟩) n n] 281)).alloc (.cells M 292)):=by
  refine⟨((Gr.refl w2).al _).al _,(Blk.new w2 _ _).al _,?_,HNV.out,⟨Nat.le_refl _,by omega,by omega⟩,by simp,λ nd h=>?_,rfl,by simp [T.ids],λ i h=>by simp [T.ids] at h,by simp [T.inord],trivial⟩
  . simpa using Blk.new (w2.alloc (.cells #[.int .i64 (-1),.slice (some ⟨w2.heap.size+1,0,none⟩) n n] 281)) M 292
  . obtain⟨_,rfl⟩:=List.mem_replicate.1 h
    exact⟨⟨by decide,by decide⟩,⟨by decide,by decide⟩,⟨by decide,by decide⟩⟩
 have HS0:=hid S0
 clear S0 HNV
 generalize w2.heap.size=tb at *
 go_loopw [16] (λ i wr=>∃ (k:Nat) (root:Int) (l:List Nd) (t:T) (V:Array Value),k<=n/\i=.int .i64 (k:Int)/\Hid (GS w2 R n tb (tb+1) k root l t V wr)) (λ i _=>n-(intOf i).toNat)
 case atStart=>exact⟨0,_,_,_,_,Nat.zero_le _,rfl,HS0⟩
 case round =>
  clear HS0
  obtain⟨k,root,l,t,V,hk,rfl,HS⟩:=hrel
  by_cases hlt:k<n
  . obtain⟨b,off,x,rfl,hbl,hx,hix,cx⟩:=(M2.out.gr HS.out.gr).at_ hlt
    have HX:=hid hx
    have hKx:=HRk.out x (List.mem_of_getElem? hx)
    have hW:=hid (grow_way HS.out hKx)
    have HIX:=hid hix
    have HKX:=hid hKx
    clear hx hix hKx
    cases hh:hold x t with
    | none =>
     rw [hh] at hW
     have HH:=hid hh
     clear hh
     go_wp2_with fail
     with_reducible refine hW.out.mono ?_
     rintro e w3 ⟨rfl,q,rfl⟩
     have S3:=HS.out.gr' (((Gr.refl wr).al (.cells #[.int .i64 x] 3)).drN q)
     have K3:Blk ((wr.alloc (.cells #[.int .i64 x] 3)).drewN q) wr.heap.size #[.int .i64 x] 3:=Blk.new _ _ _
     have f0:=(K3.at_ (k:=0) rfl).1
     have f1:=(S3.b0.at_ (k:=0) rfl).1
     have f2:=(S3.b0.at_ (k:=1) rfl).1
     obtain⟨nd0,hl⟩:∃ nd,l[k]?=some nd:=⟨_,List.getElem?_eq_getElem (by rw [HS.out.len];exact hlt)⟩
     obtain⟨v0,v1,v2⟩:=S3.nv.2 k _ hl
     obtain⟨c0,z0⟩:=S3.b1.at_ v0
     obtain⟨c1,z1⟩:=S3.b1.at_ v1
     obtain⟨c2,z2⟩:=S3.b1.at_ v2
     obtain⟨f3,z3⟩:=S3.b0.at_ (k:=0) rfl
     have H3:=hid S3
     clear v0 v1 v2 hl K3 S3 hW cx
     generalize (wr.alloc (.cells #[.int .i64 x] 3)).drewN q=W3 at *
     generalize wr.heap.size=gk at *
     go_wp2_with fail
     go_region
     obtain⟨_,k0,k1⟩:=H3.out.w4 (x:=x) root
     have HN:=hid (H3.out.nohold hn hlt HRr.out HRk.out HX.out HH.out)
     obtain⟨f1,z1⟩:=k0.at_ (k:=0) rfl
     unfold W4 at f1 z1
     clear f0 f2 c0 c1 c2 f3 z3 k0 k1
     go_wp2_with fail
     go_roundw
     case rel=>exact⟨k+1,_,_,_,_,by omega,by go_num,HN⟩
     case measure=>simp [intOf];omega
    | some j =>
     rw [hh] at hW
     have HH:=hid hh
     clear hh
     go_wp2_with fail
     with_reducible refine hW.out.mono ?_
     rintro e w3 ⟨rfl,q,rfl⟩
     obtain⟨ndj,hj⟩:∃ nd,l[j]?=some nd:=by
      have:=(HS.out.lay.key_of j (hold_mem HH.out))
      exact⟨_,this.choose_spec.1⟩
     have HJ:=hid hj
     have S3:=HS.out.gr' (((Gr.refl wr).al (.cells #[.int .i64 x] 3)).drN q)
     have K3:Blk ((wr.alloc (.cells #[.int .i64 x] 3)).drewN q) wr.heap.size #[.int .i64 x] 3:=Blk.new _ _ _
     have f0:=(K3.at_ (k:=0) rfl).1
     have f1:=(S3.b0.at_ (k:=0) rfl).1
     have f2:=(S3.b0.at_ (k:=1) rfl).1
     obtain⟨nd0,hl⟩:∃ nd,l[k]?=some nd:=⟨_,List.getElem?_eq_getElem (by rw [HS.out.len];exact hlt)⟩
     obtain⟨v0,v1,v2⟩:=S3.nv.2 k _ hl
     obtain⟨c0,z0⟩:=S3.b1.at_ v0
     obtain⟨c1,z1⟩:=S3.b1.at_ v1
     obtain⟨c2,z2⟩:=S3.b1.at_ v2
     obtain⟨f3,z3⟩:=S3.b1.at_ (S3.nv.2 j _ hj).2.2
     have H3:=hid S3
     clear v0 v1 v2 hl hj K3 S3 hW cx
     generalize (wr.alloc (.cells #[.int .i64 x] 3)).drewN q=W3 at *
     generalize wr.heap.size=gk at *
     go_wp2_with fail
     go_region
     obtain⟨_,k0,k1⟩:=H3.out.w4 (x:=x) ndj.right
     have HN:=hid (H3.out.held hn hlt HRr.out HRk.out HX.out HH.out HJ.out)
     have hjk:j<k:=HS.out.ids j (hold_mem HH.out)
     have hv:(V3 V k x ndj.right)[j*3+2]?=some (.int .i64 ndj.right):=by
      have:=((H3.out.nv.set (i:=k) (by rw [H3.out.len];exact hlt) x ndj.right (-1)).2 j ndj (by rw [List.getElem?_set_ne (by omega)];exact HJ.out)).2.2
      exact this
     obtain⟨f1,z1⟩:=k1.at_ hv
     unfold W4 at f1 z1
     clear f0 f2 c0 c1 c2 f3 z3 k0 k1 hv hjk
     go_wp2_with fail
     go_roundw
     case rel=>exact⟨k+1,_,_,_,_,by omega,by go_num,HN⟩
     case measure=>simp [intOf];omega
  . obtain rfl:k=n:=by omega
    have hS:=HS.out
    have f0:=(hS.b0.at_ (k:=0) rfl).1
    have f1:=(hS.b0.at_ (k:=1) rfl).1
    have hB:=B2.out.gr hS.gr
    obtain⟨p0,z0⟩:=hB.at_ (k:=0) rfl
    obtain⟨p1,z1⟩:=hB.at_ (k:=1) rfl
    have hor:t.inord=R:=by rw [hS.ord,<- hRl,List.take_length]
    have hgood:Good l root t:=by
     refine⟨hS.lay,by rw [<- T.inord_len,hor,hS.len,hRl],by rw [hS.len];exact hn,bst_of (hor▸HRr.out) λ x hx=>?_,hS.hp⟩
     have:=HRk.out x (hor▸hx)
     unfold IsKey at this;omega
    have hlt2:=B2.out.lt
    have hge:=hS.ge.1
    have BF:=(hB.set 0 (.int .i64 root)).set 1 (.slice (some ⟨tb+1,0,none⟩) k k)
    have BN:=(hS.b1.st (p:=⟨w.heap.size,0,none⟩) (by show w.heap.size≠tb+1;omega) (.int .i64 root)).st (p:=⟨w.heap.size,1,none⟩) (by show w.heap.size≠tb+1;omega) (.slice (some ⟨tb+1,0,none⟩) k k)
    have GN:=((G2.out.trans hS.gr).st (p:=⟨w.heap.size,0,none⟩) HG.out.size (.int .i64 root)).st (p:=⟨w.heap.size,1,none⟩) HG.out.size (.slice (some ⟨tb+1,0,none⟩) k k)
    have HN:=hid (λ (W:World) (h:Blk W (tb+1) V 292)=>hS.nv.mem hS.len (λ nd h=>by
     obtain⟨h1,h2,h3⟩:=hS.bnd nd h
     exact⟨by unfold IsKey at h1;unfold B64;omega,h2,h3⟩) h)
    have HB:=hid (And.intro hgood (And.intro hor (show w0.heap.size<=tb+1 from by have:=G2.out.size;omega)))
    have HBB:=hid (And.intro BF (And.intro BN GN))
    clear hS hB hor hgood BF BN GN hlt2 hge
    go_wp2_with fail
    obtain⟨BF,BN,GN⟩:=HBB.out
    clear f0 f1 p0 p1 z0 z1 HBB
    generalize (wr.setCell _ _).setCell _ _=WF at BF BN GN ⊢
    have q0:WF.cell? ⟨w.heap.size,0,none⟩=some (.int .i64 root):=(BF.at_ (k:=0) rfl).1
    have q1:WF.cell? ⟨w.heap.size,1,none⟩=some (.slice (some ⟨tb+1,0,none⟩) k k):=(BF.at_ (k:=1) rfl).1
    exact bodyPost_ret (v:=.agg #[.int .i64 root,.slice (some ⟨tb+1,0,none⟩) k k]) (by simp [results,Tryz.results244,go_sem,q0,q1]) rfl ⟨root,tb+1,l,t,rfl,HN.out _ BN,HB.out.1,HB.out.2.1,GN,HB.out.2.2⟩
end
end
end
section
open Go.ChangeShapes Go.WideShapes Go.ChangeAt Go.RowKit Go.Shelf
structure FW (w0:World) (r:Int) (A:Option Addr) (n c tb kb sb:Nat) (x v:Int) (W:World):Prop where
 gr:Gr w0 W
 b0:Blk W tb #[.int .i64 r,.slice A n c] 281
 b1:Blk W kb #[.int .i64 x] 3
 b2:Blk W sb #[.int .i64 v] 3
 n0:sb≠tb
 n1:sb≠kb
 ge:w0.heap.size<=sb
section
variable {w0 W:World} {r:Int} {A:Option Addr} {n c tb kb sb:Nat} {x v:Int} {l:List Nd}
theorem FW.drew (h:FW w0 r A n c tb kb sb x v W):FW w0 r A n c tb kb sb x v W.drew:=⟨h.gr.dr,h.b0,h.b1,h.b2,h.n0,h.n1,h.ge⟩
theorem FW.drN (h:FW w0 r A n c tb kb sb x v W) (m:Nat):FW w0 r A n c tb kb sb x v (W.drewN m):=⟨h.gr.drN m,h.b0,h.b1,h.b2,h.n0,h.n1,h.ge⟩
theorem FW.set (h:FW w0 r A n c tb kb sb x v W) (u:Int):FW w0 r A n c tb kb sb x u (W.setCell ⟨sb,0,none⟩ (.int .i64 u)) :=
 ⟨h.gr.st h.ge _,h.b0.st h.n0 _,h.b1.st h.n1 _,by simpa using h.b2.set 0 (.int .i64 u),h.n0,h.n1,h.ge⟩
theorem fw_keeps (hm:NMem w0 A n l):Keeps (FW w0 r A n c tb kb sb x) tb r A n c l where
 root:=λ s W h=>(h.b0.at_ (k:=0) rfl).1
 nodes:=λ s W h=>(h.b0.at_ (k:=1) rfl).1
 mem:=λ s W h=>hm.gr h.gr
 drew:=λ s W h=>h.drew
def fdir (x k:Int):Option Bool:=if x=k then none else if x<k then some false else some true
def fupd (x k s:Int):Int:=if x=k then s else IntKind.i64.wrap (s+1)
def ndir (x k:Int):Option Bool:=if k<x then some true else some false
def nupd (x k s:Int):Int:=if k<x then s else k
theorem find_further {b off:Nat} (hm:NMem w0 (some ⟨b,off,none⟩) n l):Further 246 #[.pointer (some ⟨kb,0,none⟩),.pointer (some ⟨sb,0,none⟩)] (FW w0 r (some ⟨b,off,none⟩) n c tb kb sb x) (fdir x) (fupd x) b off l:=by
 intro s W i nd hW hx
 have c0:=(hm.gr hW.gr).cells hx
 obtain⟨c0,c1,c2⟩:=c0
 have k0:=(hW.b1.at_ (k:=0) rfl).1
 obtain⟨k1,k2⟩:=hW.b2.at_ (k:=0) rfl
 have HW:=hid hW
 have HM:=hid hm
 have HX:=hid hx
 clear hm hx hW
 obtain⟨y,p,q⟩:=nd
 dsimp only at *
 show Calls Tryz.prog 246 #[.pointer (some ⟨b,off+i*3,none⟩),.pointer (some ⟨kb,0,none⟩),.pointer (some ⟨sb,0,none⟩)] W _
 by_cases he:x=y
 . subst he
   rw [show fdir x x=none from if_pos rfl,show fupd x x s=s from if_pos rfl]
   go_enter Tryz.func246,Tryz.ntmps246
   go_wp2_with fail
   go_quiet (fail)
   go_wp2_with fail
   go_ret
   exact⟨rfl,HW.out.drN _⟩
 . have ne:(x==y)=false:=beq_eq_false_iff_ne.2 he
   by_cases hlt:x<y
   . rw [show fdir x y=some false from (if_neg he).trans (if_pos hlt),show fupd x y s=IntKind.i64.wrap (s+1) from if_neg he]
     obtain⟨u,hu⟩:∃ u,IntKind.i64.wrap (s+1)=u:=⟨_,rfl⟩
     rw [hu]
     go_enter Tryz.func246,Tryz.ntmps246
     go_wp2_with fail
     go_quiet (fail)
     go_wp2_with fail
     have W3:=(HW.out.drN nq).set u
     clear c0 c1 c2 k0 k1 k2 hu
     generalize (W.drewN nq).setCell _ _=V at W3 ⊢
     have c0:=((HM.out.gr W3.gr).cells HX.out).1
     have k0:=(W3.b1.at_ (k:=0) rfl).1
     have H3:=hid W3
     clear W3
     dsimp only at c0
     go_quiet (fail)
     go_wp2_with fail
     go_ret
     exact⟨rfl,H3.out.drN _⟩
   . rw [show fdir x y=some true from (if_neg he).trans (if_neg hlt),show fupd x y s=IntKind.i64.wrap (s+1) from if_neg he]
     obtain⟨u,hu⟩:∃ u,IntKind.i64.wrap (s+1)=u:=⟨_,rfl⟩
     rw [hu]
     go_enter Tryz.func246,Tryz.ntmps246
     go_wp2_with fail
     go_quiet (fail)
     go_wp2_with fail
     have W3:=(HW.out.drN nq).set u
     clear c0 c1 c2 k0 k1 k2 hu
     generalize (W.drewN nq).setCell _ _=V at W3 ⊢
     have c0:=((HM.out.gr W3.gr).cells HX.out).1
     have k0:=(W3.b1.at_ (k:=0) rfl).1
     have H3:=hid W3
     clear W3
     dsimp only at c0
     go_quiet (fail)
     go_wp2_with fail
     go_ret
     exact⟨rfl,H3.out.drN _⟩
theorem next_further {b off:Nat} (hm:NMem w0 (some ⟨b,off,none⟩) n l):Further 238 #[.pointer (some ⟨kb,0,none⟩),.pointer (some ⟨sb,0,none⟩)] (FW w0 r (some ⟨b,off,none⟩) n c tb kb sb x) (ndir x) (nupd x) b off l:=by
 intro s W i nd hW hx
 have c0:=(hm.gr hW.gr).cells hx
 obtain⟨c0,c1,c2⟩:=c0
 have k0:=(hW.b1.at_ (k:=0) rfl).1
 obtain⟨k1,k2⟩:=hW.b2.at_ (k:=0) rfl
 have HW:=hid hW
 clear hm hx hW
 obtain⟨y,p,q⟩:=nd
 dsimp only at *
 show Calls Tryz.prog 238 #[.pointer (some ⟨b,off+i*3,none⟩),.pointer (some ⟨kb,0,none⟩),.pointer (some ⟨sb,0,none⟩)] W _
 by_cases hlt:y<x
 . rw [show ndir x y=some true from if_pos hlt,show nupd x y s=s from if_pos hlt]
   go_enter Tryz.func238,Tryz.ntmps238
   go_wp2_with fail
   go_quiet (fail)
   go_wp2_with fail
   go_ret
   exact⟨rfl,HW.out.drN _⟩
 . rw [show ndir x y=some false from if_neg hlt,show nupd x y s=y from if_neg hlt]
   go_enter Tryz.func238,Tryz.ntmps238
   go_wp2_with fail
   go_quiet (fail)
   go_wp2_with fail
   go_ret
   exact⟨rfl,(HW.out.drN _).set y⟩
theorem run_find {b off:Nat}:∀ {t:T} {lo hi:Int} {pb po:Nat} {s:Int},Bst t lo hi->0<=s->s+t.size<=100000 ->
 (x ∉ t.inord->(run (fdir x) (fupd x) b off t pb po s).2.1=.nil)/\(x∈t.inord->(run (fdir x) (fupd x) b off t pb po s).2.1≠.nil/\(run (fdir x) (fupd x) b off t pb po s).2.2=s+dpt t x)
 | .nil,_,_,_,_,s,_,_,_=>⟨λ _=>rfl,λ h=>by simp [T.inord] at h⟩
 | .node i k L R,lo,hi,pb,po,s,hb,h0,h1=>by
  obtain⟨b1,b2,b3,b4⟩:=hb
  unfold T.size at h1
  by_cases he:x=k
  . subst he
    rw [run_stop (show fdir x x=none from if_pos rfl),show fupd x x s=s from if_pos rfl]
    exact⟨λ h=>absurd (by simp [T.inord]) h,λ _=>⟨by simp,by simp [dpt]⟩⟩
  . have hw:fupd x k s=s+1:=(if_neg he).trans (wrap_id (by omega) (by omega))
    by_cases hlt:x<k
    . rw [run_go (show fdir x k=some false from (if_neg he).trans (if_pos hlt)),hw]
      obtain⟨g1,g2⟩:=@run_find b off L lo k b (off+i*3+side false) (s+1) b3 (by omega) (by omega)
      have hm:x∈(T.node i k L R).inord↔x∈L.inord:=by
       simp only [T.inord,List.mem_append,List.mem_cons]
       refine⟨λ h=>?_,λ h=>.inl h⟩
       rcases h with h | h | h
       . exact h
       . exact absurd h he
       . have:=(b4.mem h).1;omega
      refine⟨λ h=>g1 (λ h'=>h (hm.2 h')),λ h=>⟨(g2 (hm.1 h)).1,(g2 (hm.1 h)).2.trans ?_⟩⟩
      rw [dpt,if_neg he,if_pos hlt];omega
    . rw [run_go (show fdir x k=some true from (if_neg he).trans (if_neg hlt)),hw]
      obtain⟨g1,g2⟩:=@run_find b off R k hi b (off+i*3+side true) (s+1) b4 (by omega) (by omega)
      have hm:x∈(T.node i k L R).inord↔x∈R.inord:=by
       simp only [T.inord,List.mem_append,List.mem_cons]
       refine⟨λ h=>?_,λ h=>.inr (.inr h)⟩
       rcases h with h | h | h
       . have:=(b3.mem h).2;omega
       . exact absurd h he
       . exact h
      refine⟨λ h=>g1 (λ h'=>h (hm.2 h')),λ h=>⟨(g2 (hm.1 h)).1,(g2 (hm.1 h)).2.trans ?_⟩⟩
      rw [dpt,if_neg he,if_neg hlt];omega
theorem run_next {b off:Nat}:∀ {t:T} {pb po:Nat} {s:Int},(run (ndir x) (nupd x) b off t pb po s).2.2=nx t x s
 | .nil,_,_,_=>rfl
 | .node i k L R,pb,po,s=>by
  by_cases hlt:k<x
  . rw [run_go (show ndir x k=some true from if_pos hlt),show nupd x k s=s from if_pos hlt,nx,if_pos hlt]
    exact run_next
  . rw [run_go (show ndir x k=some false from if_neg hlt),show nupd x k s=k from if_neg hlt,nx,if_neg hlt]
    exact run_next
end
end
section
open Go.ChangeShapes Go.WideShapes Go.ChangeAt Go.RowKit Go.Shelf
section
variable {w0 W:World} {r:Int} {A:Option Addr} {n c tb kb sb:Nat} {x v:Int} {l:List Nd} {t:T}
theorem NMem.place (hm:NMem w0 A n l):∃ b off,n=0\/A=some ⟨b,off,none⟩:=by
 by_cases h:n=0
 . exact⟨0,0,.inl h⟩
 . obtain⟨b,off,e,_⟩:=hm.2.2 (by omega)
   exact⟨b,off,.inr e⟩
theorem NMem.links {b off:Nat} (hm:NMem W A n l) (hA:n=0\/A=some ⟨b,off,none⟩):∀ i nd,l[i]?=some nd->W.cell? ⟨b,off+i*3+1,none⟩=some (.int .i64 nd.left)/\W.cell? ⟨b,off+i*3+2,none⟩=some (.int .i64 nd.right):=by
 intro i nd hx
 have hi:=(List.getElem?_eq_some_iff.1 hx).1
 rcases hA with rfl | rfl
 . have:=hm.1;omega
 . exact (hm.cells hx).2
theorem find_any {b off:Nat} (hm:NMem w0 A n l) (hA:n=0\/A=some ⟨b,off,none⟩):Further 246 #[.pointer (some ⟨kb,0,none⟩),.pointer (some ⟨sb,0,none⟩)] (FW w0 r A n c tb kb sb x) (fdir x) (fupd x) b off l:=by
 rcases hA with rfl | rfl
 . intro s W i nd hW hx
   have hi:=(List.getElem?_eq_some_iff.1 hx).1
   have:=hm.1;omega
 . exact find_further hm
theorem next_any {b off:Nat} (hm:NMem w0 A n l) (hA:n=0\/A=some ⟨b,off,none⟩):Further 238 #[.pointer (some ⟨kb,0,none⟩),.pointer (some ⟨sb,0,none⟩)] (FW w0 r A n c tb kb sb x) (ndir x) (nupd x) b off l:=by
 rcases hA with rfl | rfl
 . intro s W i nd hW hx
   have hi:=(List.getElem?_eq_some_iff.1 hx).1
   have:=hm.1;omega
 . exact next_further hm
theorem find_way (hm:NMem w0 A n l) (hg:Good l r t) (hW:FW w0 r A n c tb kb sb x 0 W) :
 ∃ (pb po:Nat) (v d:Int),Calls Tryz.prog 237 #[.pointer (some ⟨tb,0,none⟩),.func (.func 246) #[] #[.pointer (some ⟨kb,0,none⟩),.pointer (some ⟨sb,0,none⟩)]] W
  (λ e w'=>e=.returned (.pointer (some ⟨pb,po,none⟩))/\w'.cell? ⟨pb,po,none⟩=some (.int .i64 v)/\FW w0 r A n c tb kb sb x d w')/\((x ∉ t.inord/\v=-1)\/(x∈t.inord/\0<=v/\d=dpt t x)):=by
 obtain⟨b,off,hA⟩:=hm.place
 have hS:=hg.2.1
 have h64:=hg.2.2.1
 have hR:=@run_find x b off t _ _ tb 0 0 hg.2.2.2.1 (by omega) (by omega)
 have hL:∀ W',FW w0 r A n c tb kb sb x (run (fdir x) (fupd x) b off t tb 0 0).2.2 W'->∃ v,Lay l (run (fdir x) (fupd x) b off t tb 0 0).2.1 v/\W'.cell? ⟨(run (fdir x) (fupd x) b off t tb 0 0).1.1,(run (fdir x) (fupd x) b off t tb 0 0).1.2,none⟩=some (.int .i64 v) :=
  λ W' h=>run_lay ((hm.gr h.gr).links hA) hg.1 ((fw_keeps hm).root _ _ h)
 have hF:=follow_is (enters_of Tryz.func246 (by kernel_rfl) rfl) (fw_keeps hm) (find_any hm hA) hA hg.1 hW
 by_cases hx:x∈t.inord
 . obtain⟨h1,h2⟩:=hR.2 hx
   generalize (run (fdir x) (fupd x) b off t tb 0 0)=R0 at *
   obtain⟨⟨pb,po⟩,S,d⟩:=R0
   dsimp only at *
   cases S with
   | nil=>exact absurd rfl h1
   | node i k L R =>
    refine⟨pb,po,(i:Int),d,hF.mono ?_,.inr ⟨hx,by omega,by omega⟩⟩
    rintro e w' ⟨rfl,hI⟩
    obtain⟨v,hv,hc⟩:=hL w' hI
    obtain rfl:v=(i:Int):=hv.1
    exact⟨rfl,hc,hI⟩
 . have h1:=hR.1 hx
   generalize (run (fdir x) (fupd x) b off t tb 0 0)=R0 at *
   obtain⟨⟨pb,po⟩,S,d⟩:=R0
   dsimp only at *
   subst h1
   refine⟨pb,po,-1,d,hF.mono ?_,.inl ⟨hx,rfl⟩⟩
   rintro e w' ⟨rfl,hI⟩
   obtain⟨v,hv,hc⟩:=hL w' hI
   obtain rfl:v=-1:=hv
   exact⟨rfl,hc,hI⟩
theorem next_way (hm:NMem w0 A n l) (hg:Good l r t) (hW:FW w0 r A n c tb kb sb x (-1) W) :
 ∃ (pb po:Nat),Calls Tryz.prog 237 #[.pointer (some ⟨tb,0,none⟩),.func (.func 238) #[] #[.pointer (some ⟨kb,0,none⟩),.pointer (some ⟨sb,0,none⟩)]] W
  (λ e w'=>e=.returned (.pointer (some ⟨pb,po,none⟩))/\FW w0 r A n c tb kb sb x (nx t x (-1)) w'):=by
 obtain⟨b,off,hA⟩:=hm.place
 have hF:=follow_is (enters_of Tryz.func238 (by kernel_rfl) rfl) (fw_keeps hm) (next_any hm hA) hA hg.1 hW
 rw [run_next] at hF
 exact⟨_,_,hF⟩
def FindR (l:List Nd) (r x d e:Int):Prop:=(¬ IsKey x/\d=0/\e=1)\/(IsKey x/\(¬ ∃ t,Good l r t)/\d=0/\e=1)\/(IsKey x/\∃ t,Good l r t/\((x ∉ t.inord/\d=0/\e=4)\/(x∈t.inord/\d=dpt t x/\e=0)))
theorem Find_is (hm:NMem w0 A n l) {d e:Int} (h:FindR l r x d e) :
 Calls Tryz.prog 243 #[.agg #[.int .i64 r,.slice A n c],.int .i64 x] w0 λ ee w'=>ee=.returned (.tuple #[.int .i64 d,.int .i64 e])/\Gr w0 w':=by
 have g0:=((Gr.refl w0).al (.cells #[.int .i64 r,.slice A n c] 281)).al (.cells #[.int .i64 x] 3)
 have hP:=λ W=>Pri_is x W
 obtain⟨p,hp⟩:∃ p,prf x=p:=⟨_,rfl⟩
 rw [hp] at hP
 have KP:=hid hP
 have hpr:=pri_range x
 rcases h with ⟨h1,rfl,rfl⟩ | ⟨h1,h2,rfl,rfl⟩ | ⟨h1,t,hg,hcase⟩
 . have hp0:p<0:=by rw [<- hp,prf_no h1];decide
   clear hP hp
   go_enter Tryz.func243,Tryz.ntmps243
   go_wp2_with fail
   with_reducible refine (KP.out _).mono ?_
   rintro e w1 ⟨rfl,rfl⟩
   go_wp2_with fail
   go_ret2
   exact⟨rfl,g0⟩
 . have hp0:¬ p<0:=by rw [<- hp,prf_key h1];omega
   have hC:=hid (Right_is (c:=c) (hm.gr g0) (v:=false) (r:=r) ⟨λ h=>(by cases h),λ h=>absurd h h2⟩)
   clear hP hp h2
   go_enter Tryz.func243,Tryz.ntmps243
   go_wp2_with fail
   with_reducible refine (KP.out _).mono ?_
   rintro e w1 ⟨rfl,rfl⟩
   go_wp2_with fail
   with_reducible refine hC.out.mono ?_
   rintro e w1 ⟨rfl,hb1⟩
   go_wp2_with fail
   go_ret2
   exact⟨rfl,g0.trans hb1⟩
 . have hp0:¬ p<0:=by rw [<- hp,prf_key h1];omega
   have hC:=hid (Right_is (c:=c) (hm.gr g0) (v:=true) (r:=r) ⟨λ _=>⟨t,hg⟩,λ _=>rfl⟩)
   have B0:=(Blk.new w0 #[.int .i64 r,.slice A n c] 281).al (.cells #[.int .i64 x] 3)
   have B1:=Blk.new (w0.alloc (.cells #[.int .i64 r,.slice A n c] 281)) #[.int .i64 x] 3
   have HM:=hid hm
   have HG:=hid hg
   have HC:=hid hcase
   have hsz:w0.heap.size+2=((w0.alloc (.cells #[.int .i64 r,.slice A n c] 281)).alloc (.cells #[.int .i64 x] 3)).heap.size:=by simp
   simp only [World.size_alloc] at B1
   clear hP hp hm hg hcase
   go_enter Tryz.func243,Tryz.ntmps243
   go_wp2_with fail
   with_reducible refine (KP.out _).mono ?_
   rintro e w1 ⟨rfl,rfl⟩
   go_wp2_with fail
   with_reducible refine hC.out.mono ?_
   rintro e w2 ⟨rfl,hb1⟩
   have hFW:FW w0 r A n c w0.heap.size (w0.heap.size+1) w2.heap.size x 0 (w2.alloc (.cells #[.int .i64 0] 3)):=by
    have:=hb1.size
    exact⟨(g0.trans hb1).al _,(B0.gr hb1).al _,(B1.gr hb1).al _,Blk.new _ _ _,by omega,by omega,by omega⟩
   obtain⟨pb,po,v,d',hway,hv⟩:=find_way HM.out HG.out hFW
   have KW:=hid hway
   have HV:=hid hv
   clear hway hv hsz
   go_wp2_with fail
   with_reducible refine KW.out.mono ?_
   rintro e w3 ⟨rfl,hc,hF⟩
   have f0:=(hF.b2.at_ (k:=0) rfl).1
   have GF:=hid hF.gr
   clear hF KW hFW
   have hcase:=HC.out
   rcases HV.out with ⟨m,rfl⟩ | ⟨m,m2,m3⟩
   . rcases hcase with ⟨_,rfl,rfl⟩ | ⟨m',_,_⟩
     . clear HC HV
       go_wp2_with fail
       go_ret2
       exact⟨rfl,GF.out⟩
     . exact absurd m' m
   . rcases hcase with ⟨m',_,_⟩ | ⟨_,e1,rfl⟩
     . exact absurd m m'
     . rw [<- m3] at e1
       subst e1
       have ne:(v==-1)=false:=beq_eq_false_iff_ne.2 (by omega)
       clear m3 HC HV
       go_wp2_with fail
       go_ret2
       exact⟨rfl,GF.out⟩
end
end
section
open Go.ChangeShapes Go.WideShapes Go.ChangeAt Go.RowKit Go.Shelf
section
variable {w:World} {r:Int} {A:Option Addr} {n c:Nat} {x:Int} {l:List Nd} {t:T}
def GotT (w:World) (n:Nat) (K:List Int->Prop) (e:Ending) (w':World):Prop :=
 ∃ r g l t,e=.returned (.tuple #[.agg #[.int .i64 r,.slice (some ⟨g,0,none⟩) n n],.int .i64 0])/\NMem w' (some ⟨g,0,none⟩) n l/\Good l r t/\K t.inord/\Gr w w'/\w.heap.size<=g
def PutE (l:List Nd) (r x e:Int):Prop:=(((¬ IsKey x)\/¬ ∃ t,Good l r t)/\e=1)\/(IsKey x/\∃ t,Good l r t/\((x∈t.inord/\e=7)\/(x ∉ t.inord/\l.length=64/\e=5)))
theorem PutE.find {e:Int} (h:PutE l r x e):∃ d f,FindR l r x d f/\((f=1/\e=1)\/(f=0/\e=7)\/(f=4/\l.length=64/\e=5)):=by
 rcases h with ⟨h,rfl⟩ | ⟨h1,t,hg,⟨h2,rfl⟩ | ⟨h2,h3,rfl⟩⟩
 . refine⟨0,1,?_,.inl ⟨rfl,rfl⟩⟩
   by_cases hk:IsKey x
   . exact .inr (.inl ⟨hk,h.resolve_left (λ h'=>h' hk),rfl,rfl⟩)
   . exact .inl ⟨hk,rfl,rfl⟩
 . exact⟨_,0,.inr (.inr ⟨h1,t,hg,.inr ⟨h2,rfl,rfl⟩⟩),.inr (.inl ⟨rfl,rfl⟩)⟩
 . exact⟨_,4,.inr (.inr ⟨h1,t,hg,.inl ⟨h2,rfl,rfl⟩⟩),.inr (.inr ⟨rfl,h3,rfl⟩)⟩
theorem Put_no (hm:NMem w A n l) {e:Int} (h:PutE l r x e) :
 Calls Tryz.prog 240 #[.agg #[.int .i64 r,.slice A n c],.int .i64 x] w λ ee w'=>ee=.returned (.tuple #[.agg #[.int .i64 0,.slice none 0 0],.int .i64 e])/\Gr w w':=by
 have g0:=((Gr.refl w).al (.cells #[.int .i64 r,.slice A n c] 281)).al (.cells #[.int .i64 0,.slice none 0 0] 281)
 have B0:=(Blk.new w #[.int .i64 r,.slice A n c] 281).al (.cells #[.int .i64 0,.slice none 0 0] 281)
 have B1:=Blk.new (w.alloc (.cells #[.int .i64 r,.slice A n c] 281)) #[.int .i64 0,.slice none 0 0] 281
 simp only [World.size_alloc] at B1
 obtain⟨d,f,hf,hcase⟩:=h.find
 have hlen:=hm.1
 have hC:=hid (Find_is (c:=c) (hm.gr g0) hf)
 clear hm hf h
 go_enter Tryz.func240,Tryz.ntmps240
 go_wp2_with fail
 with_reducible refine hC.out.mono ?_
 rintro ee w3 ⟨rfl,hb3⟩
 have BB:=B0.gr hb3
 have BR:=B1.gr hb3
 have G3:=hid (g0.trans hb3)
 have f1:=(BB.at_ (k:=1) rfl).1
 obtain⟨p0,z0⟩:=BR.at_ (k:=0) rfl
 obtain⟨p1,z1⟩:=BR.at_ (k:=1) rfl
 have HBR:=hid ((BR.set 0 (.int .i64 0)).set 1 (.slice none 0 0))
 have HGW:=hid (((g0.trans hb3).st (p:=⟨w.heap.size+1,0,none⟩) (by show w.heap.size<=w.heap.size+1;omega) (.int .i64 0)).st (p:=⟨w.heap.size+1,1,none⟩) (by show w.heap.size<=w.heap.size+1;omega) (.slice none 0 0))
 clear hC B0 B1 BB BR hb3 g0
 rcases hcase with ⟨rfl,rfl⟩ | ⟨rfl,rfl⟩ | ⟨rfl,h64,rfl⟩
 . go_wp2_with fail
   have BF:=HBR.out
   have GW:=HGW.out
   clear p0 z0 p1 z1 f1 HBR HGW
   generalize (w3.setCell _ _).setCell _ _=WF at BF GW ⊢
   have q0:WF.cell? ⟨w.heap.size+1,0,none⟩=some (.int .i64 0):=(BF.at_ (k:=0) rfl).1
   have q1:WF.cell? ⟨w.heap.size+1,1,none⟩=some (.slice none 0 0):=(BF.at_ (k:=1) rfl).1
   exact bodyPost_ret (v:=.tuple #[.agg #[.int .i64 0,.slice none 0 0],.int .i64 1]) (by simp [results,Tryz.results240,go_sem,q0,q1]) rfl ⟨rfl,GW⟩
 . go_wp2_with fail
   have BF:=HBR.out
   have GW:=HGW.out
   clear p0 z0 p1 z1 f1 HBR HGW
   generalize (w3.setCell _ _).setCell _ _=WF at BF GW ⊢
   have q0:WF.cell? ⟨w.heap.size+1,0,none⟩=some (.int .i64 0):=(BF.at_ (k:=0) rfl).1
   have q1:WF.cell? ⟨w.heap.size+1,1,none⟩=some (.slice none 0 0):=(BF.at_ (k:=1) rfl).1
   exact bodyPost_ret (v:=.tuple #[.agg #[.int .i64 0,.slice none 0 0],.int .i64 7]) (by simp [results,Tryz.results240,go_sem,q0,q1]) rfl ⟨rfl,GW⟩
 . obtain rfl:n=64:=by omega
   go_wp2_with fail
   have BF:=HBR.out
   have GW:=HGW.out
   clear p0 z0 p1 z1 f1 HBR HGW
   generalize (w3.setCell _ _).setCell _ _=WF at BF GW ⊢
   have q0:WF.cell? ⟨w.heap.size+1,0,none⟩=some (.int .i64 0):=(BF.at_ (k:=0) rfl).1
   have q1:WF.cell? ⟨w.heap.size+1,1,none⟩=some (.slice none 0 0):=(BF.at_ (k:=1) rfl).1
   exact bodyPost_ret (v:=.tuple #[.agg #[.int .i64 0,.slice none 0 0],.int .i64 5]) (by simp [results,Tryz.results240,go_sem,q0,q1]) rfl ⟨rfl,GW⟩
theorem Put_ok (hm:NMem w A n l) (hg:Good l r t) (hx:IsKey x) (hn:x ∉ t.inord) (h64:l.length≠64) :
 Calls Tryz.prog 240 #[.agg #[.int .i64 r,.slice A n c],.int .i64 x] w (GotT w (n+1) (λ K=>∀ y,y∈K↔y=x\/y∈t.inord)):=by
 have g0:=((Gr.refl w).al (.cells #[.int .i64 r,.slice A n c] 281)).al (.cells #[.int .i64 0,.slice none 0 0] 281)
 have B0:=(Blk.new w #[.int .i64 r,.slice A n c] 281).al (.cells #[.int .i64 0,.slice none 0 0] 281)
 have B1:=Blk.new (w.alloc (.cells #[.int .i64 r,.slice A n c] 281)) #[.int .i64 0,.slice none 0 0] 281
 simp only [World.size_alloc] at B1
 have hlen:=hm.1
 have hle:=hg.2.2.1
 have hn64:n<=63:=by omega
 have hne:((n:Int)==64)=false:=beq_eq_false_iff_ne.2 (by omega)
 have hC:=hid (Find_is (c:=c) (hm.gr g0) (x:=x) (r:=r) (d:=0) (e:=4) (.inr (.inr ⟨hx,t,hg,.inl ⟨hn,rfl,rfl⟩⟩)))
 have hxB:B64 x:=by unfold IsKey at hx;unfold B64;omega
 have HLn:=hid (show (l.map Nd.key++[x]).Nodup from by
  refine List.nodup_append.2 ⟨hg.perm.nodup_iff.2 hg.2.2.2.1.rising.nodup,by simp,λ a ha b hb e=>?_⟩
  rw [List.mem_singleton] at hb
  subst hb e
  exact hn ((hg.keys a).1 ha))
 have HLk:=hid (show ∀ y∈l.map Nd.key++[x],IsKey y from λ y hy=>by
  rcases List.mem_append.1 hy with h | h
  . exact hg.isKey ((hg.keys y).1 h)
  . rw [List.mem_singleton] at h;subst h;exact hx)
 have HLm:=hid (show ∀ y,y∈srt (l.map Nd.key++[x])↔y=x\/y∈t.inord from λ y=>by
  rw [(srt_perm _).mem_iff,List.mem_append,List.mem_singleton,hg.keys]
  exact Or.comm)
 have HM:=hid hm
 obtain⟨i0,hi0,hz0,hz1,hz2⟩:=info_parts infoInt
 have HZ:=hid hz0
 have HZ1:=hid hz1
 have HZ2:=hid hz2
 have HI0:=hid hi0
 clear hz0 hz1 hz2 hi0 hm hg hx hn h64 hle
 go_enter Tryz.func240,Tryz.ntmps240
 go_wp2_with fail
 with_reducible refine hC.out.mono ?_
 rintro ee w3 ⟨rfl,hb3⟩
 have BB:=B0.gr hb3
 have HBR:=hid (B1.gr hb3)
 have G3:=hid (g0.trans hb3)
 have f0:=(BB.at_ (k:=0) rfl).1
 have f1:=(BB.at_ (k:=1) rfl).1
 have kC:=hid (keysFn_is (r:=r) (c:=c) (HM.out.gr G3.out) (by omega))
 clear hC B0 B1 BB hb3 g0
 go_wp2_with fail
 with_reducible refine kC.out.mono ?_
 rintro e w4 ⟨C,k,rfl,own4,hb4⟩
 have O4:=hid own4
 have G4:=hid hb4
 clear kC own4 hb4 f0 f1
 go_wp2_with (at_builtin;refine Mark.stop ?_)
 refine Mark.go ?_
 refine wpList_append_omem _ (Value.int .i64) B64 rfl (.tmp 30) (.tmp 32) 23 rfl (λ _=>rfl) w3.heap.size 3 i0 (.int .i64 0) 8 Tryz.underlying23 HI0.out HZ.out HZ1.out HZ2.out rfl C n k _ rfl (O4.out.gr ((Gr.refl _).al _)) _ 1 1 [x] rfl (emem_one _ x hxB _) (by unfold maxLen;omega) (by omega) (G4.out.al _).size ?_
 intro C5 k5 w5 own5 gb5
 have G5:=hid ((G4.out.al (.cells #[.int .i64 x] 3)).gb gb5 (λ k hk=>(O4.out.lt k hk).1))
 have gC:=hid (grow_is own5 (by omega) HLn.out HLk.out (Nat.le_refl _) G5.out)
 clear gb5 own5
 go_wp2_with fail
 with_reducible refine gC.out.mono ?_
 rintro e w6 ⟨r',g,l',t',rfl,hm6,hg6,hi6,hb6,hge⟩
 have BR:=HBR.out.gr hb6
 obtain⟨p0,z0⟩:=BR.at_ (k:=0) rfl
 obtain⟨p1,z1⟩:=BR.at_ (k:=1) rfl
 have hlt:=HBR.out.lt
 have BF:=(BR.set 0 (.int .i64 r')).set 1 (.slice (some ⟨g,0,none⟩) (n+1) (n+1))
 have GW:=((G3.out.trans hb6).st (p:=⟨w.heap.size+1,0,none⟩) (by show w.heap.size<=w.heap.size+1;omega) (.int .i64 r')).st (p:=⟨w.heap.size+1,1,none⟩) (by show w.heap.size<=w.heap.size+1;omega) (.slice (some ⟨g,0,none⟩) (n+1) (n+1))
 have NM:NMem ((w6.setCell ⟨w.heap.size+1,0,none⟩ (.int .i64 r')).setCell ⟨w.heap.size+1,1,none⟩ (.slice (some ⟨g,0,none⟩) (n+1) (n+1))) (some ⟨g,0,none⟩) (n+1) l' :=
  hm6.stays (by simp [World.setCell]) λ k hk _=>by
   simp only [Option.map_some,Option.some.injEq] at hk
   subst hk
   have:w.heap.size+1≠g:=by omega
   simp [World.setCell,Array.getElem?_modify,this]
 rw [hi6.symm] at HLm
 have HF:=hid (And.intro BF (And.intro GW (And.intro NM hg6)))
 have HGE:=hid (show w.heap.size<=g from by have:=G3.out.size;omega)
 clear gC BR BF GW NM hm6 hg6 hi6 hb6 hge hlt
 go_wp2_with fail
 obtain⟨BF,GW,NM,hg6⟩:=HF.out
 clear p0 z0 p1 z1 HBR HF
 generalize (w6.setCell _ _).setCell _ _=WF at BF GW NM ⊢
 have q0:WF.cell? ⟨w.heap.size+1,0,none⟩=some (.int .i64 r'):=(BF.at_ (k:=0) rfl).1
 have q1:WF.cell? ⟨w.heap.size+1,1,none⟩=some (.slice (some ⟨g,0,none⟩) (n+1) (n+1)):=(BF.at_ (k:=1) rfl).1
 exact bodyPost_ret (v:=.tuple #[.agg #[.int .i64 r',.slice (some ⟨g,0,none⟩) (n+1) (n+1)],.int .i64 0]) (by simp [results,Tryz.results240,go_sem,q0,q1]) rfl ⟨r',g,l',t',rfl,NM,hg6,HLm.out,GW,HGE.out⟩
end
end
end Go.Proofs.YtainfijdhcehlaaGreatDoor
