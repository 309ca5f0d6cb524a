/-
  A part of the proof.
-/
import Derived.Test.YtainfijdhcehlaaGreatDoorQB30
set_option linter.unusedVariables false
set_option linter.unusedSimpArgs false
set_option maxRecDepth 100000
set_option maxHeartbeats 8000000
namespace Go.Proofs.YtainfijdhcehlaaGreatDoor
open Lib (hid)
section
open Go.ChangeShapes Go.WideShapes Go.ChangeAt Go.RowKit Go.Shelf
namespace P16
open P14 (pan)
open P12 (PV PMem)
theorem made_row {α:Type} {en:α->List Value} {q:Nat} {z:α} {zs:Array Value} (hz:zs.toList=en z) (hs:zs.size=q) (w:World) (n:Nat) (t:TypeId):ORow en q (w.alloc (.cells (madeCells zs (n*q)) t)) w.heap.size 0 (List.replicate n z):=by
 refine⟨_,_,Blk.new w _ _,λ i x hx j v hv=>?_⟩
 have hi:i<n:=by have:=(List.getElem?_eq_some_iff.1 hx).1;rwa [List.length_replicate] at this
 rw [List.getElem?_replicate,if_pos hi] at hx
 cases hx
 rw [<- hz] at hv
 have hj:j<q:=by
  have:=(List.getElem?_eq_some_iff.1 hv).1
  rw [Array.length_toList,hs] at this
  exact this
 have hb:i*q+j<n*q:=by
  have:(i+1)*q<=n*q:=Nat.mul_le_mul_right q hi
  rw [Nat.add_mul] at this
  omega
 have hm:(i*q+j) % q=j:=by rw [Nat.mul_comm,Nat.mul_add_mod];exact Nat.mod_eq_of_lt hj
 unfold madeCells
 rw [Nat.zero_add,Array.getElem?_map,Array.getElem?_range,if_pos hb,Option.map_some,hs,hm]
 have hv2:zs[j]?=some v:=by simpa using hv
 congr 1
 rw [getElem!_pos zs j (by omega)]
 exact (Array.getElem?_eq_some_iff.1 hv2).2
theorem copied_pn {B b1 b2 b3:Nat} {w:World} {s:WR} {ω:Wv} (h:Copied B w s ω b1 b2 b3):ω.progs.length=s.p.n:=by
 obtain⟨R0,h0,e0⟩:=h.p w FT.refl
 rw [<- e0]
 unfold P12.pl
 rw [List.length_map]
 exact h0.len
abbrev zeroCl:Cl:=⟨0,false,0,0,0,0,false,false,0,false,false,0,0⟩
theorem zeroCl_cb:CB zeroCl:=⟨b64_0,b64_0,b64_0,b64_0,b64_0,b64_0,b64_0,b64_0⟩
def begun (l:List (List Ac)) (k:Nat):List Cl:=(l.take k).map (λ p=>first 0 false 0 p.length)++List.replicate (l.length-k) zeroCl
section
variable {l:List (List Ac)} {k:Nat} {p:List Ac}
theorem begun_len (hk:k<=l.length):(begun l k).length=l.length:=by unfold begun;rw [List.length_append,List.length_map,List.length_take,List.length_replicate];omega
theorem begun_zero:begun l 0=List.replicate l.length zeroCl:=by unfold begun;simp
theorem begun_all:begun l l.length=l.map λ p=>first 0 false 0 p.length:=by unfold begun;simp
theorem begun_at (hk:k<l.length):(begun l k)[k]?=some zeroCl:=by
 unfold begun
 rw [List.getElem?_append_right (by rw [List.length_map,List.length_take];omega),List.length_map,List.length_take,List.getElem?_replicate,if_pos (by omega)]
theorem begun_next (hp:l[k]?=some p):(begun l k).set k (first 0 false 0 p.length)=begun l (k+1):=fill_set hp rfl _ rfl
theorem begun_mem {c:Cl} (h:c∈begun l k):c=zeroCl\/∃ p∈l,c=first 0 false 0 p.length:=by
 unfold begun at h
 rcases List.mem_append.1 h with h | h
 . obtain⟨p,hp,rfl⟩:=List.mem_map.1 h
   exact .inr ⟨p,List.mem_of_mem_take hp,rfl⟩
 . exact .inl (List.eq_of_mem_replicate h)
theorem begun_cb {c:Cl} (h:c∈begun l k):CB c:=by
 rcases begun_mem h with rfl | ⟨p,_,rfl⟩
 . exact zeroCl_cb
 . exact first_cb zeroCl_cb b64_0
theorem begun_gor (hk:k<=l.length) (h8:l.length<=8):P11.rightB ((begun l k).map gor)=true:=by
 refine (gor_iff (by rw [begun_len hk];exact h8)).1 λ c hc=>?_
 rcases begun_mem hc with rfl | ⟨p,_,rfl⟩
 . exact⟨.inl rfl,λ _=>rfl⟩
 . unfold first
   dsimp only
   split
   . exact⟨.inr (.inr rfl),λ q=>by cases q⟩
   . exact⟨.inl rfl,λ q=>by cases q⟩
end
section
variable {W:World} {A:Option Addr} {n c:Nat} {R:List PV}
abbrev NewQ (W:World) (l:List (List Ac)) (e:Ending) (W':World):Prop:=(∃ (s:WR) (ψ:Wv) (x:Int),e=.returned (.tuple #[s.v,.int .i64 x])/\NewM l ψ x/\WNew W.heap.size W' s ψ)/\Gr W W'
theorem new_no (h:PMem W A n R) (hn:n<=9223372036854775807) (hr:P12.rightB (P12.pl R)=false):Calls Tryz.prog 12 #[.slice A n c] W (NewQ W (P12.pl R)):=by
 have cR:=λ W' (g:Gr W W')=>hid (P12.Right_is (c:=c) hr hn W' (h.gr g))
 have Z0:=hid (Blk.new W zeroA 29)
 have G0:=hid ((Gr.refl W).al (.cells zeroA 29))
 have S0:(W.alloc (.cells zeroA 29)).heap.size=W.heap.size+1:=by rw [World.size_alloc]
 clear h
 go_enter Tryz.func12,Tryz.ntmps12
 go_upto_region 1 with fail
 generalize W.alloc (.cells zeroA 29)=V at Z0 G0 S0 ⊢
 go_wp2_with fail
 with_reducible refine (cR _ G0.out).out.mono ?_
 rintro e w1 ⟨rfl,g1⟩
 have Z1:=hid (Z0.out.gr g1)
 have G1:=hid (G0.out.trans g1)
 clear g1 S0 cR
 have WF:=hid (put6_blk Z1.out rfl (.int .i64 0) (.slice none 0 0) (.slice none 0 0) (.slice none 0 0) (.slice none 0 0) (.int .i64 0))
 have GF:=hid (put6_gr (x0:=.int .i64 0) (x1:=.slice none 0 0) (x2:=.slice none 0 0) (x3:=.slice none 0 0) (x4:=.slice none 0 0) (x5:=.int .i64 0) (b:=W.heap.size) G1.out (Nat.le_refl _))
 have lt1:=Z1.out.lt
 obtain⟨v0,x0⟩:=Z1.out.at_ (k:=0) (v:=.int .i64 0) rfl
 obtain⟨v1,x1⟩:=Z1.out.at_ (k:=1) (v:=.slice none 0 0) rfl
 obtain⟨v2,x2⟩:=Z1.out.at_ (k:=2) (v:=.slice none 0 0) rfl
 obtain⟨v3,x3⟩:=Z1.out.at_ (k:=3) (v:=.slice none 0 0) rfl
 obtain⟨v4,x4⟩:=Z1.out.at_ (k:=4) (v:=.slice none 0 0) rfl
 obtain⟨v5,x5⟩:=Z1.out.at_ (k:=5) (v:=.int .i64 0) rfl
 go_wp2_with fail
 clear v0 x0 v1 x1 v2 x2 v3 x3 v4 x4 v5 x5 lt1
 generalize ((((((w1.setCell ⟨W.heap.size,0,none⟩ (.int .i64 0)).setCell ⟨W.heap.size,1,none⟩ (.slice none 0 0)).setCell ⟨W.heap.size,2,none⟩ (.slice none 0 0)).setCell ⟨W.heap.size,3,none⟩ (.slice none 0 0)).setCell ⟨W.heap.size,4,none⟩ (.slice none 0 0)).setCell ⟨W.heap.size,5,none⟩ (.int .i64 0))=Wf at WF GF ⊢
 have F0:=(WF.out.at_ (k:=0) (v:=.int .i64 0) rfl).1
 have F1:=(WF.out.at_ (k:=1) (v:=.slice none 0 0) rfl).1
 have F2:=(WF.out.at_ (k:=2) (v:=.slice none 0 0) rfl).1
 have F3:=(WF.out.at_ (k:=3) (v:=.slice none 0 0) rfl).1
 have F4:=(WF.out.at_ (k:=4) (v:=.slice none 0 0) rfl).1
 have F5:=(WF.out.at_ (k:=5) (v:=.int .i64 0) rfl).1
 exact bodyPost_ret (v:=.tuple #[WR.v ⟨0,⟨none,0,0⟩,⟨none,0,0⟩,⟨none,0,0⟩,⟨none,0,0⟩,0⟩,.int .i64 1]) (by simp [results,Tryz.results12,go_sem,F0,F1,F2,F3,F4,F5]) rfl
  ⟨⟨⟨0,⟨none,0,0⟩,⟨none,0,0⟩,⟨none,0,0⟩,⟨none,0,0⟩,0⟩,zeroW,1,rfl,.inr ⟨hr,rfl,rfl⟩,zeroW_new _ _⟩,GF.out⟩
theorem new_yes (h:PMem W A n R) (hn:n<=9223372036854775807) (hr:P12.rightB (P12.pl R)=true):Calls Tryz.prog 12 #[.slice A n c] W (NewQ W (P12.pl R)):=by
 have cR:=λ W' (g:Gr W W')=>hid (P12.Right_is (c:=c) hr hn W' (h.gr g))
 obtain⟨h8,h64⟩:=right_facts hr
 have hl:(P12.pl R).length=n:=by unfold P12.pl;rw [List.length_map,h.len]
 have cC:=λ W' (g:Gr W W')=>hid (copied_is (W:=W') (r:=⟨0,⟨A,n,c⟩,⟨none,0,0⟩,⟨none,0,0⟩,⟨none,0,0⟩,0⟩) (ω:=⟨0,P12.pl R,[],[],[],0⟩) ⟨rfl,rfl,b64_0,b64_0,⟨R,h.gr g,rfl⟩,RMem.nil_,RMem.nil_,⟨[],SMem.nil_,rfl⟩⟩ ⟨by show (P12.pl R).length<=1000;omega,λ p hp=>by have:=(h64 p hp).1;omega,Nat.zero_le _,Nat.zero_le _,Nat.zero_le _,λ s hs=>by cases hs⟩)
 obtain⟨ic,hic,hzc,hsc,hbc⟩:=P12.info_parts infoClients
 obtain⟨im,him,hzm,hsm,hbm⟩:=P12.info_parts infoMutexes
 dsimp only at hzc hsc hbc hzm hsm hbm
 have hn8:n<=8:=by omega
 have mkC:=λ w=>run_makeN (P:=Tryz.prog) 24 55 ic _ Tryz.underlying24 hic hzc n (by rw [hbc];omega) (by omega) w
 have mkM:=λ w=>run_makeN (P:=Tryz.prog) 25 48 im _ Tryz.underlying25 him hzm 4 (by rw [hbm];omega) (by omega) w
 rw [hsc] at mkC
 rw [hsm] at mkM
 obtain⟨VC,hVC⟩:∃ V,madeCells (Value.agg #[.int .i64 0,.bool false,.int .i64 0,.int .i64 0,.int .i64 0,.int .i64 0,.bool false,.bool false,.int .i64 0,.bool false,.bool false,.int .i64 0,.int .i64 0]).cells (n*13)=V:=⟨_,rfl⟩
 obtain⟨VM,hVM⟩:∃ V,madeCells (Value.agg #[.int .i64 0,.int .i64 0,.int .i64 0]).cells (4*3)=V:=⟨_,rfl⟩
 have RC:=hid (λ w=>by have:=made_row (en:=clV) (q:=13) (z:=zeroCl) (zs:=(Value.agg #[.int .i64 0,.bool false,.int .i64 0,.int .i64 0,.int .i64 0,.int .i64 0,.bool false,.bool false,.int .i64 0,.bool false,.bool false,.int .i64 0,.int .i64 0]).cells) rfl rfl w n 55;rwa [hVC] at this)
 have RM:=hid (λ w=>by have:=made_row (en:=t3V) (q:=3) (z:=((0,0,0):T3)) (zs:=(Value.agg #[.int .i64 0,.int .i64 0,.int .i64 0]).cells) rfl rfl w 4 48;rwa [hVM] at this)
 have mkC':∀ w,(Instr.makeSlice 24 (.int .i64 (n:Int)) (.int .i64 (n:Int))).run Tryz.prog w=.ok (.slice (some ⟨w.heap.size,0,none⟩) n n) (w.alloc (.cells VC 55)):=λ w=>by rw [<- hVC];exact mkC w
 have mkM':∀ w,(Instr.makeSlice 25 (.int .i64 4) (.int .i64 4)).run Tryz.prog w=.ok (.slice (some ⟨w.heap.size,0,none⟩) 4 4) (w.alloc (.cells VM 48)):=λ w=>by rw [<- hVM];exact mkM w
 have HL:=hid hl
 have H64:=hid h64
 have HR:=hid hr
 clear mkC mkM hVC hVM hic hzc hsc hbc him hzm hsm hbm hl h64 hr h8 hn
 have Z0:=hid (Blk.new W zeroA 29)
 have G0:=hid ((Gr.refl W).al (.cells zeroA 29))
 have S0:(W.alloc (.cells zeroA 29)).heap.size=W.heap.size+1:=by rw [World.size_alloc]
 clear h
 go_enter Tryz.func12,Tryz.ntmps12
 go_upto_region 1 with fail
 generalize W.alloc (.cells zeroA 29)=V at Z0 G0 S0 ⊢
 go_wp2_with fail
 with_reducible refine (cR _ G0.out).out.mono ?_
 rintro e w1 ⟨rfl,g1⟩
 have Z1:=hid (Z0.out.gr g1)
 have G1:=hid (G0.out.trans g1)
 have s1:=g1.size
 clear g1 cR Z0 G0
 go_wp2_with fail
 with_reducible refine (cC _ G1.out).out.mono ?_
 rintro e w2 ⟨⟨s,b1,b2,b3,rfl,hcp⟩,g2⟩
 obtain⟨now,⟨A1,n1,c1⟩,⟨A2,n2,c2⟩,⟨A3,n3,c3⟩,⟨A4,n4,c4⟩,stop⟩:=s
 have l0:W.heap.size+1<=w1.heap.size:=by omega
 have l1:=hcp.l1
 have l2:=hcp.l2
 have l3:=hcp.l3
 have l4:=hcp.l4
 have HCP:=hid hcp
 have Z3:=Z1.out.gr g2
 have G3:=G1.out.trans g2
 have gA:=(Gr.refl w2).al (.cells (rA now stop ⟨A1,n1,c1⟩ ⟨A2,n2,c2⟩ ⟨A3,n3,c3⟩ ⟨A4,n4,c4⟩) 29)
 have T4:=Blk.new w2 (rA now stop ⟨A1,n1,c1⟩ ⟨A2,n2,c2⟩ ⟨A3,n3,c3⟩ ⟨A4,n4,c4⟩) 29
 have Z4:=hid (Z3.gr gA)
 have G4:=hid (G3.trans gA)
 have F4:=hid gA
 clear hcp g2 Z3 G3 gA Z1 G1 S0 s1 cC
 go_upto_region 4 with fail
 generalize w2.alloc (.cells (rA now stop ⟨A1,n1,c1⟩ ⟨A2,n2,c2⟩ ⟨A3,n3,c3⟩ ⟨A4,n4,c4⟩) 29)=V4 at T4 Z4 G4 F4 ⊢
 obtain⟨gw,hgw⟩:∃ g,w2.heap.size=g:=⟨_,rfl⟩
 rw [hgw] at T4 l4 ⊢
 have HGW:=hid hgw
 clear hgw
 obtain⟨q2,y2⟩:=T4.at_ (k:=2) (v:=.slice A2 n2 c2) rfl
 have hlt:=T4.lt
 have gB:=(Gr.refl V4).al (.cells VC 55)
 have RC5:=RC.out V4
 obtain⟨gc,hgc⟩:∃ g,V4.heap.size=g:=⟨_,rfl⟩
 rw [hgc] at RC5 hlt
 have mkC2:=mkC' V4
 rw [hgc] at mkC2
 have HGC:=hid hgc
 have T5:=T4.gr gB
 have q2':=(T5.at_ (k:=2) (v:=.slice A2 n2 c2) rfl).1
 have y2':=(T5.at_ (k:=2) (v:=.slice A2 n2 c2) rfl).2
 have T6:Hid (Blk ((V4.alloc (.cells VC 55)).setCell ⟨gw,2,none⟩ (.slice (some ⟨gc,0,none⟩) n n)) gw (rA now stop ⟨A1,n1,c1⟩ ⟨some ⟨gc,0,none⟩,n,n⟩ ⟨A3,n3,c3⟩ ⟨A4,n4,c4⟩) 29):=hid (T5.set 2 _)
 have Z6:=hid ((Z4.out.gr gB).st (p:=⟨gw,2,none⟩) (by show gw≠W.heap.size;omega) (.slice (some ⟨gc,0,none⟩) n n))
 have G6:=hid ((G4.out.trans gB).st (p:=⟨gw,2,none⟩) (by show W.heap.size<=gw;omega) (.slice (some ⟨gc,0,none⟩) n n))
 have F6:=hid ((F4.out.trans gB).st (p:=⟨gw,2,none⟩) (by show w2.heap.size<=gw;rw [HGW.out];exact Nat.le_refl _) (.slice (some ⟨gc,0,none⟩) n n))
 have O6:=hid (RC5.st (p:=⟨gw,2,none⟩) (by show gw≠gc;omega) (.slice (some ⟨gc,0,none⟩) n n))
 clear T4 T5 gB Z4 G4 F4 RC5 mkC' hgc RC
 have e5:(V4.alloc (.cells VC 55)).heap.size=gc+1:=by rw [World.size_alloc,HGC.out]
 go_upto_region 5 with fail
 clear q2 y2 q2' y2' mkC2
 generalize (V4.alloc (.cells VC 55)).setCell ⟨gw,2,none⟩ (.slice (some ⟨gc,0,none⟩) n n)=V6 at T6 Z6 G6 F6 O6 ⊢
 clear e5
 obtain⟨q3,y3⟩:=T6.out.at_ (k:=3) (v:=.slice A3 n3 c3) rfl
 have hgl:=T6.out.lt
 have hcl:=O6.out.lt
 have gB:=(Gr.refl V6).al (.cells VM 48)
 have RM5:=RM.out V6
 obtain⟨gm,hgm⟩:∃ g,V6.heap.size=g:=⟨_,rfl⟩
 rw [hgm] at RM5 hgl hcl
 have mkM2:=mkM' V6
 rw [hgm] at mkM2
 have HGM:=hid hgm
 have T7:=T6.out.gr gB
 have q3':=(T7.at_ (k:=3) (v:=.slice A3 n3 c3) rfl).1
 have y3':=(T7.at_ (k:=3) (v:=.slice A3 n3 c3) rfl).2
 have T8:Hid (Blk ((V6.alloc (.cells VM 48)).setCell ⟨gw,3,none⟩ (.slice (some ⟨gm,0,none⟩) 4 4)) gw (rA now stop ⟨A1,n1,c1⟩ ⟨some ⟨gc,0,none⟩,n,n⟩ ⟨some ⟨gm,0,none⟩,4,4⟩ ⟨A4,n4,c4⟩) 29):=hid (T7.set 3 _)
 have Z8:=hid ((Z6.out.gr gB).st (p:=⟨gw,3,none⟩) (by show gw≠W.heap.size;omega) (.slice (some ⟨gm,0,none⟩) 4 4))
 have G8:=hid ((G6.out.trans gB).st (p:=⟨gw,3,none⟩) (by show W.heap.size<=gw;omega) (.slice (some ⟨gm,0,none⟩) 4 4))
 have F8:=hid ((F6.out.trans gB).st (p:=⟨gw,3,none⟩) (by show w2.heap.size<=gw;rw [HGW.out];exact Nat.le_refl _) (.slice (some ⟨gm,0,none⟩) 4 4))
 have O8:=hid ((O6.out.gr gB).st (p:=⟨gw,3,none⟩) (by show gw≠gc;omega) (.slice (some ⟨gm,0,none⟩) 4 4))
 have M8:=hid (RM5.st (p:=⟨gw,3,none⟩) (by show gw≠gm;omega) (.slice (some ⟨gm,0,none⟩) 4 4))
 clear T7 gB RM5 hgm RM mkM' T6 Z6 G6 F6 O6
 go_upto_region 6 with fail
 clear q3 y3 q3' y3' mkM2
 generalize (V6.alloc (.cells VM 48)).setCell ⟨gw,3,none⟩ (.slice (some ⟨gm,0,none⟩) 4 4)=V8 at T8 Z8 G8 F8 O8 M8 ⊢
 obtain⟨q2,-⟩:=T8.out.at_ (k:=2) (v:=.slice (some ⟨gc,0,none⟩) n n) rfl
 have O9:Hid (ORow clV 13 V8 gc 0 (begun (P12.pl R) 0)):=hid (by rw [begun_zero,HL.out];exact O8.out)
 clear O8
 go_wp2_with fail
 go_loopw [22] (λ i wr=>∃ k:Nat,k<=n/\i=.int .i64 (k:Int)/\Hid (ORow clV 13 wr gc 0 (begun (P12.pl R) k))/\Hid (Ko gc V8 wr)) (λ i _=>n-(intOf i).toNat)
 case atStart=>exact⟨0,Nat.zero_le _,rfl,O9,hid Ko.refl⟩
 case round =>
  obtain⟨k,hk,rfl,HO,HK⟩:=hrel
  have TB:Hid (Blk wr gw (rA now stop ⟨A1,n1,c1⟩ ⟨some ⟨gc,0,none⟩,n,n⟩ ⟨some ⟨gm,0,none⟩,4,4⟩ ⟨A4,n4,c4⟩) 29):=hid (by unfold Blk;rw [HK.out.block gw T8.out.lt (by omega)];exact T8.out)
  have hpl:(P12.pl R).length=n:=HL.out
  by_cases hlt:k<n
  . obtain⟨pr,hp⟩:∃ p,(P12.pl R)[k]?=some p:=⟨_,List.getElem?_eq_getElem (by omega)⟩
    have hnx:=begun_next hp
    have hp64:=(H64.out pr (List.mem_of_getElem? hp)).1
    have hlen:=begun_len (l:=P12.pl R) (k:=k) (by omega)
    have hgo:=begun_gor (l:=P12.pl R) (k:=k) (by omega) (by omega)
    obtain⟨c1',-⟩:=TB.out.at_ (k:=1) (v:=.slice A1 n1 c1) rfl
    obtain⟨c2',-⟩:=TB.out.at_ (k:=2) (v:=.slice (some ⟨gc,0,none⟩) n n) rfl
    have hn1:n1=n:=by have h1:(P12.pl R).length=n1:=copied_pn HCP.out;omega
    have cb:=hid (begin_is (W:=wr) (b:=gw) (bc:=gc) (oc:=0) (n:=n) (who:=(k:Int)) (act:=0) (c:=zeroCl) (progs:=P12.pl R) (pr:=pr) c1' c2' (by omega) HO.out (by rw [hlen,hpl]) (by omega) (λ _ q=>begun_cb q) (by omega) (by omega) (by rw [Int.toNat_natCast];exact begun_at (by omega)) (λ W' q=>HCP.out.p W' ((FT.gr F8.out).trans ⟨(HK.out.trans q).size,λ j j1 j2 j3=>(HK.out.trans q).block j j3 (by omega)⟩)) hn1 (by rw [Int.toNat_natCast];exact hp) (by omega) b64_0 rfl hgo)
    rw [Int.toNat_natCast] at cb
    have HNX:=hid (show (begun (P12.pl R) k).set k (first zeroCl.gst zeroCl.permit 0 pr.length)=begun (P12.pl R) (k+1) from hnx)
    clear hnx hp hp64 hlen hgo c1' c2' hpl hn1
    go_wp2_with fail
    with_reducible refine cb.out.mono ?_
    rintro e w9 ⟨rfl,o9,k9⟩
    rw [HNX.out] at o9
    have O10:=hid o9
    have K10:=hid (HK.out.trans k9)
    clear o9 k9 cb
    go_wp2_with fail
    go_roundw
    case rel=>exact⟨k+1,by omega,by go_num,O10,K10⟩
    case measure=>simp [intOf];omega
  . obtain rfl:k=n:=by omega
    have hO:=HO.out
    rw [<- hpl,begun_all] at hO
    have hM:=M8.out.kept (HK.out.block gm M8.out.lt (by omega))
    have ZW:Hid (Blk wr W.heap.size zeroA 29):=hid (by unfold Blk;rw [HK.out.block W.heap.size Z8.out.lt (by omega)];exact Z8.out)
    have GW:Hid (Gr W wr):=hid ⟨HK.out.os.trans G8.out.os,HK.out.tape.trans G8.out.tape,HK.out.output.trans G8.out.output,Nat.le_trans G8.out.size HK.out.size,λ j hj=>(HK.out.block j (Nat.lt_of_lt_of_le hj G8.out.size) (by omega)).trans (G8.out.block j hj)⟩
    have FW:Hid (∀ lo hi,hi<=gw->FT lo hi w2 wr):=hid λ lo hi hh=>(FT.gr F8.out).trans ⟨HK.out.size,λ j j1 j2 j3=>HK.out.block j j3 (by omega)⟩
    have HOW:=hid hO
    have HMW:=hid hM
    have HPL:=hid hpl
    clear hO hM hpl HO HK T8 Z8 G8 F8 O9 M8
    obtain⟨t0,-⟩:=TB.out.at_ (k:=0) (v:=.int .i64 now) rfl
    obtain⟨t1,-⟩:=TB.out.at_ (k:=1) (v:=.slice A1 n1 c1) rfl
    obtain⟨t2,-⟩:=TB.out.at_ (k:=2) (v:=.slice (some ⟨gc,0,none⟩) k k) rfl
    obtain⟨t3,-⟩:=TB.out.at_ (k:=3) (v:=.slice (some ⟨gm,0,none⟩) 4 4) rfl
    obtain⟨t4,-⟩:=TB.out.at_ (k:=4) (v:=.slice A4 n4 c4) rfl
    obtain⟨t5,-⟩:=TB.out.at_ (k:=5) (v:=.int .i64 stop) rfl
    have ltw:=TB.out.lt
    have WF:=hid (put6_blk ZW.out rfl (.int .i64 now) (.slice A1 n1 c1) (.slice (some ⟨gc,0,none⟩) k k) (.slice (some ⟨gm,0,none⟩) 4 4) (.slice A4 n4 c4) (.int .i64 stop))
    have GF:=hid (put6_gr (x0:=.int .i64 now) (x1:=.slice A1 n1 c1) (x2:=.slice (some ⟨gc,0,none⟩) k k) (x3:=.slice (some ⟨gm,0,none⟩) 4 4) (x4:=.slice A4 n4 c4) (x5:=.int .i64 stop) (b:=W.heap.size) GW.out (Nat.le_refl _))
    have lt1:=ZW.out.lt
    obtain⟨v0,x0⟩:=ZW.out.at_ (k:=0) (v:=.int .i64 0) rfl
    obtain⟨v1,x1⟩:=ZW.out.at_ (k:=1) (v:=.slice none 0 0) rfl
    obtain⟨v2,x2⟩:=ZW.out.at_ (k:=2) (v:=.slice none 0 0) rfl
    obtain⟨v3,x3⟩:=ZW.out.at_ (k:=3) (v:=.slice none 0 0) rfl
    obtain⟨v4,x4⟩:=ZW.out.at_ (k:=4) (v:=.slice none 0 0) rfl
    obtain⟨v5,x5⟩:=ZW.out.at_ (k:=5) (v:=.int .i64 0) rfl
    have fb:∀ lo hi,W.heap.size<lo->FT lo hi wr ((((((wr.setCell ⟨W.heap.size,0,none⟩ (.int .i64 now)).setCell ⟨W.heap.size,1,none⟩ (.slice A1 n1 c1)).setCell ⟨W.heap.size,2,none⟩ (.slice (some ⟨gc,0,none⟩) k k)).setCell ⟨W.heap.size,3,none⟩ (.slice (some ⟨gm,0,none⟩) 4 4)).setCell ⟨W.heap.size,4,none⟩ (.slice A4 n4 c4)).setCell ⟨W.heap.size,5,none⟩ (.int .i64 stop)):=λ lo hi hlo=>(FromB.put6 (b:=W.heap.size) hlo (.int .i64 now) (.slice A1 n1 c1) (.slice (some ⟨gc,0,none⟩) k k) (.slice (some ⟨gm,0,none⟩) 4 4) (.slice A4 n4 c4) (.int .i64 stop)).ft (Nat.le_refl _)
    have oF:=HOW.out.kept ((fb gc (gc+1) (by omega)).2 gc (Nat.le_refl _) (by omega) HOW.out.lt)
    have mF:=HMW.out.kept ((fb gm (gm+1) (by omega)).2 gm (Nat.le_refl _) (by omega) HMW.out.lt)
    have NF:Hid (WNew W.heap.size ((((((wr.setCell ⟨W.heap.size,0,none⟩ (.int .i64 now)).setCell ⟨W.heap.size,1,none⟩ (.slice A1 n1 c1)).setCell ⟨W.heap.size,2,none⟩ (.slice (some ⟨gc,0,none⟩) k k)).setCell ⟨W.heap.size,3,none⟩ (.slice (some ⟨gm,0,none⟩) 4 4)).setCell ⟨W.heap.size,4,none⟩ (.slice A4 n4 c4)).setCell ⟨W.heap.size,5,none⟩ (.int .i64 stop)) ⟨now,⟨A1,n1,c1⟩,⟨some ⟨gc,0,none⟩,k,k⟩,⟨some ⟨gm,0,none⟩,4,4⟩,⟨A4,n4,c4⟩,stop⟩ (newW (P12.pl R))):=hid λ W' f=>by
     have hcp:=HCP.out
     obtain⟨T0,hT0,eT0⟩:=hcp.t W' ((FW.out _ _ (by have:=HGW.out;omega)).trans ((fb _ _ (by omega)).trans (f.ft (by omega))))
     have hlm:((P12.pl R).map λ p=>first 0 false 0 p.length).length=k:=by rw [List.length_map];exact HPL.out
     exact⟨hcp.now,hcp.stop,b64_0,b64_0,hcp.p W' ((FW.out _ _ (by omega)).trans ((fb _ _ (by omega)).trans (f.ft (by omega)))),orow_rmem (oF.kept (f.2 gc (by omega) oF.lt)) hlm (λ q hq=>by obtain⟨p,_,rfl⟩:=List.mem_map.1 hq;exact first_cb zeroCl_cb b64_0),orow_rmem (mF.kept (f.2 gm (by omega) mF.lt)) rfl (λ q hq=>by obtain rfl:q=((0,0,0):T3):=List.eq_of_mem_replicate (n:=4) hq;exact⟨b64_0,b64_0,b64_0⟩),⟨T0,hT0,eT0⟩,hcp.op,⟨Nat.le_refl _,by show k<=_;omega⟩,⟨Nat.le_refl _,by show 4<=9223372036854775807;decide⟩,hcp.ot⟩
    clear fb oF mF
    go_wp2_with fail
    clear v0 x0 v1 x1 v2 x2 v3 x3 v4 x4 v5 x5 lt1
    generalize ((((((wr.setCell ⟨W.heap.size,0,none⟩ (.int .i64 now)).setCell ⟨W.heap.size,1,none⟩ (.slice A1 n1 c1)).setCell ⟨W.heap.size,2,none⟩ (.slice (some ⟨gc,0,none⟩) k k)).setCell ⟨W.heap.size,3,none⟩ (.slice (some ⟨gm,0,none⟩) 4 4)).setCell ⟨W.heap.size,4,none⟩ (.slice A4 n4 c4)).setCell ⟨W.heap.size,5,none⟩ (.int .i64 stop))=Wf at WF GF NF ⊢
    have F0:=(WF.out.at_ (k:=0) (v:=.int .i64 now) rfl).1
    have F1:=(WF.out.at_ (k:=1) (v:=.slice A1 n1 c1) rfl).1
    have F2:=(WF.out.at_ (k:=2) (v:=.slice (some ⟨gc,0,none⟩) k k) rfl).1
    have F3:=(WF.out.at_ (k:=3) (v:=.slice (some ⟨gm,0,none⟩) 4 4) rfl).1
    have F4:=(WF.out.at_ (k:=4) (v:=.slice A4 n4 c4) rfl).1
    have F5:=(WF.out.at_ (k:=5) (v:=.int .i64 stop) rfl).1
    exact bodyPost_ret (v:=.tuple #[WR.v ⟨now,⟨A1,n1,c1⟩,⟨some ⟨gc,0,none⟩,k,k⟩,⟨some ⟨gm,0,none⟩,4,4⟩,⟨A4,n4,c4⟩,stop⟩,.int .i64 0]) (by simp [results,Tryz.results12,go_sem,F0,F1,F2,F3,F4,F5]) rfl
     ⟨⟨⟨now,⟨A1,n1,c1⟩,⟨some ⟨gc,0,none⟩,k,k⟩,⟨some ⟨gm,0,none⟩,4,4⟩,⟨A4,n4,c4⟩,stop⟩,newW (P12.pl R),0,rfl,.inl ⟨HR.out,rfl,rfl⟩,NF.out⟩,GF.out⟩
theorem new_is (h:PMem W A n R) (hn:n<=9223372036854775807):Calls Tryz.prog 12 #[.slice A n c] W (NewQ W (P12.pl R)):=by
 cases hr:P12.rightB (P12.pl R)
 . exact new_no h hn hr
 . exact new_yes h hn hr
end
theorem mach:Mach where
 new:=λ W A n c R _ h hn=>new_is h hn
 step:=λ W r ω who gl h _=>step_is h gl
 tick:=λ W r ω d _ h _=>tick_is h
end P16
end
end Go.Proofs.YtainfijdhcehlaaGreatDoor
