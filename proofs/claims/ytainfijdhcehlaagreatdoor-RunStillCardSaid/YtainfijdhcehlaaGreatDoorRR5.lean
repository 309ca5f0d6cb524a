/-
  A part of the proof.
-/
import Derived.Test.YtainfijdhcehlaaGreatDoorRR4
import Derived.Deep.DeepCutAuto
set_option linter.unusedVariables false
set_option linter.unusedSimpArgs false
set_option maxRecDepth 100000
set_option maxHeartbeats 8000000
namespace Go.Proofs.YtainfijdhcehlaaGreatDoor
open Lib (hid)
section
open Go.Conc Go.ChangeShapes Go.WideShapes Go.ChangeAt Go.RowKit
namespace P17
open P16
open P13 (rd pk okP rd_ok)
def GoR (ω:Wv) (L:List Int) (ψ:Wv) (H:List Hp) (x:Int):Prop :=
 (20000<L.length/\ψ=zeroW/\H=[]/\x=2)\/(L.length<=20000/\¬ RightW ω/\ψ=zeroW/\H=[]/\x=1)\/(L.length<=20000/\RightW ω/\GoW ω (L.map rd) ψ H/\x=0)
def GoQ (w:World) (ω:Wv) (L:List Int) (e:Ending) (w':World):Prop :=
 (∃ (s:WR) (ψ:Wv) (A:Option Addr) (n c:Nat) (H:List Hp) (x:Int),e=.returned (.tuple #[s.v,.slice A n c,.int .i64 x])/\GoR ω L ψ H x /\
   WOff (λ k=>k<w.heap.size\/(Value.slice A n c).ownBlock=some k) w' s ψ/\HOwn w' w.heap.size (.slice A n c) H/\H.length=n)/\Gr w w'
theorem pks_tail (v:Int) (l:List Int):(pks (v::l)).extract 1 (pks (v::l)).size=pks l:=by
 unfold pks
 apply Array.ext'
 simp only [List.extract_toArray,List.map_cons,List.length_cons,List.size_toArray,List.length_map]
 simp
 exact List.take_of_length_le (by simp)
theorem new2 (w:World) (o:Obj) (cs:Array Value) (t:TypeId):((w.alloc o).alloc (.cells cs t)).heap[w.heap.size+1]?=some (.cells cs t (0,0)):=by
 have:=Blk.new (w.alloc o) cs t
 rwa [World.size_alloc] at this
theorem tick0 {ω τ:Wv} {y:Int} (hr:RightW ω) (h:TickM ω 0 τ y):τ=ω:=by
 rcases h with ⟨q,_⟩ | ⟨_,_,_,q,_⟩ | ⟨_,_,_,_,q,_⟩ | ⟨_,_,_,q,_,_⟩
 . exact absurd ⟨hr,by decide,by decide⟩ q
 . exact q
 . rw [q];simp
 . have:=hr.now;omega
section
variable {w:World} {r:WR} {ω:Wv} {A:Option Addr} {n c:Nat} {L:List Int}
theorem go_goes (hM:Mach) (hg:P15.Glob w) (h:WIs w r ω) (hm:IMem w A n L) (hn:n<=20000) (hr:RightW ω) :
 Calls Tryz.prog 28 #[r.v,.slice A n c] w (GoQ w ω L):=by
 have hlen:=hm.1
 have cR:=λ W (g:Gr w W)=>hid (P16.Right_is (W:=W) (h.gr g) (v:=true) (by simp [hr]))
 have n1:¬ (20000:Int)<(n:Int):=by omega
 have BW:=(Blk.new w r.a 29).al (.cells #[.int .i64 0,.slice none 0 0,.slice none 0 0,.slice none 0 0,.slice none 0 0,.int .i64 0] 29)
 have BZ:=Blk.new (w.alloc (.cells r.a 29)) #[.int .i64 0,.slice none 0 0,.slice none 0 0,.slice none 0 0,.slice none 0 0,.int .i64 0] 29
 rw [World.size_alloc] at BZ
 have G0:=hid (((Gr.refl w).al (.cells r.a 29)).al (.cells #[.int .i64 0,.slice none 0 0,.slice none 0 0,.slice none 0 0,.slice none 0 0,.int .i64 0] 29))
 have HM:=hid hm
 have HW:=hid h
 clear hm h
 go_enter Tryz.func28,Tryz.ntmps28
 go_upto_region 1 with fail
 generalize (w.alloc (.cells r.a 29)).alloc (.cells #[.int .i64 0,.slice none 0 0,.slice none 0 0,.slice none 0 0,.slice none 0 0,.int .i64 0] 29)=V at BW BZ G0 ⊢
 have ltw:=BW.lt
 obtain⟨b0,bz0⟩:=BW.at_ (k:=0) (v:=.int .i64 r.now) rfl
 obtain⟨b1,bz1⟩:=BW.at_ (k:=1) (v:=.slice r.p.A r.p.n r.p.c) rfl
 obtain⟨b2,bz2⟩:=BW.at_ (k:=2) (v:=.slice r.c.A r.c.n r.c.c) rfl
 obtain⟨b3,bz3⟩:=BW.at_ (k:=3) (v:=.slice r.m.A r.m.n r.m.c) rfl
 obtain⟨b4,bz4⟩:=BW.at_ (k:=4) (v:=.slice r.t.A r.t.n r.t.c) rfl
 obtain⟨b5,bz5⟩:=BW.at_ (k:=5) (v:=.int .i64 r.stop) rfl
 replace cR:=cR V G0.out
 go_wp2_with fail
 with_reducible refine cR.out.mono ?_
 rintro e w1 ⟨rfl,g1⟩
 replace BW:=BW.gr g1
 replace BZ:=hid (BZ.gr g1)
 have G1:=hid (G0.out.trans g1)
 have cT:=hid (hM.tick w1 r ω 0 (hg.gr G1.out) (HW.out.gr G1.out) (by unfold B64;decide))
 have z1:w.heap.size+1<w1.heap.size:=BZ.out.lt
 clear b0 bz0 b1 bz1 b2 bz2 b3 bz3 b4 bz4 b5 bz5 ltw cR g1 G0
 have ltw:=BW.lt
 obtain⟨b0,bz0⟩:=BW.at_ (k:=0) (v:=.int .i64 r.now) rfl
 obtain⟨b1,bz1⟩:=BW.at_ (k:=1) (v:=.slice r.p.A r.p.n r.p.c) rfl
 obtain⟨b2,bz2⟩:=BW.at_ (k:=2) (v:=.slice r.c.A r.c.n r.c.c) rfl
 obtain⟨b3,bz3⟩:=BW.at_ (k:=3) (v:=.slice r.m.A r.m.n r.m.c) rfl
 obtain⟨b4,bz4⟩:=BW.at_ (k:=4) (v:=.slice r.t.A r.t.n r.t.c) rfl
 obtain⟨b5,bz5⟩:=BW.at_ (k:=5) (v:=.int .i64 r.stop) rfl
 go_wp2_with fail
 with_reducible refine cT.out.mono ?_
 rintro e w2 ⟨⟨s,τ,x,rfl,hT,hWn⟩,g2⟩
 obtain rfl:ω=τ:=(tick0 hr hT).symm
 have BN:=hid (Blk.new w2 s.a 29)
 have G3:=hid ((G1.out.trans g2).al (.cells s.a 29))
 have k2:=g2.size
 have NW:=hid ((((WOff.new (S:=λ k=>k<w1.heap.size) hWn (λ k hk=>hk)).sub (S':=λ k=>k<w1.heap.size\/w2.heap.size<=k) (λ k h1 h2=>by rcases h2 with q | q<;>omega)).gr ((Gr.refl w2).al (.cells s.a 29))))
 replace BZ:=hid ((BZ.out.gr g2).al (.cells s.a 29))
 clear b0 bz0 b1 bz1 b2 bz2 b3 bz3 b4 bz4 b5 bz5 ltw cT BW hT hWn g2 G1
 go_upto_region 8 with fail
 generalize hV3:w2.alloc (.cells s.a 29)=W3 at BN BZ G3 NW ⊢
 have k3:W3.heap.size=w2.heap.size+1:=by rw [<- hV3,World.size_alloc]
 clear hV3
 generalize w2.heap.size=gN at BN NW k2 k3 ⊢
 generalize w1.heap.size=B1 at NW z1 k2
 have cP:=hid (picks_is (c:=c) (HM.out.gr G3.out) (show n<=100000 by omega))
 go_wp2_with fail
 with_reducible refine cP.out.mono ?_
 rintro e w4 ⟨ch,rfl,g4,hch,hC⟩
 have hlt4:=(Array.getElem?_eq_some_iff.1 hC).1
 have HC:=hid hC
 have G4:=hid (G3.out.trans g4)
 replace BN:=hid (BN.out.gr g4)
 replace BZ:=hid (BZ.out.gr g4)
 have NW4:=hid ((NW.out.gr g4).sub (S':=λ k=>k<B1\/k=gN\/k=ch\/(Value.slice none 0 0).ownBlock=some k) (λ k h1 h2=>(h2.elim .inl λ q=>.inr (q.elim (λ q=>by omega) λ q=>q.elim (λ q=>by omega) λ q=>by cases q))))
 have KS:=g4.size
 clear cP hC g4 NW G3
 go_upto_region 9 with fail
 have KN:=hid (show gN<w4.heap.size by omega)
 have KC:=hid hlt4
 have ZB:=hid (show w.heap.size+1<B1/\B1<=gN/\gN<ch from ⟨z1,k2,by omega⟩)
 clear z1 k2 k3 KS hch hlt4
 obtain⟨K2,hK2⟩:∃ K,K=w4.heap.size:=⟨_,rfl⟩
 rw [<- hK2] at KN KC
 have KW0:=hid (show K2<=w4.heap.size by omega)
 clear hK2
 go_loopw [9,10] (λ av at_ wr=>∃ (j:Nat) (χ:Wv) (H:List Hp) (q:WR),j<=n/\at_=.int .i64 (j:Int)/\Hid (GoW ω ((L.map rd).take j) χ H)/\Hid (Blk wr gN q.a 29)/\Hid (Blk wr (w.heap.size+1) #[.int .i64 0,.slice none 0 0,.slice none 0 0,.slice none 0 0,.slice none 0 0,.int .i64 0] 29) /\
  Hid (WOff (λ k=>k<B1\/k=gN\/k=ch\/av.ownBlock=some k) wr q χ)/\Hid (HOwn wr K2 av H)/\Hid (Gr w wr)/\Hid (K2<=wr.heap.size)/\Hid (wr.heap[ch]?=some (.chan n (pks (L.drop j)) true n j false))) (λ _ i _=>n-(intOf i).toNat)
 case atStart=>exact⟨0,ω,[],s,Nat.zero_le _,rfl,hid (by rw [List.take_zero];exact .nil),BN,BZ,NW4,hid (HOwn.nil _ _),G4,KW0,HC⟩
 case round =>
  obtain⟨av0,rfl⟩:∃ x,x=u9:=⟨_,rfl⟩
  obtain⟨j,χ,H,q,hj,rfl,HG,BQ,BZR,WQ,HO,GW,KW,CB⟩:=hrel
  by_cases hjn:j<n
  . have j0:(0:Int)<=(j:Int):=by omega
    obtain⟨v,hv⟩:∃ v,L[j]?=some v:=⟨L[j]'(by omega),List.getElem?_eq_getElem _⟩
    have hd:L.drop j=v::L.drop (j+1):=by
     rw [List.drop_eq_getElem_cons (by omega)]
     congr 1
     rw [List.getElem?_eq_getElem (by omega)] at hv
     exact Option.some.inj hv
    have CB1:wr.heap[ch]?=some (.chan n (pks (v::L.drop (j+1))) true n j false):=by rw [<- hd];exact CB.out
    have HTK:=hid (show (L.map rd).take (j+1)=(L.map rd).take j++[rd v] by rw [List.take_add_one,List.getElem?_map,hv];rfl)
    have htl:=hid (show ((L.map rd).take j).length=j by rw [List.length_take,List.length_map];omega)
    clear hd hv CB
    go_upto_region 9 with fail
    rename_i hK
    refine Runs.region ?_
    show Runs _ _ _ [0,1] _ _
    refine Runs.get 0 (c:=ch) (z:=.agg #[.int .i64 0,.int .i64 0]) (w₁:=wr) (v:=.agg #[.int .i64 (rd v).1,.int .i64 (rd v).2]) (buf':=pks (L.drop (j+1))) CB1 (by simp [pks]) (by simp [pks,pk]) (pks_tail _ _) ?_
    refine Runs.val 1 (v:=.bool true) ?_
    refine Runs.of_wp (hK _ _ ?_)
    have CB2:=hid (heap_setChan wr ch n (pks (L.drop (j+1))) true n (j+1) false (Array.getElem?_eq_some_iff.1 CB1).1)
    have O1:Off (λ k=>k=ch) wr (wr.setChan ch n (pks (L.drop (j+1))) true n (j+1) false):=Off.ch (S:=λ k=>k=ch) rfl ..
    have g1:Gr w (wr.setChan ch n (pks (L.drop (j+1))) true n (j+1) false):=below_setChan GW.out (by have:=ZB.out;omega) ..
    have hrow:∀ k,av0.ownBlock=some k->K2<=k/\k<wr.heap.size:=λ k hk=>World.ownsRow.lt HO.out k hk
    have hzb:=ZB.out
    have hkn:=KN.out
    have hkw:=KW.out
    have hkc:=KC.out
    have BQ1:=blk_off BQ.out O1 (by omega)
    have BZ1:=blk_off BZR.out O1 (by omega)
    have WQ1:=WQ.out.to (O1.mono (S':=λ k=>k<B1\/k=gN\/k=ch\/av0.ownBlock=some k) λ k _ q=>.inr (.inr (.inl q)))
    have HO1:=own_off HO.out O1 (λ k hk q=>by have:=hrow k hk;omega)
    have kw1:=O1.1
    clear hK CB1 O1 BQ BZR WQ HO GW KW hkc
    generalize wr.setChan ch n (pks (L.drop (j+1))) true n (j+1) false=V1 at CB2 g1 BQ1 BZ1 WQ1 HO1 kw1 ⊢
    have BP:=Blk.new V1 #[.int .i64 (rd v).1,.int .i64 (rd v).2] 108
    have A2:=(Gr.refl V1).al (.cells #[.int .i64 (rd v).1,.int .i64 (rd v).2] 108)
    have CB3:=hid (obj_off CB2.out (Off.gr (S:=λ _=>False) A2) (λ h=>h))
    have BQ2:=BQ1.gr A2
    have BZ2:=hid (BZ1.gr A2)
    have WQ2:=hid (WQ1.gr A2)
    have HO2:=hid (own_off HO1 (Off.gr (S:=λ _=>False) A2) (λ _ _ h=>h))
    have g2:=hid (g1.al (.cells #[.int .i64 (rd v).1,.int .i64 (rd v).2] 108))
    have kw2:K2<=V1.heap.size:=by omega
    have hrow2:=hid (show ∀ k,av0.ownBlock=some k->K2<=k/\k<V1.heap.size from λ k hk=>by have:=hrow k hk;omega)
    clear CB2 BQ1 BZ1 WQ1 HO1 g1 kw1 A2 hrow hkw
    go_upto_region 11 with fail
    have k2:(V1.alloc (.cells #[.int .i64 (rd v).1,.int .i64 (rd v).2] 108)).heap.size=V1.heap.size+1:=World.size_alloc _ _
    generalize V1.alloc (.cells #[.int .i64 (rd v).1,.int .i64 (rd v).2] 108)=V2 at BP BQ2 BZ2 WQ2 HO2 g2 CB3 k2 ⊢
    generalize V1.heap.size=gP at BP kw2 hrow2 k2 ⊢
    have ltp:=BP.lt
    have ltn:=BQ2.lt
    obtain⟨p0,-⟩:=BP.at_ (k:=0) (v:=.int .i64 (rd v).1) rfl
    obtain⟨p1,-⟩:=BP.at_ (k:=1) (v:=.int .i64 (rd v).2) rfl
    obtain⟨q0,-⟩:=BQ2.at_ (k:=0) (v:=.int .i64 q.now) rfl
    obtain⟨q1,-⟩:=BQ2.at_ (k:=1) (v:=.slice q.p.A q.p.n q.p.c) rfl
    obtain⟨q2,-⟩:=BQ2.at_ (k:=2) (v:=.slice q.c.A q.c.n q.c.c) rfl
    obtain⟨q3,-⟩:=BQ2.at_ (k:=3) (v:=.slice q.m.A q.m.n q.m.c) rfl
    obtain⟨q4,-⟩:=BQ2.at_ (k:=4) (v:=.slice q.t.A q.t.n q.t.c) rfl
    obtain⟨q5,-⟩:=BQ2.at_ (k:=5) (v:=.int .i64 q.stop) rfl
    have cG:=hid (goOn_is hM (p:=rd v) (hg.gr g2.out) WQ2.out.is (rd_ok v))
    go_wp2_with fail
    with_reducible refine cG.out.mono ?_
    rintro e w6 ⟨⟨q',ψ,A',n',c',ev,rfl,hO,hQ,hE⟩,g6⟩
    have B12:=Blk.new w6 q'.a 29
    have A7:=g6.al (.cells q'.a 29)
    have BQ6:=hid (BQ2.gr A7)
    have BZ6:=hid (BZ2.out.gr A7)
    have CB6:=hid (obj_off CB3.out (Off.gr (S:=λ _=>False) A7) (λ h=>h))
    have HO6:=hid (own_off HO2.out (Off.gr (S:=λ _=>False) A7) (λ _ _ h=>h))
    have g7:=hid (g2.out.trans A7)
    have hrow3:=hrow2.out
    have WQ6:Hid (WOff (λ k=>k<B1\/k=gN\/k=ch\/av0.ownBlock=some k) (w6.alloc (.cells q'.a 29)) q' ψ):=hid (by
     rcases hQ with ⟨rfl,rfl⟩ | hN
     . exact WQ2.out.gr A7
     . refine (WOff.new hN (λ k hk=>?_)).gr ((Gr.refl w6).al _)
       have hkc2:=KC.out
       rcases hk with h | h | h | h
       . omega
       . omega
       . omega
       . have:=hrow3 k h;omega)
    have hnow:=hid (show q'.now=ψ.now from WQ6.out.is.now)
    have E6:=hid (hE.gr ((Gr.refl w6).al (.cells q'.a 29)))
    have hlen':=hE.is.len
    have kv:=g6.size
    have kw6:K2<=w6.heap.size:=by omega
    have HSM:=hid (show ∀ k,av0.ownBlock=some k->K2<=k/\k<V2.heap.size from λ k hk=>by have:=hrow3 k hk;omega)
    clear p0 p1 q0 q1 q2 q3 q4 q5 ltp ltn cG BP BQ2 BZ2 WQ2 HO2 g2 CB3 hrow2 hrow3 hE hQ g6 A7
    go_upto_region 13 with fail
    generalize w6.alloc (.cells q'.a 29)=V6 at B12 BQ6 BZ6 CB6 HO6 g7 WQ6 E6 ⊢
    have kp:gP<V2.heap.size:=by omega
    clear k2
    generalize V2.heap.size=B2 at E6 HSM kv kp
    generalize w6.heap.size=g12 at B12 kv kw6 ⊢
    have l12:=B12.lt
    have HBO:=hid hO
    have hn1':n'<=1:=by rw [<- hlen'];rcases hO.few with h | ⟨_,h⟩<;>rw [h]<;>simp
    clear hO
    go_loopw [9,42] (λ av i wr=>∃ m:Nat,m<=n'/\i=.int .i64 (m:Int)/\Hid (HOwn wr K2 av (H++happ j ψ.now (ev.take m)))/\Hid (Off (λ k=>av0.ownBlock=some k) V6 wr)/\Hid (Gr w wr)/\Hid (∀ k,av.ownBlock=some k->av0.ownBlock=some k\/V6.heap.size<=k)) (λ _ i _=>n'-(intOf i).toNat)
    case atStart=>exact⟨0,Nat.zero_le _,rfl,hid (by rw [List.take_zero];show HOwn _ _ _ (H++[]);rw [List.append_nil];exact HO6.out),hid Off.refl,g7,hid λ k hk=>.inl hk⟩
    case round =>
     obtain⟨m,hmn,rfl,HI,OI,GI,RI⟩:=hrel
     by_cases hm:m<n'
     . have m0:(0:Int)<=(m:Int):=by omega
       have m1:(m:Int)<(n':Int):=by omega
       obtain⟨be,oe,y,rfl,hbe,hy,-,e0,e1,e2⟩:=T3Mem.cells (k:=m) (E6.out.to (OI.out.fromB (B:=B2) (λ k hk=>(HSM.out k hk).2))).is hm
       have b12:=blk_off B12 OI.out (λ h=>by have:=HSM.out _ h;omega)
       have l0:=(b12.at_ (k:=0) (v:=.int .i64 q'.now) rfl).1
       have ltg:=b12.lt
       have HY:=hid hy
       have hown:=HI.out
       have hL:(H++happ j ψ.now (ev.take m)).length<=20001:=by
        have q1:=HG.out.few
        have q2:=htl.out
        have q3:ev.length<=1:=by rcases HBO.out.few with h | ⟨_,h⟩<;>rw [h]<;>simp
        rw [List.length_append]
        unfold happ
        rw [List.length_map,List.length_take]
        omega
       have kI:K2<=wr.heap.size:=by have:=OI.out.1;omega
       obtain⟨HH,hHH⟩:∃ HH,H++happ j ψ.now (ev.take m)=HH:=⟨_,rfl⟩
       rw [hHH] at hown hL
       have HHH:=hid hHH
       clear hHH HI
       clear hy b12
       go_wp2_with (at_builtin;refine wpList_append_hps rfl (.tmp 46) (.tmp 52) [((j:Int),q'.now,y)] rfl rfl rfl (w:=(wr.alloc (.cells #[.int .i64 y.1,.int .i64 y.2.1,.int .i64 y.2.2] 40)).alloc (.cells #[.int .i64 (j:Int),.int .i64 q'.now,.int .i64 y.1,.int .i64 y.2.1,.int .i64 y.2.2] 77)) (base:=K2) ((hown.alloc _).alloc _) rfl (by decide) (World.news_of_block (cs:=#[.int .i64 (j:Int),.int .i64 q'.now,.int .i64 y.1,.int .i64 y.2.1,.int .i64 y.2.2]) (t:=77) (fr:=(0,0)) (new2 wr _ _ _)) (by omega) ?c5 ?_)
       case c5=>first | omega | (simp only [World.size_alloc];omega)
       intro v' w7 HI2 hgrow hwh
       have hR:=λ k=>hown.lt k
       replace HI2:HOwn w7 K2 v' (H++happ j ψ.now (ev.take (m+1))):=by
        have e1:H++happ j ψ.now (ev.take (m+1))=HH++[((j:Int),q'.now,y)]:=by
         rw [<- HHH.out,hnow.out,List.append_assoc,List.take_add_one,HY.out]
         unfold happ
         rw [List.map_append]
         rfl
        rw [e1]
        exact HI2
       have O2:=(OI.out.trans (Off.gr (((Gr.refl wr).al (.cells #[.int .i64 y.1,.int .i64 y.2.1,.int .i64 y.2.2] 40)).al (.cells #[.int .i64 (j:Int),.int .i64 q'.now,.int .i64 y.1,.int .i64 y.2.1,.int .i64 y.2.2] 77)))).join (Off.gb (S:=λ k=>u9.ownBlock=some k) hgrow λ k hk=>hk) (λ k h1 h2=>(RI.out k h2).resolve_right (by omega))
       have G2:=((GI.out.al (.cells #[.int .i64 y.1,.int .i64 y.2.1,.int .i64 y.2.2] 40)).al (.cells #[.int .i64 (j:Int),.int .i64 q'.now,.int .i64 y.1,.int .i64 y.2.1,.int .i64 y.2.2] 77)).gb hgrow (λ k hk=>by have q1:=(hR k hk).1;have q2:=ZB.out;have q3:=KN.out;omega)
       have R2:∀ k,v'.ownBlock=some k->av0.ownBlock=some k\/V6.heap.size<=k:=λ k hk=>by
        rcases hwh k hk with h | h
        . exact RI.out k h
        . try simp only [World.size_alloc] at h
          have:=OI.out.1
          exact .inr (by omega)
       clear hgrow hwh hown hR e0 e1 e2 l0 ltg hbe
       go_wp2_with fail
       go_roundw
       case rel=>exact⟨m+1,by omega,by go_num,hid HI2,hid O2,hid G2,hid R2⟩
       case measure=>simp [intOf];omega
     . have e9:ev.take m=ev:=List.take_of_length_le (by omega)
       have hmn':m=n':=by omega
       subst hmn'
       have hzb:=ZB.out
       have hkn:=KN.out
       have hkc:=KC.out
       have b12:=blk_off B12 OI.out (λ h=>by have:=HSM.out _ h;omega)
       have bn:=blk_off BQ6.out OI.out (λ h=>by have:=HSM.out _ h;omega)
       have bz:=blk_off BZ6.out OI.out (λ h=>by have:=HSM.out _ h;omega)
       have cb:=obj_off CB6.out OI.out (λ h=>by have:=HSM.out _ h;omega)
       have wq:=((WQ6.out.sub (S':=λ k=>(k<B1\/k=gN\/k=ch\/av0.ownBlock=some k)\/V6.heap.size<=k) (λ k h1 h2=>h2.resolve_right (by omega))).to (OI.out.mono λ k _ h=>.inl (.inr (.inr (.inr h))))).sub (S':=λ k=>k<B1\/k=gN\/k=ch\/u9.ownBlock=some k)
        (λ k _ h=>h.elim (λ h=>.inl (.inl h)) λ h=>h.elim (λ h=>.inl (.inr (.inl h))) λ h=>h.elim (λ h=>.inl (.inr (.inr (.inl h)))) λ h=>(RI.out k h).elim (λ h=>.inl (.inr (.inr (.inr h)))) λ h=>.inr h)
       have hI:=HI.out
       rw [e9] at hI
       have hR:=λ k=>hI.lt k
       have sz1:=OI.out.1
       have BF:=hid (put6_blk bn rfl (.int .i64 q'.now) (.slice q'.p.A q'.p.n q'.p.c) (.slice q'.c.A q'.c.n q'.c.c) (.slice q'.m.A q'.m.n q'.m.c) (.slice q'.t.A q'.t.n q'.t.c) (.int .i64 q'.stop))
       have ZF:=hid (blk_off bz (off6 (S:=λ k=>k=gN) rfl (.int .i64 q'.now) (.slice q'.p.A q'.p.n q'.p.c) (.slice q'.c.A q'.c.n q'.c.c) (.slice q'.m.A q'.m.n q'.m.c) (.slice q'.t.A q'.t.n q'.t.c) (.int .i64 q'.stop)) (by omega))
       have CF:=hid (obj_off cb (off6 (S:=λ k=>k=gN) rfl (.int .i64 q'.now) (.slice q'.p.A q'.p.n q'.p.c) (.slice q'.c.A q'.c.n q'.c.c) (.slice q'.m.A q'.m.n q'.m.c) (.slice q'.t.A q'.t.n q'.t.c) (.int .i64 q'.stop)) (by omega))
       have WF:=hid (wq.to (off6 (S:=λ k=>k<B1\/k=gN\/k=ch\/u9.ownBlock=some k) (.inr (.inl rfl)) (.int .i64 q'.now) (.slice q'.p.A q'.p.n q'.p.c) (.slice q'.c.A q'.c.n q'.c.c) (.slice q'.m.A q'.m.n q'.m.c) (.slice q'.t.A q'.t.n q'.t.c) (.int .i64 q'.stop)))
       have OF:=hid (own_off hI (off6 (S:=λ k=>k=gN) rfl (.int .i64 q'.now) (.slice q'.p.A q'.p.n q'.p.c) (.slice q'.c.A q'.c.n q'.c.c) (.slice q'.m.A q'.m.n q'.m.c) (.slice q'.t.A q'.t.n q'.t.c) (.int .i64 q'.stop)) (λ k h1 h2=>by have:=hR k h1;omega))
       have GF:=hid (put6_gr (x0:=.int .i64 q'.now) (x1:=.slice q'.p.A q'.p.n q'.p.c) (x2:=.slice q'.c.A q'.c.n q'.c.c) (x3:=.slice q'.m.A q'.m.n q'.m.c) (x4:=.slice q'.t.A q'.t.n q'.t.c) (x5:=.int .i64 q'.stop) (b:=gN) GI.out (by omega))
       have SF:=hid (show K2<=_ from Nat.le_trans (show K2<=wr.heap.size by omega) (off6 (S:=λ k=>k=gN) (W:=wr) rfl (.int .i64 q'.now) (.slice q'.p.A q'.p.n q'.p.c) (.slice q'.c.A q'.c.n q'.c.c) (.slice q'.m.A q'.m.n q'.m.c) (.slice q'.t.A q'.t.n q'.t.c) (.int .i64 q'.stop)).1)
       have GV:=hid (show GoW ω ((L.map rd).take (j+1)) ψ (H++happ j ψ.now ev) by have:=GoW.snoc HG.out HBO.out;rw [<- HTK.out,htl.out] at this;exact this)
       have ltn:=bn.lt
       have lt12:=b12.lt
       have hne:g12≠gN:=by omega
       obtain⟨n0,nz0⟩:=bn.at_ (k:=0) (v:=.int .i64 q.now) rfl
       obtain⟨n1,nz1⟩:=bn.at_ (k:=1) (v:=.slice q.p.A q.p.n q.p.c) rfl
       obtain⟨n2,nz2⟩:=bn.at_ (k:=2) (v:=.slice q.c.A q.c.n q.c.c) rfl
       obtain⟨n3,nz3⟩:=bn.at_ (k:=3) (v:=.slice q.m.A q.m.n q.m.c) rfl
       obtain⟨n4,nz4⟩:=bn.at_ (k:=4) (v:=.slice q.t.A q.t.n q.t.c) rfl
       obtain⟨n5,nz5⟩:=bn.at_ (k:=5) (v:=.int .i64 q.stop) rfl
       obtain⟨d0,dz0⟩:=b12.at_ (k:=0) (v:=.int .i64 q'.now) rfl
       obtain⟨d1,dz1⟩:=b12.at_ (k:=1) (v:=.slice q'.p.A q'.p.n q'.p.c) rfl
       obtain⟨d2,dz2⟩:=b12.at_ (k:=2) (v:=.slice q'.c.A q'.c.n q'.c.c) rfl
       obtain⟨d3,dz3⟩:=b12.at_ (k:=3) (v:=.slice q'.m.A q'.m.n q'.m.c) rfl
       obtain⟨d4,dz4⟩:=b12.at_ (k:=4) (v:=.slice q'.t.A q'.t.n q'.t.c) rfl
       obtain⟨d5,dz5⟩:=b12.at_ (k:=5) (v:=.int .i64 q'.stop) rfl
       clear cb wq hI hR sz1 b12 bz e9 HI WQ6 CB6 HBO
       go_wp2_with fail
       go_roundw
       case rel=>exact⟨j+1,ψ,H++happ j ψ.now ev,q',by omega,by go_num,GV,BF,ZF,WF,OF,GF,SF,CF⟩
       case measure=>simp [intOf];omega
  . have hjn':j=n:=by omega
    subst hjn'
    have hzb:=ZB.out
    have hkn:=KN.out
    have CB1:wr.heap[ch]?=some (.chan j #[] true j j false):=by have:=CB.out;rw [List.drop_of_length_le (by omega)] at this;exact this
    obtain⟨A9,c9,hv9⟩:=own_form HO.out
    subst hv9
    go_upto_region 9 with fail
    rename_i hK
    refine Runs.region ?_
    show Runs _ _ _ [0,1] _ _
    refine Runs.none 0 (c:=ch) (z:=.agg #[.int .i64 0,.int .i64 0]) (w₁:=wr) CB1 ?_
    refine Runs.val 1 (v:=.bool false) ?_
    refine Runs.of_wp (hK _ _ ?_)
    clear hK CB CB1
    have bn:=BQ.out
    have bz:=BZR.out
    have hR:=λ k=>HO.out.lt k
    have BF:=hid (put6_blk bz rfl (.int .i64 q.now) (.slice q.p.A q.p.n q.p.c) (.slice q.c.A q.c.n q.c.c) (.slice q.m.A q.m.n q.m.c) (.slice q.t.A q.t.n q.t.c) (.int .i64 q.stop))
    have WF:=hid ((WQ.out.to (off6 (S:=λ k=>k<B1\/k=gN\/k=ch\/(Value.slice A9 H.length c9).ownBlock=some k) (b:=w.heap.size+1) (.inl (by omega)) (.int .i64 q.now) (.slice q.p.A q.p.n q.p.c) (.slice q.c.A q.c.n q.c.c) (.slice q.m.A q.m.n q.m.c) (.slice q.t.A q.t.n q.t.c) (.int .i64 q.stop))).sub (S':=λ k=>k<w.heap.size\/(Value.slice A9 H.length c9).ownBlock=some k) (λ k _ h=>h.elim (λ h=>.inl (by omega)) λ h=>.inr (.inr (.inr h))))
    have OF:=hid (own_low (own_off HO.out (off6 (S:=λ k=>k=w.heap.size+1) rfl (.int .i64 q.now) (.slice q.p.A q.p.n q.p.c) (.slice q.c.A q.c.n q.c.c) (.slice q.m.A q.m.n q.m.c) (.slice q.t.A q.t.n q.t.c) (.int .i64 q.stop)) (λ k h1 h2=>by have:=hR k h1;omega)) (show w.heap.size<=K2 by omega))
    have GF:=hid (put6_gr (x0:=.int .i64 q.now) (x1:=.slice q.p.A q.p.n q.p.c) (x2:=.slice q.c.A q.c.n q.c.c) (x3:=.slice q.m.A q.m.n q.m.c) (x4:=.slice q.t.A q.t.n q.t.c) (x5:=.int .i64 q.stop) (b:=w.heap.size+1) GW.out (by omega))
    have GV:=hid (show GoW ω (L.map rd) χ H by have:=HG.out;rwa [List.take_of_length_le (by rw [List.length_map];omega)] at this)
    have ltn:=bn.lt
    have ltz:=bz.lt
    obtain⟨q0,-⟩:=bn.at_ (k:=0) (v:=.int .i64 q.now) rfl
    obtain⟨q1,-⟩:=bn.at_ (k:=1) (v:=.slice q.p.A q.p.n q.p.c) rfl
    obtain⟨q2,-⟩:=bn.at_ (k:=2) (v:=.slice q.c.A q.c.n q.c.c) rfl
    obtain⟨q3,-⟩:=bn.at_ (k:=3) (v:=.slice q.m.A q.m.n q.m.c) rfl
    obtain⟨q4,-⟩:=bn.at_ (k:=4) (v:=.slice q.t.A q.t.n q.t.c) rfl
    obtain⟨q5,-⟩:=bn.at_ (k:=5) (v:=.int .i64 q.stop) rfl
    obtain⟨z0,zz0⟩:=bz.at_ (k:=0) (v:=.int .i64 0) rfl
    obtain⟨z1,zz1⟩:=bz.at_ (k:=1) (v:=.slice none 0 0) rfl
    obtain⟨z2,zz2⟩:=bz.at_ (k:=2) (v:=.slice none 0 0) rfl
    obtain⟨z3,zz3⟩:=bz.at_ (k:=3) (v:=.slice none 0 0) rfl
    obtain⟨z4,zz4⟩:=bz.at_ (k:=4) (v:=.slice none 0 0) rfl
    obtain⟨z5,zz5⟩:=bz.at_ (k:=5) (v:=.int .i64 0) rfl
    clear bn bz HG HO WQ BQ BZR GW KW hR hzb hkn
    go_wp2_with fail
    clear ltn ltz q0 q1 q2 q3 q4 q5 z0 zz0 z1 zz1 z2 zz2 z3 zz3 z4 zz4 z5 zz5
    generalize (((((wr.setCell ⟨w.heap.size+1,0,none⟩ (.int .i64 q.now)).setCell ⟨w.heap.size+1,1,none⟩ (.slice q.p.A q.p.n q.p.c)).setCell ⟨w.heap.size+1,2,none⟩ (.slice q.c.A q.c.n q.c.c)).setCell ⟨w.heap.size+1,3,none⟩ (.slice q.m.A q.m.n q.m.c)).setCell ⟨w.heap.size+1,4,none⟩ (.slice q.t.A q.t.n q.t.c)).setCell ⟨w.heap.size+1,5,none⟩ (.int .i64 q.stop)=Wf at BF WF OF GF ⊢
    have f0:=(BF.out.at_ (k:=0) (v:=.int .i64 q.now) rfl).1
    have f1:=(BF.out.at_ (k:=1) (v:=.slice q.p.A q.p.n q.p.c) rfl).1
    have f2:=(BF.out.at_ (k:=2) (v:=.slice q.c.A q.c.n q.c.c) rfl).1
    have f3:=(BF.out.at_ (k:=3) (v:=.slice q.m.A q.m.n q.m.c) rfl).1
    have f4:=(BF.out.at_ (k:=4) (v:=.slice q.t.A q.t.n q.t.c) rfl).1
    have f5:=(BF.out.at_ (k:=5) (v:=.int .i64 q.stop) rfl).1
    exact bodyPost_ret (v:=.tuple #[q.v,.slice A9 H.length c9,.int .i64 0]) (by simp [results,Tryz.results28,go_sem,f0,f1,f2,f3,f4,f5,WR.v]) rfl
     ⟨⟨q,χ,A9,H.length,c9,H,0,rfl,.inr (.inr ⟨by omega,hr,GV.out,rfl⟩),WF.out,OF.out,rfl⟩,GF.out⟩
end
end P17
end
section
open Go.Conc Go.ChangeShapes Go.WideShapes Go.ChangeAt Go.RowKit
namespace P17
open P16
def zeroR:WR:=⟨0,⟨none,0,0⟩,⟨none,0,0⟩,⟨none,0,0⟩,⟨none,0,0⟩,0⟩
section
variable {w:World} {r:WR} {ω:Wv} {A:Option Addr} {n c:Nat} {L:List Int}
theorem zeroR_off {S:Nat->Prop} {W:World}:WOff S W zeroR zeroW:=λ W' _=>zeroW_is W'
theorem go_long (h:WIs w r ω) (hm:IMem w A n L) (hn:20000<n) :
 Calls Tryz.prog 28 #[r.v,.slice A n c] w (GoQ w ω L):=by
 have hlen:=hm.1
 have n1:(20000:Int)<(n:Int):=by omega
 have BZ:=Blk.new (w.alloc (.cells r.a 29)) #[.int .i64 0,.slice none 0 0,.slice none 0 0,.slice none 0 0,.slice none 0 0,.int .i64 0] 29
 rw [World.size_alloc] at BZ
 have G0:=hid (((Gr.refl w).al (.cells r.a 29)).al (.cells #[.int .i64 0,.slice none 0 0,.slice none 0 0,.slice none 0 0,.slice none 0 0,.int .i64 0] 29))
 go_enter Tryz.func28,Tryz.ntmps28
 go_upto_region 1 with fail
 generalize (w.alloc (.cells r.a 29)).alloc (.cells #[.int .i64 0,.slice none 0 0,.slice none 0 0,.slice none 0 0,.slice none 0 0,.int .i64 0] 29)=V at BZ G0 ⊢
 have ltz:=BZ.lt
 obtain⟨z0,zz0⟩:=BZ.at_ (k:=0) (v:=.int .i64 0) rfl
 obtain⟨z1,zz1⟩:=BZ.at_ (k:=1) (v:=.slice none 0 0) rfl
 obtain⟨z2,zz2⟩:=BZ.at_ (k:=2) (v:=.slice none 0 0) rfl
 obtain⟨z3,zz3⟩:=BZ.at_ (k:=3) (v:=.slice none 0 0) rfl
 obtain⟨z4,zz4⟩:=BZ.at_ (k:=4) (v:=.slice none 0 0) rfl
 obtain⟨z5,zz5⟩:=BZ.at_ (k:=5) (v:=.int .i64 0) rfl
 have BF:=hid (put6_blk BZ rfl (.int .i64 0) (.slice none 0 0) (.slice none 0 0) (.slice none 0 0) (.slice none 0 0) (.int .i64 0))
 have GF:=hid (put6_gr (x0:=.int .i64 0) (x1:=.slice none 0 0) (x2:=.slice none 0 0) (x3:=.slice none 0 0) (x4:=.slice none 0 0) (x5:=.int .i64 0) (b:=w.heap.size+1) G0.out (by omega))
 go_wp2_with fail
 clear z0 zz0 z1 zz1 z2 zz2 z3 zz3 z4 zz4 z5 zz5 ltz BZ
 generalize (((((V.setCell ⟨w.heap.size+1,0,none⟩ (.int .i64 0)).setCell ⟨w.heap.size+1,1,none⟩ (.slice none 0 0)).setCell ⟨w.heap.size+1,2,none⟩ (.slice none 0 0)).setCell ⟨w.heap.size+1,3,none⟩ (.slice none 0 0)).setCell ⟨w.heap.size+1,4,none⟩ (.slice none 0 0)).setCell ⟨w.heap.size+1,5,none⟩ (.int .i64 0)=Wf at BF GF ⊢
 have f0:=(BF.out.at_ (k:=0) (v:=.int .i64 0) rfl).1
 have f1:=(BF.out.at_ (k:=1) (v:=.slice none 0 0) rfl).1
 have f2:=(BF.out.at_ (k:=2) (v:=.slice none 0 0) rfl).1
 have f3:=(BF.out.at_ (k:=3) (v:=.slice none 0 0) rfl).1
 have f4:=(BF.out.at_ (k:=4) (v:=.slice none 0 0) rfl).1
 have f5:=(BF.out.at_ (k:=5) (v:=.int .i64 0) rfl).1
 exact bodyPost_ret (v:=.tuple #[zeroR.v,.slice none 0 0,.int .i64 2]) (by simp [results,Tryz.results28,go_sem,f0,f1,f2,f3,f4,f5,WR.v,zeroR]) rfl
  ⟨⟨zeroR,zeroW,none,0,0,[],2,rfl,.inl ⟨by omega,rfl,rfl,rfl⟩,zeroR_off,HOwn.nil _ _,rfl⟩,GF.out⟩
theorem go_wrong (h:WIs w r ω) (hm:IMem w A n L) (hn:n<=20000) (hr:¬ RightW ω) :
 Calls Tryz.prog 28 #[r.v,.slice A n c] w (GoQ w ω L):=by
 have hlen:=hm.1
 have cR:=λ W (g:Gr w W)=>hid (P16.Right_is (W:=W) (h.gr g) (v:=false) (by simp [hr]))
 have n1:¬ (20000:Int)<(n:Int):=by omega
 have BW:=(Blk.new w r.a 29).al (.cells #[.int .i64 0,.slice none 0 0,.slice none 0 0,.slice none 0 0,.slice none 0 0,.int .i64 0] 29)
 have BZ:=Blk.new (w.alloc (.cells r.a 29)) #[.int .i64 0,.slice none 0 0,.slice none 0 0,.slice none 0 0,.slice none 0 0,.int .i64 0] 29
 rw [World.size_alloc] at BZ
 have G0:=hid (((Gr.refl w).al (.cells r.a 29)).al (.cells #[.int .i64 0,.slice none 0 0,.slice none 0 0,.slice none 0 0,.slice none 0 0,.int .i64 0] 29))
 go_enter Tryz.func28,Tryz.ntmps28
 go_upto_region 1 with fail
 generalize (w.alloc (.cells r.a 29)).alloc (.cells #[.int .i64 0,.slice none 0 0,.slice none 0 0,.slice none 0 0,.slice none 0 0,.int .i64 0] 29)=V at BW BZ G0 ⊢
 have ltw:=BW.lt
 obtain⟨b0,bz0⟩:=BW.at_ (k:=0) (v:=.int .i64 r.now) rfl
 obtain⟨b1,bz1⟩:=BW.at_ (k:=1) (v:=.slice r.p.A r.p.n r.p.c) rfl
 obtain⟨b2,bz2⟩:=BW.at_ (k:=2) (v:=.slice r.c.A r.c.n r.c.c) rfl
 obtain⟨b3,bz3⟩:=BW.at_ (k:=3) (v:=.slice r.m.A r.m.n r.m.c) rfl
 obtain⟨b4,bz4⟩:=BW.at_ (k:=4) (v:=.slice r.t.A r.t.n r.t.c) rfl
 obtain⟨b5,bz5⟩:=BW.at_ (k:=5) (v:=.int .i64 r.stop) rfl
 replace cR:=cR V G0.out
 go_wp2_with fail
 with_reducible refine cR.out.mono ?_
 rintro e w1 ⟨rfl,g1⟩
 replace BZ:=BZ.gr g1
 have G1:=hid (G0.out.trans g1)
 clear b0 bz0 b1 bz1 b2 bz2 b3 bz3 b4 bz4 b5 bz5 ltw cR g1 G0 BW
 have ltz:=BZ.lt
 obtain⟨z0,zz0⟩:=BZ.at_ (k:=0) (v:=.int .i64 0) rfl
 obtain⟨z1,zz1⟩:=BZ.at_ (k:=1) (v:=.slice none 0 0) rfl
 obtain⟨z2,zz2⟩:=BZ.at_ (k:=2) (v:=.slice none 0 0) rfl
 obtain⟨z3,zz3⟩:=BZ.at_ (k:=3) (v:=.slice none 0 0) rfl
 obtain⟨z4,zz4⟩:=BZ.at_ (k:=4) (v:=.slice none 0 0) rfl
 obtain⟨z5,zz5⟩:=BZ.at_ (k:=5) (v:=.int .i64 0) rfl
 have BF:=hid (put6_blk BZ rfl (.int .i64 0) (.slice none 0 0) (.slice none 0 0) (.slice none 0 0) (.slice none 0 0) (.int .i64 0))
 have GF:=hid (put6_gr (x0:=.int .i64 0) (x1:=.slice none 0 0) (x2:=.slice none 0 0) (x3:=.slice none 0 0) (x4:=.slice none 0 0) (x5:=.int .i64 0) (b:=w.heap.size+1) G1.out (by omega))
 go_wp2_with fail
 clear z0 zz0 z1 zz1 z2 zz2 z3 zz3 z4 zz4 z5 zz5 ltz BZ
 generalize (((((w1.setCell ⟨w.heap.size+1,0,none⟩ (.int .i64 0)).setCell ⟨w.heap.size+1,1,none⟩ (.slice none 0 0)).setCell ⟨w.heap.size+1,2,none⟩ (.slice none 0 0)).setCell ⟨w.heap.size+1,3,none⟩ (.slice none 0 0)).setCell ⟨w.heap.size+1,4,none⟩ (.slice none 0 0)).setCell ⟨w.heap.size+1,5,none⟩ (.int .i64 0)=Wf at BF GF ⊢
 have f0:=(BF.out.at_ (k:=0) (v:=.int .i64 0) rfl).1
 have f1:=(BF.out.at_ (k:=1) (v:=.slice none 0 0) rfl).1
 have f2:=(BF.out.at_ (k:=2) (v:=.slice none 0 0) rfl).1
 have f3:=(BF.out.at_ (k:=3) (v:=.slice none 0 0) rfl).1
 have f4:=(BF.out.at_ (k:=4) (v:=.slice none 0 0) rfl).1
 have f5:=(BF.out.at_ (k:=5) (v:=.int .i64 0) rfl).1
 exact bodyPost_ret (v:=.tuple #[zeroR.v,.slice none 0 0,.int .i64 1]) (by simp [results,Tryz.results28,go_sem,f0,f1,f2,f3,f4,f5,WR.v,zeroR]) rfl
  ⟨⟨zeroR,zeroW,none,0,0,[],1,rfl,.inr (.inl ⟨by omega,hr,rfl,rfl,rfl⟩),zeroR_off,HOwn.nil _ _,rfl⟩,GF.out⟩
theorem Go_is (hM:Mach) (hg:P15.Glob w) (h:WIs w r ω) (hm:IMem w A n L):Calls Tryz.prog 28 #[r.v,.slice A n c] w (GoQ w ω L):=by
 by_cases hn:20000<n
 . exact go_long h hm hn
 . by_cases hr:RightW ω
   . exact go_goes hM hg h hm (by omega) hr
   . exact go_wrong h hm (by omega) hr
end
end P17
end
section
open Go.Conc Go.ChangeShapes Go.WideShapes Go.ChangeAt Go.RowKit
namespace P17
open P16
open P12 (PV PMem)
open P13 (rd)
def PlayR (l:List (List Ac)) (L:List Int) (ψ:Wv) (H:List Hp) (x:Int):Prop :=
 (20000<L.length/\ψ=zeroW/\H=[]/\x=2)\/(L.length<=20000/\P12.rightB l=false/\ψ=zeroW/\H=[]/\x=1)\/(L.length<=20000/\P12.rightB l=true/\GoW (newW l) (L.map rd) ψ H/\x=0)
def PlayQ (w:World) (l:List (List Ac)) (L:List Int) (e:Ending) (w':World):Prop :=
 (∃ (s:WR) (ψ:Wv) (A:Option Addr) (n c:Nat) (H:List Hp) (x:Int),e=.returned (.tuple #[s.v,.slice A n c,.int .i64 x])/\PlayR l L ψ H x /\
   WOff (λ k=>k<w.heap.size\/(Value.slice A n c).ownBlock=some k) w' s ψ/\HOwn w' w.heap.size (.slice A n c) H/\H.length=n)/\Gr w w'
section
variable {w:World} {A P:Option Addr} {n c m d:Nat} {L:List Int} {R:List PV}
theorem play_long (hm:IMem w A n L) (hn:20000<n):Calls Tryz.prog 26 #[.slice P m d,.slice A n c] w (PlayQ w (P12.pl R) L):=by
 have hlen:=hm.1
 have n1:(20000:Int)<(n:Int):=by omega
 have BZ:=Blk.new w #[.int .i64 0,.slice none 0 0,.slice none 0 0,.slice none 0 0,.slice none 0 0,.int .i64 0] 29
 have G0:=hid ((Gr.refl w).al (.cells #[.int .i64 0,.slice none 0 0,.slice none 0 0,.slice none 0 0,.slice none 0 0,.int .i64 0] 29))
 go_enter Tryz.func26,Tryz.ntmps26
 go_upto_region 1 with fail
 generalize w.alloc (.cells #[.int .i64 0,.slice none 0 0,.slice none 0 0,.slice none 0 0,.slice none 0 0,.int .i64 0] 29)=V at BZ G0 ⊢
 have ltz:=BZ.lt
 obtain⟨z0,zz0⟩:=BZ.at_ (k:=0) (v:=.int .i64 0) rfl
 obtain⟨z1,zz1⟩:=BZ.at_ (k:=1) (v:=.slice none 0 0) rfl
 obtain⟨z2,zz2⟩:=BZ.at_ (k:=2) (v:=.slice none 0 0) rfl
 obtain⟨z3,zz3⟩:=BZ.at_ (k:=3) (v:=.slice none 0 0) rfl
 obtain⟨z4,zz4⟩:=BZ.at_ (k:=4) (v:=.slice none 0 0) rfl
 obtain⟨z5,zz5⟩:=BZ.at_ (k:=5) (v:=.int .i64 0) rfl
 have BF:=hid (put6_blk BZ rfl (.int .i64 0) (.slice none 0 0) (.slice none 0 0) (.slice none 0 0) (.slice none 0 0) (.int .i64 0))
 have GF:=hid (put6_gr (x0:=.int .i64 0) (x1:=.slice none 0 0) (x2:=.slice none 0 0) (x3:=.slice none 0 0) (x4:=.slice none 0 0) (x5:=.int .i64 0) (b:=w.heap.size) G0.out (Nat.le_refl _))
 go_wp2_with fail
 clear z0 zz0 z1 zz1 z2 zz2 z3 zz3 z4 zz4 z5 zz5 ltz BZ
 generalize (((((V.setCell ⟨w.heap.size,0,none⟩ (.int .i64 0)).setCell ⟨w.heap.size,1,none⟩ (.slice none 0 0)).setCell ⟨w.heap.size,2,none⟩ (.slice none 0 0)).setCell ⟨w.heap.size,3,none⟩ (.slice none 0 0)).setCell ⟨w.heap.size,4,none⟩ (.slice none 0 0)).setCell ⟨w.heap.size,5,none⟩ (.int .i64 0)=Wf at BF GF ⊢
 have f0:=(BF.out.at_ (k:=0) (v:=.int .i64 0) rfl).1
 have f1:=(BF.out.at_ (k:=1) (v:=.slice none 0 0) rfl).1
 have f2:=(BF.out.at_ (k:=2) (v:=.slice none 0 0) rfl).1
 have f3:=(BF.out.at_ (k:=3) (v:=.slice none 0 0) rfl).1
 have f4:=(BF.out.at_ (k:=4) (v:=.slice none 0 0) rfl).1
 have f5:=(BF.out.at_ (k:=5) (v:=.int .i64 0) rfl).1
 exact bodyPost_ret (v:=.tuple #[zeroR.v,.slice none 0 0,.int .i64 2]) (by simp [results,Tryz.results26,go_sem,f0,f1,f2,f3,f4,f5,WR.v,zeroR]) rfl
  ⟨⟨zeroR,zeroW,none,0,0,[],2,rfl,.inl ⟨by omega,rfl,rfl,rfl⟩,zeroR_off,HOwn.nil _ _,rfl⟩,GF.out⟩
theorem play_short (hM:Mach) (hg:P15.Glob w) (hP:PMem w P m R) (hp:m<=9223372036854775807) (hm:IMem w A n L) (hn:n<=20000):Calls Tryz.prog 26 #[.slice P m d,.slice A n c] w (PlayQ w (P12.pl R) L):=by
 have hlen:=hm.1
 have n1:¬ (20000:Int)<(n:Int):=by omega
 have BZ:=Blk.new w #[.int .i64 0,.slice none 0 0,.slice none 0 0,.slice none 0 0,.slice none 0 0,.int .i64 0] 29
 have G0:=hid ((Gr.refl w).al (.cells #[.int .i64 0,.slice none 0 0,.slice none 0 0,.slice none 0 0,.slice none 0 0,.int .i64 0] 29))
 have HM:=hid hm
 have HP:=hid hP
 clear hm hP
 go_enter Tryz.func26,Tryz.ntmps26
 go_upto_region 3 with fail
 generalize w.alloc (.cells #[.int .i64 0,.slice none 0 0,.slice none 0 0,.slice none 0 0,.slice none 0 0,.int .i64 0] 29)=V at BZ G0 ⊢
 have cN:=hid (hM.new V P m d R (hg.gr G0.out) (HP.out.gr G0.out) hp)
 go_wp2_with fail
 with_reducible refine cN.out.mono ?_
 rintro e w2 ⟨⟨s,ω,x,rfl,hN,hW⟩,g2⟩
 have BS:=Blk.new w2 s.a 29
 replace BZ:=(BZ.gr g2).al (.cells s.a 29)
 have G3:=hid ((G0.out.trans g2).al (.cells s.a 29))
 have W3':=hid ((hW.is).gr ((Gr.refl w2).al (.cells s.a 29)))
 have k2:=g2.size
 clear cN hW g2
 go_upto_region 4 with fail
 generalize w2.alloc (.cells s.a 29)=W3 at BS BZ G3 W3' ⊢
 generalize w2.heap.size=gs at BS k2 ⊢
 rcases hN with ⟨hr,rfl,rfl⟩ | ⟨hr,rfl,rfl⟩
 . have ltb:=BS.lt
   have ltz0:=BZ.lt
   obtain⟨b0,bz0⟩:=BS.at_ (k:=0) (v:=.int .i64 s.now) rfl
   obtain⟨b1,bz1⟩:=BS.at_ (k:=1) (v:=.slice s.p.A s.p.n s.p.c) rfl
   obtain⟨b2,bz2⟩:=BS.at_ (k:=2) (v:=.slice s.c.A s.c.n s.c.c) rfl
   obtain⟨b3,bz3⟩:=BS.at_ (k:=3) (v:=.slice s.m.A s.m.n s.m.c) rfl
   obtain⟨b4,bz4⟩:=BS.at_ (k:=4) (v:=.slice s.t.A s.t.n s.t.c) rfl
   obtain⟨b5,bz5⟩:=BS.at_ (k:=5) (v:=.int .i64 s.stop) rfl
   have cG:=hid (Go_is (c:=c) hM (hg.gr G3.out) W3'.out (HM.out.gr G3.out))
   go_wp2_with fail
   with_reducible refine cG.out.mono ?_
   rintro e w4 ⟨⟨q,ψ,B,k,f,H,x,rfl,hR,hO,hH,hk⟩,g4⟩
   replace BZ:=BZ.gr g4
   have G4:=hid (G3.out.trans g4)
   have hrow:=λ j=>hH.lt j
   clear b0 bz0 b1 bz1 b2 bz2 b3 bz3 b4 bz4 b5 bz5 ltb cG BS g4
   have BF:=hid (put6_blk BZ rfl (.int .i64 q.now) (.slice q.p.A q.p.n q.p.c) (.slice q.c.A q.c.n q.c.c) (.slice q.m.A q.m.n q.m.c) (.slice q.t.A q.t.n q.t.c) (.int .i64 q.stop))
   have GF:=hid (put6_gr (x0:=.int .i64 q.now) (x1:=.slice q.p.A q.p.n q.p.c) (x2:=.slice q.c.A q.c.n q.c.c) (x3:=.slice q.m.A q.m.n q.m.c) (x4:=.slice q.t.A q.t.n q.t.c) (x5:=.int .i64 q.stop) (b:=w.heap.size) G4.out (Nat.le_refl _))
   have WF:=hid ((hO.to (off6 (S:=λ j=>j<W3.heap.size\/(Value.slice B k f).ownBlock=some j) (b:=w.heap.size) (.inl ltz0) (.int .i64 q.now) (.slice q.p.A q.p.n q.p.c) (.slice q.c.A q.c.n q.c.c) (.slice q.m.A q.m.n q.m.c) (.slice q.t.A q.t.n q.t.c) (.int .i64 q.stop))).sub (S':=λ j=>j<w.heap.size\/(Value.slice B k f).ownBlock=some j) (λ j _ h=>h.elim (λ h=>.inl (by omega)) .inr))
   have OF:=hid (own_low (own_off hH (off6 (S:=λ j=>j=w.heap.size) rfl (.int .i64 q.now) (.slice q.p.A q.p.n q.p.c) (.slice q.c.A q.c.n q.c.c) (.slice q.m.A q.m.n q.m.c) (.slice q.t.A q.t.n q.t.c) (.int .i64 q.stop)) (λ j h1 h2=>by have:=hrow j h1;omega)) (show w.heap.size<=W3.heap.size by omega))
   have GV:PlayR (P12.pl R) L ψ H x:=by
    rcases hR with ⟨h1,_⟩ | ⟨_,h1,_⟩ | ⟨h1,_,h2,h3⟩
    . omega
    . exact absurd (new_right hr) h1
    . exact .inr (.inr ⟨h1,hr,h2,h3⟩)
   have ltz:=BZ.lt
   obtain⟨z0,zz0⟩:=BZ.at_ (k:=0) (v:=.int .i64 0) rfl
   obtain⟨z1,zz1⟩:=BZ.at_ (k:=1) (v:=.slice none 0 0) rfl
   obtain⟨z2,zz2⟩:=BZ.at_ (k:=2) (v:=.slice none 0 0) rfl
   obtain⟨z3,zz3⟩:=BZ.at_ (k:=3) (v:=.slice none 0 0) rfl
   obtain⟨z4,zz4⟩:=BZ.at_ (k:=4) (v:=.slice none 0 0) rfl
   obtain⟨z5,zz5⟩:=BZ.at_ (k:=5) (v:=.int .i64 0) rfl
   have HK:=hid hk
   clear hR hO hH BZ ltz0 hrow hk
   go_wp2_with fail
   clear z0 zz0 z1 zz1 z2 zz2 z3 zz3 z4 zz4 z5 zz5 ltz
   generalize (((((w4.setCell ⟨w.heap.size,0,none⟩ (.int .i64 q.now)).setCell ⟨w.heap.size,1,none⟩ (.slice q.p.A q.p.n q.p.c)).setCell ⟨w.heap.size,2,none⟩ (.slice q.c.A q.c.n q.c.c)).setCell ⟨w.heap.size,3,none⟩ (.slice q.m.A q.m.n q.m.c)).setCell ⟨w.heap.size,4,none⟩ (.slice q.t.A q.t.n q.t.c)).setCell ⟨w.heap.size,5,none⟩ (.int .i64 q.stop)=Wf at BF GF WF OF ⊢
   have f0:=(BF.out.at_ (k:=0) (v:=.int .i64 q.now) rfl).1
   have f1:=(BF.out.at_ (k:=1) (v:=.slice q.p.A q.p.n q.p.c) rfl).1
   have f2:=(BF.out.at_ (k:=2) (v:=.slice q.c.A q.c.n q.c.c) rfl).1
   have f3:=(BF.out.at_ (k:=3) (v:=.slice q.m.A q.m.n q.m.c) rfl).1
   have f4:=(BF.out.at_ (k:=4) (v:=.slice q.t.A q.t.n q.t.c) rfl).1
   have f5:=(BF.out.at_ (k:=5) (v:=.int .i64 q.stop) rfl).1
   exact bodyPost_ret (v:=.tuple #[q.v,.slice B k f,.int .i64 x]) (by simp [results,Tryz.results26,go_sem,f0,f1,f2,f3,f4,f5,WR.v]) rfl
    ⟨⟨q,ψ,B,k,f,H,x,rfl,GV,WF.out,OF.out,HK.out⟩,GF.out⟩
 . have ltz:=BZ.lt
   obtain⟨z0,zz0⟩:=BZ.at_ (k:=0) (v:=.int .i64 0) rfl
   obtain⟨z1,zz1⟩:=BZ.at_ (k:=1) (v:=.slice none 0 0) rfl
   obtain⟨z2,zz2⟩:=BZ.at_ (k:=2) (v:=.slice none 0 0) rfl
   obtain⟨z3,zz3⟩:=BZ.at_ (k:=3) (v:=.slice none 0 0) rfl
   obtain⟨z4,zz4⟩:=BZ.at_ (k:=4) (v:=.slice none 0 0) rfl
   obtain⟨z5,zz5⟩:=BZ.at_ (k:=5) (v:=.int .i64 0) rfl
   have BF:=hid (put6_blk BZ rfl (.int .i64 0) (.slice none 0 0) (.slice none 0 0) (.slice none 0 0) (.slice none 0 0) (.int .i64 0))
   have GF:=hid (put6_gr (x0:=.int .i64 0) (x1:=.slice none 0 0) (x2:=.slice none 0 0) (x3:=.slice none 0 0) (x4:=.slice none 0 0) (x5:=.int .i64 0) (b:=w.heap.size) G3.out (Nat.le_refl _))
   clear BS
   go_wp2_with fail
   clear z0 zz0 z1 zz1 z2 zz2 z3 zz3 z4 zz4 z5 zz5 ltz BZ
   generalize (((((W3.setCell ⟨w.heap.size,0,none⟩ (.int .i64 0)).setCell ⟨w.heap.size,1,none⟩ (.slice none 0 0)).setCell ⟨w.heap.size,2,none⟩ (.slice none 0 0)).setCell ⟨w.heap.size,3,none⟩ (.slice none 0 0)).setCell ⟨w.heap.size,4,none⟩ (.slice none 0 0)).setCell ⟨w.heap.size,5,none⟩ (.int .i64 0)=Wf at BF GF ⊢
   have f0:=(BF.out.at_ (k:=0) (v:=.int .i64 0) rfl).1
   have f1:=(BF.out.at_ (k:=1) (v:=.slice none 0 0) rfl).1
   have f2:=(BF.out.at_ (k:=2) (v:=.slice none 0 0) rfl).1
   have f3:=(BF.out.at_ (k:=3) (v:=.slice none 0 0) rfl).1
   have f4:=(BF.out.at_ (k:=4) (v:=.slice none 0 0) rfl).1
   have f5:=(BF.out.at_ (k:=5) (v:=.int .i64 0) rfl).1
   exact bodyPost_ret (v:=.tuple #[zeroR.v,.slice none 0 0,.int .i64 1]) (by simp [results,Tryz.results26,go_sem,f0,f1,f2,f3,f4,f5,WR.v,zeroR]) rfl
    ⟨⟨zeroR,zeroW,none,0,0,[],1,rfl,.inr (.inl ⟨by omega,hr,rfl,rfl,rfl⟩),zeroR_off,HOwn.nil _ _,rfl⟩,GF.out⟩
theorem Play_is (hM:Mach) (hg:P15.Glob w) (hP:PMem w P m R) (hp:m<=9223372036854775807) (hm:IMem w A n L):Calls Tryz.prog 26 #[.slice P m d,.slice A n c] w (PlayQ w (P12.pl R) L):=by
 by_cases hn:20000<n
 . exact play_long hm hn
 . exact play_short hM hg hP hp hm (by omega)
end
end P17
end
section
open Go.ChangeShapes Go.WideShapes Go.ChangeAt Go.RowKit
namespace P17
open P16
open P12 (PV PMem)
theorem imem_blk {w:World} {b:Nat} {l:List Int} {t:TypeId} (h:Blk w b (l.map λ x=>Value.int .i64 x).toArray t) (hb:∀ x∈l,B64 x):IMem w (some ⟨b,0,none⟩) l.length l :=
 ⟨rfl,hb,λ _=>⟨b,0,rfl,h.lt,λ j x hx=>by rw [Nat.zero_add];exact (h.at_ (by simp [hx])).1⟩⟩
theorem run_hp_eq (a b c d e:Int) (w:World):(binOp .eql 77 (.agg #[.int .i64 a,.int .i64 b,.int .i64 c,.int .i64 d,.int .i64 e]) (.agg #[.int .i64 a,.int .i64 b,.int .i64 c,.int .i64 d,.int .i64 e])).run Tryz.prog w=.ok (.bool true) w:=by
 go_simp
section
variable {w:World}
theorem alive17_is (hM:Mach) (hg:P15.Glob w):Calls Tryz.prog 27 #[] w λ e w'=>e=.returned (.bool true)/\Gr w w':=by
 have b0:=((Blk.new w #[.int .i64 0,.int .i64 0,.int .i64 2,.int .i64 0] 67).al (.cells #[.slice (some ⟨w.heap.size,0,none⟩) 2 2] 64)).al (.cells #[.int .i64 0,.int .i64 (-5),.int .i64 0] 3)
 have b1:=(Blk.new (w.alloc (.cells #[.int .i64 0,.int .i64 0,.int .i64 2,.int .i64 0] 67)) #[.slice (some ⟨w.heap.size,0,none⟩) 2 2] 64).al (.cells #[.int .i64 0,.int .i64 (-5),.int .i64 0] 3)
 have b2:=Blk.new ((w.alloc (.cells #[.int .i64 0,.int .i64 0,.int .i64 2,.int .i64 0] 67)).alloc (.cells #[.slice (some ⟨w.heap.size,0,none⟩) 2 2] 64)) #[.int .i64 0,.int .i64 (-5),.int .i64 0] 3
 have g1:=(((Gr.refl w).al (.cells #[.int .i64 0,.int .i64 0,.int .i64 2,.int .i64 0] 67)).al (.cells #[.slice (some ⟨w.heap.size,0,none⟩) 2 2] 64)).al (.cells #[.int .i64 0,.int .i64 (-5),.int .i64 0] 3)
 have hm:=P12.mem_blk b0 (l:=p0) rfl (by simp [Inb])
 have hP:=P12.pmem_one (x:=⟨some ⟨w.heap.size,0,none⟩,2,2,p0⟩) b1 ⟨hm,Nat.le_refl _,by show (2:Nat)<=9223372036854775807;decide⟩
 have hI:IMem _ _ 3 [0,-5,0]:=imem_blk (l:=[0,-5,0]) b2 (by simp [B64])
 rw [World.size_alloc] at hP
 simp only [World.size_alloc] at hI
 have cP:=hid (Play_is (c:=3) (d:=1) hM (hg.gr g1) hP (by decide) hI)
 have G1:=hid g1
 clear b0 b1 b2 hm hP hI g1
 go_enter Tryz.func27,Tryz.ntmps27
 go_wp2_with fail
 with_reducible refine cP.out.mono ?_
 rintro e w1 ⟨⟨s,ψ,A,n,c,H,x,rfl,hR,hW,hH,hn⟩,g2⟩
 obtain⟨rfl,h5,rfl⟩:x=0/\ψ.now=5/\H=[(0,0,0,0,0),(2,5,0,3,0)]:=by
  rcases hR with ⟨q,_⟩ | ⟨_,q,_⟩ | ⟨_,_,q,q2⟩
  . exact absurd q (by decide)
  . exact absurd (show P12.rightB [p0]=false from q) (by decide)
  . obtain⟨e1,e2⟩:=alive17 q
    exact⟨q2,e1,e2⟩
 obtain rfl:2=n:=hn
 have HS5:=hid (show s.now=5 from hW.is.now.trans h5)
 clear h5
 obtain⟨g,hA,-,hO⟩:=own_orow hpV_len hH (by decide)
 subst hA
 have f0:=(hO.at_ (i:=1) (x:=(2,5,0,3,0)) rfl (j:=0) (v:=.int .i64 2) rfl).1
 have f1:=(hO.at_ (i:=1) (x:=(2,5,0,3,0)) rfl (j:=1) (v:=.int .i64 5) rfl).1
 have f2:=(hO.at_ (i:=1) (x:=(2,5,0,3,0)) rfl (j:=2) (v:=.int .i64 0) rfl).1
 have f3:=(hO.at_ (i:=1) (x:=(2,5,0,3,0)) rfl (j:=3) (v:=.int .i64 3) rfl).1
 have f4:=(hO.at_ (i:=1) (x:=(2,5,0,3,0)) rfl (j:=4) (v:=.int .i64 0) rfl).1
 have hlt:=hO.lt
 have B:=Blk.new w1 s.a 29
 have G3:=hid ((G1.out.trans g2).al (.cells s.a 29))
 have g3:=(Gr.refl w1).al (.cells s.a 29)
 have hne:=run_hp_eq 2 5 0 3 0
 replace f0:=(g3.cell (p:=⟨g,5,none⟩) hlt).trans f0
 replace f1:=(g3.cell (p:=⟨g,6,none⟩) hlt).trans f1
 replace f2:=(g3.cell (p:=⟨g,7,none⟩) hlt).trans f2
 replace f3:=(g3.cell (p:=⟨g,8,none⟩) hlt).trans f3
 replace f4:=(g3.cell (p:=⟨g,9,none⟩) hlt).trans f4
 clear hR hW hH hO hlt g2 g3 cP G1
 go_upto_region 2 with fail
 generalize w1.alloc (.cells s.a 29)=W at B G3 f0 f1 f2 f3 f4 ⊢
 have lt:=B.lt
 have p0:=(B.at_ (k:=0) (v:=.int .i64 s.now) rfl).1
 rw [HS5.out] at p0
 go_wp2_with fail
 go_ret
 exact⟨rfl,G3.out⟩
end
end P17
end
end Go.Proofs.YtainfijdhcehlaaGreatDoor
