/-
  A part of the proof.
-/
import Derived.Test.YtainfijdhcehlaaGreatDoorQB3
import Derived.Test.YtainfijdhcehlaaGreatDoorQB10
import Derived.Test.YtainfijdhcehlaaGreatDoorQB13
import Derived.Test.YtainfijdhcehlaaGreatDoorQB15
import Derived.Test.YtainfijdhcehlaaGreatDoorQB17
import Derived.Test.YtainfijdhcehlaaGreatDoorQB24
import Derived.Test.YtainfijdhcehlaaGreatDoorQB25
import Derived.Test.YtainfijdhcehlaaGreatDoorQB26
import Derived.Laws.EntriesVeiled
set_option linter.unusedVariables false
set_option linter.unusedSimpArgs false
set_option maxRecDepth 100000
set_option maxHeartbeats 8000000
namespace Go.Proofs.YtainfijdhcehlaaGreatDoor
open Lib (hid)
section
open Go.ChangeShapes Go.WideShapes Go.ChangeAt Go.RowKit Go.Shelf
namespace P16
open P14 (pan)
open P12 (PV PMem)
section
variable {W:World} {r:WR} {ω:Wv}
theorem right_all {b1 b2 b5 b6 b7 b9:Bool} (N0:Hid (Blk (W.alloc (.cells r.a 29)) W.heap.size r.a 29))
 (c1:∀ W',Hid (Calls Tryz.prog 44 #[.int .i64 r.now] W' λ e w'=>e=.returned (.bool b1)/\Gr W' w'))
 (c2:∀ W',Gr W W'->Hid (Calls Tryz.prog 34 #[.slice r.p.A r.p.n r.p.c] W' λ e w'=>e=.returned (.bool b2)/\Gr W' w'))
 (c5:∀ W',Gr W W'->Hid (Calls Tryz.prog 67 #[.slice r.m.A r.m.n r.m.c,.func (.func 68) #[] #[]] W' λ e w'=>e=.returned (.bool (!b5))/\Gr W' w'))
 (c6:∀ W',Gr W W'->Hid (Calls Tryz.prog 69 #[.slice r.t.A r.t.n r.t.c,.int .i64 (r.c.n:Int)] W' λ e w'=>e=.returned (.bool b6)/\Gr W' w'))
 (c7:(r.c.n:Int)=(r.p.n:Int)->b2=true->∀ W',Gr W W'->Hid (Calls Tryz.prog 70 #[.slice r.c.A r.c.n r.c.c] W' λ e w'=>∃ G,e=.returned (.slice G r.c.n r.c.n)/\Gr W' w'/\Hid (∀ w'',Gr w' w''->Hid (Calls Tryz.prog 47 #[.slice G r.c.n r.c.n] w'' λ e w3=>e=.returned (.bool b7)/\Gr w'' w3))))
 (c9:(r.c.n:Int)=(r.p.n:Int)->b2=true->∀ W',Gr W W'->Hid (Calls Tryz.prog 71 #[.slice r.c.A r.c.n r.c.c,.slice r.p.A r.p.n r.p.c] W' λ e w'=>e=.returned (.bool b9)/\Gr W' w')) :
 Calls Tryz.prog 39 #[r.v] W λ e w'=>e=.returned (.bool (b1&&b2&&((r.c.n:Int)==(r.p.n:Int))&&((r.m.n:Int)==4)&&b5&&b6&&b7&&((r.stop==0)||(r.stop==11)||(r.stop==12))&&b9))/\Gr W w':=by
 have G0:Hid (Gr W _):=hid ((Gr.refl W).al (.cells r.a 29))
 go_enter Tryz.func39,Tryz.ntmps39
 go_wp2_with fail
 with_reducible refine (c1 _).out.mono ?_
 rintro e w1 ⟨rfl,g1⟩
 have X1:=hid (G0.out.trans g1)
 have D1:=hid g1
 clear g1
 have Bf:=N0.out.gr D1.out
 obtain⟨f10,-⟩:=Bf.at_ (k:=0) (v:=.int .i64 r.now) rfl
 obtain⟨f11,-⟩:=Bf.at_ (k:=1) (v:=.slice r.p.A r.p.n r.p.c) rfl
 obtain⟨f12,-⟩:=Bf.at_ (k:=2) (v:=.slice r.c.A r.c.n r.c.c) rfl
 obtain⟨f13,-⟩:=Bf.at_ (k:=3) (v:=.slice r.m.A r.m.n r.m.c) rfl
 obtain⟨f14,-⟩:=Bf.at_ (k:=4) (v:=.slice r.t.A r.t.n r.t.c) rfl
 obtain⟨f15,-⟩:=Bf.at_ (k:=5) (v:=.int .i64 r.stop) rfl
 clear Bf
 cases b1
 . go_wp2_with fail
   all_goals (go_ret;exact⟨by simp,X1.out⟩)
 . skip
   go_wp2_with fail
   with_reducible refine (c2 _ X1.out).out.mono ?_
   rintro e w2 ⟨rfl,g2⟩
   have X2:=hid (X1.out.trans g2)
   have D2:=hid (D1.out.trans g2)
   clear g2
   clear f10 f11 f12 f13 f14 f15
   have Bf:=N0.out.gr D2.out
   obtain⟨f20,-⟩:=Bf.at_ (k:=0) (v:=.int .i64 r.now) rfl
   obtain⟨f21,-⟩:=Bf.at_ (k:=1) (v:=.slice r.p.A r.p.n r.p.c) rfl
   obtain⟨f22,-⟩:=Bf.at_ (k:=2) (v:=.slice r.c.A r.c.n r.c.c) rfl
   obtain⟨f23,-⟩:=Bf.at_ (k:=3) (v:=.slice r.m.A r.m.n r.m.c) rfl
   obtain⟨f24,-⟩:=Bf.at_ (k:=4) (v:=.slice r.t.A r.t.n r.t.c) rfl
   obtain⟨f25,-⟩:=Bf.at_ (k:=5) (v:=.int .i64 r.stop) rfl
   clear Bf
   cases b2
   . go_wp2_with fail
     all_goals (go_ret;exact⟨by simp,X2.out⟩)
   . skip
     cases h3:((r.c.n:Int)==(r.p.n:Int))
     . go_wp2_with fail
       all_goals (go_ret;exact⟨by simp [*],X2.out⟩)
     . skip
       have q7:=c7 (by simpa using h3) rfl
       have q9:=c9 (by simpa using h3) rfl
       clear c7 c9
       cases h4:((r.m.n:Int)==4)
       . go_wp2_with fail
         all_goals (go_ret;exact⟨by simp [*],X2.out⟩)
       . skip
         go_wp2_with fail
         with_reducible refine (c5 _ X2.out).out.mono ?_
         rintro e w3 ⟨rfl,g3⟩
         have X3:=hid (X2.out.trans g3)
         have D3:=hid (D2.out.trans g3)
         clear g3
         clear f20 f21 f22 f23 f24 f25
         have Bf:=N0.out.gr D3.out
         obtain⟨f30,-⟩:=Bf.at_ (k:=0) (v:=.int .i64 r.now) rfl
         obtain⟨f31,-⟩:=Bf.at_ (k:=1) (v:=.slice r.p.A r.p.n r.p.c) rfl
         obtain⟨f32,-⟩:=Bf.at_ (k:=2) (v:=.slice r.c.A r.c.n r.c.c) rfl
         obtain⟨f33,-⟩:=Bf.at_ (k:=3) (v:=.slice r.m.A r.m.n r.m.c) rfl
         obtain⟨f34,-⟩:=Bf.at_ (k:=4) (v:=.slice r.t.A r.t.n r.t.c) rfl
         obtain⟨f35,-⟩:=Bf.at_ (k:=5) (v:=.int .i64 r.stop) rfl
         clear Bf
         cases b5
         . go_wp2_with fail
           all_goals (go_ret;exact⟨by simp,X3.out⟩)
         . skip
           go_wp2_with fail
           with_reducible refine (c6 _ X3.out).out.mono ?_
           rintro e w4 ⟨rfl,g4⟩
           have X4:=hid (X3.out.trans g4)
           have D4:=hid (D3.out.trans g4)
           clear g4
           clear f30 f31 f32 f33 f34 f35
           have Bf:=N0.out.gr D4.out
           obtain⟨f40,-⟩:=Bf.at_ (k:=0) (v:=.int .i64 r.now) rfl
           obtain⟨f41,-⟩:=Bf.at_ (k:=1) (v:=.slice r.p.A r.p.n r.p.c) rfl
           obtain⟨f42,-⟩:=Bf.at_ (k:=2) (v:=.slice r.c.A r.c.n r.c.c) rfl
           obtain⟨f43,-⟩:=Bf.at_ (k:=3) (v:=.slice r.m.A r.m.n r.m.c) rfl
           obtain⟨f44,-⟩:=Bf.at_ (k:=4) (v:=.slice r.t.A r.t.n r.t.c) rfl
           obtain⟨f45,-⟩:=Bf.at_ (k:=5) (v:=.int .i64 r.stop) rfl
           clear Bf
           cases b6
           . go_wp2_with fail
             all_goals (go_ret;exact⟨by simp,X4.out⟩)
           . skip
             go_wp2_with fail
             with_reducible refine (q7 _ X4.out).out.mono ?_
             rintro e w5 ⟨GA,rfl,g5,cp⟩
             have X5:=hid (X4.out.trans g5)
             have D5:=hid (D4.out.trans g5)
             clear g5
             clear f40 f41 f42 f43 f44 f45
             have Bf:=N0.out.gr D5.out
             obtain⟨f50,-⟩:=Bf.at_ (k:=0) (v:=.int .i64 r.now) rfl
             obtain⟨f51,-⟩:=Bf.at_ (k:=1) (v:=.slice r.p.A r.p.n r.p.c) rfl
             obtain⟨f52,-⟩:=Bf.at_ (k:=2) (v:=.slice r.c.A r.c.n r.c.c) rfl
             obtain⟨f53,-⟩:=Bf.at_ (k:=3) (v:=.slice r.m.A r.m.n r.m.c) rfl
             obtain⟨f54,-⟩:=Bf.at_ (k:=4) (v:=.slice r.t.A r.t.n r.t.c) rfl
             obtain⟨f55,-⟩:=Bf.at_ (k:=5) (v:=.int .i64 r.stop) rfl
             clear Bf
             go_wp2_with fail
             with_reducible refine (cp.out _ (Gr.refl _)).out.mono ?_
             rintro e w6 ⟨rfl,g6⟩
             have X6:=hid (X5.out.trans g6)
             have D6:=hid (D5.out.trans g6)
             clear g6
             clear f50 f51 f52 f53 f54 f55
             have Bf:=N0.out.gr D6.out
             obtain⟨f60,-⟩:=Bf.at_ (k:=0) (v:=.int .i64 r.now) rfl
             obtain⟨f61,-⟩:=Bf.at_ (k:=1) (v:=.slice r.p.A r.p.n r.p.c) rfl
             obtain⟨f62,-⟩:=Bf.at_ (k:=2) (v:=.slice r.c.A r.c.n r.c.c) rfl
             obtain⟨f63,-⟩:=Bf.at_ (k:=3) (v:=.slice r.m.A r.m.n r.m.c) rfl
             obtain⟨f64,-⟩:=Bf.at_ (k:=4) (v:=.slice r.t.A r.t.n r.t.c) rfl
             obtain⟨f65,-⟩:=Bf.at_ (k:=5) (v:=.int .i64 r.stop) rfl
             clear Bf
             cases b7
             . go_wp2_with fail
               all_goals (go_ret;exact⟨by simp,X6.out⟩)
             . skip
               cases h8:(r.stop==0)
               rotate_left
               . skip
                 go_wp2_with fail
                 with_reducible refine (q9 _ X6.out).out.mono ?_
                 rintro e w9 ⟨rfl,g9⟩
                 have X9:=hid (X6.out.trans g9)
                 have D9:=hid (D6.out.trans g9)
                 clear g9
                 clear f60 f61 f62 f63 f64 f65
                 have Bf:=N0.out.gr D9.out
                 obtain⟨f90,-⟩:=Bf.at_ (k:=0) (v:=.int .i64 r.now) rfl
                 obtain⟨f91,-⟩:=Bf.at_ (k:=1) (v:=.slice r.p.A r.p.n r.p.c) rfl
                 obtain⟨f92,-⟩:=Bf.at_ (k:=2) (v:=.slice r.c.A r.c.n r.c.c) rfl
                 obtain⟨f93,-⟩:=Bf.at_ (k:=3) (v:=.slice r.m.A r.m.n r.m.c) rfl
                 obtain⟨f94,-⟩:=Bf.at_ (k:=4) (v:=.slice r.t.A r.t.n r.t.c) rfl
                 obtain⟨f95,-⟩:=Bf.at_ (k:=5) (v:=.int .i64 r.stop) rfl
                 clear Bf
                 go_wp2_with fail
                 all_goals (go_ret;exact⟨by simp [*],X9.out⟩)
               . skip
                 cases h8b:(r.stop==11)
                 rotate_left
                 . skip
                   go_wp2_with fail
                   with_reducible refine (q9 _ X6.out).out.mono ?_
                   rintro e w9 ⟨rfl,g9⟩
                   have X9:=hid (X6.out.trans g9)
                   have D9:=hid (D6.out.trans g9)
                   clear g9
                   clear f60 f61 f62 f63 f64 f65
                   have Bf:=N0.out.gr D9.out
                   obtain⟨f90,-⟩:=Bf.at_ (k:=0) (v:=.int .i64 r.now) rfl
                   obtain⟨f91,-⟩:=Bf.at_ (k:=1) (v:=.slice r.p.A r.p.n r.p.c) rfl
                   obtain⟨f92,-⟩:=Bf.at_ (k:=2) (v:=.slice r.c.A r.c.n r.c.c) rfl
                   obtain⟨f93,-⟩:=Bf.at_ (k:=3) (v:=.slice r.m.A r.m.n r.m.c) rfl
                   obtain⟨f94,-⟩:=Bf.at_ (k:=4) (v:=.slice r.t.A r.t.n r.t.c) rfl
                   obtain⟨f95,-⟩:=Bf.at_ (k:=5) (v:=.int .i64 r.stop) rfl
                   clear Bf
                   go_wp2_with fail
                   all_goals (go_ret;exact⟨by simp [*],X9.out⟩)
                 . skip
                   cases h8c:(r.stop==12)
                   . go_wp2_with fail
                     all_goals (go_ret;exact⟨by simp [*],X6.out⟩)
                   . skip
                     go_wp2_with fail
                     with_reducible refine (q9 _ X6.out).out.mono ?_
                     rintro e w9 ⟨rfl,g9⟩
                     have X9:=hid (X6.out.trans g9)
                     have D9:=hid (D6.out.trans g9)
                     clear g9
                     clear f60 f61 f62 f63 f64 f65
                     have Bf:=N0.out.gr D9.out
                     obtain⟨f90,-⟩:=Bf.at_ (k:=0) (v:=.int .i64 r.now) rfl
                     obtain⟨f91,-⟩:=Bf.at_ (k:=1) (v:=.slice r.p.A r.p.n r.p.c) rfl
                     obtain⟨f92,-⟩:=Bf.at_ (k:=2) (v:=.slice r.c.A r.c.n r.c.c) rfl
                     obtain⟨f93,-⟩:=Bf.at_ (k:=3) (v:=.slice r.m.A r.m.n r.m.c) rfl
                     obtain⟨f94,-⟩:=Bf.at_ (k:=4) (v:=.slice r.t.A r.t.n r.t.c) rfl
                     obtain⟨f95,-⟩:=Bf.at_ (k:=5) (v:=.int .i64 r.stop) rfl
                     clear Bf
                     go_wp2_with fail
                     all_goals (go_ret;exact⟨by simp [*],X9.out⟩)
end
end P16
end
section
open Go.ChangeShapes Go.WideShapes Go.ChangeAt Go.RowKit Go.Shelf
namespace P16
open P12 (badAt badAt_is ret_bool)
section
variable {W w:World} {q:Nat} {N x:Int} {A:Option Addr} {n c:Nat} {l:List Int}
theorem strange_is (B:Blk W q #[.int .i64 N] 3) :
 Calls Tryz.prog 91 #[.int .i64 x,.pointer (some ⟨q,0,none⟩)] W λ e w'=>e=.returned (.bool (decide (N<=x)))/\w'=W:=by
 obtain⟨c0,-⟩:=B.at_ (k:=0) rfl
 go_enter Tryz.func91,Tryz.ntmps91
 go_wp2_with fail
 go_ret
 exact⟨rfl,rfl⟩
def okI (N:Int) (x:Int):Bool:=!decide (N<=x)
abbrev sf (q:Nat):Value:=.func (.func 91) #[] #[.pointer (some ⟨q,0,none⟩)]
theorem IndexFuncI_ok (B:Blk w q #[.int .i64 N] 3) (hm:IMem w A n l) (hn:n<=9223372036854775807) :
 Calls Tryz.prog 127 #[.slice A n c,sf q] w λ e w'=>e=.returned (.int .i64 (badAt (okI N) l 0))/\Gr w w':=by
 go_enter Tryz.func127,Tryz.ntmps127
 go_wp2_with fail
 go_loopw [8] (λ i wr=>∃ k:Nat,k<=n/\i=.int .i64 k/\Hid (badAt (okI N) (l.drop k) k=badAt (okI N) l 0)/\Gr w wr) (λ i _=>n-(intOf i).toNat)
 case atStart=>exact⟨0,Nat.zero_le _,rfl,hid rfl,Gr.refl _⟩
 case round =>
  obtain⟨k,hk,rfl,HB,hg⟩:=hrel
  by_cases hlt:k<n
  . obtain⟨b,off,rfl,hbl,hc⟩:=(hm.gr hg).2.2 (by omega)
    obtain⟨x,hx⟩:∃ x,l[k]?=some x:=⟨_,List.getElem?_eq_getElem (by have:=hm.1;omega)⟩
    have c0:=hc k x hx
    have hd:l.drop k=x::l.drop (k+1):=by
     obtain⟨hl,rfl⟩:=List.getElem?_eq_some_iff.1 hx
     exact List.drop_eq_getElem_cons hl
    have cc:=hid (strange_is (x:=x) (B.gr hg))
    cases hf:decide (N<=x)
    . have hr:Hid (badAt (okI N) (l.drop (k+1)) (k+1)=badAt (okI N) l 0):=hid (by rw [<- HB.out,hd];simp [badAt,okI,hf])
      rw [hf] at cc
      clear hd hf hx HB hm hc
      go_wp2_with fail
      with_reducible refine cc.out.mono ?_
      rintro e w1 ⟨rfl,rfl⟩
      go_wp2_with fail
      go_roundw
      case rel=>exact⟨k+1,by omega,by go_num,hr,hg⟩
      case measure=>simp [intOf];omega
    . have hr:badAt (okI N) l 0=(k:Int):=by rw [<- HB.out,hd];simp [badAt,okI,hf]
      have HR:=hid hr
      rw [hf] at cc
      clear hr hd hf hx HB hm hc
      go_wp2_with fail
      with_reducible refine cc.out.mono ?_
      rintro e w1 ⟨rfl,rfl⟩
      go_wp2_with fail
      go_ret
      rw [HR.out]
      exact⟨rfl,hg⟩
  . obtain rfl:k=n:=by omega
    have hr:badAt (okI N) l 0=-1:=by rw [<- HB.out,List.drop_of_length_le (by have:=hm.1;omega)];rfl
    have HR:=hid hr
    clear hr HB hm
    go_wp2_with fail
    go_ret
    rw [HR.out]
    exact⟨rfl,hg⟩
theorem ContainsFuncI_ok (B:Blk w q #[.int .i64 N] 3) (hm:IMem w A n l) (hn:n<=9223372036854775807) :
 Calls Tryz.prog 95 #[.slice A n c,sf q] w λ e w'=>e=.returned (.bool (!l.all (okI N)))/\Gr w w':=by
 have cc:=hid (IndexFuncI_ok (c:=c) B hm hn)
 have HB:=hid (badAt_is (okI N) l 0)
 generalize badAt (okI N) l 0=r at *
 go_enter Tryz.func95,Tryz.ntmps95
 go_wp2_with fail
 with_reducible refine cc.out.mono ?_
 rintro e w1 ⟨rfl,hb1⟩
 go_wp2_with fail
 go_ret
 exact⟨ret_bool HB.out,hb1⟩
end
section
variable {W w:World} {q p:Nat} {N:Int} {A:Option Addr} {n c:Nat} {l:List SV} {x:SV}
def okSp (N:Int) (x:SV):Bool:=decide (x.addr % 8=0)&&decide (x.addr<32)&&x.line.all (okI N)
theorem unfitS_is (B:Blk W q #[.int .i64 N] 3) (D:Blk W p #[sf q] 101) (h:x.ok W) (h0:0<=x.addr) (h1:x.addr<=9223372036854775807) :
 Calls Tryz.prog 94 #[.agg #[.int .i64 x.addr,.int .i64 x.cnt,.slice x.A x.n x.c],.pointer (some ⟨p,0,none⟩)] W λ e w'=>e=.returned (.bool (!okSp N x))/\Gr W w':=by
 have g1:=(Gr.refl W).al (.cells #[.int .i64 x.addr,.int .i64 x.cnt,.slice x.A x.n x.c] 91)
 have hl:x.n<=9223372036854775807:=by have:=h.2.2.2;omega
 have cc:=hid (ContainsFuncI_ok (c:=x.c) (B.gr g1) (h.2.2.1.gr g1) hl)
 have HG:=hid g1
 have hv:okSp N x=(decide (x.addr % 8=0)&&decide (x.addr / 8<4)&&x.line.all (okI N)):=by
  unfold okSp
  by_cases q:x.addr<32
  . have q2:x.addr / 8<4:=by omega
    simp [q,q2]
  . have q2:¬ x.addr / 8<4:=by omega
    simp [q,q2]
 obtain⟨L,hL⟩:∃ L,x.line.all (okI N)=L:=⟨_,rfl⟩
 rw [hL] at cc hv
 obtain⟨d0,-⟩:=D.at_ (k:=0) rfl
 have hW:=D.lt
 rw [hv]
 clear h g1 B D hL hv
 go_enter Tryz.func94,Tryz.ntmps94
 go_wp2_with fail
 all_goals first
  | (with_reducible refine cc.out.mono ?_
     rintro e w1 ⟨rfl,g2⟩
     go_wp2_with fail
     go_ret
     exact⟨ret_bool (by simp_all<;>(intro q;exfalso;omega)),HG.out.trans g2⟩)
  | (go_ret
     exact⟨ret_bool (by simp_all),HG.out⟩)
abbrev sg (p:Nat):Value:=.func (.func 94) #[] #[.pointer (some ⟨p,0,none⟩)]
theorem IndexFuncS_ok (B:Blk w q #[.int .i64 N] 3) (D:Blk w p #[sf q] 101) (hm:SMem w A n l) (hn:n<=9223372036854775807) (hk:∀ x∈l,0<=x.addr/\x.addr<=9223372036854775807) :
 Calls Tryz.prog 126 #[.slice A n c,sg p] w λ e w'=>e=.returned (.int .i64 (badAt (okSp N) l 0))/\Gr w w':=by
 go_enter Tryz.func126,Tryz.ntmps126
 go_wp2_with fail
 go_loopw [8] (λ i wr=>∃ k:Nat,k<=n/\i=.int .i64 k/\Hid (badAt (okSp N) (l.drop k) k=badAt (okSp N) l 0)/\Gr w wr) (λ i _=>n-(intOf i).toNat)
 case atStart=>exact⟨0,Nat.zero_le _,rfl,hid rfl,Gr.refl _⟩
 case round =>
  obtain⟨k,hkn,rfl,HB,hg⟩:=hrel
  by_cases hlt:k<n
  . obtain⟨b,off,x,rfl,hbl,hx,ho,c0,c1,c2⟩:=(hm.gr hg).at_ hlt
    have hd:l.drop k=x::l.drop (k+1):=by
     obtain⟨hl,rfl⟩:=List.getElem?_eq_some_iff.1 hx
     exact List.drop_eq_getElem_cons hl
    obtain⟨x0,x1⟩:=hk x (List.mem_of_getElem? hx)
    have cc:=hid (unfitS_is (B.gr hg) (D.gr hg) ho x0 x1)
    cases hf:okSp N x
    . have hr:badAt (okSp N) l 0=(k:Int):=by rw [<- HB.out,hd];simp [badAt,hf]
      have HR:=hid hr
      rw [hf] at cc
      clear hr hd hf hx HB hm hk ho x0 x1 B D
      go_wp2_with fail
      with_reducible refine cc.out.mono ?_
      rintro e w1 ⟨rfl,g2⟩
      go_wp2_with fail
      go_ret
      rw [HR.out]
      exact⟨rfl,hg.trans g2⟩
    . have hr:Hid (badAt (okSp N) (l.drop (k+1)) (k+1)=badAt (okSp N) l 0):=hid (by rw [<- HB.out,hd];simp [badAt,hf])
      rw [hf] at cc
      clear hd hf hx HB hm hk ho x0 x1 B D
      go_wp2_with fail
      with_reducible refine cc.out.mono ?_
      rintro e w1 ⟨rfl,g2⟩
      go_wp2_with fail
      go_roundw
      case rel=>exact⟨k+1,by omega,by go_num,hr,hg.trans g2⟩
      case measure=>simp [intOf];omega
  . obtain rfl:k=n:=by omega
    have hr:badAt (okSp N) l 0=-1:=by rw [<- HB.out,List.drop_of_length_le (by have:=hm.1;omega)];rfl
    have HR:=hid hr
    clear hr HB hm hk
    go_wp2_with fail
    go_ret
    rw [HR.out]
    exact⟨rfl,hg⟩
theorem ContainsFuncS_ok (B:Blk w q #[.int .i64 N] 3) (D:Blk w p #[sf q] 101) (hm:SMem w A n l) (hn:n<=9223372036854775807) (hk:∀ x∈l,0<=x.addr/\x.addr<=9223372036854775807) :
 Calls Tryz.prog 93 #[.slice A n c,sg p] w λ e w'=>e=.returned (.bool (!l.all (okSp N)))/\Gr w w':=by
 have cc:=hid (IndexFuncS_ok (c:=c) B D hm hn hk)
 have HB:=hid (badAt_is (okSp N) l 0)
 generalize badAt (okSp N) l 0=r at *
 go_enter Tryz.func93,Tryz.ntmps93
 go_wp2_with fail
 with_reducible refine cc.out.mono ?_
 rintro e w1 ⟨rfl,hb1⟩
 go_wp2_with fail
 go_ret
 exact⟨ret_bool HB.out,hb1⟩
theorem rightTable_is (hm:SMem w A n l) (hn:n<=9223372036854775807) (hk:Tab l->∀ x∈l,0<=x.addr/\x.addr<=9223372036854775807) {v:Bool} (hv:v=true↔Tab l/\l.all (okSp N)=true) :
 Calls Tryz.prog 69 #[.slice A n c,.int .i64 N] w λ e w'=>e=.returned (.bool v)/\Gr w w':=by
 have hmf:=mkF
 have g1:=((Gr.refl w).al (.cells #[.int .i64 N] 3)).al (.cells #[sf w.heap.size] 101)
 have B1:=(Blk.new w #[.int .i64 N] 3).al (.cells #[sf w.heap.size] 101)
 have D1:=Blk.new (w.alloc (.cells #[.int .i64 N] 3)) #[sf w.heap.size] 101
 rw [World.size_alloc] at D1
 by_cases ht:Tab l
 . have e:v=l.all (okSp N):=by rw [Bool.eq_iff_iff,hv];simp [ht]
   rw [e]
   have cr:=hid (RRight_is (c:=c) (hm.gr g1) (v:=true) (by simp [ht]))
   have cc:=λ W (g:Gr _ W)=>hid (ContainsFuncS_ok (c:=c) (B1.gr g) (D1.gr g) (hm.gr (g1.trans g)) hn (hk ht))
   have G1:=hid g1
   generalize l.all (okSp N)=L at cc ⊢
   clear B1 D1 g1 hm hk hv e ht
   go_enter Tryz.func69,Tryz.ntmps69
   go_wp2_with fail
   with_reducible refine cr.out.mono ?_
   rintro e w1 ⟨rfl,g2⟩
   have C2:=cc _ g2
   go_wp2_with fail
   with_reducible refine C2.out.mono ?_
   rintro e w2 ⟨rfl,g3⟩
   go_wp2_with fail
   go_ret
   exact⟨ret_bool (by simp),(G1.out.trans g2).trans g3⟩
 . have e:v=false:=by
    cases q:v
    . rfl
    . exact absurd (hv.1 q).1 ht
   rw [e]
   have cr:=hid (RRight_is (c:=c) (hm.gr g1) (v:=false) (by simp [ht]))
   have G1:=hid g1
   clear B1 D1 g1 hm hk hv e ht
   go_enter Tryz.func69,Tryz.ntmps69
   go_wp2_with fail
   with_reducible refine cr.out.mono ?_
   rintro e w1 ⟨rfl,g2⟩
   go_wp2_with fail
   go_ret
   exact⟨rfl,G1.out.trans g2⟩
end
end P16
end
section
open Go.ChangeShapes Go.WideShapes Go.ChangeAt Go.RowKit Go.Shelf
namespace P16
open P14 (pan ov)
open P12 (PV PMem)
theorem ownR_c {c:Cl}:OwnR c↔P14.OkS c.since c.rounds/\P14.OkW c.old:=⟨λ h=>⟨h.s,h.ol⟩,λ h=>⟨h.1.1,h.1.2,h.2⟩⟩
theorem Right_c {c:Cl} {v:Bool} (hv:v=true↔OwnR c) (W:World):Calls Tryz.prog 96 #[ov c.since c.st c.aw c.rounds c.old] W λ e w'=>e=.returned (.bool v)/\Gr W w':=by
 by_cases h:OwnR c
 . rw [hv.2 h]
   exact P14.Right_yes (look_cl h)
 . have:v=false:=by
    cases q:v
    . rfl
    . exact absurd (hv.1 q) h
   rw [this]
   exact P14.Right_no (y:=1) (by decide) λ W=>P14.look_no λ q=>h (ownR_c.2 q)
def CliOk (p:List Ac) (c:Cl):Prop:=(0<=c.ticket/\c.ticket<4294967296)/\OwnR c/\PlaceOk p c
end P16
namespace P6
theorem tk_iff {n:Int}:tkB n 0=true↔0<=n/\n<4294967296:=by
 constructor
 . intro h
   unfold tkB at h
   simp [fitB,wd] at h
   omega
 . intro h
   exact tk_ok h ⟨by omega,by omega⟩
end P6
namespace P16
open P14 (pan ov)
open P12 (PV PMem)
section
variable {w:World} {A B:Option Addr} {n c d:Nat} {l:List Cl} {R:List PV}
theorem rightClients_is (hm:CMem w A n l) (hp:PMem w B n R) (hn:n<=1000) (hok:∀ p∈P12.pl R,∀ a∈p,P12.okA a=true) {v:Bool} (hv:v=true↔∀ (i:Nat) (c:Cl) (p:List Ac),l[i]?=some c->(P12.pl R)[i]?=some p->CliOk p c) :
 Calls Tryz.prog 71 #[.slice A n c,.slice B n d] w λ e w'=>e=.returned (.bool v)/\Gr w w':=by
 have HM:=hid hm
 have HP:=hid hp
 have HV:=hid hv
 have HO:=hid hok
 clear hm hp hv hok
 go_enter Tryz.func71,Tryz.ntmps71
 go_wp2_with fail
 with_reducible refine (steps_is _).mono ?_
 rintro e w1 ⟨⟨m,rfl,k1⟩,g1⟩
 have K1:=hid k1
 have G1:=hid g1
 clear k1 g1
 go_wp2_with fail
 go_loopw [11] (λ i wr=>∃ k:Nat,k<=n/\i=.int .i64 k/\Hid (∀ (i:Nat) (c:Cl) (p:List Ac),i<k->l[i]?=some c->(P12.pl R)[i]?=some p->CliOk p c)/\Hid (Gr w wr)/\Hid (KMap wr m)) (λ i _=>n-(intOf i).toNat)
 case atStart=>exact⟨0,Nat.zero_le _,rfl,hid (λ i c p h=>absurd h (by omega)),G1,K1⟩
 case round =>
  obtain⟨k,hk,rfl,HB,HG,HK⟩:=hrel
  by_cases hlt:k<n
  . obtain⟨b,off,y,rfl,hb,hy,okx,c0,c1,c2,c3,c4,c5,c6,c7,c8,c9,c10,c11,c12⟩:=CMem.cells (RMem.gr HM.out HG.out) hlt
    obtain⟨pb,po,z,rfl,hpb,hz,hzo,pr⟩:=(HP.out.gr HG.out).at_ hlt
    have hzp:(P12.pl R)[k]?=some z.l:=by unfold P12.pl;rw [List.getElem?_map,hz];rfl
    have hza:=HO.out z.l (List.mem_of_getElem? hzp)
    obtain⟨b1,hb1⟩:∃ b1,P6.tkB y.ticket 0=b1:=⟨_,rfl⟩
    obtain⟨b2,hb2⟩:∃ b2:Bool,b2=true↔OwnR y:=by by_cases q:OwnR y;exact⟨true,by simp [q]⟩;exact⟨false,by simp [q]⟩
    obtain⟨b3,hb3⟩:∃ b3:Bool,b3=true↔PlaceOk z.l y:=by by_cases q:PlaceOk z.l y;exact⟨true,by simp [q]⟩;exact⟨false,by simp [q]⟩
    have e1:b1=true↔(0<=y.ticket/\y.ticket<4294967296):=by rw [<- hb1];exact P6.tk_iff
    have N0:=hid (Blk.new wr (clA y) 55)
    have N1:Hid (wr.cell? ⟨pb,po+k,none⟩=some (.slice z.A z.n z.c)):=hid pr
    have C1:=λ W=>hid (P6.Right_is hb1 okx.ticket b64_0 W)
    have C2:=λ W=>hid (Right_c hb2 W)
    have C3:=λ W' (g:Gr wr W')=>hid (rightPlace_is (c:=y) (d:=z.c) (hzo.gr g).1 hza (HK.out.gr g) hb3)
    have HY:=hid hy
    have HZ:=hid hzp
    have HK2:=hid (hb3)
    have G0:Hid (Gr wr (wr.alloc (.cells (clA y) 55))):=hid ((Gr.refl wr).al _)
    have HE:Hid (b1=true/\b2=true/\b3=true↔CliOk z.l y):=hid (by unfold CliOk;rw [e1,hb2,hb3])
    clear hy hz hzo hzp hza hb1 hb2 hb3 e1 HK2 okx
    cases b1
    . skip
      have Bp:=N0.out.gr (Gr.refl _)
      obtain⟨p0,-⟩:=Bp.at_ (k:=0) rfl
      obtain⟨p1,-⟩:=Bp.at_ (k:=1) rfl
      obtain⟨p2,-⟩:=Bp.at_ (k:=2) rfl
      obtain⟨p3,-⟩:=Bp.at_ (k:=3) rfl
      obtain⟨p4,-⟩:=Bp.at_ (k:=4) rfl
      obtain⟨p5,-⟩:=Bp.at_ (k:=5) rfl
      obtain⟨p6,-⟩:=Bp.at_ (k:=6) rfl
      obtain⟨p7,-⟩:=Bp.at_ (k:=7) rfl
      obtain⟨p8,-⟩:=Bp.at_ (k:=8) rfl
      obtain⟨p9,-⟩:=Bp.at_ (k:=9) rfl
      obtain⟨p10,-⟩:=Bp.at_ (k:=10) rfl
      obtain⟨p11,-⟩:=Bp.at_ (k:=11) rfl
      obtain⟨p12,-⟩:=Bp.at_ (k:=12) rfl
      have pr:=(World.cell?_of_block (a:=⟨pb,po+k,none⟩) ((G0.out.trans (Gr.refl _)).block pb hpb)).trans N1.out
      clear Bp
      go_upto_region 5 with fail
      refine wp_region_held_drew (S:=(λ w'=>w'.cell? ⟨wr.heap.size,0,none⟩=some (.int .i64 y.gst)/\w'.cell? ⟨wr.heap.size,1,none⟩=some (.bool y.permit)/\w'.cell? ⟨wr.heap.size,2,none⟩=some (.int .i64 y.act)/\w'.cell? ⟨wr.heap.size,3,none⟩=some (.int .i64 y.pc)/\w'.cell? ⟨wr.heap.size,4,none⟩=some (.int .i64 y.worked)/\w'.cell? ⟨wr.heap.size,5,none⟩=some (.int .i64 y.ticket)/\w'.cell? ⟨wr.heap.size,6,none⟩=some (.bool y.first)/\w'.cell? ⟨wr.heap.size,7,none⟩=some (.bool y.told)/\w'.cell? ⟨wr.heap.size,8,none⟩=some (.int .i64 y.since)/\w'.cell? ⟨wr.heap.size,9,none⟩=some (.bool y.st)/\w'.cell? ⟨wr.heap.size,10,none⟩=some (.bool y.aw)/\w'.cell? ⟨wr.heap.size,11,none⟩=some (.int .i64 y.rounds)/\w'.cell? ⟨wr.heap.size,12,none⟩=some (.int .i64 y.old)/\w'.cell? ⟨pb,po+k,none⟩=some (.slice z.A z.n z.c))) (by kernel_rfl) ⟨p0,p1,p2,p3,p4,p5,p6,p7,p8,p9,p10,p11,p12,pr⟩ (λ hS=>?_)
      refine wG 0 hS ?_
      refine wG 1 hS ?_
      refine wG 2 hS ?_
      refine wR1 3 (λ K hK=>?_)
      go_simp;go_at_call 90;with_reducible refine (C1 _).out.mono ?_;rintro ee w2 ⟨rfl,g2⟩;go_wp2_with fail
      have G2:=hid ((Gr.refl (wr.alloc (.cells (clA y) 55))).dr.trans g2)
      clear g2
      have Bq:=N0.out.gr G2.out
      obtain⟨q0,-⟩:=Bq.at_ (k:=0) rfl
      obtain⟨q1,-⟩:=Bq.at_ (k:=1) rfl
      obtain⟨q2,-⟩:=Bq.at_ (k:=2) rfl
      obtain⟨q3,-⟩:=Bq.at_ (k:=3) rfl
      obtain⟨q4,-⟩:=Bq.at_ (k:=4) rfl
      obtain⟨q5,-⟩:=Bq.at_ (k:=5) rfl
      obtain⟨q6,-⟩:=Bq.at_ (k:=6) rfl
      obtain⟨q7,-⟩:=Bq.at_ (k:=7) rfl
      obtain⟨q8,-⟩:=Bq.at_ (k:=8) rfl
      obtain⟨q9,-⟩:=Bq.at_ (k:=9) rfl
      obtain⟨q10,-⟩:=Bq.at_ (k:=10) rfl
      obtain⟨q11,-⟩:=Bq.at_ (k:=11) rfl
      obtain⟨q12,-⟩:=Bq.at_ (k:=12) rfl
      have qr:=(World.cell?_of_block (a:=⟨pb,po+k,none⟩) ((G0.out.trans G2.out).block pb hpb)).trans N1.out
      clear Bq
      refine hK.out _ _ ⟨q0,q1,q2,q3,q4,q5,q6,q7,q8,q9,q10,q11,q12,qr⟩ (λ hS=>?_)
      clear hK K
      try simp only [pL]
      refine wG 4 hS ?_
      refine wG 5 hS ?_
      refine wP 6 hS ?_
      refine wP 7 hS ?_
      refine wP 8 hS ?_
      refine wP 9 hS ?_
      refine wG 10 hS ?_
      refine wG 11 hS ?_
      refine wP 12 hS ?_
      refine wP 13 hS ?_
      refine wP 14 hS ?_
      refine wP 15 hS ?_
      refine wP 16 hS ?_
      refine wP 17 hS ?_
      refine wP 18 hS ?_
      refine wP 19 hS ?_
      refine wG 20 hS ?_
      refine wpAnyH_done (by kernel_rfl) ?_ _
      clear hS
      have hr:v=false:=by
       cases q:v
       . rfl
       . exact absurd (HE.out.2 (HV.out.1 q k y z.l HY.out HZ.out)) (by simp)
      go_wp2_with fail
      go_ret
      rw [hr]
      exact⟨rfl,HG.out.trans (G0.out.trans G2.out)⟩
    . cases b2
      . skip
        have Bp:=N0.out.gr (Gr.refl _)
        obtain⟨p0,-⟩:=Bp.at_ (k:=0) rfl
        obtain⟨p1,-⟩:=Bp.at_ (k:=1) rfl
        obtain⟨p2,-⟩:=Bp.at_ (k:=2) rfl
        obtain⟨p3,-⟩:=Bp.at_ (k:=3) rfl
        obtain⟨p4,-⟩:=Bp.at_ (k:=4) rfl
        obtain⟨p5,-⟩:=Bp.at_ (k:=5) rfl
        obtain⟨p6,-⟩:=Bp.at_ (k:=6) rfl
        obtain⟨p7,-⟩:=Bp.at_ (k:=7) rfl
        obtain⟨p8,-⟩:=Bp.at_ (k:=8) rfl
        obtain⟨p9,-⟩:=Bp.at_ (k:=9) rfl
        obtain⟨p10,-⟩:=Bp.at_ (k:=10) rfl
        obtain⟨p11,-⟩:=Bp.at_ (k:=11) rfl
        obtain⟨p12,-⟩:=Bp.at_ (k:=12) rfl
        have pr:=(World.cell?_of_block (a:=⟨pb,po+k,none⟩) ((G0.out.trans (Gr.refl _)).block pb hpb)).trans N1.out
        clear Bp
        go_upto_region 5 with fail
        refine wp_region_held_drew (S:=(λ w'=>w'.cell? ⟨wr.heap.size,0,none⟩=some (.int .i64 y.gst)/\w'.cell? ⟨wr.heap.size,1,none⟩=some (.bool y.permit)/\w'.cell? ⟨wr.heap.size,2,none⟩=some (.int .i64 y.act)/\w'.cell? ⟨wr.heap.size,3,none⟩=some (.int .i64 y.pc)/\w'.cell? ⟨wr.heap.size,4,none⟩=some (.int .i64 y.worked)/\w'.cell? ⟨wr.heap.size,5,none⟩=some (.int .i64 y.ticket)/\w'.cell? ⟨wr.heap.size,6,none⟩=some (.bool y.first)/\w'.cell? ⟨wr.heap.size,7,none⟩=some (.bool y.told)/\w'.cell? ⟨wr.heap.size,8,none⟩=some (.int .i64 y.since)/\w'.cell? ⟨wr.heap.size,9,none⟩=some (.bool y.st)/\w'.cell? ⟨wr.heap.size,10,none⟩=some (.bool y.aw)/\w'.cell? ⟨wr.heap.size,11,none⟩=some (.int .i64 y.rounds)/\w'.cell? ⟨wr.heap.size,12,none⟩=some (.int .i64 y.old)/\w'.cell? ⟨pb,po+k,none⟩=some (.slice z.A z.n z.c))) (by kernel_rfl) ⟨p0,p1,p2,p3,p4,p5,p6,p7,p8,p9,p10,p11,p12,pr⟩ (λ hS=>?_)
        refine wG 0 hS ?_
        refine wG 1 hS ?_
        refine wG 2 hS ?_
        refine wR1 3 (λ K hK=>?_)
        go_simp;go_at_call 90;with_reducible refine (C1 _).out.mono ?_;rintro ee w2 ⟨rfl,g2⟩;go_wp2_with fail
        have G2:=hid ((Gr.refl (wr.alloc (.cells (clA y) 55))).dr.trans g2)
        clear g2
        have Bq:=N0.out.gr G2.out
        obtain⟨q0,-⟩:=Bq.at_ (k:=0) rfl
        obtain⟨q1,-⟩:=Bq.at_ (k:=1) rfl
        obtain⟨q2,-⟩:=Bq.at_ (k:=2) rfl
        obtain⟨q3,-⟩:=Bq.at_ (k:=3) rfl
        obtain⟨q4,-⟩:=Bq.at_ (k:=4) rfl
        obtain⟨q5,-⟩:=Bq.at_ (k:=5) rfl
        obtain⟨q6,-⟩:=Bq.at_ (k:=6) rfl
        obtain⟨q7,-⟩:=Bq.at_ (k:=7) rfl
        obtain⟨q8,-⟩:=Bq.at_ (k:=8) rfl
        obtain⟨q9,-⟩:=Bq.at_ (k:=9) rfl
        obtain⟨q10,-⟩:=Bq.at_ (k:=10) rfl
        obtain⟨q11,-⟩:=Bq.at_ (k:=11) rfl
        obtain⟨q12,-⟩:=Bq.at_ (k:=12) rfl
        have qr:=(World.cell?_of_block (a:=⟨pb,po+k,none⟩) ((G0.out.trans G2.out).block pb hpb)).trans N1.out
        clear Bq
        refine hK.out _ _ ⟨q0,q1,q2,q3,q4,q5,q6,q7,q8,q9,q10,q11,q12,qr⟩ (λ hS=>?_)
        clear hK K
        try simp only [pL]
        refine wG 4 hS ?_
        refine wG 5 hS ?_
        refine wG 6 hS ?_
        refine wG 7 hS ?_
        refine wR1 8 (λ K hK=>?_)
        go_simp;go_at_call 96;with_reducible refine (C2 _).out.mono ?_;rintro ee w3 ⟨rfl,g3⟩;go_wp2_with fail
        have G3:=hid (G2.out.trans g3)
        clear g3
        have Br:=N0.out.gr G3.out
        obtain⟨r0,-⟩:=Br.at_ (k:=0) rfl
        obtain⟨r1,-⟩:=Br.at_ (k:=1) rfl
        obtain⟨r2,-⟩:=Br.at_ (k:=2) rfl
        obtain⟨r3,-⟩:=Br.at_ (k:=3) rfl
        obtain⟨r4,-⟩:=Br.at_ (k:=4) rfl
        obtain⟨r5,-⟩:=Br.at_ (k:=5) rfl
        obtain⟨r6,-⟩:=Br.at_ (k:=6) rfl
        obtain⟨r7,-⟩:=Br.at_ (k:=7) rfl
        obtain⟨r8,-⟩:=Br.at_ (k:=8) rfl
        obtain⟨r9,-⟩:=Br.at_ (k:=9) rfl
        obtain⟨r10,-⟩:=Br.at_ (k:=10) rfl
        obtain⟨r11,-⟩:=Br.at_ (k:=11) rfl
        obtain⟨r12,-⟩:=Br.at_ (k:=12) rfl
        have rr:=(World.cell?_of_block (a:=⟨pb,po+k,none⟩) ((G0.out.trans G3.out).block pb hpb)).trans N1.out
        clear Br
        refine hK.out _ _ ⟨r0,r1,r2,r3,r4,r5,r6,r7,r8,r9,r10,r11,r12,rr⟩ (λ hS=>?_)
        clear hK K
        try simp only [pL]
        refine wG 9 hS ?_
        refine wG 10 hS ?_
        refine wG 11 hS ?_
        refine wP 12 hS ?_
        refine wP 13 hS ?_
        refine wP 14 hS ?_
        refine wP 15 hS ?_
        refine wP 16 hS ?_
        refine wP 17 hS ?_
        refine wP 18 hS ?_
        refine wP 19 hS ?_
        refine wG 20 hS ?_
        refine wpAnyH_done (by kernel_rfl) ?_ _
        clear hS
        have hr:v=false:=by
         cases q:v
         . rfl
         . exact absurd (HE.out.2 (HV.out.1 q k y z.l HY.out HZ.out)) (by simp)
        go_wp2_with fail
        go_ret
        rw [hr]
        exact⟨rfl,HG.out.trans (G0.out.trans G3.out)⟩
      . cases b3
        . skip
          have Bp:=N0.out.gr (Gr.refl _)
          obtain⟨p0,-⟩:=Bp.at_ (k:=0) rfl
          obtain⟨p1,-⟩:=Bp.at_ (k:=1) rfl
          obtain⟨p2,-⟩:=Bp.at_ (k:=2) rfl
          obtain⟨p3,-⟩:=Bp.at_ (k:=3) rfl
          obtain⟨p4,-⟩:=Bp.at_ (k:=4) rfl
          obtain⟨p5,-⟩:=Bp.at_ (k:=5) rfl
          obtain⟨p6,-⟩:=Bp.at_ (k:=6) rfl
          obtain⟨p7,-⟩:=Bp.at_ (k:=7) rfl
          obtain⟨p8,-⟩:=Bp.at_ (k:=8) rfl
          obtain⟨p9,-⟩:=Bp.at_ (k:=9) rfl
          obtain⟨p10,-⟩:=Bp.at_ (k:=10) rfl
          obtain⟨p11,-⟩:=Bp.at_ (k:=11) rfl
          obtain⟨p12,-⟩:=Bp.at_ (k:=12) rfl
          have pr:=(World.cell?_of_block (a:=⟨pb,po+k,none⟩) ((G0.out.trans (Gr.refl _)).block pb hpb)).trans N1.out
          clear Bp
          go_upto_region 5 with fail
          go_region_held3 (λ w'=>w'.cell? ⟨wr.heap.size,0,none⟩=some (.int .i64 y.gst)/\w'.cell? ⟨wr.heap.size,1,none⟩=some (.bool y.permit)/\w'.cell? ⟨wr.heap.size,2,none⟩=some (.int .i64 y.act)/\w'.cell? ⟨wr.heap.size,3,none⟩=some (.int .i64 y.pc)/\w'.cell? ⟨wr.heap.size,4,none⟩=some (.int .i64 y.worked)/\w'.cell? ⟨wr.heap.size,5,none⟩=some (.int .i64 y.ticket)/\w'.cell? ⟨wr.heap.size,6,none⟩=some (.bool y.first)/\w'.cell? ⟨wr.heap.size,7,none⟩=some (.bool y.told)/\w'.cell? ⟨wr.heap.size,8,none⟩=some (.int .i64 y.since)/\w'.cell? ⟨wr.heap.size,9,none⟩=some (.bool y.st)/\w'.cell? ⟨wr.heap.size,10,none⟩=some (.bool y.aw)/\w'.cell? ⟨wr.heap.size,11,none⟩=some (.int .i64 y.rounds)/\w'.cell? ⟨wr.heap.size,12,none⟩=some (.int .i64 y.old)/\w'.cell? ⟨pb,po+k,none⟩=some (.slice z.A z.n z.c)) (first | exact⟨p0,p1,p2,p3,p4,p5,p6,p7,p8,p9,p10,p11,p12,pr⟩ | exact⟨q0,q1,q2,q3,q4,q5,q6,q7,q8,q9,q10,q11,q12,qr⟩ | exact⟨r0,r1,r2,r3,r4,r5,r6,r7,r8,r9,r10,r11,r12,rr⟩ | exact⟨s0,s1,s2,s3,s4,s5,s6,s7,s8,s9,s10,s11,s12,sr⟩) (first | (go_at_call 90;(with_reducible refine (C1 _).out.mono ?_);rintro ee w2 ⟨rfl,g2⟩;have G2:=hid ((Gr.refl (wr.alloc (.cells (clA y) 55))).dr.trans g2);have Bq:=N0.out.gr G2.out;obtain⟨q0,-⟩:=Bq.at_ (k:=0) rfl;obtain⟨q1,-⟩:=Bq.at_ (k:=1) rfl;obtain⟨q2,-⟩:=Bq.at_ (k:=2) rfl;obtain⟨q3,-⟩:=Bq.at_ (k:=3) rfl;obtain⟨q4,-⟩:=Bq.at_ (k:=4) rfl;obtain⟨q5,-⟩:=Bq.at_ (k:=5) rfl;obtain⟨q6,-⟩:=Bq.at_ (k:=6) rfl;obtain⟨q7,-⟩:=Bq.at_ (k:=7) rfl;obtain⟨q8,-⟩:=Bq.at_ (k:=8) rfl;obtain⟨q9,-⟩:=Bq.at_ (k:=9) rfl;obtain⟨q10,-⟩:=Bq.at_ (k:=10) rfl;obtain⟨q11,-⟩:=Bq.at_ (k:=11) rfl;obtain⟨q12,-⟩:=Bq.at_ (k:=12) rfl;have qr:=(World.cell?_of_block (a:=⟨pb,po+k,none⟩) ((G0.out.trans G2.out).block pb hpb)).trans N1.out;clear Bq;clear g2) | (go_at_call 96;(with_reducible refine (C2 _).out.mono ?_);rintro ee w3 ⟨rfl,g3⟩;have G3:=hid (G2.out.trans g3);have Br:=N0.out.gr G3.out;obtain⟨r0,-⟩:=Br.at_ (k:=0) rfl;obtain⟨r1,-⟩:=Br.at_ (k:=1) rfl;obtain⟨r2,-⟩:=Br.at_ (k:=2) rfl;obtain⟨r3,-⟩:=Br.at_ (k:=3) rfl;obtain⟨r4,-⟩:=Br.at_ (k:=4) rfl;obtain⟨r5,-⟩:=Br.at_ (k:=5) rfl;obtain⟨r6,-⟩:=Br.at_ (k:=6) rfl;obtain⟨r7,-⟩:=Br.at_ (k:=7) rfl;obtain⟨r8,-⟩:=Br.at_ (k:=8) rfl;obtain⟨r9,-⟩:=Br.at_ (k:=9) rfl;obtain⟨r10,-⟩:=Br.at_ (k:=10) rfl;obtain⟨r11,-⟩:=Br.at_ (k:=11) rfl;obtain⟨r12,-⟩:=Br.at_ (k:=12) rfl;have rr:=(World.cell?_of_block (a:=⟨pb,po+k,none⟩) ((G0.out.trans G3.out).block pb hpb)).trans N1.out;clear Br;clear g3) | (go_at_call 97;(with_reducible refine (C3 _ (G0.out.trans G3.out)).out.mono ?_);rintro ee w4 ⟨rfl,g4⟩;have G4:=hid (G3.out.trans g4);have Bs:=N0.out.gr G4.out;obtain⟨s0,-⟩:=Bs.at_ (k:=0) rfl;obtain⟨s1,-⟩:=Bs.at_ (k:=1) rfl;obtain⟨s2,-⟩:=Bs.at_ (k:=2) rfl;obtain⟨s3,-⟩:=Bs.at_ (k:=3) rfl;obtain⟨s4,-⟩:=Bs.at_ (k:=4) rfl;obtain⟨s5,-⟩:=Bs.at_ (k:=5) rfl;obtain⟨s6,-⟩:=Bs.at_ (k:=6) rfl;obtain⟨s7,-⟩:=Bs.at_ (k:=7) rfl;obtain⟨s8,-⟩:=Bs.at_ (k:=8) rfl;obtain⟨s9,-⟩:=Bs.at_ (k:=9) rfl;obtain⟨s10,-⟩:=Bs.at_ (k:=10) rfl;obtain⟨s11,-⟩:=Bs.at_ (k:=11) rfl;obtain⟨s12,-⟩:=Bs.at_ (k:=12) rfl;have sr:=(World.cell?_of_block (a:=⟨pb,po+k,none⟩) ((G0.out.trans G4.out).block pb hpb)).trans N1.out;clear Bs;clear g4))
          have hr:v=false:=by
           cases q:v
           . rfl
           . exact absurd (HE.out.2 (HV.out.1 q k y z.l HY.out HZ.out)) (by simp)
          go_wp2_with fail
          go_ret
          rw [hr]
          exact⟨rfl,HG.out.trans (G0.out.trans G4.out)⟩
        . skip
          have Bp:=N0.out.gr (Gr.refl _)
          obtain⟨p0,-⟩:=Bp.at_ (k:=0) rfl
          obtain⟨p1,-⟩:=Bp.at_ (k:=1) rfl
          obtain⟨p2,-⟩:=Bp.at_ (k:=2) rfl
          obtain⟨p3,-⟩:=Bp.at_ (k:=3) rfl
          obtain⟨p4,-⟩:=Bp.at_ (k:=4) rfl
          obtain⟨p5,-⟩:=Bp.at_ (k:=5) rfl
          obtain⟨p6,-⟩:=Bp.at_ (k:=6) rfl
          obtain⟨p7,-⟩:=Bp.at_ (k:=7) rfl
          obtain⟨p8,-⟩:=Bp.at_ (k:=8) rfl
          obtain⟨p9,-⟩:=Bp.at_ (k:=9) rfl
          obtain⟨p10,-⟩:=Bp.at_ (k:=10) rfl
          obtain⟨p11,-⟩:=Bp.at_ (k:=11) rfl
          obtain⟨p12,-⟩:=Bp.at_ (k:=12) rfl
          have pr:=(World.cell?_of_block (a:=⟨pb,po+k,none⟩) ((G0.out.trans (Gr.refl _)).block pb hpb)).trans N1.out
          clear Bp
          go_upto_region 5 with fail
          go_region_held3 (λ w'=>w'.cell? ⟨wr.heap.size,0,none⟩=some (.int .i64 y.gst)/\w'.cell? ⟨wr.heap.size,1,none⟩=some (.bool y.permit)/\w'.cell? ⟨wr.heap.size,2,none⟩=some (.int .i64 y.act)/\w'.cell? ⟨wr.heap.size,3,none⟩=some (.int .i64 y.pc)/\w'.cell? ⟨wr.heap.size,4,none⟩=some (.int .i64 y.worked)/\w'.cell? ⟨wr.heap.size,5,none⟩=some (.int .i64 y.ticket)/\w'.cell? ⟨wr.heap.size,6,none⟩=some (.bool y.first)/\w'.cell? ⟨wr.heap.size,7,none⟩=some (.bool y.told)/\w'.cell? ⟨wr.heap.size,8,none⟩=some (.int .i64 y.since)/\w'.cell? ⟨wr.heap.size,9,none⟩=some (.bool y.st)/\w'.cell? ⟨wr.heap.size,10,none⟩=some (.bool y.aw)/\w'.cell? ⟨wr.heap.size,11,none⟩=some (.int .i64 y.rounds)/\w'.cell? ⟨wr.heap.size,12,none⟩=some (.int .i64 y.old)/\w'.cell? ⟨pb,po+k,none⟩=some (.slice z.A z.n z.c)) (first | exact⟨p0,p1,p2,p3,p4,p5,p6,p7,p8,p9,p10,p11,p12,pr⟩ | exact⟨q0,q1,q2,q3,q4,q5,q6,q7,q8,q9,q10,q11,q12,qr⟩ | exact⟨r0,r1,r2,r3,r4,r5,r6,r7,r8,r9,r10,r11,r12,rr⟩ | exact⟨s0,s1,s2,s3,s4,s5,s6,s7,s8,s9,s10,s11,s12,sr⟩) (first | (go_at_call 90;(with_reducible refine (C1 _).out.mono ?_);rintro ee w2 ⟨rfl,g2⟩;have G2:=hid ((Gr.refl (wr.alloc (.cells (clA y) 55))).dr.trans g2);have Bq:=N0.out.gr G2.out;obtain⟨q0,-⟩:=Bq.at_ (k:=0) rfl;obtain⟨q1,-⟩:=Bq.at_ (k:=1) rfl;obtain⟨q2,-⟩:=Bq.at_ (k:=2) rfl;obtain⟨q3,-⟩:=Bq.at_ (k:=3) rfl;obtain⟨q4,-⟩:=Bq.at_ (k:=4) rfl;obtain⟨q5,-⟩:=Bq.at_ (k:=5) rfl;obtain⟨q6,-⟩:=Bq.at_ (k:=6) rfl;obtain⟨q7,-⟩:=Bq.at_ (k:=7) rfl;obtain⟨q8,-⟩:=Bq.at_ (k:=8) rfl;obtain⟨q9,-⟩:=Bq.at_ (k:=9) rfl;obtain⟨q10,-⟩:=Bq.at_ (k:=10) rfl;obtain⟨q11,-⟩:=Bq.at_ (k:=11) rfl;obtain⟨q12,-⟩:=Bq.at_ (k:=12) rfl;have qr:=(World.cell?_of_block (a:=⟨pb,po+k,none⟩) ((G0.out.trans G2.out).block pb hpb)).trans N1.out;clear Bq;clear g2) | (go_at_call 96;(with_reducible refine (C2 _).out.mono ?_);rintro ee w3 ⟨rfl,g3⟩;have G3:=hid (G2.out.trans g3);have Br:=N0.out.gr G3.out;obtain⟨r0,-⟩:=Br.at_ (k:=0) rfl;obtain⟨r1,-⟩:=Br.at_ (k:=1) rfl;obtain⟨r2,-⟩:=Br.at_ (k:=2) rfl;obtain⟨r3,-⟩:=Br.at_ (k:=3) rfl;obtain⟨r4,-⟩:=Br.at_ (k:=4) rfl;obtain⟨r5,-⟩:=Br.at_ (k:=5) rfl;obtain⟨r6,-⟩:=Br.at_ (k:=6) rfl;obtain⟨r7,-⟩:=Br.at_ (k:=7) rfl;obtain⟨r8,-⟩:=Br.at_ (k:=8) rfl;obtain⟨r9,-⟩:=Br.at_ (k:=9) rfl;obtain⟨r10,-⟩:=Br.at_ (k:=10) rfl;obtain⟨r11,-⟩:=Br.at_ (k:=11) rfl;obtain⟨r12,-⟩:=Br.at_ (k:=12) rfl;have rr:=(World.cell?_of_block (a:=⟨pb,po+k,none⟩) ((G0.out.trans G3.out).block pb hpb)).trans N1.out;clear Br;clear g3) | (go_at_call 97;(with_reducible refine (C3 _ (G0.out.trans G3.out)).out.mono ?_);rintro ee w4 ⟨rfl,g4⟩;have G4:=hid (G3.out.trans g4);have Bs:=N0.out.gr G4.out;obtain⟨s0,-⟩:=Bs.at_ (k:=0) rfl;obtain⟨s1,-⟩:=Bs.at_ (k:=1) rfl;obtain⟨s2,-⟩:=Bs.at_ (k:=2) rfl;obtain⟨s3,-⟩:=Bs.at_ (k:=3) rfl;obtain⟨s4,-⟩:=Bs.at_ (k:=4) rfl;obtain⟨s5,-⟩:=Bs.at_ (k:=5) rfl;obtain⟨s6,-⟩:=Bs.at_ (k:=6) rfl;obtain⟨s7,-⟩:=Bs.at_ (k:=7) rfl;obtain⟨s8,-⟩:=Bs.at_ (k:=8) rfl;obtain⟨s9,-⟩:=Bs.at_ (k:=9) rfl;obtain⟨s10,-⟩:=Bs.at_ (k:=10) rfl;obtain⟨s11,-⟩:=Bs.at_ (k:=11) rfl;obtain⟨s12,-⟩:=Bs.at_ (k:=12) rfl;have sr:=(World.cell?_of_block (a:=⟨pb,po+k,none⟩) ((G0.out.trans G4.out).block pb hpb)).trans N1.out;clear Bs;clear g4))
          go_wp2_with fail
          go_roundw
          case rel=>exact⟨k+1,by omega,by go_num,hid (λ i c p hi h1 h2=>by
           by_cases q:i=k
           . subst q;rw [HY.out] at h1;rw [HZ.out] at h2;cases h1;cases h2;exact HE.out.1 (by simp)
           . exact HB.out i c p (by omega) h1 h2),hid (HG.out.trans (G0.out.trans G4.out)),hid (HK.out.gr (G0.out.trans G4.out))⟩
          case measure=>simp [intOf];omega
  . obtain rfl:k=n:=by omega
    have hr:v=true:=HV.out.2 λ i c p hi hp=>HB.out i c p (by have:=(List.getElem?_eq_some_iff.1 hi).1;have:=HM.out.len;omega) hi hp
    go_wp2_with fail
    go_ret
    rw [hr]
    exact⟨rfl,HG.out⟩
end
end P16
end
section
open Go.ChangeShapes Go.WideShapes Go.ChangeAt Go.RowKit
namespace P4
section
variable {a b r s:Int}
def Tk (a b r s:Int):Prop:=(Tm a/\Tm b/\a+b<=4611686018427387904/\r=a+b/\s=0)\/(Tm a/\Tm b/\4611686018427387904<a+b/\r=0/\s=10)\/(¬ (Tm a/\Tm b)/\r=0/\s=1)
theorem Tick_is (h:Tk a b r s) (w:World):Calls Tryz.prog 45 #[.int .i64 a,.int .i64 b] w λ e w'=>e=.returned (.tuple #[.int .i64 r,.int .i64 s])/\Gr w w':=by
 rcases h with ⟨h1,h2,h3,rfl,rfl⟩ | ⟨h1,h2,h3,rfl,rfl⟩ | ⟨h,rfl,rfl⟩
 . have c:=λ w=>hid ((both_yes h1 h2)▸right_ok a b w)
   unfold Tm at h1 h2
   go_enter Tryz.func45,Tryz.ntmps45
   go_wp2_with fail
   refine (c _).out.mono ?_
   rintro e w1 ⟨rfl,hb1⟩
   go_wp2_with fail
   go_ret2
   exact⟨rfl,hb1⟩
 . have c:=λ w=>hid ((both_yes h1 h2)▸right_ok a b w)
   unfold Tm at h1 h2
   go_enter Tryz.func45,Tryz.ntmps45
   go_wp2_with fail
   refine (c _).out.mono ?_
   rintro e w1 ⟨rfl,hb1⟩
   go_wp2_with fail
   go_ret2
   exact⟨rfl,hb1⟩
 . have c:=λ w=>hid ((both_no h)▸right_ok a b w)
   clear h
   go_enter Tryz.func45,Tryz.ntmps45
   go_wp2_with fail
   refine (c _).out.mono ?_
   rintro e w1 ⟨rfl,hb1⟩
   go_wp2_with fail
   go_ret2
   exact⟨rfl,hb1⟩
end
end P4
end
end Go.Proofs.YtainfijdhcehlaaGreatDoor
