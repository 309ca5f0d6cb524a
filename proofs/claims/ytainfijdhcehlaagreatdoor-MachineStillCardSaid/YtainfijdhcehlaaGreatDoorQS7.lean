/-
  A part of the proof.
-/
import Derived.Test.YtainfijdhcehlaaGreatDoorQS6
import Derived.Deep.QuietTactic
set_option linter.all false
set_option maxRecDepth 100000
set_option maxHeartbeats 8000000
namespace Go.Proofs.YtainfijdhcehlaaGreatDoor
open Lib (hid)
end Go.Proofs.YtainfijdhcehlaaGreatDoor
namespace Go.Proofs.YtainfijdhcehlaaGreatDoor.L7
open Go.ChangeShapes Go.WideShapes Go.ChangeAt Go.RowKit
def PlaceR (l:List Int) (who r e:Int):Prop :=
 ((who<0\/¬ Ln l)/\r=0/\e=1)\/(0<=who/\Ln l/\who ∉ l/\r=0/\e=4)\/(0<=who/\Ln l/\(∃ a b,l=a++who::b/\r=a.length)/\e=0)
def PushR (l:List Int) (who:Int) (first:Bool) (r:List Int) (e:Int):Prop :=
 ((who<0\/¬ Ln l)/\r=[]/\e=1)\/(0<=who/\Ln l/\who∈l/\r=[]/\e=7)\/(0<=who/\Ln l/\who ∉ l/\l.length=64/\r=[]/\e=5) \/
   (0<=who/\Ln l/\who ∉ l/\l.length<64/\r=(if first=true then who::l else l++[who])/\e=0)
def DropR (l:List Int) (who:Int) (r:List Int) (e:Int):Prop :=
 ((who<0\/¬ Ln l)/\r=[]/\e=1)\/(0<=who/\Ln l/\who ∉ l/\r=[]/\e=4)\/(0<=who/\Ln l/\(∃ a b,l=a++who::b/\r=a++b)/\e=0)
def PopR (l:List Int) (r:List Int) (x e:Int):Prop :=
 (¬ Ln l/\r=[]/\x=0/\e=1)\/(l=[]/\r=[]/\x=0/\e=4)\/(Ln l/\l=x::r/\e=0)
section
variable {w:World} {A:Option Addr} {n c:Nat} {l:List Int}
theorem Index_no (hm:IMem w A n l) (hn:n<=9223372036854775807) {x:Int} (hx:x ∉ l) :
 Calls Tryz.prog 232 #[.slice A n c,.int .i64 x] w λ e w'=>e=.returned (.int .i64 (-1))/\w'=w:=by
 have HX:=Lib.hid hx
 have HM:=Lib.hid hm
 clear hx hm
 go_enter Tryz.func232,Tryz.ntmps232
 go_wp2_with fail
 go_loop [8] (λ i=>∃ k:Nat,k<=n/\i=.int .i64 (k:Int)) (λ i=>n-(intOf i).toNat)
 case atStart=>exact⟨0,by omega,rfl⟩
 case round =>
  obtain⟨k,hk,rfl⟩:=hrel
  by_cases hlt:k<n
  . obtain⟨b,off,y,rfl,hbl,hy,hiy,cy⟩:=HM.out.at_ hlt
    have ne:(x==y)=false:=beq_eq_false_iff_ne.2 λ e=>HX.out (e▸List.mem_of_getElem? hy)
    clear hy
    go_wp2_with fail
    go_round
    case rel=>exact⟨k+1,by omega,by go_num⟩
    case measure=>simp [intOf];omega
  . obtain rfl:k=n:=by omega
    go_wp2_with fail
    go_ret
    exact⟨rfl,rfl⟩
theorem Index_at (hm:IMem w A n l) (hn:n<=9223372036854775807) {x:Int} {p:Nat} (hp:l[p]?=some x) (hf:∀ j,j<p->l[j]?≠some x) :
 Calls Tryz.prog 232 #[.slice A n c,.int .i64 x] w λ e w'=>e=.returned (.int .i64 (p:Int))/\w'=w:=by
 have hpn:p<n:=by rw [<- hm.1];exact (List.getElem?_eq_some_iff.1 hp).1
 have HP:=Lib.hid hp
 have HF:=Lib.hid hf
 have HM:=Lib.hid hm
 clear hp hf hm
 go_enter Tryz.func232,Tryz.ntmps232
 go_wp2_with fail
 go_loop [8] (λ i=>∃ k:Nat,k<=p/\i=.int .i64 (k:Int)) (λ i=>n-(intOf i).toNat)
 case atStart=>exact⟨0,by omega,rfl⟩
 case round =>
  obtain⟨k,hk,rfl⟩:=hrel
  have hkn:k<n:=by omega
  obtain⟨b,off,y,rfl,hbl,hy,hiy,cy⟩:=HM.out.at_ hkn
  by_cases hlt:k<p
  . have ne:(x==y)=false:=beq_eq_false_iff_ne.2 λ e=>HF.out k hlt (e▸hy)
    clear hy
    go_wp2_with fail
    go_round
    case rel=>exact⟨k+1,by omega,by go_num⟩
    case measure=>simp [intOf];omega
  . obtain rfl:k=p:=by omega
    rw [HP.out] at hy
    cases hy
    go_wp2_with fail
    go_ret
    exact⟨rfl,rfl⟩
end
section
variable {w:World} {A:Option Addr} {n c:Nat} {l:List Int}
theorem join_two {g:Nat} {B:Option Addr} {m d:Nat} {r:List Int} (hg0:w.cell? ⟨g,0,none⟩=some (.slice A n c)) (hg1:w.cell? ⟨g,1,none⟩=some (.slice B m d))
 (hA:IMem w A n l) (hB:IMem w B m r) (hn:n<=1000000) (hm:m<=1000000) :
 Calls Tryz.prog 225 #[.slice (some ⟨g,0,none⟩) 2 2] w λ e w'=>∃ C k,e=.returned (.slice C (n+m) k)/\IOwn w.heap.size w' C (n+m) k (l++r)/\Gr w w':=by
 obtain⟨i0,hi0,hz0,hz1,hz2⟩:=info_parts infoInt
 have HZ:=Lib.hid hz0
 have HZ1:=Lib.hid hz1
 have HZ2:=Lib.hid hz2
 have HI0:=Lib.hid hi0
 have HA:=Lib.hid hA
 have HB:=Lib.hid hB
 have hlt:=World.block_lt_of_cell? w _ hg0
 have hlt':g<w.heap.size:=hlt
 clear hz0 hz1 hz2 hi0 hA hB hlt
 go_enter Tryz.func225,Tryz.ntmps225
 go_wp2_with fail
 go_loopw [3,8] (λ L i wr=>Hid (Gr w wr)/\((i=.int .i64 0/\∃ C k,L=.slice C 0 k/\Hid (IOwn w.heap.size wr C 0 k []))\/(i=.int .i64 1/\∃ C k,L=.slice C n k/\Hid (IOwn w.heap.size wr C n k l))\/(i=.int .i64 2/\∃ C k,L=.slice C (n+m) k/\Hid (IOwn w.heap.size wr C (n+m) k (l++r))))) (λ _ i _=>2-(intOf i).toNat)
 case atStart=>exact⟨Lib.hid (Gr.refl w),.inl ⟨rfl,none,0,rfl,Lib.hid OMem.nil_⟩⟩
 case round =>
  obtain⟨HG,h⟩:=hrel
  rcases h with ⟨rfl,C,k,rfl,HL⟩ | ⟨rfl,C,k,rfl,HL⟩ | ⟨rfl,C,k,rfl,HL⟩
  . have q0:=(HG.out.cell (p:=⟨g,0,none⟩) hlt').trans hg0
    go_wp2_with (at_builtin;refine Mark.stop ?_)
    refine Mark.go ?_
    refine wpList_append_omem _ (Value.int .i64) B64 rfl (.tmp 12) (.tmp 13) 23 rfl (λ _=>rfl) w.heap.size 3 i0 (.int .i64 0) 8 Tryz.underlying23 HI0.out HZ.out HZ1.out HZ2.out rfl C 0 k [] rfl HL.out A n c l rfl (HA.out.gr HG.out) (by unfold maxLen;omega) (by omega) HG.out.size ?_
    intro C2 k2 w2 own2 gb2
    simp only [Nat.zero_add,List.nil_append] at own2
    have G2:=Lib.hid (HG.out.gb gb2 (λ k hk=>(HL.out.lt k hk).1))
    simp only [Nat.zero_add]
    go_wp2_with fail
    go_roundw
    case rel=>exact⟨G2,.inr (.inl ⟨rfl,C2,k2,rfl,Lib.hid own2⟩)⟩
    case measure=>simp [intOf]
  . have q0:=(HG.out.cell (p:=⟨g,1,none⟩) hlt').trans hg1
    go_wp2_with (at_builtin;refine Mark.stop ?_)
    refine Mark.go ?_
    refine wpList_append_omem _ (Value.int .i64) B64 rfl (.tmp 12) (.tmp 13) 23 rfl (λ _=>rfl) w.heap.size 3 i0 (.int .i64 0) 8 Tryz.underlying23 HI0.out HZ.out HZ1.out HZ2.out rfl C n k l rfl HL.out B m d r rfl (HB.out.gr HG.out) (by unfold maxLen;omega) (by omega) HG.out.size ?_
    intro C2 k2 w2 own2 gb2
    have G2:=Lib.hid (HG.out.gb gb2 (λ k hk=>(HL.out.lt k hk).1))
    go_wp2_with fail
    go_roundw
    case rel=>exact⟨G2,.inr (.inr ⟨rfl,C2,k2,rfl,Lib.hid own2⟩)⟩
    case measure=>simp [intOf]
  . go_wp2_with fail
    go_ret
    exact⟨C,k,rfl,HL.out,HG.out⟩
theorem Place_is (hm:IMem w A n l) (hc:n<=c) (hn:n<=9223372036854775807) {who r e:Int} (h:PlaceR l who r e) :
 Calls Tryz.prog 224 #[.slice A n c,.int .i64 who] w λ en w'=>en=.returned (.tuple #[.int .i64 r,.int .i64 e])/\w'=w:=by
 rcases h with ⟨h,rfl,rfl⟩ | ⟨h0,hl,hx,rfl,rfl⟩ | ⟨h0,hl,⟨a,b,hab,rfl⟩,rfl⟩
 . by_cases h0:who<0
   . clear h
     go_enter Tryz.func224,Tryz.ntmps224
     go_wp2_with fail
     go_ret2
     exact⟨rfl,rfl⟩
   . have k1:=Lib.hid (Right_is (v:=false) hm hc hn (by simpa using h.resolve_left h0))
     clear h hm
     go_enter Tryz.func224,Tryz.ntmps224
     go_wp2_with fail
     refine k1.out.mono ?_
     rintro e w1 ⟨rfl,rfl⟩
     go_wp2_with fail
     go_ret2
     exact⟨rfl,rfl⟩
 . have k1:=Lib.hid (Right_is (v:=true) hm hc hn (by simpa using hl))
   have k2:=Lib.hid (Index_no (c:=c) hm hn hx)
   have h1:¬ who<0:=by omega
   clear hl hx hm
   go_enter Tryz.func224,Tryz.ntmps224
   go_wp2_with fail
   refine k1.out.mono ?_
   rintro e w1 ⟨rfl,rfl⟩
   go_wp2_with fail
   refine k2.out.mono ?_
   rintro e w1 ⟨rfl,rfl⟩
   go_wp2_with fail
   go_ret2
   exact⟨rfl,rfl⟩
 . have k1:=Lib.hid (Right_is (v:=true) hm hc hn (by simpa using hl))
   obtain⟨p1,p2⟩:=at_of hab hl.2
   have k2:=Lib.hid (Index_at (c:=c) hm hn p1 p2)
   have h1:¬ who<0:=by omega
   generalize a.length=p at *
   clear hl p1 p2 hab hm
   have h2:¬ (p:Int)<0:=by omega
   go_enter Tryz.func224,Tryz.ntmps224
   go_wp2_with fail
   refine k1.out.mono ?_
   rintro e w1 ⟨rfl,rfl⟩
   go_wp2_with fail
   refine k2.out.mono ?_
   rintro e w1 ⟨rfl,rfl⟩
   go_wp2_with fail
   go_ret2
   exact⟨rfl,rfl⟩
end
section
variable {w:World} {A:Option Addr} {n c:Nat} {l:List Int}
theorem Drop_is (hm:IMem w A n l) (hc:n<=c) (hn:n<=9223372036854775807) {who:Int} {r:List Int} {e:Int} (h:DropR l who r e) :
 Calls Tryz.prog 228 #[.slice A n c,.int .i64 who] w λ en w'=>∃ C k,en=.returned (.tuple #[.slice C r.length k,.int .i64 e])/\IOwn w.heap.size w' C r.length k r/\Gr w w':=by
 rcases h with ⟨h,rfl,rfl⟩ | ⟨h0,hl,hx,rfl,rfl⟩ | ⟨h0,hl,⟨a,b,hab,rfl⟩,rfl⟩
 . have k1:=Lib.hid (Place_is hm hc hn (who:=who) (.inl ⟨h,rfl,rfl⟩))
   clear h hm
   go_enter Tryz.func228,Tryz.ntmps228
   go_wp2_with fail
   refine k1.out.mono ?_
   rintro e w1 ⟨rfl,rfl⟩
   go_wp2_with fail
   go_ret2
   exact⟨none,0,rfl,OMem.nil_,Gr.refl _⟩
 . have k1:=Lib.hid (Place_is hm hc hn (who:=who) (.inr (.inl ⟨h0,hl,hx,rfl,rfl⟩)))
   clear hl hx hm
   go_enter Tryz.func228,Tryz.ntmps228
   go_wp2_with fail
   refine k1.out.mono ?_
   rintro e w1 ⟨rfl,rfl⟩
   go_wp2_with fail
   go_ret2
   exact⟨none,0,rfl,OMem.nil_,Gr.refl _⟩
 . have k1:=Lib.hid (Place_is hm hc hn (who:=who) (.inr (.inr ⟨h0,hl,⟨a,b,hab,rfl⟩,rfl⟩)))
   have hlen:a.length+1+b.length=n:=by rw [<- hm.1,hab];simp;omega
   have hn64:n<=64:=by rw [<- hm.1];exact hl.1
   obtain⟨b0,off,rfl,hbl,hcs⟩:=hm.2.2 (by omega)
   have ma:=Lib.hid (hm.take_ a.length (by omega))
   have mb:=Lib.hid (hm.drop_ rfl (a.length+1) (by omega))
   rw [show l.take a.length=a by rw [hab];simp] at ma
   rw [show l.drop (a.length+1)=b by rw [hab];simp,show n-(a.length+1)=b.length by omega] at mb
   clear hab hl hm hcs
   generalize hp:a.length=p at *
   generalize hq:b.length=q at *
   have z1:(p:Int)<=(c:Int):=by omega
   have z2:(0:Int)<=(p:Int):=by omega
   obtain⟨p1,hp1⟩:∃ p1,p1=p+1:=⟨_,rfl⟩
   rw [<- hp1] at mb
   have hw1:IntKind.i64.wrap ((p:Int)+1)=(p1:Int):=by rw [wrap_id (by omega) (by omega)];omega
   have z3:(p1:Int)<=(n:Int):=by omega
   have z4:(n:Int)<=(c:Int):=by omega
   have z5:(0:Int)<=(p1:Int):=by omega
   obtain⟨A2,HA⟩:∃ A2:Option Addr,(c=p1/\A2=some ⟨b0,off,none⟩)\/(¬ c=p1/\A2=some ⟨b0,off+p1,none⟩):=by
    by_cases h:c=p1
    . exact⟨_,.inl ⟨h,rfl⟩⟩
    . exact⟨_,.inr ⟨h,rfl⟩⟩
   obtain⟨c2,HC⟩:∃ c2,c-p1=c2:=⟨_,rfl⟩
   have HQ:n-p1=q:=by omega
   have mb2:IMem w A2 q b:=by
    rcases HA with ⟨h,rfl⟩ | ⟨h,rfl⟩
    . obtain rfl:q=0:=by omega
      obtain rfl:b=[]:=List.eq_nil_of_length_eq_zero (by omega)
      exact EMem.nil_
    . exact mb.out
   have MB:=Lib.hid mb2
   have p64:p<=64:=by omega
   have q64:q<=64:=by omega
   have gX:Gr w ((w.alloc (.cells #[.slice (some ⟨b0,off,none⟩) p c,.slice A2 q c2] 23)).drew):=((Gr.refl w).al _).dr
   have kj:=Lib.hid (join_two (w:=(w.alloc (.cells #[.slice (some ⟨b0,off,none⟩) p c,.slice A2 q c2] 23)).drew) (g:=w.heap.size) (A:=some ⟨b0,off,none⟩) (n:=p) (c:=c) (l:=a) (B:=A2) (m:=q) (d:=c2) (r:=b) (by simp) (by simp) (ma.out.gr gX) (MB.out.gr gX) (by omega) (by omega))
   have HL:=Lib.hid (show (a++b).length=p+q by rw [List.length_append,hp,hq])
   generalize a++b=R at *
   clear mb2 hlen hn64 hp hq hp1 mb ma MB
   rcases HA with ⟨rfl,rfl⟩ | ⟨h,rfl⟩
   all_goals (
    go_enter Tryz.func228,Tryz.ntmps228
    go_wp2_with fail
    refine k1.out.mono ?_
    rintro e w1 ⟨rfl,rfl⟩
    go_wp2_with fail
    go_region_held3 (λ _=>True) (exact trivial) (first | (go_at_call 225;with_reducible refine kj.out.mono ?_;rintro ee w9 ⟨C,k,rfl,own9,hb9⟩))
    go_wp2_with fail
    go_ret2
    refine⟨C,k,by rw [HL.out];rfl,?_,gX.trans hb9⟩
    rw [HL.out]
    exact own9.low gX.size)
theorem Pop_is (hm:IMem w A n l) (hc:n<=c) (hn:n<=9223372036854775807) {r:List Int} {x e:Int} (h:PopR l r x e) :
 Calls Tryz.prog 218 #[.slice A n c] w λ en w'=>∃ C k,en=.returned (.tuple #[.slice C r.length k,.int .i64 x,.int .i64 e])/\IOwn w.heap.size w' C r.length k r/\Gr w w':=by
 have hlen:=hm.1
 rcases h with ⟨h,rfl,rfl,rfl⟩ | ⟨rfl,rfl,rfl,rfl⟩ | ⟨hl,rfl,rfl⟩
 . have h0:¬ n=0:=by
    rintro rfl
    obtain rfl:l=[]:=List.eq_nil_of_length_eq_zero hlen
    exact h Ln.nil
   obtain⟨b0,off,y,rfl,hbl,hy,hiy,cy⟩:=hm.at_ (show 0<n by omega)
   rw [Nat.add_zero] at cy
   have k1:=Lib.hid (Drop_is (c:=c) hm hc hn (who:=y) (.inl ⟨.inr h,rfl,rfl⟩))
   have t0:((n:Int)==0)=false:=beq_eq_false_iff_ne.2 (by omega)
   clear h hm hy hlen
   go_enter Tryz.func218,Tryz.ntmps218
   go_wp2_with fail
   refine k1.out.mono ?_
   rintro e w1 ⟨C,k,rfl,own1,hb1⟩
   go_wp2_with fail
   go_ret3
   exact⟨none,0,rfl,OMem.nil_,hb1⟩
 . obtain rfl:n=0:=by simpa using hlen.symm
   clear hm
   go_enter Tryz.func218,Tryz.ntmps218
   go_wp2_with fail
   go_ret3
   exact⟨none,0,rfl,OMem.nil_,Gr.refl _⟩
 . have h0:¬ n=0:=by rintro rfl;simp at hlen
   obtain⟨b0,off,y,rfl,hbl,hy,hiy,cy⟩:=hm.at_ (show 0<n by omega)
   obtain rfl:x=y:=by simpa using hy
   rw [Nat.add_zero] at cy
   have k1:=Lib.hid (Drop_is (c:=c) hm hc hn (who:=x) (.inr (.inr ⟨(good_cons.1 hl.2).1,hl,⟨[],r,rfl,rfl⟩,rfl⟩)))
   have t0:((n:Int)==0)=false:=beq_eq_false_iff_ne.2 (by omega)
   clear hl hm hy hlen
   simp only [List.nil_append] at k1
   go_enter Tryz.func218,Tryz.ntmps218
   go_wp2_with fail
   refine k1.out.mono ?_
   rintro e w1 ⟨C,k,rfl,own1,hb1⟩
   go_wp2_with fail
   go_ret3
   exact⟨C,k,rfl,own1,hb1⟩
theorem Push_is (hm:IMem w A n l) (hc:n<=c) (hn:n<=9223372036854775807) {who:Int} {first:Bool} (hw:B64 who) {r:List Int} {e:Int} (h:PushR l who first r e) :
 Calls Tryz.prog 215 #[.slice A n c,.int .i64 who,.bool first] w λ en w'=>∃ C k,en=.returned (.tuple #[.slice C r.length k,.int .i64 e])/\IOwn w.heap.size w' C r.length k r/\Gr w w':=by
 have hlen:=hm.1
 rcases h with ⟨h,rfl,rfl⟩ | ⟨h0,hl,hx,rfl,rfl⟩ | ⟨h0,hl,hx,h64,rfl,rfl⟩ | ⟨h0,hl,hx,h64,rfl,rfl⟩
 . have k1:=Lib.hid (Place_is hm hc hn (who:=who) (.inl ⟨h,rfl,rfl⟩))
   clear h hm
   go_enter Tryz.func215,Tryz.ntmps215
   go_wp2_with fail
   refine k1.out.mono ?_
   rintro e w1 ⟨rfl,rfl⟩
   go_wp2_with fail
   go_ret2
   exact⟨none,0,rfl,OMem.nil_,Gr.refl _⟩
 . obtain⟨a,b,hab⟩:=split_at hx
   have k1:=Lib.hid (Place_is hm hc hn (who:=who) (.inr (.inr ⟨h0,hl,⟨a,b,hab,rfl⟩,rfl⟩)))
   clear hm hab hx hl
   go_enter Tryz.func215,Tryz.ntmps215
   go_wp2_with fail
   refine k1.out.mono ?_
   rintro e w1 ⟨rfl,rfl⟩
   go_wp2_with fail
   go_ret2
   exact⟨none,0,rfl,OMem.nil_,Gr.refl _⟩
 . have k1:=Lib.hid (Place_is hm hc hn (who:=who) (.inr (.inl ⟨h0,hl,hx,rfl,rfl⟩)))
   obtain rfl:n=64:=by omega
   clear hm hx hl
   go_enter Tryz.func215,Tryz.ntmps215
   go_wp2_with fail
   refine k1.out.mono ?_
   rintro e w1 ⟨rfl,rfl⟩
   go_wp2_with fail
   go_ret2
   exact⟨none,0,rfl,OMem.nil_,Gr.refl _⟩
 . have k1:=Lib.hid (Place_is hm hc hn (who:=who) (.inr (.inl ⟨h0,hl,hx,rfl,rfl⟩)))
   have t0:((n:Int)==64)=false:=beq_eq_false_iff_ne.2 (by omega)
   have n64:n<64:=by omega
   have one:=emem_one (enc:=Value.int .i64) w who hw 3
   have HM:=Lib.hid hm
   cases first
   . have gX:=((Gr.refl w).al (.cells #[.int .i64 who] 3)).al (.cells #[.slice A n c,.slice (some ⟨w.heap.size,0,none⟩) 1 1] 23)
     have g1:=(Gr.refl (w.alloc (.cells #[.int .i64 who] 3))).al (.cells #[.slice A n c,.slice (some ⟨w.heap.size,0,none⟩) 1 1] 23)
     have kj:=Lib.hid (join_two (w:=(w.alloc (.cells #[.int .i64 who] 3)).alloc (.cells #[.slice A n c,.slice (some ⟨w.heap.size,0,none⟩) 1 1] 23)) (g:=w.heap.size+1) (A:=A) (n:=n) (c:=c) (l:=l) (B:=some ⟨w.heap.size,0,none⟩) (m:=1) (d:=1) (r:=[who]) (by simp) (by simp) (HM.out.gr gX) (one.gr g1) (by omega) (by omega))
     have HL:=Lib.hid (show (l++[who]).length=n+1 by simp [hlen])
     rw [if_neg (by decide)]
     generalize l++[who]=R at *
     clear hm hx hl one h64 hlen
     go_enter Tryz.func215,Tryz.ntmps215
     go_wp2_with fail
     refine k1.out.mono ?_
     rintro e w1 ⟨rfl,rfl⟩
     go_wp2_with fail
     refine kj.out.mono ?_
     rintro e w1 ⟨C,k,rfl,own1,hb1⟩
     go_wp2_with fail
     go_ret2
     refine⟨C,k,by rw [HL.out];rfl,?_,gX.trans hb1⟩
     rw [HL.out]
     exact own1.low gX.size
   . have gX:=((Gr.refl w).al (.cells #[.int .i64 who] 3)).al (.cells #[.slice (some ⟨w.heap.size,0,none⟩) 1 1,.slice A n c] 23)
     have g1:=(Gr.refl (w.alloc (.cells #[.int .i64 who] 3))).al (.cells #[.slice (some ⟨w.heap.size,0,none⟩) 1 1,.slice A n c] 23)
     have kj:=Lib.hid (join_two (w:=(w.alloc (.cells #[.int .i64 who] 3)).alloc (.cells #[.slice (some ⟨w.heap.size,0,none⟩) 1 1,.slice A n c] 23)) (g:=w.heap.size+1) (A:=some ⟨w.heap.size,0,none⟩) (n:=1) (c:=1) (l:=[who]) (B:=A) (m:=n) (d:=c) (r:=l) (by simp) (by simp) (one.gr g1) (HM.out.gr gX) (by omega) (by omega))
     have HL:=Lib.hid (show (who::l).length=1+n by simp [hlen];omega)
     rw [if_pos rfl]
     rw [show [who]++l=who::l from rfl] at kj
     generalize who::l=R at *
     clear hm hx hl one h64 hlen
     go_enter Tryz.func215,Tryz.ntmps215
     go_wp2_with fail
     refine k1.out.mono ?_
     rintro e w1 ⟨rfl,rfl⟩
     go_wp2_with fail
     refine kj.out.mono ?_
     rintro e w1 ⟨C,k,rfl,own1,hb1⟩
     go_wp2_with fail
     go_ret2
     refine⟨C,k,by rw [HL.out];rfl,?_,gX.trans hb1⟩
     rw [HL.out]
     exact own1.low gX.size
end
section
variable {w:World} {A:Option Addr} {n c:Nat} {l:List Int}
end
end Go.Proofs.YtainfijdhcehlaaGreatDoor.L7
namespace Go.Proofs.YtainfijdhcehlaaGreatDoor
open Lib (hid)
section
open Go.ChangeShapes Go.WideShapes Go.ChangeAt Go.RowKit
def sp (a q:Int) (l:List Int):SV:=⟨a,q,none,0,0,l⟩
theorem sp_pl (a q:Int) (l:List Int):(sp a q l).pl=(a,q,l):=rfl
def gt (L:List SV) (a:Int):Int×List Int:=match L.find? (λ x=>decide (x.addr=a)) with
 | some x=>(x.cnt,x.line)
 | none=>(0,[])
section
variable {L T R:List SV} {x y s:SV} {a b q:Int} {l:List Int}
theorem gt_mem (h:TOk L) (hx:x∈L):gt L x.addr=(x.cnt,x.line):=by
 unfold gt
 cases hf:L.find? (λ y=>decide (y.addr=x.addr)) with
 | none =>
  rw [List.find?_eq_none] at hf
  exact absurd (by simp) (hf x hx)
 | some y =>
  have h1:=List.find?_some hf
  have h2:=List.mem_of_find?_eq_some hf
  rw [decide_eq_true_eq] at h1
  rw [tok_one h h2 hx h1]
theorem gt_no (h:¬ Has L a):gt L a=(0,[]):=by
 unfold gt
 cases hf:L.find? (λ y=>decide (y.addr=a)) with
 | none=>rfl
 | some y =>
  have h1:=List.find?_some hf
  rw [decide_eq_true_eq] at h1
  exact absurd ⟨y,List.mem_of_find?_eq_some hf,h1⟩ h
theorem gt_has (h:TOk L):Has L a↔gt L a≠(0,[]):=by
 constructor
 . rintro⟨x,hx,rfl⟩
   rw [gt_mem h hx]
   intro e
   rw [Prod.mk.injEq] at e
   exact (h.1 x hx).2 e
 . intro hn
   exact Classical.byContradiction λ hc=>hn (gt_no hc)
theorem gt_ok (h:TOk L) (ha:IsKey a):SOk (sp a (gt L a).1 (gt L a).2):=by
 by_cases hh:Has L a
 . obtain⟨x,hx,rfl⟩:=hh
   rw [gt_mem h hx]
   exact (h.1 x hx).1
 . rw [gt_no hh]
   exact⟨ha,Int.le_refl _,(by decide:(0:Int)<=2147483647),L7.Ln.nil,.inl rfl⟩
theorem gt_pl (hl:TOk L) (h:L.map SV.pl=T.map SV.pl) (a:Int):gt L a=gt T a:=by
 have ht:TOk T:=hl.pl h
 by_cases hh:Has L a
 . obtain⟨x,hx,rfl⟩:=hh
   obtain⟨y,hy,e⟩:=mem_pl h.symm hx
   obtain⟨e1,e2,e3⟩:=plq e
   rw [gt_mem hl hx,<- e1,gt_mem ht hy,e2,e3]
 . rw [gt_no hh,gt_no (λ hc=>hh ((has_pl h a).2 hc))]
theorem gt_set (ht:TOk L) (hs:SOk s):gt (setl L s) s.addr=(s.cnt,s.line):=by
 by_cases hn:SNil s
 . rw [gt_no (λ hc=>(has_setl hs).1 hc hn),hn.1,hn.2]
 . exact gt_mem (setl_ok ht hs) (mem_setl.2 (.inr ⟨rfl,hn⟩))
theorem gt_other (ht:TOk L) (hs:SOk s) (hb:b≠s.addr):gt (setl L s) b=gt L b:=by
 by_cases hh:Has L b
 . obtain⟨x,hx,rfl⟩:=hh
   rw [gt_mem ht hx,gt_mem (setl_ok ht hs) (mem_setl.2 (.inl ⟨hx,hb⟩))]
 . rw [gt_no hh,gt_no]
   rintro⟨x,hx,e⟩
   rcases mem_setl.1 hx with ⟨h1,_⟩ | ⟨rfl,_⟩
   . exact hh ⟨x,h1,e⟩
   . exact hb e.symm
theorem tok_parts (h:TOk L) (a:Int):L=front L a++(L.filter (λ x=>decide (x.addr=a))++back L a):=by
 refine tok_ext h ⟨λ x hx=>?_,?_⟩ λ x=>?_
 . unfold front back at hx
   simp only [List.mem_append,List.mem_filter] at hx
   rcases hx with ⟨h1,_⟩ | ⟨h1,_⟩ | ⟨h1,_⟩<;>exact h.1 x h1
 . unfold front back
   rw [List.pairwise_append,List.pairwise_append]
   refine⟨h.2.sublist List.filter_sublist,⟨h.2.sublist List.filter_sublist,h.2.sublist List.filter_sublist,λ u hu v hv=>?_⟩,λ u hu v hv=>?_⟩
   . rw [List.mem_filter,decide_eq_true_eq] at hu hv
     rw [hu.2];exact hv.2
   . simp only [List.mem_append,List.mem_filter,decide_eq_true_eq] at hu hv
     rcases hv with ⟨_,hv⟩ | ⟨_,hv⟩
     . rw [hv];exact hu.2
     . exact hu.2.trans hv
 . unfold front back
   simp only [List.mem_append,List.mem_filter,decide_eq_true_eq]
   constructor
   . intro hx
     rcases Lt.tri x.addr a with h1 | h1 | h1
     . exact .inl ⟨hx,h1⟩
     . exact .inr (.inl ⟨hx,h1⟩)
     . exact .inr (.inr ⟨hx,h1⟩)
   . rintro (⟨hx,_⟩ | ⟨hx,_⟩ | ⟨hx,_⟩)<;>exact hx
theorem setl_len (h:TOk L) (hs:Has L s.addr\/SNil s):(setl L s).length<=L.length:=by
 have e:=congrArg List.length (tok_parts h s.addr)
 rw [List.length_append,List.length_append] at e
 unfold setl
 rw [List.length_append,List.length_append]
 rcases hs with ⟨x,hx,hxa⟩ | hn
 . have h1:0<(L.filter (λ x=>decide (x.addr=s.addr))).length:=List.length_pos_of_mem (List.mem_filter.2 ⟨hx,by simpa using hxa⟩)
   split<;>simp<;>omega
 . rw [if_pos hn]
   simp;omega
theorem setl_more (h:TOk L):(setl L s).length<=L.length+1:=by
 have e:=congrArg List.length (tok_parts h s.addr)
 rw [List.length_append,List.length_append] at e
 unfold setl
 rw [List.length_append,List.length_append]
 split<;>simp<;>omega
def psh (first:Bool) (l:List Int) (who:Int):List Int:=if first=true then who::l else l++[who]
theorem psh_len {first:Bool} {who:Int}:(psh first l who).length=l.length+1:=by unfold psh;split<;>simp
theorem psh_ok {first:Bool} {who:Int} (hl:L7.Ln l) (h0:0<=who) (hn:who ∉ l) (h64:l.length<64):L7.Ln (psh first l who):=by
 refine⟨by rw [psh_len];omega,?_⟩
 unfold psh
 split
 . exact L7.good_cons.2 ⟨h0,hn,hl.2⟩
 . exact L7.good_app.2 ⟨hl.2,L7.good_one.2 h0,λ x hx h=>by rw [List.mem_singleton] at h;subst h;exact hn hx⟩
theorem setR_pl {s':SV} (h:s.pl=s'.pl) {Q:List (Int×Int×List Int)} {e:Int} (hs:SetR L s Q e):SetR L s' Q e:=by
 obtain⟨h1,h2,h3⟩:=plq h
 have hok:SOk s↔SOk s':=⟨λ k=>k.pl h,λ k=>k.pl h.symm⟩
 have hn:SNil s↔SNil s':=SNil.pl h
 have hm:(setl L s).map SV.pl=(setl L s').map SV.pl:=by
  unfold setl
  rw [h1]
  by_cases c:SNil s
  . rw [if_pos c,if_pos (hn.1 c)]
  . rw [if_neg c,if_neg (λ k=>c (hn.2 k))]
    simp [h]
 have hl:(setl L s).length=(setl L s').length:=len_pl hm
 unfold SetR at *
 rw [<- hok,<- hl,<- hm]
 exact hs
def AcqR (L:List SV) (a who:Int) (first:Bool) (Q:List (Int×Int×List Int)) (is:Bool) (e:Int):Prop :=
 ((¬ Tab L\/¬ IsKey a\/who<0)/\Q=[]/\is=false/\e=1) \/
 (Tab L/\IsKey a/\0<=who/\(
   (who∈(gt L a).2/\Q=[]/\is=false/\e=7) \/
   (who ∉ (gt L a).2/\0<(gt L a).1/\Q=(setl L (sp a ((gt L a).1-1) (gt L a).2)).map SV.pl/\is=true/\e=0) \/
   (who ∉ (gt L a).2/\(gt L a).1=0/\(gt L a).2.length=64/\Q=[]/\is=false/\e=5) \/
   (who ∉ (gt L a).2/\(gt L a).1=0/\(gt L a).2.length<64/\64<(setl L (sp a 0 (psh first (gt L a).2 who))).length/\Q=[]/\is=false/\e=5) \/
   (who ∉ (gt L a).2/\(gt L a).1=0/\(gt L a).2.length<64/\(setl L (sp a 0 (psh first (gt L a).2 who))).length<=64/\Q=(setl L (sp a 0 (psh first (gt L a).2 who))).map SV.pl/\is=false/\e=0)))
def RelR (L:List SV) (a:Int) (Q:List (Int×Int×List Int)) (x e:Int):Prop :=
 ((¬ Tab L\/¬ IsKey a)/\Q=[]/\x=0/\e=1) \/
 (Tab L/\IsKey a/\(
   (∃ r,(gt L a).2=x::r/\Q=(setl L (sp a 0 r)).map SV.pl/\e=0) \/
   ((gt L a).2=[]/\(gt L a).1=2147483647/\Q=[]/\x=0/\e=10) \/
   ((gt L a).2=[]/\(gt L a).1<2147483647/\64<(setl L (sp a ((gt L a).1+1) [])).length/\Q=[]/\x=0/\e=5) \/
   ((gt L a).2=[]/\(gt L a).1<2147483647/\(setl L (sp a ((gt L a).1+1) [])).length<=64/\Q=(setl L (sp a ((gt L a).1+1) [])).map SV.pl/\x=-1/\e=0)))
theorem gt_cnt (h:TOk L) (ha:IsKey a):0<=(gt L a).1/\(gt L a).1<=2147483647/\L7.Ln (gt L a).2/\((gt L a).1=0\/(gt L a).2=[]):=(gt_ok h ha).2
theorem AcqR.any (L:List SV) (a who:Int) (first:Bool):∃ Q is e,AcqR L a who first Q is e:=by
 by_cases h:Tab L/\IsKey a/\0<=who
 . obtain⟨h1,h2,h3⟩:=h
   obtain⟨k1,k2,k3,k4⟩:=gt_cnt h1.2 h2
   by_cases hm:who∈(gt L a).2
   . exact⟨_,_,_,.inr ⟨h1,h2,h3,.inl ⟨hm,rfl,rfl,rfl⟩⟩⟩
   . by_cases hc:0<(gt L a).1
     . exact⟨_,_,_,.inr ⟨h1,h2,h3,.inr (.inl ⟨hm,hc,rfl,rfl,rfl⟩)⟩⟩
     . have hc0:(gt L a).1=0:=by omega
       by_cases hl:(gt L a).2.length=64
       . exact⟨_,_,_,.inr ⟨h1,h2,h3,.inr (.inr (.inl ⟨hm,hc0,hl,rfl,rfl,rfl⟩))⟩⟩
       . have hl':(gt L a).2.length<64:=by have:=k3.1;omega
         by_cases hs:64<(setl L (sp a 0 (psh first (gt L a).2 who))).length
         . exact⟨_,_,_,.inr ⟨h1,h2,h3,.inr (.inr (.inr (.inl ⟨hm,hc0,hl',hs,rfl,rfl,rfl⟩)))⟩⟩
         . exact⟨_,_,_,.inr ⟨h1,h2,h3,.inr (.inr (.inr (.inr ⟨hm,hc0,hl',by omega,rfl,rfl,rfl⟩)))⟩⟩
 . refine⟨_,_,_,.inl ⟨?_,rfl,rfl,rfl⟩⟩
   by_cases h1:Tab L
   . by_cases h2:IsKey a
     . exact .inr (.inr (by have:¬ 0<=who:=λ h3=>h ⟨h1,h2,h3⟩;omega))
     . exact .inr (.inl h2)
   . exact .inl h1
theorem RelR.any (L:List SV) (a:Int):∃ Q x e,RelR L a Q x e:=by
 by_cases h:Tab L/\IsKey a
 . obtain⟨h1,h2⟩:=h
   obtain⟨k1,k2,k3,k4⟩:=gt_cnt h1.2 h2
   cases hl:(gt L a).2 with
   | cons y r=>exact⟨_,_,_,.inr ⟨h1,h2,.inl ⟨r,hl,rfl,rfl⟩⟩⟩
   | nil =>
    by_cases hc:(gt L a).1=2147483647
    . exact⟨_,_,_,.inr ⟨h1,h2,.inr (.inl ⟨hl,hc,rfl,rfl,rfl⟩)⟩⟩
    . have hc':(gt L a).1<2147483647:=by omega
      by_cases hs:64<(setl L (sp a ((gt L a).1+1) [])).length
      . exact⟨_,_,_,.inr ⟨h1,h2,.inr (.inr (.inl ⟨hl,hc',hs,rfl,rfl,rfl⟩))⟩⟩
      . exact⟨_,_,_,.inr ⟨h1,h2,.inr (.inr (.inr ⟨hl,hc',by omega,rfl,rfl,rfl⟩))⟩⟩
 . refine⟨_,_,_,.inl ⟨?_,rfl,rfl,rfl⟩⟩
   by_cases h1:Tab L
   . exact .inr λ h2=>h ⟨h1,h2⟩
   . exact .inl h1
end
end
section
namespace P16
structure Wd where
 L:Bool
 K:Bool
 S:Bool
 n:Int
inductive V where
 | out
 | load (aw st:Bool)
 | want (aw st:Bool) (old:Wd)
 | draw
 | turn (t:Int)
 | sema (t:Int)
 | serve (t:Int) (told:Bool)
 | wok (parked:Bool)
 | hand (st:Bool) (old:Wd)
 | trying
 | give (old:Wd)
 | see
 | draws
 | turns (t:Int)
 | grant (t:Int)
 | serves (t:Int)
structure Mx where
 w:Wd
 nx:Int
 sv:Int
 c:Int
 l:List Int
def isQ:V->Bool
 | .draw | .turn _ | .sema _ | .serve _ _ | .wok _=>true
 | _=>false
def isH:V->Bool
 | .hand _ _=>true
 | _=>false
def isG:V->Bool
 | .draws | .turns _ | .grant _ | .serve _ true | .wok false=>true
 | _=>false
def isA:V->Bool
 | .load true _ | .want true _ _=>true
 | _=>false
def tk:V->Option Int
 | .turn t | .sema t | .serve t _ | .turns t | .grant t | .serves t=>some t
 | _=>none
def isT (x:V):Bool:=(tk x).isSome
def inT:V->Bool
 | .sema _ | .serve _ _ | .grant _ | .serves _=>true
 | _=>false
def inL:V->Bool
 | .serve _ false | .wok true=>true
 | _=>false
def wakes (w:Wd):Prop:=w.L=false/\w.K=false/\w.S=false/\1<=w.n
def b1 (x:Bool):Int:=if x then 1 else 0
theorem b1_cases (x:Bool):b1 x=0\/b1 x=1:=by cases x<;>simp [b1]
def cnt (p:V->Bool) (v:Nat->V):Nat->Int
 | 0=>0
 | N+1=>cnt p v N+b1 (p (v N))
def upd (v:Nat->V) (i:Nat) (x:V):Nat->V:=λ j=>if j=i then x else v j
section
variable {p:V->Bool} {v:Nat->V} {i j N:Nat} {x:V}
theorem upd_at:upd v i x i=x:=by simp [upd]
theorem upd_off (h:j≠i):upd v i x j=v j:=by simp [upd,h]
theorem cnt_far (h:N<=i):cnt p (upd v i x) N=cnt p v N:=by
 induction N with
 | zero=>rfl
 | succ N ih =>
  have:N≠i:=by omega
  simp only [cnt]
  rw [ih (by omega),upd_off this]
theorem cnt_upd (h:i<N):cnt p (upd v i x) N=cnt p v N-b1 (p (v i))+b1 (p x):=by
 induction N with
 | zero=>omega
 | succ N ih =>
  simp only [cnt]
  by_cases e:N=i
  . subst e
    rw [cnt_far (Nat.le_refl _),upd_at]
    omega
  . rw [ih (by omega),upd_off e]
    omega
theorem cnt_nonneg:0<=cnt p v N:=by
 induction N with
 | zero=>simp [cnt]
 | succ N ih=>simp only [cnt];rcases b1_cases (p (v N)) with h | h<;>omega
theorem cnt_le:cnt p v N<=N:=by
 induction N with
 | zero=>simp [cnt]
 | succ N ih=>simp only [cnt];rcases b1_cases (p (v N)) with h | h<;>omega
theorem cnt_pos (h:i<N) (hp:p (v i)=true):1<=cnt p v N:=by
 have e:=cnt_upd (p:=p) (v:=v) (x:=v i) h
 induction N with
 | zero=>omega
 | succ N ih =>
  simp only [cnt]
  by_cases e:N=i
  . subst e
    rw [hp]
    have:=cnt_nonneg (p:=p) (v:=v) (N:=N)
    simp only [b1,if_true]
    omega
  . have:=ih (by omega) (cnt_upd (by omega))
    rcases b1_cases (p (v N)) with h | h<;>omega
theorem cnt_two (h:i<N) (hp:p (v i)=true) (h':j<N) (hq:p (v j)=true) (hn:i≠j):2<=cnt p v N:=by
 induction N with
 | zero=>omega
 | succ N ih =>
  simp only [cnt]
  by_cases e:N=i
  . subst e
    have:=cnt_pos (p:=p) (v:=v) (i:=j) (N:=N) (by omega) hq
    rw [hp];simp only [b1,if_true];omega
  . by_cases e':N=j
    . subst e'
      have:=cnt_pos (p:=p) (v:=v) (i:=i) (N:=N) (by omega) hp
      rw [hq];simp only [b1,if_true];omega
    . have:=ih (by omega) (by omega)
      rcases b1_cases (p (v N)) with h | h<;>omega
theorem cnt_ex (h:1<=cnt p v N):∃ i,i<N/\p (v i)=true:=by
 induction N with
 | zero=>simp [cnt] at h
 | succ N ih =>
  simp only [cnt] at h
  by_cases e:p (v N)=true
  . exact⟨N,by omega,e⟩
  . have e0:b1 (p (v N))=0:=by unfold b1;rw [if_neg e]
    obtain⟨i,hi,hp⟩:=ih (by omega)
    exact⟨i,by omega,hp⟩
theorem cnt_both {q:V->Bool} (h:∀ x,p x=true->q x=false):cnt p v N+cnt q v N<=N:=by
 induction N with
 | zero=>simp [cnt]
 | succ N ih =>
  simp only [cnt]
  have e:b1 (p (v N))+b1 (q (v N))<=1:=by
   cases hp:p (v N)
   . rcases b1_cases (q (v N)) with h | h<;>simp [b1] at*<;> omega
   . rw [h _ hp];simp [b1]
  omega
theorem cnt_zero (h:cnt p v N=0) (hi:i<N):p (v i)=false:=by
 cases e:p (v i)
 . rfl
 . have:=cnt_pos hi e;omega
end
structure InvW (N:Nat) (w:Wd) (c:Int) (v:Nat->V):Prop where
 n0:0<=w.n
 c0:0<=c
 free:w.S=false->cnt isH v N=0/\cnt isG v N+c+cnt isA v N=b1 w.K/\w.n+(cnt isG v N+c)=cnt isQ v N
 starve:w.S=true->w.K=false/\cnt isA v N=0/\w.n=cnt isQ v N+cnt isH v N/\(w.L=true->cnt isG v N+c=0/\cnt isH v N=0)/\(w.L=false->cnt isG v N+c+cnt isH v N=1)
structure InvT (N:Nat) (nx sv:Int) (v:Nat->V):Prop where
 nb:0<=nx/\nx<4294967296
 sb:0<=sv/\sv<4294967296
 t1:∀ i t,i<N->tk (v i)=some t->(0<=t/\t<4294967296)/\(t-sv) % 4294967296<cnt isT v N
 t2:∀ i j t,i<N->j<N->i≠j->tk (v i)=some t->tk (v j)≠some t
 t3:(nx-sv) % 4294967296=cnt isT v N
 t4:∀ i,i<N->inT (v i)=true->tk (v i)=some sv
structure InvL (N:Nat) (c:Int) (l:List Int) (v:Nat->V):Prop where
 nd:l.Nodup
 lm:∀ x,x∈l↔∃ i,i<N/\x=(i:Int)/\inL (v i)=true
 le:0<c->l=[]
structure InvO (N:Nat) (w:Wd) (v:Nat->V):Prop where
 ol:∀ i aw st,i<N->v i=.load aw st->st=true->aw=true
 ow:∀ i aw st old,i<N->v i=.want aw st old->(st=true->aw=true)/\(aw=true->old.K=true)/\0<=old.n/\old.n<=N
 oh:∀ i st old,i<N->v i=.hand st old->old.L=false/\old.K=false/\old.S=true/\1<=old.n/\old.n<=w.n
def InvR (N:Nat) (w:Wd) (v:Nat->V):Prop:=wakes w->∃ i,i<N/\(v i=.see\/∃ old,v i=.give old/\wakes old)
structure Inv (N:Nat) (m:Mx) (v:Nat->V):Prop where
 W:InvW N m.w m.c v
 T:InvT N m.nx m.sv v
 L:InvL N m.c m.l v
 O:InvO N m.w v
 R:InvR N m.w v
section
variable {N i:Nat} {v:Nat->V} {x:V} {w w':Wd} {c nx sv:Int} {l:List Int}
theorem InvT.same (h:InvT N nx sv v) (hi:i<N) (ht:tk x=tk (v i)) (hn:inT x=inT (v i)):InvT N nx sv (upd v i x):=by
 have hc:cnt isT (upd v i x) N=cnt isT v N:=by
  rw [cnt_upd hi]
  unfold isT
  rw [ht]
  omega
 have ha:∀ j,tk (upd v i x j)=tk (v j):=λ j=>by
  by_cases e:j=i
  . subst e;rw [upd_at,ht]
  . rw [upd_off e]
 have hb:∀ j,inT (upd v i x j)=inT (v j):=λ j=>by
  by_cases e:j=i
  . subst e;rw [upd_at,hn]
  . rw [upd_off e]
 refine⟨h.nb,h.sb,λ j t hj=>?_,λ j k t hj hk hne=>?_,?_,λ j hj=>?_⟩
 . rw [ha,hc];exact h.t1 j t hj
 . rw [ha,ha];exact h.t2 j k t hj hk hne
 . rw [hc];exact h.t3
 . rw [ha,hb];exact h.t4 j hj
theorem InvL.same (h:InvL N c l v) (hi:i<N) (hl:inL x=inL (v i)):InvL N c l (upd v i x):=by
 have ha:∀ j,inL (upd v i x j)=inL (v j):=λ j=>by
  by_cases e:j=i
  . subst e;rw [upd_at,hl]
  . rw [upd_off e]
 refine⟨h.nd,λ y=>?_,h.le⟩
 rw [h.lm]
 constructor
 . rintro⟨j,hj,e,hx⟩;exact⟨j,hj,e,by rw [ha];exact hx⟩
 . rintro⟨j,hj,e,hx⟩;exact⟨j,hj,e,by rw [ha] at hx;exact hx⟩
theorem InvT.draw (h:InvT N nx sv v) (hN:N<=8) (hi:i<N) (h0:tk (v i)=none) (hx:tk x=some nx) (hn:inT x=false):InvT N ((nx+1) % 4294967296) sv (upd v i x):=by
 have hcle:cnt isT v N<N:=by
  have e:=cnt_upd (p:=isT) (v:=v) (x:=x) hi
  have h1:b1 (isT (v i))=0:=by unfold isT;rw [h0];rfl
  have h2:b1 (isT x)=1:=by unfold isT;rw [hx];rfl
  have:=cnt_le (p:=isT) (v:=upd v i x) (N:=N)
  omega
 have hc:cnt isT (upd v i x) N=cnt isT v N+1:=by
  rw [cnt_upd hi]
  have h1:b1 (isT (v i))=0:=by unfold isT;rw [h0];rfl
  have h2:b1 (isT x)=1:=by unfold isT;rw [hx];rfl
  omega
 obtain⟨n0,n1⟩:=h.nb
 obtain⟨s0,s1⟩:=h.sb
 have t3:=h.t3
 have hfar:∀ j t,j<N->tk (v j)=some t->t≠nx:=λ j t hj ht e=>by
  have:=(h.t1 j t hj ht).2
  subst e;omega
 refine⟨by omega,h.sb,λ j t hj ht=>?_,λ j k t hj hk hne ht=>?_,?_,λ j hj hin=>?_⟩
 . rw [hc]
   by_cases e:j=i
   . subst e
     rw [upd_at,hx] at ht
     cases ht
     exact⟨h.nb,by omega⟩
   . rw [upd_off e] at ht
     have:=h.t1 j t hj ht
     exact⟨this.1,by omega⟩
 . by_cases e:j=i
   . subst e
     rw [upd_at,hx] at ht
     cases ht
     rw [upd_off (λ q=>hne q.symm)]
     intro q
     exact hfar k nx hk q rfl
   . rw [upd_off e] at ht
     by_cases e':k=i
     . subst e'
       rw [upd_at,hx]
       intro q
       cases q
       exact hfar j nx hj ht rfl
     . rw [upd_off e']
       exact h.t2 j k t hj hk hne ht
 . rw [hc];omega
 . by_cases e:j=i
   . subst e;rw [upd_at,hn] at hin;cases hin
   . rw [upd_off e] at hin ⊢
     exact h.t4 j hj hin
theorem InvT.serve (h:InvT N nx sv v) (hN:N<=8) (hi:i<N) (h0:inT (v i)=true) (hx:tk x=none) (hn:inT x=false):InvT N nx ((sv+1) % 4294967296) (upd v i x):=by
 have hti:=h.t4 i hi h0
 have hc:cnt isT (upd v i x) N=cnt isT v N-1:=by
  rw [cnt_upd hi]
  have h1:b1 (isT (v i))=1:=by unfold isT;rw [hti];rfl
  have h2:b1 (isT x)=0:=by unfold isT;rw [hx];rfl
  omega
 have hle:=cnt_le (p:=isT) (v:=v) (N:=N)
 have hpos:=cnt_pos (p:=isT) (v:=v) hi (by unfold isT;rw [hti];rfl)
 obtain⟨n0,n1⟩:=h.nb
 obtain⟨s0,s1⟩:=h.sb
 have t3:=h.t3
 refine⟨h.nb,by omega,λ j t hj ht=>?_,λ j k t hj hk hne ht=>?_,?_,λ j hj hin=>?_⟩
 . rw [hc]
   by_cases e:j=i
   . subst e;rw [upd_at,hx] at ht;cases ht
   . rw [upd_off e] at ht
     have h1:=h.t1 j t hj ht
     have h2:t≠sv:=λ q=>h.t2 i j sv hi hj (λ q=>e q.symm) hti (by rw [<- q];exact ht)
     exact⟨h1.1,by omega⟩
 . by_cases e:j=i
   . subst e;rw [upd_at,hx] at ht;cases ht
   . rw [upd_off e] at ht
     by_cases e':k=i
     . subst e';rw [upd_at,hx];intro q;cases q
     . rw [upd_off e'];exact h.t2 j k t hj hk hne ht
 . rw [hc];omega
 . by_cases e:j=i
   . subst e;rw [upd_at,hn] at hin;cases hin
   . rw [upd_off e] at hin ⊢
     exact absurd (h.t4 j hj hin) (h.t2 i j sv hi hj (λ q=>e q.symm) hti)
theorem InvT.turn (h:InvT N nx sv v) (hi:i<N) (h0:tk (v i)=some sv) (hx:tk x=some sv):InvT N nx sv (upd v i x):=by
 have hc:cnt isT (upd v i x) N=cnt isT v N:=by
  rw [cnt_upd hi];unfold isT;rw [hx,h0];omega
 have ha:∀ j,tk (upd v i x j)=tk (v j):=λ j=>by
  by_cases e:j=i
  . subst e;rw [upd_at,hx,h0]
  . rw [upd_off e]
 refine⟨h.nb,h.sb,λ j t hj=>?_,λ j k t hj hk hne=>?_,?_,λ j hj hin=>?_⟩
 . rw [ha,hc];exact h.t1 j t hj
 . rw [ha,ha];exact h.t2 j k t hj hk hne
 . rw [hc];exact h.t3
 . rw [ha]
   by_cases e:j=i
   . subst e;exact h0
   . rw [upd_off e] at hin;exact h.t4 j hj hin
end
end P16
end
section
namespace P16
def good (x:V):Prop:=x=.see\/∃ old,x=.give old/\wakes old
section
variable {N i:Nat} {v:Nat->V} {x:V} {m:Mx} {w w':Wd} {aw st told:Bool} {old:Wd} {t:Int}
theorem InvR.off (h:¬ wakes w'):InvR N w' v:=λ q=>absurd q h
theorem InvR.keep (h:InvR N w v) (hi:i<N) (hw:wakes w'->wakes w) (hg:wakes w'->good (v i)->good x):InvR N w' (upd v i x):=λ q=>by
 obtain⟨j,hj,hgd⟩:=h (hw q)
 by_cases e:j=i
 . subst e
   exact⟨j,hj,by rw [upd_at];exact hg q hgd⟩
 . exact⟨j,hj,by rw [upd_off e];exact hgd⟩
theorem InvR.got (hi:i<N) (hx:wakes w'->good x):InvR N w' (upd v i x):=λ q=>⟨i,hi,by rw [upd_at];exact hx q⟩
theorem InvO.upd (h:InvO N w v) (hi:i<N) (hw:w.n<=w'.n\/∀ j st old,j<N->j≠i->v j≠.hand st old)
 (h0:∀ aw st,x=.load aw st->st=true->aw=true)
 (h1:∀ aw st old,x=.want aw st old->(st=true->aw=true)/\(aw=true->old.K=true)/\0<=old.n/\old.n<=N)
 (h2:∀ st old,x=.hand st old->old.L=false/\old.K=false/\old.S=true/\1<=old.n/\old.n<=w'.n):InvO N w' (upd v i x):=by
 refine⟨λ j aw st hj e=>?_,λ j aw st old hj e=>?_,λ j st old hj e=>?_⟩
 . by_cases q:j=i
   . subst q;rw [upd_at] at e;exact h0 aw st e
   . rw [upd_off q] at e;exact h.ol j aw st hj e
 . by_cases q:j=i
   . subst q;rw [upd_at] at e;exact h1 aw st old e
   . rw [upd_off q] at e;exact h.ow j aw st old hj e
 . by_cases q:j=i
   . subst q;rw [upd_at] at e;exact h2 st old e
   . rw [upd_off q] at e
     obtain⟨a,b,c,d,f⟩:=h.oh j st old hj e
     rcases hw with hw | hw
     . exact⟨a,b,c,d,by omega⟩
     . exact absurd e (hw j st old hj q)
theorem Inv.bound (h:Inv N m v):m.w.n<=N:=by
 have hq:=cnt_le (p:=isQ) (v:=v) (N:=N)
 have hg:=cnt_nonneg (p:=isG) (v:=v) (N:=N)
 have hb:=cnt_both (p:=isQ) (q:=isH) (v:=v) (N:=N) (by intro x hx;cases x<;>simp [isQ,isH] at*)
 have c0:=h.W.c0
 cases hS:m.w.S
 . have:=(h.W.free hS).2.2;omega
 . have:=(h.W.starve hS).2.2.1;omega
theorem Inv.no_hand (h:Inv N m v) (hS:m.w.S=false):∀ j st old,j<N->v j≠.hand st old:=λ j st old hj e=>by
 have:=cnt_zero (h.W.free hS).1 hj
 rw [e] at this
 cases this
theorem Inv.fast (h:Inv N m v) (hi:i<N) (hv:v i=.out) (hL:m.w.L=false) (hS:m.w.S=false) (hn:m.w.n=0) :
 Inv N { m with w:={ m.w with L:=true } } (upd v i .out):=by
 have eQ:=cnt_upd (p:=isQ) (v:=v) (x:=V.out) hi
 have eH:=cnt_upd (p:=isH) (v:=v) (x:=V.out) hi
 have eG:=cnt_upd (p:=isG) (v:=v) (x:=V.out) hi
 have eA:=cnt_upd (p:=isA) (v:=v) (x:=V.out) hi
 simp only [hv,isQ,isH,isG,isA,b1,Bool.false_eq_true,if_true,if_false,Int.sub_zero,Int.add_zero] at eQ eH eG eA
 have hW:=h.W
 refine⟨⟨hW.n0,hW.c0,λ _=>?_,λ q=>?_⟩,h.T.same hi (by rw [hv]) (by rw [hv]),h.L.same hi (by rw [hv]),h.O.upd hi (.inl (Int.le_refl _)) (λ _ _ e=>by cases e) (λ _ _ _ e=>by cases e) (λ _ _ e=>by cases e),InvR.off (λ q=>by cases q.1)⟩
 . dsimp only
   obtain⟨a,b,c⟩:=hW.free hS
   exact⟨by omega,by omega,by omega⟩
 . have q:m.w.S=true:=q
   rw [hS] at q;cases q
theorem Inv.quiet (h:Inv N m v) (hi:i<N) (hQ:isQ x=isQ (v i)) (hH:isH x=isH (v i)) (hG:isG x=isG (v i)) (hA:isA x=isA (v i)) (ht:tk x=tk (v i)) (hT:inT x=inT (v i)) (hl:inL x=inL (v i))
 (h0:∀ aw st,x=.load aw st->st=true->aw=true)
 (h1:∀ aw st old,x=.want aw st old->(st=true->aw=true)/\(aw=true->old.K=true)/\0<=old.n/\old.n<=N) (h2:∀ st old,x≠.hand st old) (hg:wakes m.w->good (v i)->good x) :
 Inv N m (upd v i x):=by
 have eQ:=cnt_upd (p:=isQ) (v:=v) (x:=x) hi
 have eH:=cnt_upd (p:=isH) (v:=v) (x:=x) hi
 have eG:=cnt_upd (p:=isG) (v:=v) (x:=x) hi
 have eA:=cnt_upd (p:=isA) (v:=v) (x:=x) hi
 rw [hQ] at eQ
 rw [hH] at eH
 rw [hG] at eG
 rw [hA] at eA
 have hW:=h.W
 refine⟨⟨hW.n0,hW.c0,λ hS=>?_,λ hS=>?_⟩,h.T.same hi ht hT,h.L.same hi hl,h.O.upd hi (.inl (Int.le_refl _)) h0 h1 (λ st old e=>absurd e (h2 st old)),h.R.keep hi id hg⟩
 . obtain⟨a,b,c⟩:=hW.free hS
   exact⟨by omega,by omega,by omega⟩
 . obtain⟨a,b,c,d,e⟩:=hW.starve hS
   exact⟨a,by omega,by omega,λ q=>⟨by have:=(d q).1;omega,by have:=(d q).2;omega⟩,λ q=>by have:=e q;omega⟩
theorem Inv.slow (h:Inv N m v) (hi:i<N) (hv:v i=.out):Inv N m (upd v i (.load false false)) :=
 h.quiet hi (by rw [hv];rfl) (by rw [hv];rfl) (by rw [hv];rfl) (by rw [hv];rfl) (by rw [hv];rfl) (by rw [hv];rfl) (by rw [hv];rfl) (λ _ _ e q=>by cases e;cases q) (λ _ _ _ e=>by cases e) (λ _ _ e=>by cases e)
  (λ _ q=>by rw [hv] at q;rcases q with q | ⟨_,q,_⟩<;>cases q)
theorem Inv.awake (h:Inv N m v) (hi:i<N) (ha:isA (v i)=true):m.w.K=true/\m.w.S=false/\cnt isA v N=1/\cnt isG v N+m.c=0:=by
 have:=cnt_pos hi ha
 have hg:=cnt_nonneg (p:=isG) (v:=v) (N:=N)
 have c0:=h.W.c0
 cases hS:m.w.S
 . have e:=(h.W.free hS).2.1
   cases hK:m.w.K
   . rw [hK] at e;simp [b1] at e;omega
   . rw [hK] at e;simp [b1] at e;exact⟨rfl,rfl,by omega,by omega⟩
 . have e:=(h.W.starve hS).2.1;omega
theorem Inv.look (h:Inv N m v) (hi:i<N) (hv:v i=.load aw st):Inv N m (upd v i (.want aw st m.w)) :=
 h.quiet hi (by rw [hv];rfl) (by rw [hv];rfl) (by rw [hv];rfl) (by rw [hv];cases aw<;>rfl) (by rw [hv];rfl) (by rw [hv];rfl) (by rw [hv];rfl) (λ _ _ e=>by cases e)
  (λ _ _ _ e=>by
    cases e
    exact⟨h.O.ol i aw st hi hv,λ q=>(h.awake hi (by rw [hv,q];rfl)).1,h.W.n0,h.bound⟩) (λ _ _ e=>by cases e)
  (λ _ q=>by rw [hv] at q;rcases q with q | ⟨_,q,_⟩<;>cases q)
theorem Inv.back (h:Inv N m v) (hi:i<N) (hv:v i=.want aw st old):Inv N m (upd v i (.load aw st)) :=
 h.quiet hi (by rw [hv];rfl) (by rw [hv];rfl) (by rw [hv];rfl) (by rw [hv];cases aw<;>rfl) (by rw [hv];rfl) (by rw [hv];rfl) (by rw [hv];rfl) (λ _ _ e=>by cases e;exact (h.O.ow i aw st old hi hv).1)
  (λ _ _ _ e=>by cases e) (λ _ _ e=>by cases e)
  (λ _ q=>by rw [hv] at q;rcases q with q | ⟨_,q,_⟩<;>cases q)
theorem Inv.spin (h:Inv N m v) (hi:i<N) (hv:v i=.want false st old) (hK:m.w.K=false) (hS:m.w.S=false) (hst:st=false) (hL:m.w.L=true) :
 Inv N { m with w:={ m.w with K:=true } } (upd v i (.load true st)):=by
 have eQ:=cnt_upd (p:=isQ) (v:=v) (x:=V.load true st) hi
 have eH:=cnt_upd (p:=isH) (v:=v) (x:=V.load true st) hi
 have eG:=cnt_upd (p:=isG) (v:=v) (x:=V.load true st) hi
 have eA:=cnt_upd (p:=isA) (v:=v) (x:=V.load true st) hi
 simp only [hv,isQ,isH,isG,isA,b1,Bool.false_eq_true,if_true,if_false,Int.sub_zero,Int.add_zero] at eQ eH eG eA
 have hW:=h.W
 refine⟨⟨hW.n0,hW.c0,λ _=>?_,λ q=>?_⟩,h.T.same hi (by rw [hv];rfl) (by rw [hv];rfl),h.L.same hi (by rw [hv];rfl),h.O.upd hi (.inl (Int.le_refl _)) (λ _ _ e _=>by cases e;rfl) (λ _ _ _ e=>by cases e) (λ _ _ e=>by cases e),InvR.off (λ q=>by cases q.2.1)⟩
 . dsimp only
   obtain⟨a,b,c⟩:=hW.free hS
   rw [hK] at b
   simp only [b1,Bool.false_eq_true,if_false] at b
   exact⟨by omega,by simp only [b1,if_true];omega,by omega⟩
 . have q:m.w.S=true:=q
   rw [hS] at q;cases q
theorem Inv.got (h:Inv N m v) (hi:i<N) (hv:v i=.want aw st old) (hL:m.w.L=false) (hS:m.w.S=false) :
 Inv N { m with w:={ m.w with L:=true,K:=m.w.K&&!aw } } (upd v i .out):=by
 have hW:=h.W
 refine⟨⟨hW.n0,hW.c0,λ _=>?_,λ q=>?_⟩,h.T.same hi (by rw [hv];rfl) (by rw [hv];rfl),h.L.same hi (by rw [hv];rfl),h.O.upd hi (.inl (Int.le_refl _)) (λ _ _ e=>by cases e) (λ _ _ _ e=>by cases e) (λ _ _ e=>by cases e),InvR.off (λ q=>by cases q.1)⟩
 . dsimp only
   obtain⟨a,b,c⟩:=hW.free hS
   cases aw
   . have eQ:=cnt_upd (p:=isQ) (v:=v) (x:=V.out) hi
     have eH:=cnt_upd (p:=isH) (v:=v) (x:=V.out) hi
     have eG:=cnt_upd (p:=isG) (v:=v) (x:=V.out) hi
     have eA:=cnt_upd (p:=isA) (v:=v) (x:=V.out) hi
     simp only [hv,isQ,isH,isG,isA,b1,Bool.false_eq_true,if_true,if_false,Int.sub_zero,Int.add_zero] at eQ eH eG eA
     exact⟨by omega,by simp only [Bool.not_false,Bool.and_true];omega,by omega⟩
   . have hk:=h.awake hi (by rw [hv];rfl)
     have eQ:=cnt_upd (p:=isQ) (v:=v) (x:=V.out) hi
     have eH:=cnt_upd (p:=isH) (v:=v) (x:=V.out) hi
     have eG:=cnt_upd (p:=isG) (v:=v) (x:=V.out) hi
     have eA:=cnt_upd (p:=isA) (v:=v) (x:=V.out) hi
     simp only [hv,isQ,isH,isG,isA,b1,Bool.false_eq_true,if_true,if_false,Int.sub_zero,Int.add_zero] at eQ eH eG eA
     exact⟨by omega,by simp only [Bool.not_true,Bool.and_false,b1,Bool.false_eq_true,if_false];omega,by omega⟩
 . have q:m.w.S=true:=q
   rw [hS] at q;cases q
theorem Inv.wait (h:Inv N m v) (hi:i<N) (hv:v i=.want aw st old) (hLS:m.w.L=true\/m.w.S=true) :
 Inv N { m with w:={ L:=m.w.L,K:=m.w.K&&!aw,S:=m.w.S||(st&&m.w.L),n:=m.w.n+1 } } (upd v i .draw):=by
 have hW:=h.W
 have n0:=hW.n0
 obtain⟨hst,-⟩:=h.O.ow i aw st old hi hv
 refine⟨⟨by show 0<=m.w.n+1;omega,hW.c0,λ q=>?_,λ q=>?_⟩,h.T.same hi (by rw [hv];rfl) (by rw [hv];rfl),h.L.same hi (by rw [hv];rfl),h.O.upd hi (.inl (by show m.w.n<=m.w.n+1;omega)) (λ _ _ e=>by cases e) (λ _ _ _ e=>by cases e) (λ _ _ e=>by cases e),InvR.off (λ q=>?_)⟩
 . have q:(m.w.S||(st&&m.w.L))=false:=q
   dsimp only
   have hS:m.w.S=false:=by cases e:m.w.S<;>simp_all
   obtain⟨a,b,c⟩:=hW.free hS
   cases aw
   . have eQ:=cnt_upd (p:=isQ) (v:=v) (x:=V.draw) hi
     have eH:=cnt_upd (p:=isH) (v:=v) (x:=V.draw) hi
     have eG:=cnt_upd (p:=isG) (v:=v) (x:=V.draw) hi
     have eA:=cnt_upd (p:=isA) (v:=v) (x:=V.draw) hi
     simp only [hv,isQ,isH,isG,isA,b1,Bool.false_eq_true,if_true,if_false,Int.sub_zero,Int.add_zero] at eQ eH eG eA
     exact⟨by omega,by simp only [Bool.not_false,Bool.and_true];omega,by omega⟩
   . have hk:=h.awake hi (by rw [hv];rfl)
     have eQ:=cnt_upd (p:=isQ) (v:=v) (x:=V.draw) hi
     have eH:=cnt_upd (p:=isH) (v:=v) (x:=V.draw) hi
     have eG:=cnt_upd (p:=isG) (v:=v) (x:=V.draw) hi
     have eA:=cnt_upd (p:=isA) (v:=v) (x:=V.draw) hi
     simp only [hv,isQ,isH,isG,isA,b1,Bool.false_eq_true,if_true,if_false,Int.sub_zero,Int.add_zero] at eQ eH eG eA
     exact⟨by omega,by simp only [Bool.not_true,Bool.and_false,b1,Bool.false_eq_true,if_false];omega,by omega⟩
 . have q:(m.w.S||(st&&m.w.L))=true:=q
   dsimp only
   cases aw
   . have hst':st=false:=by cases st;rfl;exact absurd (hst rfl) (by decide)
     have hS:m.w.S=true:=by rw [hst'] at q;simpa using q
     obtain⟨a,b,c,d,e⟩:=hW.starve hS
     have eQ:=cnt_upd (p:=isQ) (v:=v) (x:=V.draw) hi
     have eH:=cnt_upd (p:=isH) (v:=v) (x:=V.draw) hi
     have eG:=cnt_upd (p:=isG) (v:=v) (x:=V.draw) hi
     have eA:=cnt_upd (p:=isA) (v:=v) (x:=V.draw) hi
     simp only [hv,isQ,isH,isG,isA,b1,Bool.false_eq_true,if_true,if_false,Int.sub_zero,Int.add_zero] at eQ eH eG eA
     exact⟨by rw [a];rfl,by omega,by omega,λ q=>⟨by have:=(d q).1;omega,by have:=(d q).2;omega⟩,λ q=>by have:=e q;omega⟩
   . have hk:=h.awake hi (by rw [hv];rfl)
     have hL:m.w.L=true:=hLS.resolve_right (by rw [hk.2.1];decide)
     obtain⟨a,b,c⟩:=hW.free hk.2.1
     have eQ:=cnt_upd (p:=isQ) (v:=v) (x:=V.draw) hi
     have eH:=cnt_upd (p:=isH) (v:=v) (x:=V.draw) hi
     have eG:=cnt_upd (p:=isG) (v:=v) (x:=V.draw) hi
     have eA:=cnt_upd (p:=isA) (v:=v) (x:=V.draw) hi
     simp only [hv,isQ,isH,isG,isA,b1,Bool.false_eq_true,if_true,if_false,Int.sub_zero,Int.add_zero] at eQ eH eG eA
     exact⟨by simp,by omega,by omega,λ q=>⟨by omega,by omega⟩,λ q=>by rw [show m.w.L=false from q] at hL;cases hL⟩
 . obtain⟨q1,-,q3,-⟩:=q
   have q1:m.w.L=false:=q1
   have q3:(m.w.S||(st&&m.w.L))=false:=q3
   rcases hLS with e | e
   . rw [e] at q1;cases q1
   . rw [e] at q3;cases q3
end
end P16
end
end Go.Proofs.YtainfijdhcehlaaGreatDoor
