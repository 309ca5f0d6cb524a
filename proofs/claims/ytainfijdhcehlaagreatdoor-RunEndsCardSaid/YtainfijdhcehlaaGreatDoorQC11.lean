/-
  A part of the proof.
-/
import Derived.Test.YtainfijdhcehlaaGreatDoorQC10
import Derived.Laws.BytesArg
import Derived.Laws.EntriesVeiled
set_option linter.unusedVariables false
set_option linter.unusedSimpArgs false
set_option maxRecDepth 100000
set_option maxHeartbeats 8000000
namespace Go.Proofs.YtainfijdhcehlaaGreatDoor
open Lib (hid)
open Go.Proofs.Tryz
open Go.ChangeAt Go.ChangeShapes Go.RowKit Go.Shelf Go.WideShapes
namespace P12
theorem ret_bool {a b:Bool} (h:a=b):Ending.returned (.bool a)=.returned (.bool b):=by rw [h]
theorem unfit_is {a:Ac} {B:Bool} (hB:okA a=B) (w:World):Calls prog 83 #[.agg #[.int .i64 a.1,.int .i64 a.2]] w λ e w'=>e=.returned (.bool (!B))/\Gr w w':=by
 obtain⟨k,n⟩:=a;have key:∀ B',okA (k,n)=B'->Hid (B'=B):=λ B' h=>hid (by rw [<- h,hB])
 clear hB;by_cases h4:0<=k/\k<=2
 . have e:k=0\/k=1\/k=2:=by omega
   clear h4;by_cases h0:n<0
   . have HB:=key false (by unfold okA;rcases e with rfl | rfl | rfl<;>simp<;>omega)
     clear key;rcases e with rfl | rfl | rfl<;>(
      go_enter func83,ntmps83;go_wp2_with fail;go_ret;rw [<- HB.out];exact⟨rfl,(zr w).al _⟩)
   . by_cases h3:n<4
     . have HB:=key true (by unfold okA;rcases e with rfl | rfl | rfl<;>simp<;>omega)
       have h3':¬ (4:Int)<=n:=by omega
       clear key;rcases e with rfl | rfl | rfl<;>(
        go_enter func83,ntmps83;go_wp2_with fail;go_ret;rw [<- HB.out];exact⟨rfl,(zr w).al _⟩)
     . have HB:=key false (by unfold okA;rcases e with rfl | rfl | rfl<;>simp<;>omega)
       have h3':(4:Int)<=n:=by omega
       clear key;rcases e with rfl | rfl | rfl<;>(
        go_enter func83,ntmps83;go_wp2_with fail;go_ret;rw [<- HB.out];exact⟨rfl,(zr w).al _⟩)
 . by_cases h5:k=3
   . subst h5
     by_cases h0:n<0
     . have HB:=key false (by unfold okA;simp;omega)
       clear key;go_enter func83,ntmps83;go_wp2_with fail;go_ret;rw [<- HB.out];exact⟨rfl,(zr w).al _⟩
     . by_cases h3:1000<n
       . have HB:=key false (by unfold okA;simp;omega)
         clear key;go_enter func83,ntmps83;go_wp2_with fail;go_ret;rw [<- HB.out];exact⟨rfl,(zr w).al _⟩
       . have HB:=key true (by unfold okA;simp;omega)
         clear key;go_enter func83,ntmps83;go_wp2_with fail;go_ret;rw [<- HB.out];exact⟨rfl,(zr w).al _⟩
   . have HB:=key false (by unfold okA;rw [if_neg h5];simp;omega)
     have e0:(k==0)=false:=by simp;omega
     have e1:(k==1)=false:=by simp;omega
     have e2:(k==2)=false:=by simp;omega
     have e3:(k==3)=false:=by simp;omega
     clear key h4 h5;go_enter func83,ntmps83;go_wp2_with fail;go_ret;rw [<- HB.out];exact⟨rfl,(zr w).al _⟩
def badAt {α:Type} (p:α->Bool):List α->Nat->Int
 | [],_=>-1
 | x::r,k=>if p x then badAt p r (k+1) else k
theorem badAt_is {α:Type} (p:α->Bool) (l:List α):∀ k:Nat,decide (0<=badAt p l k)=!l.all p:=by
 induction l with
 | nil=>intro k;rfl
 | cons x r ih =>
  intro k;unfold badAt;cases hx:p x
  . simp [hx]
  . simp [hx,ih]
theorem IndexFunc_ok (A:Option Addr) (n c:Nat) (l:List Ac) (w:World) (hm:Mem w A n l) (hn:n<=9223372036854775807) :
 Calls prog 120 #[.slice A n c,.func (.func 83) #[] #[]] w λ e w'=>e=.returned (.int .i64 (badAt okA l 0))/\Gr w w':=by
 go_enter func120,ntmps120;go_wp2_with fail
 go_loopw [8] (λ i wr=>∃ k:Nat,k<=n/\i=.int .i64 k/\Hid (badAt okA (l.drop k) k=badAt okA l 0)/\Gr w wr) (λ i _=>n-(intOf i).toNat)
 case atStart=>exact⟨0,Nat.zero_le _,rfl,hid rfl,zr _⟩
 case round =>
  obtain⟨k,hk,rfl,HB,hg⟩:=hrel;by_cases hlt:k<n
  . obtain⟨b,off,x,rfl,hbl,hx,h1,h2,c0,c1⟩:=(hm.gr hg).at_ hlt
    have hd:l.drop k=x::l.drop (k+1):=by
     obtain⟨hl,rfl⟩:=List.getElem?_eq_some_iff.1 hx;exact List.drop_eq_getElem_cons hl
    cases hf:okA x
    . have hr:badAt okA l 0=(k:Int):=by rw [<- HB.out,hd];simp [badAt,hf]
      have cc:=λ w=>hid (unfit_is hf w)
      have HR:=hid hr;clear hr hd hf hx HB hm;go_wp2_with fail;refine (cc _).out.mono ?_;rintro e w1 ⟨rfl,hb1⟩;go_wp2_with fail;go_ret;rw [HR.out];exact⟨rfl,hg.trans hb1⟩
    . have hr:Hid (badAt okA (l.drop (k+1)) (k+1)=badAt okA l 0):=hid (by rw [<- HB.out,hd];simp [badAt,hf])
      have cc:=λ w=>hid (unfit_is hf w)
      clear hd hf hx HB hm;go_wp2_with fail;refine (cc _).out.mono ?_;rintro e w1 ⟨rfl,hb1⟩;go_wp2_with fail;go_roundw
      case rel=>exact⟨k+1,by omega,by go_num,hr,hg.trans hb1⟩
      case measure=>simp [intOf];omega
  . obtain rfl:k=n:=by omega
    have hr:badAt okA l 0=-1:=by rw [<- HB.out,List.drop_of_length_le (by have:=hm.1;omega)];rfl
    have HR:=hid hr;clear hr HB hm;go_wp2_with fail;go_ret;rw [HR.out];exact⟨rfl,hg⟩
theorem ContainsFunc_ok (A:Option Addr) (n c:Nat) (l:List Ac) (w:World) (hm:Mem w A n l) (hn:n<=9223372036854775807) :
 Calls prog 82 #[.slice A n c,.func (.func 83) #[] #[]] w λ e w'=>e=.returned (.bool (!l.all okA))/\Gr w w':=by
 have cc:=λ w hm=>hid (IndexFunc_ok A n c l w hm hn)
 have HB:=hid (badAt_is okA l 0);generalize badAt okA l 0=r at *;go_enter func82,ntmps82;go_wp2_with fail;refine (cc _ hm).out.mono ?_;rintro e w1 ⟨rfl,hb1⟩;go_wp2_with fail;go_ret;exact⟨ret_bool HB.out,hb1⟩
def okP (p:List Ac):Bool:=decide (p.length<=64)&&p.all okA
theorem rightB_okP (l:List (List Ac)):rightB l=(decide (l.length<=8)&&l.all okP):=rfl
theorem unfitProgram_is (x:PV) {B:Bool} (hB:okP x.l=B) (w:World) (hm:x.ok w) :
 Calls prog 56 #[.slice x.A x.n x.c] w λ e w'=>e=.returned (.bool (!B))/\Gr w w':=by
 have hn:=hm.lt;obtain⟨A,n,c,l⟩:=x;have hm:=hm.1;dsimp only at hm hn hB ⊢;by_cases h64:n<=64
 . have hr:l.all okA=B:=by rw [<- hB];simp [okP,hm.1,h64]
   have cc:=λ w hm=>hid (ContainsFunc_ok A n c l w hm hn)
   have HR:=hid hr;clear hr hB;generalize l.all okA=B' at *;have h65:¬ 64<n:=by omega
   go_enter func56,ntmps56;go_wp2_with fail;refine (cc _ hm).out.mono ?_;rintro e w1 ⟨rfl,hb1⟩;go_wp2_with fail;go_ret;rw [HR.out];exact⟨ret_bool (by simp;intro h;omega),hb1⟩
 . have hr:false=B:=by rw [<- hB];simp [okP,hm.1,h64]
   have HR:=hid hr;have h65:64<n:=by omega
   clear hr hB;go_enter func56,ntmps56;go_wp2_with fail;go_ret;rw [<- HR.out];exact⟨rfl,zr _⟩
def okV (x:PV):Bool:=okP x.l
theorem IndexFuncP_ok (A:Option Addr) (n c:Nat) (R:List PV) (w:World) (hm:PMem w A n R) (hn:n<=9223372036854775807) :
 Calls prog 81 #[.slice A n c,.func (.func 56) #[] #[]] w λ e w'=>e=.returned (.int .i64 (badAt okV R 0))/\Gr w w':=by
 go_enter func81,ntmps81;go_wp2_with fail
 go_loopw [8] (λ i wr=>∃ k:Nat,k<=n/\i=.int .i64 k/\Hid (badAt okV (R.drop k) k=badAt okV R 0)/\Gr w wr) (λ i _=>n-(intOf i).toNat)
 case atStart=>exact⟨0,Nat.zero_le _,rfl,hid rfl,zr _⟩
 case round =>
  obtain⟨k,hk,rfl,HB,hg⟩:=hrel;by_cases hlt:k<n
  . obtain⟨b,off,x,rfl,hbl,hx,ho,c0⟩:=(hm.gr hg).at_ hlt
    have hd:R.drop k=x::R.drop (k+1):=by
     obtain⟨hl,rfl⟩:=List.getElem?_eq_some_iff.1 hx;exact List.drop_eq_getElem_cons hl
    have cc:=λ w hm B hf=>hid (unfitProgram_is x (B:=B) hf w hm)
    cases hf:okP x.l
    . have hr:badAt okV R 0=(k:Int):=by rw [<- HB.out,hd];simp [badAt,okV,hf]
      have HR:=hid hr;have cc:=λ w hm=>cc w hm _ hf
      clear hr hd hf hx HB hm;go_wp2_with fail;refine (cc _ ho).out.mono ?_;rintro e w1 ⟨rfl,hb1⟩;go_wp2_with fail;go_ret;rw [HR.out];exact⟨rfl,hg.trans hb1⟩
    . have hr:Hid (badAt okV (R.drop (k+1)) (k+1)=badAt okV R 0):=hid (by rw [<- HB.out,hd];simp [badAt,okV,hf])
      have cc:=λ w hm=>cc w hm _ hf
      clear hd hf hx HB hm;go_wp2_with fail;refine (cc _ ho).out.mono ?_;rintro e w1 ⟨rfl,hb1⟩;go_wp2_with fail;go_roundw
      case rel=>exact⟨k+1,by omega,by go_num,hr,hg.trans hb1⟩
      case measure=>simp [intOf];omega
  . obtain rfl:k=n:=by omega
    have hr:badAt okV R 0=-1:=by rw [<- HB.out,List.drop_of_length_le (by have:=hm.len;omega)];rfl
    have HR:=hid hr;clear hr HB hm;go_wp2_with fail;go_ret;rw [HR.out];exact⟨rfl,hg⟩
theorem ContainsFuncP_ok (A:Option Addr) (n c:Nat) (R:List PV) (w:World) (hm:PMem w A n R) (hn:n<=9223372036854775807) :
 Calls prog 55 #[.slice A n c,.func (.func 56) #[] #[]] w λ e w'=>e=.returned (.bool (!R.all okV))/\Gr w w':=by
 have cc:=λ w hm=>hid (IndexFuncP_ok A n c R w hm hn)
 have HB:=hid (badAt_is okV R 0);generalize badAt okV R 0=r at *;go_enter func55,ntmps55;go_wp2_with fail;refine (cc _ hm).out.mono ?_;rintro e w1 ⟨rfl,hb1⟩;go_wp2_with fail;go_ret;exact⟨ret_bool HB.out,hb1⟩
theorem Right_is {A:Option Addr} {n c:Nat} {R:List PV} {B:Bool} (hB:rightB (pl R)=B) (hn:n<=9223372036854775807) (w:World) (hm:PMem w A n R) :
 Calls prog 34 #[.slice A n c] w λ e w'=>e=.returned (.bool B)/\Gr w w':=by
 have hall:(pl R).all okP=R.all okV:=by unfold pl;rw [List.all_map];rfl
 have hlen:(pl R).length=n:=by unfold pl;rw [List.length_map,hm.len]
 rw [rightB_okP,hall,hlen] at hB;by_cases h64:n<=8
 . have hr:R.all okV=B:=by rw [<- hB];simp [h64]
   have cc:=λ w hm=>hid (ContainsFuncP_ok A n c R w hm hn)
   have HR:=hid hr;clear hr hB hall;generalize R.all okV=B' at *;go_enter func34,ntmps34;go_wp2_with fail;refine (cc _ hm).out.mono ?_;rintro e w1 ⟨rfl,hb1⟩;go_wp2_with fail;go_ret;rw [<- HR.out];exact⟨ret_bool (by simp),hb1⟩
 . have hr:false=B:=by rw [<- hB];simp [h64]
   have HR:=hid hr;have h65:decide (n<=8)=false:=by simpa using h64
   clear hr hB hall;go_enter func34,ntmps34;go_wp2_with fail;go_ret;rw [<- HR.out];exact⟨rfl,zr _⟩
end P12
section
namespace P16
open P12 (PV PMem POwn fewP)
section
variable {W:World} {b:Nat} {x0 x1 x2 x3 x4 x5:Value}
theorem put6_blk {vs:Array Value} {t:TypeId} (h:Blk W b vs t) (h6:vs.size=6) (x0 x1 x2 x3 x4 x5:Value):Blk ((((((W.setCell ⟨b,0,none⟩ x0).setCell ⟨b,1,none⟩ x1).setCell ⟨b,2,none⟩ x2).setCell ⟨b,3,none⟩ x3).setCell ⟨b,4,none⟩ x4).setCell ⟨b,5,none⟩ x5) b #[x0,x1,x2,x3,x4,x5] t:=by
 have h2:=(((((h.set 0 x0).set 1 x1).set 2 x2).set 3 x3).set 4 x4).set 5 x5;have e:((((((vs.setIfInBounds 0 x0).setIfInBounds 1 x1).setIfInBounds 2 x2).setIfInBounds 3 x3).setIfInBounds 4 x4).setIfInBounds 5 x5)=#[x0,x1,x2,x3,x4,x5]:=by
  obtain⟨c0,c1,c2,c3,c4,c5,rfl⟩:=array6 h6;simp
 rw [e] at h2;exact h2
theorem put6_gr {w:World} (g:Gr w W) (hb:w.heap.size<=b):Gr w ((((((W.setCell ⟨b,0,none⟩ x0).setCell ⟨b,1,none⟩ x1).setCell ⟨b,2,none⟩ x2).setCell ⟨b,3,none⟩ x3).setCell ⟨b,4,none⟩ x4).setCell ⟨b,5,none⟩ x5) :=
 (((((g.st (p:=⟨b,0,none⟩) hb x0).st (p:=⟨b,1,none⟩) hb x1).st (p:=⟨b,2,none⟩) hb x2).st (p:=⟨b,3,none⟩) hb x3).st (p:=⟨b,4,none⟩) hb x4).st (p:=⟨b,5,none⟩) hb x5
end
end P16
end
section
namespace P16
open P12 (PV PMem Late)
abbrev zeroA:Array Value:=#[.int .i64 0,.slice none 0 0,.slice none 0 0,.slice none 0 0,.slice none 0 0,.int .i64 0]
abbrev rA (now stop:Int) (p c m t:Sl):Array Value:=#[.int .i64 now,.slice p.A p.n p.c,.slice c.A c.n c.c,.slice m.A m.n m.c,.slice t.A t.n t.c,.int .i64 stop]
structure Few (ω:Wv):Prop where
 p:ω.progs.length<=1000
 a:∀ p∈ω.progs,p.length<=1000
 c:ω.cl.length<=1000
 m:ω.mx.length<=1000
 t:ω.tb.length<=1000
 l:∀ s∈ω.tb,s.2.2.length<=1000
theorem one_cl:∀ x:Cl,∀ u∈clV x,u.oneCell'=true:=by
 intro x u hu;simp only [List.mem_cons,List.not_mem_nil,or_false] at hu;rcases hu with rfl | rfl | rfl | rfl | rfl | rfl | rfl | rfl | rfl | rfl | rfl | rfl | rfl<;>rfl
theorem one_t3:∀ x:T3,∀ u∈t3V x,u.oneCell'=true:=by
 intro x u hu;simp only [List.mem_cons,List.not_mem_nil,or_false] at hu;rcases hu with rfl | rfl | rfl<;>rfl
theorem one_sp:∀ x:SV,∀ u∈spV x,u.oneCell'=true:=by
 intro x u hu;simp only [List.mem_cons,List.not_mem_nil,or_false] at hu;rcases hu with rfl | rfl | rfl<;>rfl
theorem one_map {α:Type} {enc:α->Value} (h:∀ x,(enc x).oneCell'=true) (l:List α):∀ u∈l.map enc,u.oneCell'=true:=by
 intro u hu;obtain⟨x,_,rfl⟩:=List.mem_map.1 hu;exact h x
theorem where_of {w:World} {base q n c:Nat} {e:TypeId} {A:Option Addr} {xs:List Value} (h:w.ownsRow base e q (.slice A n c) n xs):∃ g,(0<n->A=some ⟨g,0,none⟩):=by
 obtain⟨_,_,_,k⟩:=own_parts h;rcases Nat.eq_zero_or_pos n with h0 | h0
 . exact⟨0,λ q=>by omega⟩
 . obtain⟨g,cur,e1,_⟩:=k h0
   exact⟨g,λ _=>e1⟩
section
variable {W:World} {r:WR} {ω:Wv}
theorem copied_is (h:WRd W r ω) (hf:Few ω) :
 Calls prog 35 #[r.v] W λ e w'=>(∃ (s:WR) (b1 b2 b3:Nat),e=.returned s.v/\Copied W.heap.size w' s ω b1 b2 b3)/\Gr W w':=by
 obtain⟨R,hR,eR⟩:=h.p;obtain⟨T,hT,eT⟩:=h.t;obtain⟨ln1,ln2,ln3,ln4⟩:=h.lens;have hRl:R.length=r.p.n:=hR.len;have hTl:T.length=r.t.n:=hT.1;have fp:=hf.p;have fc:=hf.c;have fm:=hf.m;have ft:=hf.t;have fa:∀ y∈R,y.n<=1000:=λ y hy=>by
  have:=hf.a y.l (by rw [<- eR];exact List.mem_map_of_mem (f:=PV.l) hy);have h2:=(hR.2 y hy).1.1;omega
 have fl:∀ y∈T,y.n<=1000:=λ y hy=>by
  have:=hf.l y.pl (by rw [<- eT];exact List.mem_map_of_mem (f:=SV.pl) hy);have h2:=(hT.2.1 y hy).len;have h3:y.line.length<=1000:=this;omega
 have cP:=λ W' (g:Gr W W')=>hid (cloneProgs (c:=r.p.c) (news:=R.map PV.enc) (emem_nil (hR.gr g).1) (by rw [List.length_map,hRl];omega) (emem_src (hR.gr g).1) (one_map (λ _=>rfl) R) (by omega))
 have cC:=λ W' (g:Gr W W')=>hid (cloneClients (c:=r.c.c) (rmem_nil (h.c.gr g)) (by rw [flat_len' clV_len,h.c.len]) (rmem_src clV_len (h.c.gr g)) (flat_one_of one_cl _) (by omega))
 have cM:=λ W' (g:Gr W W')=>hid (cloneMutexes (c:=r.m.c) (rmem_nil (h.m.gr g)) (by rw [flat_len' t3V_len,h.m.len]) (rmem_src t3V_len (h.m.gr g)) (flat_one_of one_t3 _) (by omega))
 have cT:=λ W' (g:Gr W W')=>hid (cloneSpots (c:=r.t.c) (rmem_nil (smem_rmem (hT.gr g))) (by rw [flat_len' spV_len,hTl]) (rmem_src spV_len (smem_rmem (hT.gr g))) (flat_one_of one_sp _) (by omega))
 have cA:=hid (λ (y:PV) (hy:y∈R) W' (g:Gr W W')=>hid (cloneActs (c:=y.c) (news:=flat y.l) (mem_nil ((hR.gr g).2 y hy).1) (by rw [flat_len,((hR.gr g).2 y hy).1.1]) (mem_src ((hR.gr g).2 y hy).1) (flat_one y.l) (by have:=fa y hy;omega)));have cI:=hid (λ (y:SV) (hy:y∈T) W' (g:Gr W W')=>hid (cloneInts (c:=y.c) (news:=y.line.map (Value.int .i64)) (emem_nil ((hT.gr g).2.1 y hy).2.2.1) (by rw [List.length_map,(hT.2.1 y hy).len];omega) (emem_src ((hT.gr g).2.1 y hy).2.2.1) (one_map (λ _=>rfl) _) (by have:=fl y hy;omega)));have H:=hid h;have HR:=hid hR;have HT:=hid hT;have ER:=hid eR;have ET:=hid eT;have HRL:=hid hRl;have HTL:=hid hTl;obtain⟨now,⟨A1,n1,c1⟩,⟨A2,n2,c2⟩,⟨A3,n3,c3⟩,⟨A4,n4,c4⟩,stop⟩:=r;dsimp only at *;clear h hR hT eR eT hRl hTl fa fl hf;have B0:=Blk.new W (rA now stop ⟨A1,n1,c1⟩ ⟨A2,n2,c2⟩ ⟨A3,n3,c3⟩ ⟨A4,n4,c4⟩) 29;have B1:=Blk.new (W.alloc (.cells (rA now stop ⟨A1,n1,c1⟩ ⟨A2,n2,c2⟩ ⟨A3,n3,c3⟩ ⟨A4,n4,c4⟩) 29)) zeroA 29;rw [zsA] at B1;have X0:=hid (B0.al (.cells zeroA 29));have X1:=hid B1;have G0:=hid (((zr W).al (.cells (rA now stop ⟨A1,n1,c1⟩ ⟨A2,n2,c2⟩ ⟨A3,n3,c3⟩ ⟨A4,n4,c4⟩) 29)).al (.cells zeroA 29));have S0:((W.alloc (.cells (rA now stop ⟨A1,n1,c1⟩ ⟨A2,n2,c2⟩ ⟨A3,n3,c3⟩ ⟨A4,n4,c4⟩) 29)).alloc (.cells zeroA 29)).heap.size=W.heap.size+2:=by rw [zsA,zsA]
 clear B0 B1;go_enter func35,ntmps35;go_upto_region 1 with fail;generalize (W.alloc (.cells (rA now stop ⟨A1,n1,c1⟩ ⟨A2,n2,c2⟩ ⟨A3,n3,c3⟩ ⟨A4,n4,c4⟩) 29)).alloc (.cells zeroA 29)=V0 at X0 X1 G0 S0 ⊢;obtain⟨q1,y1⟩:=X0.out.at_ (k:=1) (v:=.slice A1 n1 c1) rfl;go_wp2_with fail;refine (cP _ G0.out).out.mono ?_;rintro e w1 ⟨P1,d1,rfl,o1,g1⟩;rw [S0] at o1;have ⟨gp,hgp⟩:=where_of o1;have hok1:=own_parts o1;have O1:Hid ((⟨P1,n1,d1⟩:Sl).ok):=hid ⟨hok1.1,hok1.2.1⟩;have E1:=hid (X0.out.gr g1);have Z1:=hid (X1.out.gr g1);have G1:=hid (G0.out.trans g1);have s1:=g1.size;have PR:=hid (PRow.start (lo:=w1.heap.size) o1 HRL.out hgp (Nat.le_refl _));have HGP:=hid hgp;clear o1 g1 hok1 q1 y1 hgp X0 X1;obtain⟨q1,y1⟩:=E1.out.at_ (k:=1) (v:=.slice A1 n1 c1) rfl;have E2:Hid (Blk (w1.setCell ⟨W.heap.size,1,none⟩ (.slice P1 n1 d1)) W.heap.size (rA now stop ⟨P1,n1,d1⟩ ⟨A2,n2,c2⟩ ⟨A3,n3,c3⟩ ⟨A4,n4,c4⟩) 29):=hid (E1.out.set 1 (.slice P1 n1 d1));have Z2:=hid (Z1.out.st (p:=⟨W.heap.size,1,none⟩) (by simp) (.slice P1 n1 d1));have G2:=hid (G1.out.st (p:=⟨W.heap.size,1,none⟩) (Nat.le_refl _) (.slice P1 n1 d1));have PR2:=hid (PR.out.st (by omega) (p:=⟨W.heap.size,1,none⟩) (by show W.heap.size<_;omega) (.slice P1 n1 d1));have s2:(w1.setCell ⟨W.heap.size,1,none⟩ (.slice P1 n1 d1)).heap.size=w1.heap.size:=by simp [World.setCell]
 have hlo:W.heap.size+2<=w1.heap.size:=by omega
 go_upto_region 2 with fail;generalize w1.setCell ⟨W.heap.size,1,none⟩ (.slice P1 n1 d1)=V1 at E2 Z2 G2 PR2 s2 ⊢;generalize w1.heap.size=lo at PR2 s2 hlo ⊢;clear E1 Z1 PR q1 y1 G1 s1 S0 G0;obtain⟨q1,-⟩:=E2.out.at_ (k:=1) (v:=.slice P1 n1 d1) rfl;go_wp2_with fail
 go_loopw [14] (λ i wr=>∃ k:Nat,k<=n1/\i=.int .i64 (k:Int)/\lo<=wr.heap.size/\Hid (PRow (W.heap.size+2) lo gp wr R k)/\Hid (Blk wr W.heap.size (rA now stop ⟨P1,n1,d1⟩ ⟨A2,n2,c2⟩ ⟨A3,n3,c3⟩ ⟨A4,n4,c4⟩) 29)/\Hid (Blk wr (W.heap.size+1) zeroA 29)/\Hid (Gr W wr)) (λ i _=>n1-(intOf i).toNat)
 case atStart=>exact⟨0,Nat.zero_le _,rfl,by omega,PR2,E2,Z2,G2⟩
 case round =>
  obtain⟨k,hk,rfl,hs,HP,HE,HZ,HG⟩:=hrel;by_cases hlt:k<n1
  . obtain rfl:=HGP.out (by omega)
    obtain⟨y,hy⟩:∃ y,R[k]?=some y:=⟨_,zge (by rw [HRL.out];exact hlt)⟩;have HY:=hid hy;obtain⟨hgb,hgl,e0,f0⟩:=HP.out.at_ hy;have hyR:=zmo hy;obtain⟨q1,-⟩:=HE.out.at_ (k:=1) (v:=.slice (some ⟨gp,0,none⟩) n1 d1) rfl;have cc:=cA.out y hyR;have k0:(0:Int)<=(k:Int):=by omega
    have k1:(k:Int)<(n1:Int):=by omega
    have hbx:=HE.out.lt;have HYR:=hid hyR;unfold PV.enc at e0;clear hy hyR;go_upto_region 5 with fail;have q1':wr.drew.cell? ⟨W.heap.size,1,none⟩=some (.slice (some ⟨gp,0,none⟩) n1 d1):=q1
    go_region_held3 (λ w'=>w'.cell? ⟨W.heap.size,1,none⟩=some (.slice (some ⟨gp,0,none⟩) n1 d1)) (with_reducible assumption) (first | (go_at_call 58;(refine (cc _ (HG.out.dr)).out.mono ?_);rintro ee w2 ⟨Q,dq,rfl,o2,g2⟩;have G2:=hid (((zr wr).dr).trans g2);have O2:=hid o2;have r1:=(G2.out.cell (p:=⟨W.heap.size,1,none⟩) hbx).trans q1;have r2:=(G2.out.cell (p:=⟨gp,k,none⟩) hgl).trans e0;have r3:=(World.frozen?_of_block (a:=⟨gp,k,none⟩) (G2.out.block gp hgl)).trans f0;have r4:=far_cell (p:=⟨gp,k,none⟩) (v:=.slice Q y.n dq) r1 (show W.heap.size≠gp by omega);clear o2 g2))
    rename_i hH;have hYok:=HR.out.2 y HYR.out;have P3:=hid (HP.out.put (by omega) HY.out G2.out hYok.1.2.1 hYok.1.1 O2.out (by show lo<=wr.heap.size;omega));have E3:=hid ((HE.out.gr G2.out).st (p:=⟨gp,k,none⟩) (by show gp≠W.heap.size;omega) (.slice Q y.n dq));have Z3:=hid ((HZ.out.gr G2.out).st (p:=⟨gp,k,none⟩) (by show gp≠W.heap.size+1;omega) (.slice Q y.n dq));have G3:=hid ((HG.out.trans G2.out).st (p:=⟨gp,k,none⟩) (by show W.heap.size<=gp;omega) (.slice Q y.n dq));have s3:lo<=(w2.setCell ⟨gp,k,none⟩ (.slice Q y.n dq)).heap.size:=by have:=G2.out.size;simp [World.setCell];omega
    clear hH r1 r2 r3 r4 q1 q1' e0 f0 hYok G2 O2;generalize w2.setCell ⟨gp,k,none⟩ (.slice Q y.n dq)=W3 at P3 E3 Z3 G3 s3 ⊢;go_wp2_with fail;go_roundw
    case rel=>exact⟨k+1,by omega,by go_num,s3,P3,E3,Z3,G3⟩
    case measure=>simp [intOf];omega
  . obtain rfl:k=n1:=by omega
    have PD:=hid (HP.out.done (by omega) HRL.out.symm HGP.out);clear HP PR2 E2 Z2 G2 s2 cA;obtain⟨q2,z2⟩:=HE.out.at_ (k:=2) (v:=.slice A2 n2 c2) rfl;go_wp2_with fail;refine (cC _ HG.out).out.mono ?_;rintro e w2 ⟨P2,d2,rfl,o2,g2⟩;have s1:=HG.out;have O2:Hid ((⟨P2,n2,d2⟩:Sl).ok):=hid ⟨(own_parts o2).1,(own_parts o2).2.1⟩;have C2:=hid (orow_ft (w':=w2.setCell ⟨W.heap.size,2,none⟩ (.slice P2 n2 d2)) (orow_own clV_len o2) (FT.st (p:=⟨W.heap.size,2,none⟩) (.inl (by show W.heap.size<wr.heap.size;omega)) _));have E2:Hid (Blk (w2.setCell ⟨W.heap.size,2,none⟩ (.slice P2 n2 d2)) W.heap.size (rA now stop ⟨P1,k,d1⟩ ⟨P2,n2,d2⟩ ⟨A3,n3,c3⟩ ⟨A4,n4,c4⟩) 29):=hid ((HE.out.gr g2).set 2 (.slice P2 n2 d2));have Z2:=hid ((HZ.out.gr g2).st (p:=⟨W.heap.size,2,none⟩) (by simp) (.slice P2 n2 d2));have G2:=hid ((HG.out.trans g2).st (p:=⟨W.heap.size,2,none⟩) (Nat.le_refl _) (.slice P2 n2 d2));have F1:Hid (FT (W.heap.size+2) wr.heap.size wr (w2.setCell ⟨W.heap.size,2,none⟩ (.slice P2 n2 d2))):=hid ((FT.gr g2).trans (FT.st (p:=⟨W.heap.size,2,none⟩) (.inl (by show W.heap.size<_;omega)) _));have s2:(w2.setCell ⟨W.heap.size,2,none⟩ (.slice P2 n2 d2)).heap.size=w2.heap.size:=by simp [World.setCell]
    have t2:=g2.size;obtain⟨q2',z2'⟩:=(HE.out.gr g2).at_ (k:=2) (v:=.slice A2 n2 c2) rfl;clear o2 g2 q2 z2 s1;go_upto_region 8 with fail;generalize w2.setCell ⟨W.heap.size,2,none⟩ (.slice P2 n2 d2)=V2 at C2 E2 Z2 G2 F1 s2 ⊢;generalize w2.heap.size=b2 at C2 s2 t2 ⊢;clear q2' z2' HE HZ HG;obtain⟨q3,-⟩:=E2.out.at_ (k:=3) (v:=.slice A3 n3 c3) rfl;go_wp2_with fail;refine (cM _ G2.out).out.mono ?_;rintro e w3 ⟨P3,d3,rfl,o3,g3⟩;rw [s2] at o3;have O3:Hid ((⟨P3,n3,d3⟩:Sl).ok):=hid ⟨(own_parts o3).1,(own_parts o3).2.1⟩;have C3:=hid (orow_ft (w':=w3.setCell ⟨W.heap.size,3,none⟩ (.slice P3 n3 d3)) (orow_own t3V_len o3) (FT.st (p:=⟨W.heap.size,3,none⟩) (.inl (by show W.heap.size<b2;omega)) _));have E3:Hid (Blk (w3.setCell ⟨W.heap.size,3,none⟩ (.slice P3 n3 d3)) W.heap.size (rA now stop ⟨P1,k,d1⟩ ⟨P2,n2,d2⟩ ⟨P3,n3,d3⟩ ⟨A4,n4,c4⟩) 29):=hid ((E2.out.gr g3).set 3 (.slice P3 n3 d3));have Z3:=hid ((Z2.out.gr g3).st (p:=⟨W.heap.size,3,none⟩) (by simp) (.slice P3 n3 d3));have G3:=hid ((G2.out.trans g3).st (p:=⟨W.heap.size,3,none⟩) (Nat.le_refl _) (.slice P3 n3 d3));have H1:Hid (FT (W.heap.size+2) wr.heap.size wr (w3.setCell ⟨W.heap.size,3,none⟩ (.slice P3 n3 d3))):=hid (F1.out.trans ((FT.gr g3).trans (FT.st (p:=⟨W.heap.size,3,none⟩) (.inl (by show W.heap.size<_;omega)) _)));have H2:Hid (FT wr.heap.size b2 V2 (w3.setCell ⟨W.heap.size,3,none⟩ (.slice P3 n3 d3))):=hid ((FT.gr g3).trans (FT.st (p:=⟨W.heap.size,3,none⟩) (.inl (by show W.heap.size<wr.heap.size;omega)) _));have s3:(w3.setCell ⟨W.heap.size,3,none⟩ (.slice P3 n3 d3)).heap.size=w3.heap.size:=by simp [World.setCell]
    have t3:b2<=w3.heap.size:=by have:=g3.size;omega
    obtain⟨q3',z3'⟩:=(E2.out.gr g3).at_ (k:=3) (v:=.slice A3 n3 c3) rfl;clear o3 g3 q3;go_upto_region 9 with fail;generalize w3.setCell ⟨W.heap.size,3,none⟩ (.slice P3 n3 d3)=V3 at C3 E3 Z3 G3 H1 H2 s3 ⊢;generalize w3.heap.size=b3 at C3 s3 t3 ⊢;clear q3' z3' E2 Z2 G2 F1;obtain⟨q4,-⟩:=E3.out.at_ (k:=4) (v:=.slice A4 n4 c4) rfl;go_wp2_with fail;refine (cT _ G3.out).out.mono ?_;rintro e w4 ⟨P4,d4,rfl,o4,g4⟩;rw [s3] at o4;have ⟨gt,hgt⟩:=where_of o4;have HGT:=hid hgt;have O4:Hid ((⟨P4,n4,d4⟩:Sl).ok):=hid ⟨(own_parts o4).1,(own_parts o4).2.1⟩;have TR:=hid ((TRow.start (lo:=w4.heap.size) o4 HTL.out hgt (Nat.le_refl _)).st (by have:=g4.size;omega) (p:=⟨W.heap.size,4,none⟩) (by show W.heap.size<b3;omega) (.slice P4 n4 d4));have E4:Hid (Blk (w4.setCell ⟨W.heap.size,4,none⟩ (.slice P4 n4 d4)) W.heap.size (rA now stop ⟨P1,k,d1⟩ ⟨P2,n2,d2⟩ ⟨P3,n3,d3⟩ ⟨P4,n4,d4⟩) 29):=hid ((E3.out.gr g4).set 4 (.slice P4 n4 d4));have Z4:=hid ((Z3.out.gr g4).st (p:=⟨W.heap.size,4,none⟩) (by simp) (.slice P4 n4 d4));have G4:=hid ((G3.out.trans g4).st (p:=⟨W.heap.size,4,none⟩) (Nat.le_refl _) (.slice P4 n4 d4));have F0:Hid (FT (W.heap.size+2) b3 V3 (w4.setCell ⟨W.heap.size,4,none⟩ (.slice P4 n4 d4))):=hid ((FT.gr g4).trans (FT.st (p:=⟨W.heap.size,4,none⟩) (.inl (by show W.heap.size<_;omega)) _));have s4:(w4.setCell ⟨W.heap.size,4,none⟩ (.slice P4 n4 d4)).heap.size=w4.heap.size:=by simp [World.setCell]
    have t4:b3<=w4.heap.size:=by have:=g4.size;omega
    obtain⟨q4',z4'⟩:=(E3.out.gr g4).at_ (k:=4) (v:=.slice A4 n4 c4) rfl;clear o4 g4 q4 hgt;go_upto_region 10 with fail;generalize w4.setCell ⟨W.heap.size,4,none⟩ (.slice P4 n4 d4)=V4 at TR E4 Z4 G4 F0 s4 ⊢;generalize w4.heap.size=lo2 at TR s4 t4 ⊢;clear q4' z4' E3 Z3 G3;obtain⟨q4,-⟩:=E4.out.at_ (k:=4) (v:=.slice P4 n4 d4) rfl;go_wp2_with fail;have f1:FT (W.heap.size+2) wr.heap.size wr V4:=H1.out.trans (F0.out.sub (Nat.le_refl _) (by omega));have PD4:Hid (∀ W',FT (W.heap.size+2) wr.heap.size V4 W'->∃ R',PMem W' P1 k R'/\P12.pl R'=P12.pl R):=hid λ W' f=>PD.out _ W' (Nat.le_refl _) (f1.trans f)
    have C24:=hid (orow_ft C2.out (H2.out.trans (F0.out.sub (by omega) (by omega))));have C34:=hid (orow_ft C3.out (F0.out.sub (by omega) (Nat.le_refl _)));have hs0:W.heap.size+2<=wr.heap.size:=by omega
    clear f1 PD H1 H2 C2 C3 F0;generalize wr.heap.size=b1 at PD4 C24 C34 hs0 t2 ⊢
    go_loopw [41] (λ i wq=>∃ j:Nat,j<=n4/\i=.int .i64 (j:Int)/\lo2<=wq.heap.size/\Hid (TRow b3 lo2 gt wq T j)/\Hid (Blk wq W.heap.size (rA now stop ⟨P1,k,d1⟩ ⟨P2,n2,d2⟩ ⟨P3,n3,d3⟩ ⟨P4,n4,d4⟩) 29)/\Hid (Blk wq (W.heap.size+1) zeroA 29)/\Hid (Gr W wq)/\Hid (FT (W.heap.size+2) b3 V4 wq)) (λ i _=>n4-(intOf i).toNat)
    case atStart=>exact⟨0,Nat.zero_le _,rfl,by omega,TR,E4,Z4,G4,hid FT.refl⟩
    case round =>
     obtain⟨j,hj,rfl,hs,HP,HE,HZ,HG,HF⟩:=hrel;by_cases hlt:j<n4
     . obtain rfl:=HGT.out (by omega)
       obtain⟨y,hy⟩:∃ y,T[j]?=some y:=⟨_,zge (by rw [HTL.out];exact hlt)⟩;have HY:=hid hy;obtain⟨hgb,hgl,e0,e1,e2,f2⟩:=HP.out.at_ hy;have HYR:=hid (zmo hy);obtain⟨q4,-⟩:=HE.out.at_ (k:=4) (v:=.slice (some ⟨gt,0,none⟩) n4 d4) rfl;have cc:=cI.out y HYR.out;have k0:(0:Int)<=(j:Int):=by omega
       have k1:(j:Int)<(n4:Int):=by omega
       have hbx:=HE.out.lt;clear hy;go_upto_region 13 with fail;have gA:=(zr wr).al (.cells #[.int .i64 y.addr,.int .i64 y.cnt,.slice y.A y.n y.c] 91);have NB:=Blk.new wr #[.int .i64 y.addr,.int .i64 y.cnt,.slice y.A y.n y.c] 91;have HP1:=hid (HP.out.gr (by omega) gA);have HE1:=hid (HE.out.gr gA);have HZ1:=hid (HZ.out.gr gA);have HG1:=hid (HG.out.trans gA);have HF1:=hid (HF.out.trans (FT.gr gA));have a4:=(gA.cell (p:=⟨W.heap.size,4,none⟩) hbx).trans q4;have a2:=(gA.cell (p:=⟨gt,j*3+2,none⟩) hgl).trans e2;have b2':=(World.frozen?_of_block (a:=⟨gt,j*3+2,none⟩) (gA.block gt hgl)).trans f2;have hgl1:=zlt hgl gA.size;have hbx1:=zlt hbx gA.size;have hs1:=Nat.le_trans hs gA.size;have nbl:=NB.lt;clear HP HE HZ HG HF q4 e0 e1 e2 f2 gA;have NE:gt≠wr.heap.size:=by omega
       have NE2:W.heap.size≠wr.heap.size:=by omega
       generalize wr.alloc (.cells #[.int .i64 y.addr,.int .i64 y.cnt,.slice y.A y.n y.c] 91)=wq at NB HP1 HE1 HZ1 HG1 HF1 a4 a2 b2' hgl1 hbx1 hs1 nbl ⊢;generalize wr.heap.size=nb at NB NE NE2 hbx hgl hs nbl ⊢;obtain⟨n2',-⟩:=NB.at_ (k:=2) (v:=.slice y.A y.n y.c) rfl;have a4':wq.drew.cell? ⟨W.heap.size,4,none⟩=some (.slice (some ⟨gt,0,none⟩) n4 d4):=a4;have n2'':wq.drew.cell? ⟨nb,2,none⟩=some (.slice y.A y.n y.c):=n2'
       go_region_held3 (λ w'=>w'.cell? ⟨W.heap.size,4,none⟩=some (.slice (some ⟨gt,0,none⟩) n4 d4)/\w'.cell? ⟨nb,2,none⟩=some (.slice y.A y.n y.c)) (constructor<;>with_reducible assumption) (first | (go_at_call 62;(refine (cc _ (HG1.out.dr)).out.mono ?_);rintro ee w5 ⟨Q,dq,rfl,o5,g5⟩;have G5:=hid (((zr wq).dr).trans g5);have O5:=hid o5;have r1:=(G5.out.cell (p:=⟨W.heap.size,4,none⟩) hbx1).trans a4;have r2:=(G5.out.cell (p:=⟨gt,j*3+2,none⟩) hgl1).trans a2;have r3:=(World.frozen?_of_block (a:=⟨gt,j*3+2,none⟩) (G5.out.block gt hgl1)).trans b2';have r5:=(G5.out.cell (p:=⟨nb,2,none⟩) nbl).trans n2';have r4:=far_cell (p:=⟨gt,j*3+2,none⟩) (v:=.slice Q y.n dq) r1 (show W.heap.size≠gt by omega);have r6:=far_cell (p:=⟨gt,j*3+2,none⟩) (v:=.slice Q y.n dq) r5 (show nb≠gt by omega);clear o5 g5))
       rename_i hH;have P5:=hid (HP1.out.put (by omega) HY.out G5.out (HT.out.2.1 y HYR.out) O5.out (by show lo2<=wq.heap.size;omega));have E5:=hid ((HE1.out.gr G5.out).st (p:=⟨gt,j*3+2,none⟩) (by show gt≠W.heap.size;omega) (.slice Q y.n dq));have Z5:=hid ((HZ1.out.gr G5.out).st (p:=⟨gt,j*3+2,none⟩) (by show gt≠W.heap.size+1;omega) (.slice Q y.n dq));have F5:=hid ((HF1.out.trans (FT.gr G5.out)).trans (FT.st (p:=⟨gt,j*3+2,none⟩) (.inr (by show b3<=gt;omega)) (.slice Q y.n dq)));have W5:=hid ((HG1.out.trans G5.out).st (p:=⟨gt,j*3+2,none⟩) (by show W.heap.size<=gt;omega) (.slice Q y.n dq));have s5:lo2<=(w5.setCell ⟨gt,j*3+2,none⟩ (.slice Q y.n dq)).heap.size:=by have:=G5.out.size;simp [World.setCell];omega
       clear hH r1 r2 r3 r4 r5 r6 a4 a4' a2 b2' n2' n2'' G5 O5;generalize w5.setCell ⟨gt,j*3+2,none⟩ (.slice Q y.n dq)=W5' at P5 E5 Z5 F5 W5 s5 ⊢;go_wp2_with fail;go_roundw
       case rel=>exact⟨j+1,by omega,by go_num,s5,P5,E5,Z5,W5,F5⟩
       case measure=>simp [intOf];omega
     . obtain rfl:j=n4:=by omega
       have TD:=hid (HP.out.done (by omega) HTL.out.symm HGT.out);have lt0:=HE.out.lt;have lt1:=HZ.out.lt;obtain⟨⟨q0,y0⟩,⟨q1,y1⟩,⟨q2,y2⟩,⟨q3,y3⟩,⟨q4,y4⟩,⟨q5,y5⟩⟩:=at6z HE.out;obtain⟨⟨v0,x0⟩,⟨v1,x1⟩,⟨v2,x2⟩,⟨v3,x3⟩,⟨v4,x4⟩,⟨v5,x5⟩⟩:=at6z HZ.out;have WF:=hid (put6_blk HZ.out rfl (.int .i64 now) (.slice P1 k d1) (.slice P2 n2 d2) (.slice P3 n3 d3) (.slice P4 j d4) (.int .i64 stop));have GF:=hid (put6_gr (x0:=.int .i64 now) (x1:=.slice P1 k d1) (x2:=.slice P2 n2 d2) (x3:=.slice P3 n3 d3) (x4:=.slice P4 j d4) (x5:=.int .i64 stop) (b:=W.heap.size+1) HG.out (Nat.le_succ _));have FF:=hid (λ (lo hi:Nat) (hlo:W.heap.size+1<lo)=>(FromB.put6 (W:=wr) hlo (.int .i64 now) (.slice P1 k d1) (.slice P2 n2 d2) (.slice P3 n3 d3) (.slice P4 j d4) (.int .i64 stop)).ft (hi:=hi) (Nat.le_refl lo));clear HP TR E4 Z4 G4 cI HE HZ;go_wp2_with fail;clear q0 q1 q2 q3 q4 q5 y0 y1 y2 y3 y4 y5 v0 v1 v2 v3 v4 v5 x0 x1 x2 x3 x4 x5;generalize ((((((wr.setCell ⟨W.heap.size+1,0,none⟩ (.int .i64 now)).setCell ⟨W.heap.size+1,1,none⟩ (.slice P1 k d1)).setCell ⟨W.heap.size+1,2,none⟩ (.slice P2 n2 d2)).setCell ⟨W.heap.size+1,3,none⟩ (.slice P3 n3 d3)).setCell ⟨W.heap.size+1,4,none⟩ (.slice P4 j d4)).setCell ⟨W.heap.size+1,5,none⟩ (.int .i64 stop))=Wf at WF GF FF ⊢;obtain⟨F0,F1,F2,F3,F4,F5⟩:=at6 WF.out;have hW:=H.out;have fs:=(FF.out b3 b3 (by omega)).1;have hgs:=HF.out.1;exact bodyPost_ret (v:=WR.v ⟨now,⟨P1,k,d1⟩,⟨P2,n2,d2⟩,⟨P3,n3,d3⟩,⟨P4,j,d4⟩,stop⟩) (by simp [results,results35,go_sem,F0,F1,F2,F3,F4,F5]) rfl
        ⟨⟨⟨now,⟨P1,k,d1⟩,⟨P2,n2,d2⟩,⟨P3,n3,d3⟩,⟨P4,j,d4⟩,stop⟩,rfl,b1,b2,b3,
          { l1:=by omega,l2:=t2,l3:=t3,l4:=by omega,now:=hW.now,stop:=hW.stop,bn:=hW.bn,bs:=hW.bs,nc:=ln2,nm:=ln3
            p:=λ W' f=>by
             obtain⟨R',h1,h2⟩:=PD4.out W' (((HF.out.sub (Nat.le_refl _) (by omega)).trans (FF.out _ b1 (by omega))).trans (f.sub (by omega) (Nat.le_refl _)));exact⟨R',h1,h2.trans ER.out⟩
            c:=orow_ft C24.out ((HF.out.sub (by omega) (by omega)).trans (FF.out _ _ (by omega)))
            m:=orow_ft C34.out ((HF.out.sub (by omega) (Nat.le_refl _)).trans (FF.out _ _ (by omega)))
            t:=λ W' f=>by
             obtain⟨T',h1,h2⟩:=TD.out _ W' fs ((FF.out _ _ (by omega)).trans f);exact⟨T',h1,h2.trans ET.out⟩
            cb:=hW.c.all,mb:=hW.m.all,op:=O1.out,oc:=O2.out,om:=O3.out,ot:=O4.out }⟩,GF.out⟩
end
end P16
end
section
namespace P16
open P14 (pan)
open P12 (PV PMem)
section
variable {W:World} {r:WR} {ω:Wv} {who k n:Int} {c:Cl} {pr:List Ac}
abbrev xA (now stop:Int) (p c m t:Sl) (who:Int) (P:Option Addr) (k n:Int):Array Value:=#[.int .i64 now,.slice p.A p.n p.c,.slice c.A c.n c.c,.slice m.A m.n m.c,.slice t.A t.n t.c,.int .i64 stop,.int .i64 who,.pointer P,.int .i64 k,.int .i64 n,.slice none 0 0]
theorem turnOf_is (h:WIs W r ω) (hf:Few ω) (w0:0<=who) (hc:ω.cl[who.toNat]?=some c) (hp:ω.progs[who.toNat]?=some pr) (ha0:0<=c.act) (ha:pr[c.act.toNat]?=some (k,n)) (hm4:ω.mx.length=4) :
 Calls prog 41 #[r.v,.int .i64 who] W λ e w'=>(∃ (x:Cx) (T:Sl),e=.returned (.pointer (some ⟨x.b,0,none⟩))/\TS x w' T ⟨none,0,0⟩ ω.cl ω.mx ω.tb []/\x.B=W.heap.size/\x.now=ω.now/\x.who=who/\x.k=k/\x.n=n/\x.progs=ω.progs/\x.st=ω.stop/\x.p.n=r.p.n/\x.nc=r.c.n)/\Gr W w':=by
 have cC:=λ W1 (g:Gr W W1)=>hid (copied_is (h.gr g).rd hf)
 have hlc:=(zgl hc);have hlp:=(zgl hp);have hla:=(zgl ha);have fc:=hf.c;have LN:=hid h.lens;have HF:=hid (hf.a pr (zmo hp));have HC:=hid hc;have HP:=hid hp;have HA:=hid ha;have HLA:=hid hla;have HM4:=hid hm4;have G0:=hid ((zr W).al (.cells r.a 29));have hm4p:0<ω.mx.length:=by omega
 clear h hf hc hp ha hla hm4;go_enter func41,ntmps41;go_wp2_with fail;refine (cC _ G0.out).out.mono ?_;rintro e w1 ⟨⟨s,b1,b2,b3,rfl,hcp⟩,g1⟩;obtain⟨now,⟨A1,n1,c1⟩,⟨A2,n2,c2⟩,⟨A3,n3,c3⟩,⟨A4,n4,c4⟩,stop⟩:=s;have H2:Hid (ω.cl.length=n2):=hid hcp.nc;have H3:Hid (ω.mx.length=n3):=hid hcp.nm;obtain rfl:n3=4:=by have:=H3.out;have:=HM4.out;omega
 obtain⟨gc,e2,k2a,k2b,oc⟩:=hcp.c (by show 0<n2;have:=H2.out;omega);obtain⟨gm,e3,k3a,k3b,om⟩:=hcp.m (by show 0<4;decide);dsimp only at e2 e3;subst e2 e3;have l0:W.heap.size+1<=b1:=by have:=hcp.l1;rw [zsA] at this;omega
 have l1:=hcp.l2;have l2:=hcp.l3;have l3:=hcp.l4;obtain⟨Rc,mc0,ec0⟩:=hcp.p w1 FT.refl;have H1:Hid (ω.progs.length=n1):=hid (by have:=mc0.len;rw [<- ec0];unfold P12.pl;rw [List.length_map];exact this);have wn1:who<(n1:Int):=by have:=H1.out;omega
 have w1n:who<(n2:Int):=by have:=H2.out;omega
 have fc2:n2<=1000:=by have:=H2.out;omega
 clear hlc hlp fc;obtain⟨bp,op,y,hA1,hbp,hy,oky,ey⟩:=pmem_at mc0 (show who.toNat<n1 by omega);have hyl:y.l=pr:=by
  have h1:(P12.pl Rc)[who.toNat]?=some y.l:=by unfold P12.pl;rw [List.getElem?_map,hy];rfl
  rw [ec0,HP.out] at h1;cases h1;rfl
 obtain⟨ba,oa,hAy,hba,hca⟩:=oky.1.2.2 (by have:=oky.1.1;have:=HLA.out;rw [hyl] at *;omega);have hyn:c.act<(y.n:Int):=by have:=oky.1.1;have:=HLA.out;rw [hyl] at *;omega
 have f0:=hca (c.act.toNat*2) _ (flat_get0 _ _ _ (by rw [hyl];exact HA.out));have f1:=hca (c.act.toNat*2+1) _ (flat_get1 _ _ _ (by rw [hyl];exact HA.out));rw [<- Nat.add_assoc] at f1;have HIN:=hid (oky.1.2.1 (k,n) (by rw [hyl];exact zmo HA.out));rw [hAy] at ey;subst hA1;clear oky hca hy hyl hAy;have B1:=Blk.new w1 (xA now stop ⟨some ⟨bp,op,none⟩,n1,c1⟩ ⟨some ⟨gc,0,none⟩,n2,c2⟩ ⟨some ⟨gm,0,none⟩,4,c3⟩ ⟨A4,n4,c4⟩ who none 0 0) 99;have G1:=hid ((G0.out.trans g1).al (.cells (xA now stop ⟨some ⟨bp,op,none⟩,n1,c1⟩ ⟨some ⟨gc,0,none⟩,n2,c2⟩ ⟨some ⟨gm,0,none⟩,4,c3⟩ ⟨A4,n4,c4⟩ who none 0 0) 99));have gA:=(zr w1).al (.cells (xA now stop ⟨some ⟨bp,op,none⟩,n1,c1⟩ ⟨some ⟨gc,0,none⟩,n2,c2⟩ ⟨some ⟨gm,0,none⟩,4,c3⟩ ⟨A4,n4,c4⟩ who none 0 0) 99);have F1:=hid (λ lo hi=>(FT.gr gA:FT lo hi w1 _));have HCP:=hid hcp;clear hcp g1 cC mc0 ec0;go_upto_region 2 with fail;generalize w1.alloc (.cells (xA now stop ⟨some ⟨bp,op,none⟩,n1,c1⟩ ⟨some ⟨gc,0,none⟩,n2,c2⟩ ⟨some ⟨gm,0,none⟩,4,c3⟩ ⟨A4,n4,c4⟩ who none 0 0) 99)=W1 at B1 G1 gA F1 ⊢;generalize hb:w1.heap.size=b at B1 l3 ⊢;have HB:=hid hb;clear hb;have hbl:=B1.lt;obtain⟨q2,-⟩:=B1.at_ (k:=2) (v:=.slice (some ⟨gc,0,none⟩) n2 c2) rfl;obtain⟨q7,z7⟩:=B1.at_ (k:=7) (v:=.pointer none) rfl;go_upto_region 3 with fail;have B2:Blk (W1.setCell ⟨b,7,none⟩ (.pointer (some ⟨gc,who.toNat*13,none⟩))) b (xA now stop ⟨some ⟨bp,op,none⟩,n1,c1⟩ ⟨some ⟨gc,0,none⟩,n2,c2⟩ ⟨some ⟨gm,0,none⟩,4,c3⟩ ⟨A4,n4,c4⟩ who (some ⟨gc,who.toNat*13,none⟩) 0 0) 99:=B1.set 7 _;have G2:=hid (G1.out.st (p:=⟨b,7,none⟩) (by show W.heap.size<=b;omega) (.pointer (some ⟨gc,who.toNat*13,none⟩)));have F2:=hid (λ lo hi (hh:hi<=b)=>(F1.out lo hi).trans (FT.st (p:=⟨b,7,none⟩) (.inr (by show hi<=b;exact hh)) (.pointer (some ⟨gc,who.toNat*13,none⟩))));clear B1 q2 q7 z7 G1 F1 gA;generalize W1.setCell ⟨b,7,none⟩ (.pointer (some ⟨gc,who.toNat*13,none⟩))=V at B2 G2 F2 ⊢;have o2:=oc.kept ((F2.out gc (gc+1) (by omega)).2 gc (Nat.le_refl _) (by omega) oc.lt);obtain⟨s2,-⟩:=o2.at_ (j:=2) HC.out rfl;rw [Nat.zero_add] at s2;have keep:∀ p:Addr,p.block<b->V.cell? p=w1.cell? p:=λ p hp=>World.cell?_of_block ((F2.out 0 b (Nat.le_refl _)).2 p.block (Nat.zero_le _) hp (by have:=HB.out;omega))
 have ey:=(keep ⟨bp,op+who.toNat,none⟩ (by show bp<b;have:=HB.out;omega)).trans ey;have f0:=(keep ⟨ba,oa+c.act.toNat*2,none⟩ (by show ba<b;have:=HB.out;omega)).trans f0;have f1:=(keep ⟨ba,oa+c.act.toNat*2+1,none⟩ (by show ba<b;have:=HB.out;omega)).trans f1;have nb1:bp≠b:=by have:=HB.out;omega
 have nb2:ba≠b:=by have:=HB.out;omega
 have nb3:gc≠b:=by omega
 clear keep;obtain⟨p1,-⟩:=B2.at_ (k:=1) (v:=.slice (some ⟨bp,op,none⟩) n1 c1) rfl;obtain⟨p7,-⟩:=B2.at_ (k:=7) (v:=.pointer (some ⟨gc,who.toNat*13,none⟩)) rfl;obtain⟨p8,y8⟩:=B2.at_ (k:=8) (v:=.int .i64 0) rfl;obtain⟨p9,y9⟩:=B2.at_ (k:=9) (v:=.int .i64 0) rfl;refine wp_region_held_drew (S:=(λ w'=>w'.cell? ⟨b,1,none⟩=some (.slice (some ⟨bp,op,none⟩) n1 c1)/\w'.cell? ⟨b,7,none⟩=some (.pointer (some ⟨gc,who.toNat*13,none⟩))/\w'.cell? ⟨bp,op+who.toNat,none⟩=some (.slice (some ⟨ba,oa,none⟩) y.n y.c)/\w'.cell? ⟨gc,who.toNat*13+2,none⟩=some (.int .i64 c.act)/\w'.cell? ⟨ba,oa+c.act.toNat*2,none⟩=some (.int .i64 k)/\w'.cell? ⟨ba,oa+c.act.toNat*2+1,none⟩=some (.int .i64 n))) (by kernel_rfl) ⟨p1,p7,ey,s2,f0,f1⟩ (λ hS=>?_);refine wG 0 hS ?_;refine wG 1 hS ?_;refine wG 2 hS ?_;refine wG 3 hS ?_;refine wG 4 hS ?_;refine wG 5 hS ?_;refine wG 6 hS ?_;refine wG 7 hS ?_;refine wG 8 hS ?_;refine wG 9 hS ?_;refine wG 10 hS ?_;refine wG 11 hS ?_;refine wG 12 hS ?_;refine wG 13 hS ?_;refine wG 14 hS ?_;refine wG 15 hS ?_;refine wG 16 hS ?_;refine wG 17 hS ?_;refine wG 18 hS ?_;refine wG 19 hS ?_;refine wR1 20 (λ K hK=>?_);go_simp;have B3:Blk ((V.setCell ⟨b,8,none⟩ (.int .i64 k)).setCell ⟨b,9,none⟩ (.int .i64 n)) b (xA now stop ⟨some ⟨bp,op,none⟩,n1,c1⟩ ⟨some ⟨gc,0,none⟩,n2,c2⟩ ⟨some ⟨gm,0,none⟩,4,c3⟩ ⟨A4,n4,c4⟩ who (some ⟨gc,who.toNat*13,none⟩) k n) 99:=(B2.set 8 _).set 9 _;have G3:=hid ((G2.out.st (p:=⟨b,8,none⟩) (by show W.heap.size<=b;omega) (.int .i64 k)).st (p:=⟨b,9,none⟩) (by show W.heap.size<=b;omega) (.int .i64 n));have F3:Hid (∀ lo hi,hi<=b->FT lo hi w1 ((V.setCell ⟨b,8,none⟩ (.int .i64 k)).setCell ⟨b,9,none⟩ (.int .i64 n))):=hid (λ lo hi (hh:hi<=b)=>((F2.out lo hi hh).trans (FT.st (p:=⟨b,8,none⟩) (.inr (by show hi<=b;exact hh)) (.int .i64 k))).trans (FT.st (p:=⟨b,9,none⟩) (.inr (by show hi<=b;exact hh)) (.int .i64 n)));obtain⟨r1,-⟩:=B3.at_ (k:=1) (v:=.slice (some ⟨bp,op,none⟩) n1 c1) rfl;obtain⟨r7,-⟩:=B3.at_ (k:=7) (v:=.pointer (some ⟨gc,who.toNat*13,none⟩)) rfl;have far:=λ (q:Addr) (v:Value) (hq:V.cell? q=some v) (hne:q.block≠b)=>far_cell (p:=⟨b,9,none⟩) (v:=.int .i64 n) (far_cell (p:=⟨b,8,none⟩) (v:=.int .i64 k) hq hne) hne
 refine hK.out _ _ ⟨r1,r7,far _ _ ey nb1,far _ _ s2 nb3,far _ _ f0 nb2,far _ _ f1 nb2⟩ (λ hS=>?_);clear hK K hS far r1 r7 ey s2 f0 f1 p1 p7 p8 p9 y8 y9 B2 G2
 try simp only [pL]
 refine wpAnyH_done (by kernel_rfl) ?_ _;generalize ((V.setCell ⟨b,8,none⟩ (.int .i64 k)).setCell ⟨b,9,none⟩ (.int .i64 n))=V3 at B3 G3 F3 ⊢;go_wp2_with fail;go_ret;have B3:=B3.gr (zr V3).dr;have G3:=hid G3.out.dr;have F3:Hid (∀ lo hi,hi<=b->FT lo hi w1 V3.drew):=hid λ lo hi hh=>(F3.out lo hi hh).trans (FT.gr (zr V3).dr)
 generalize V3.drew=V3 at B3 G3 F3 ⊢;have hcp:=HCP.out;have hw1:=HB.out;have kft:∀ (lo hi:Nat) (W':World),W.heap.size<=lo->(∀ j,lo<=j->j<hi->j≠b/\j≠gc/\j≠gm)->hi<=b->Kb ⟨W.heap.size,b,gc,0,gm,0,now,who,k,n,⟨some ⟨bp,op,none⟩,n1,c1⟩,n2,c2,c3,ω.progs,stop⟩ V3 W'->FT lo hi w1 W':=λ lo hi W' h1 h2 h3 h4=>(F3.out lo hi h3).trans ⟨h4.1,λ j j1 j2 j3=>h4.2 j (by show W.heap.size<=j;omega) j3 (h2 j j1 j2).1 (h2 j j1 j2).2.1 (h2 j j1 j2).2.2⟩
 refine⟨⟨⟨W.heap.size,b,gc,0,gm,0,now,who,k,n,⟨some ⟨bp,op,none⟩,n1,c1⟩,n2,c2,c3,ω.progs,stop⟩,⟨A4,n4,c4⟩,rfl,?_,rfl,hcp.now,rfl,rfl,rfl,rfl,hcp.stop,?_,?_⟩,G3.out⟩
 . exact { lb:=(by show W.heap.size<=b;omega),lc:=(by show W.heap.size<=gc;omega),lm:=(by show W.heap.size<=gm;omega),n1:=(by show b≠gc;omega),n2:=(by show b≠gm;omega),n3:=(by show gc≠gm;omega)
           t:=by show Blk V3 b #[.int .i64 now,.slice (some ⟨bp,op,none⟩) n1 c1,.slice (some ⟨gc,0,none⟩) n2 c2,.slice (some ⟨gm,0,none⟩) 4 c3,.slice A4 n4 c4,.int .i64 stop,.int .i64 who,.pointer (some ⟨gc,0+who.toNat*13,none⟩),.int .i64 k,.int .i64 n,.slice none 0 0] _;rw [Nat.zero_add];exact B3
           c:=oc.kept ((F3.out gc (gc+1) (by omega)).2 gc (Nat.le_refl _) (by omega) (by omega)),m:=om.kept ((F3.out gm (gm+1) (by omega)).2 gm (Nat.le_refl _) (by omega) (by omega))
           cb:=hcp.cb,mb:=hcp.mb,lenc:=H2.out,lenm:=H3.out
           pr:=λ W' q=>hcp.p W' (kft _ _ _ (by rw [zsA];omega) (λ j j1 j2=>by omega) (by omega) q)
           tb:=λ W' q=>hcp.t W' (kft _ _ _ (by omega) (λ j j1 j2=>by omega) (by omega) q)
           ev:=λ _ _=>RMem.nil_,op:=hcp.op,ot:=hcp.ot,oe:=⟨Nat.le_refl _,Nat.zero_le _⟩,oc:=hcp.oc,om:=hcp.om,w0:=w0,w1:=by show who<(n2:Int);exact w1n,wi:=(show B64 who from ⟨by omega,by omega⟩),ni:=HIN.out.2,kt:=by show B64 now;have e:now=ω.now:=hcp.now;rw [e];exact hcp.bn }
 . show n1=r.p.n;have h1:=LN.out.1;have h2:=H1.out;omega
 . show n2=r.c.n;have h1:=LN.out.2.1;have h2:=H2.out;omega
end
end P16
end
section
namespace P16
open P12 (badAt badAt_is ret_bool)
instance (v:Int):Decidable (OkW v):=by unfold OkW;infer_instance
def okM (a:T3):Bool:=decide (OkW a.1)&&P6.tkB a.2.1 a.2.2
theorem unfitM_no {a:T3} (h:¬ OkW a.1) (W:World) :
 Calls prog 68 #[.agg #[.int .i64 a.1,.int .i64 a.2.1,.int .i64 a.2.2]] W λ e w'=>e=.returned (.bool true)/\Gr W w':=by
 have cu:=λ W=>hid (P3.Unpack_no a.1 h W)
 go_enter func68,ntmps68;go_wp2_with fail;refine (cu _).out.mono ?_;rintro e w1 ⟨rfl,g1⟩;go_wp2_with fail;go_ret;exact⟨rfl,(((zr W).al _).trans g1).al _⟩
theorem unfitM_yes {a:T3} {r:Bool} (h:OkW a.1) (hr:P6.tkB a.2.1 a.2.2=r) (hb:TB3 a) (W:World) :
 Calls prog 68 #[.agg #[.int .i64 a.1,.int .i64 a.2.1,.int .i64 a.2.2]] W λ e w'=>e=.returned (.bool (!r))/\Gr W w':=by
 obtain⟨v,n,s⟩:=a;dsimp only at h hr ⊢;obtain⟨-,b1,b2⟩:=hb;dsimp only at b1 b2;obtain⟨p,q,t,m,rfl,hn⟩:=okw_pw h;have cu:=λ W=>hid (P3.Unpack_ok p q t m hn W)
 have cr:=λ W=>hid (P6.Right_is hr b1 b2 W)
 generalize P3.pw p q t m=v at *;have N0:=Blk.new W #[.int .i64 v,.int .i64 n,.int .i64 s] 48;clear h hr b1 b2 hn;go_enter func68,ntmps68;go_wp2_with fail;refine (cu _).out.mono ?_;rintro e w1 ⟨rfl,g1⟩;have G1:=hid ((((zr W).al (.cells #[.int .i64 v,.int .i64 n,.int .i64 s] 48)).trans g1).al (.cells #[.bool p,.bool q,.bool t,.int .i64 m] 42));have B1:=(N0.gr g1).al (.cells #[.bool p,.bool q,.bool t,.int .i64 m] 42);obtain⟨e1,-⟩:=B1.at_ (k:=1) rfl;obtain⟨e2,-⟩:=B1.at_ (k:=2) rfl;clear B1 N0 g1;go_wp2_with fail;refine (cr _).out.mono ?_;rintro e w2 ⟨rfl,g2⟩;go_wp2_with fail;go_ret;exact⟨rfl,G1.out.trans g2⟩
theorem unfitM_is {a:T3} {B:Bool} (hf:okM a=B) (hb:TB3 a) (W:World) :
 Calls prog 68 #[.agg #[.int .i64 a.1,.int .i64 a.2.1,.int .i64 a.2.2]] W λ e w'=>e=.returned (.bool (!B))/\Gr W w':=by
 unfold okM at hf;by_cases h:OkW a.1
 . exact unfitM_yes h (by rw [<- hf];simp [h]) hb W
 . have:B=false:=by rw [<- hf];simp [h]
   subst this;exact unfitM_no h W
theorem IndexFuncM_ok (A:Option Addr) (n c:Nat) (l:List T3) (w:World) (hm:T3Mem w A n l) (hn:n<=9223372036854775807) :
 Calls prog 89 #[.slice A n c,.func (.func 68) #[] #[]] w λ e w'=>e=.returned (.int .i64 (badAt okM l 0))/\Gr w w':=by
 go_enter func89,ntmps89;go_wp2_with fail
 go_loopw [8] (λ i wr=>∃ k:Nat,k<=n/\i=.int .i64 k/\Hid (badAt okM (l.drop k) k=badAt okM l 0)/\Gr w wr) (λ i _=>n-(intOf i).toNat)
 case atStart=>exact⟨0,Nat.zero_le _,rfl,hid rfl,zr _⟩
 case round =>
  obtain⟨k,hk,rfl,HB,hg⟩:=hrel;by_cases hlt:k<n
  . obtain⟨b,off,x,rfl,hbl,hx,ho,c0,c1,c2⟩:=T3Mem.cells (RMem.gr hm hg) hlt
    have hd:l.drop k=x::l.drop (k+1):=by
     obtain⟨hl,rfl⟩:=List.getElem?_eq_some_iff.1 hx;exact List.drop_eq_getElem_cons hl
    cases hf:okM x
    . have hr:badAt okM l 0=(k:Int):=by rw [<- HB.out,hd];simp [badAt,hf]
      have HR:=hid hr;have cc:=λ w=>hid (unfitM_is hf ho w)
      clear hr hd hf hx HB hm;go_wp2_with fail;refine (cc _).out.mono ?_;rintro e w1 ⟨rfl,hb1⟩;go_wp2_with fail;go_ret;rw [HR.out];exact⟨rfl,hg.trans hb1⟩
    . have hr:Hid (badAt okM (l.drop (k+1)) (k+1)=badAt okM l 0):=hid (by rw [<- HB.out,hd];simp [badAt,hf])
      have cc:=λ w=>hid (unfitM_is hf ho w)
      clear hd hf hx HB hm;go_wp2_with fail;refine (cc _).out.mono ?_;rintro e w1 ⟨rfl,hb1⟩;go_wp2_with fail;go_roundw
      case rel=>exact⟨k+1,by omega,by go_num,hr,hg.trans hb1⟩
      case measure=>simp [intOf];omega
  . obtain rfl:k=n:=by omega
    have hr:badAt okM l 0=-1:=by rw [<- HB.out,List.drop_of_length_le (by have:=RMem.len hm;omega)];rfl
    have HR:=hid hr;clear hr HB hm;go_wp2_with fail;go_ret;rw [HR.out];exact⟨rfl,hg⟩
theorem ContainsFuncM_ok (A:Option Addr) (n c:Nat) (l:List T3) (w:World) (hm:T3Mem w A n l) (hn:n<=9223372036854775807) :
 Calls prog 67 #[.slice A n c,.func (.func 68) #[] #[]] w λ e w'=>e=.returned (.bool (!l.all okM))/\Gr w w':=by
 have cc:=λ w hm=>hid (IndexFuncM_ok A n c l w hm hn)
 have HB:=hid (badAt_is okM l 0);generalize badAt okM l 0=r at *;go_enter func67,ntmps67;go_wp2_with fail;refine (cc _ hm).out.mono ?_;rintro e w1 ⟨rfl,hb1⟩;go_wp2_with fail;go_ret;exact⟨ret_bool HB.out,hb1⟩
end P16
end
section
namespace P16
open P14 (pan)
open P12 (PV PMem)
section
variable {W:World} {r:WR} {ω:Wv}
theorem right_all {b1 b2 b5 b6 b7 b9:Bool} (N0:Hid (Blk (W.alloc (.cells r.a 29)) W.heap.size r.a 29))
 (c1:∀ W',Hid (Calls prog 44 #[.int .i64 r.now] W' λ e w'=>e=.returned (.bool b1)/\Gr W' w'))
 (c2:∀ W',Gr W W'->Hid (Calls prog 34 #[.slice r.p.A r.p.n r.p.c] W' λ e w'=>e=.returned (.bool b2)/\Gr W' w'))
 (c5:∀ W',Gr W W'->Hid (Calls prog 67 #[.slice r.m.A r.m.n r.m.c,.func (.func 68) #[] #[]] W' λ e w'=>e=.returned (.bool (!b5))/\Gr W' w'))
 (c6:∀ W',Gr W W'->Hid (Calls prog 69 #[.slice r.t.A r.t.n r.t.c,.int .i64 (r.c.n:Int)] W' λ e w'=>e=.returned (.bool b6)/\Gr W' w'))
 (c7:(r.c.n:Int)=(r.p.n:Int)->b2=true->∀ W',Gr W W'->Hid (Calls prog 70 #[.slice r.c.A r.c.n r.c.c] W' λ e w'=>∃ G,e=.returned (.slice G r.c.n r.c.n)/\Gr W' w'/\Hid (∀ w'',Gr w' w''->Hid (Calls prog 47 #[.slice G r.c.n r.c.n] w'' λ e w3=>e=.returned (.bool b7)/\Gr w'' w3))))
 (c9:(r.c.n:Int)=(r.p.n:Int)->b2=true->∀ W',Gr W W'->Hid (Calls prog 71 #[.slice r.c.A r.c.n r.c.c,.slice r.p.A r.p.n r.p.c] W' λ e w'=>e=.returned (.bool b9)/\Gr W' w')) :
 Calls prog 39 #[r.v] W λ e w'=>e=.returned (.bool (b1&&b2&&((r.c.n:Int)==(r.p.n:Int))&&((r.m.n:Int)==4)&&b5&&b6&&b7&&((r.stop==0)||(r.stop==11)||(r.stop==12))&&b9))/\Gr W w':=by
 have G0:Hid (Gr W _):=hid ((zr W).al (.cells r.a 29));go_enter func39,ntmps39;go_wp2_with fail;refine (c1 _).out.mono ?_;rintro e w1 ⟨rfl,g1⟩;have X1:=hid (G0.out.trans g1);have D1:=hid g1;clear g1;have Bf:=N0.out.gr D1.out;obtain⟨f10,f11,f12,f13,f14,f15⟩:=at6 Bf;clear Bf;cases b1
 . go_wp2_with fail
   all_goals (go_ret;exact⟨by simp,X1.out⟩)
 . skip
   go_wp2_with fail;refine (c2 _ X1.out).out.mono ?_;rintro e w2 ⟨rfl,g2⟩;have X2:=hid (X1.out.trans g2);have D2:=hid (D1.out.trans g2);clear g2;clear f10 f11 f12 f13 f14 f15;have Bf:=N0.out.gr D2.out;obtain⟨f20,f21,f22,f23,f24,f25⟩:=at6 Bf;clear Bf;cases b2
   . go_wp2_with fail
     all_goals (go_ret;exact⟨by simp,X2.out⟩)
   . skip
     cases h3:((r.c.n:Int)==(r.p.n:Int))
     . go_wp2_with fail
       all_goals (go_ret;exact⟨by simp [*],X2.out⟩)
     . skip
       have q7:=c7 (by simpa using h3) rfl;have q9:=c9 (by simpa using h3) rfl;clear c7 c9;cases h4:((r.m.n:Int)==4)
       . go_wp2_with fail
         all_goals (go_ret;exact⟨by simp [*],X2.out⟩)
       . skip
         go_wp2_with fail;refine (c5 _ X2.out).out.mono ?_;rintro e w3 ⟨rfl,g3⟩;have X3:=hid (X2.out.trans g3);have D3:=hid (D2.out.trans g3);clear g3;clear f20 f21 f22 f23 f24 f25;have Bf:=N0.out.gr D3.out;obtain⟨f30,f31,f32,f33,f34,f35⟩:=at6 Bf;clear Bf;cases b5
         . go_wp2_with fail
           all_goals (go_ret;exact⟨by simp,X3.out⟩)
         . skip
           go_wp2_with fail;refine (c6 _ X3.out).out.mono ?_;rintro e w4 ⟨rfl,g4⟩;have X4:=hid (X3.out.trans g4);have D4:=hid (D3.out.trans g4);clear g4;clear f30 f31 f32 f33 f34 f35;have Bf:=N0.out.gr D4.out;obtain⟨f40,f41,f42,f43,f44,f45⟩:=at6 Bf;clear Bf;cases b6
           . go_wp2_with fail
             all_goals (go_ret;exact⟨by simp,X4.out⟩)
           . skip
             go_wp2_with fail;refine (q7 _ X4.out).out.mono ?_;rintro e w5 ⟨GA,rfl,g5,cp⟩;have X5:=hid (X4.out.trans g5);have D5:=hid (D4.out.trans g5);clear g5;clear f40 f41 f42 f43 f44 f45;have Bf:=N0.out.gr D5.out;obtain⟨f50,f51,f52,f53,f54,f55⟩:=at6 Bf;clear Bf;go_wp2_with fail;refine (cp.out _ (zr _)).out.mono ?_;rintro e w6 ⟨rfl,g6⟩;have X6:=hid (X5.out.trans g6);have D6:=hid (D5.out.trans g6);clear g6;clear f50 f51 f52 f53 f54 f55;have Bf:=N0.out.gr D6.out;obtain⟨f60,f61,f62,f63,f64,f65⟩:=at6 Bf;clear Bf;cases b7
             . go_wp2_with fail
               all_goals (go_ret;exact⟨by simp,X6.out⟩)
             . skip
               cases h8:(r.stop==0);rotate_left
               . skip
                 go_wp2_with fail;refine (q9 _ X6.out).out.mono ?_;rintro e w9 ⟨rfl,g9⟩;have X9:=hid (X6.out.trans g9);have D9:=hid (D6.out.trans g9);clear g9;clear f60 f61 f62 f63 f64 f65;have Bf:=N0.out.gr D9.out;obtain⟨f90,f91,f92,f93,f94,f95⟩:=at6 Bf;clear Bf;go_wp2_with fail
                 all_goals (go_ret;exact⟨by simp [*],X9.out⟩)
               . skip
                 cases h8b:(r.stop==11);rotate_left
                 . skip
                   go_wp2_with fail;refine (q9 _ X6.out).out.mono ?_;rintro e w9 ⟨rfl,g9⟩;have X9:=hid (X6.out.trans g9);have D9:=hid (D6.out.trans g9);clear g9;clear f60 f61 f62 f63 f64 f65;have Bf:=N0.out.gr D9.out;obtain⟨f90,f91,f92,f93,f94,f95⟩:=at6 Bf;clear Bf;go_wp2_with fail
                   all_goals (go_ret;exact⟨by simp [*],X9.out⟩)
                 . skip
                   cases h8c:(r.stop==12)
                   . go_wp2_with fail
                     all_goals (go_ret;exact⟨by simp [*],X6.out⟩)
                   . skip
                     go_wp2_with fail;refine (q9 _ X6.out).out.mono ?_;rintro e w9 ⟨rfl,g9⟩;have X9:=hid (X6.out.trans g9);have D9:=hid (D6.out.trans g9);clear g9;clear f60 f61 f62 f63 f64 f65;have Bf:=N0.out.gr D9.out;obtain⟨f90,f91,f92,f93,f94,f95⟩:=at6 Bf;clear Bf;go_wp2_with fail
                     all_goals (go_ret;exact⟨by simp [*],X9.out⟩)
end
end P16
end
section
namespace P16
open P12 (badAt badAt_is ret_bool)
section
variable {W w:World} {q:Nat} {N x:Int} {A:Option Addr} {n c:Nat} {l:List Int}
theorem strange_is (B:Blk W q #[.int .i64 N] 3) :
 Calls prog 91 #[.int .i64 x,.pointer (some ⟨q,0,none⟩)] W λ e w'=>e=.returned (.bool (decide (N<=x)))/\w'=W:=by
 obtain⟨c0,-⟩:=B.at_ (k:=0) rfl;go_enter func91,ntmps91;go_wp2_with fail;go_ret;exact⟨rfl,rfl⟩
def okI (N:Int) (x:Int):Bool:=!decide (N<=x)
abbrev sf (q:Nat):Value:=.func (.func 91) #[] #[.pointer (some ⟨q,0,none⟩)]
theorem IndexFuncI_ok (B:Blk w q #[.int .i64 N] 3) (hm:IMem w A n l) (hn:n<=9223372036854775807) :
 Calls prog 127 #[.slice A n c,sf q] w λ e w'=>e=.returned (.int .i64 (badAt (okI N) l 0))/\Gr w w':=by
 go_enter func127,ntmps127;go_wp2_with fail
 go_loopw [8] (λ i wr=>∃ k:Nat,k<=n/\i=.int .i64 k/\Hid (badAt (okI N) (l.drop k) k=badAt (okI N) l 0)/\Gr w wr) (λ i _=>n-(intOf i).toNat)
 case atStart=>exact⟨0,Nat.zero_le _,rfl,hid rfl,zr _⟩
 case round =>
  obtain⟨k,hk,rfl,HB,hg⟩:=hrel;by_cases hlt:k<n
  . obtain⟨b,off,rfl,hbl,hc⟩:=(hm.gr hg).2.2 (by omega)
    obtain⟨x,hx⟩:∃ x,l[k]?=some x:=⟨_,zge (by have:=hm.1;omega)⟩;have c0:=hc k x hx;have hd:l.drop k=x::l.drop (k+1):=by
     obtain⟨hl,rfl⟩:=List.getElem?_eq_some_iff.1 hx;exact List.drop_eq_getElem_cons hl
    have cc:=hid (strange_is (x:=x) (B.gr hg));cases hf:decide (N<=x)
    . have hr:Hid (badAt (okI N) (l.drop (k+1)) (k+1)=badAt (okI N) l 0):=hid (by rw [<- HB.out,hd];simp [badAt,okI,hf])
      rw [hf] at cc;clear hd hf hx HB hm hc;go_wp2_with fail;refine cc.out.mono ?_;rintro e w1 ⟨rfl,rfl⟩;go_wp2_with fail;go_roundw
      case rel=>exact⟨k+1,by omega,by go_num,hr,hg⟩
      case measure=>simp [intOf];omega
    . have hr:badAt (okI N) l 0=(k:Int):=by rw [<- HB.out,hd];simp [badAt,okI,hf]
      have HR:=hid hr;rw [hf] at cc;clear hr hd hf hx HB hm hc;go_wp2_with fail;refine cc.out.mono ?_;rintro e w1 ⟨rfl,rfl⟩;go_wp2_with fail;go_ret;rw [HR.out];exact⟨rfl,hg⟩
  . obtain rfl:k=n:=by omega
    have hr:badAt (okI N) l 0=-1:=by rw [<- HB.out,List.drop_of_length_le (by have:=hm.1;omega)];rfl
    have HR:=hid hr;clear hr HB hm;go_wp2_with fail;go_ret;rw [HR.out];exact⟨rfl,hg⟩
theorem ContainsFuncI_ok (B:Blk w q #[.int .i64 N] 3) (hm:IMem w A n l) (hn:n<=9223372036854775807) :
 Calls prog 95 #[.slice A n c,sf q] w λ e w'=>e=.returned (.bool (!l.all (okI N)))/\Gr w w':=by
 have cc:=hid (IndexFuncI_ok (c:=c) B hm hn);have HB:=hid (badAt_is (okI N) l 0);generalize badAt (okI N) l 0=r at *;go_enter func95,ntmps95;go_wp2_with fail;refine cc.out.mono ?_;rintro e w1 ⟨rfl,hb1⟩;go_wp2_with fail;go_ret;exact⟨ret_bool HB.out,hb1⟩
end
section
variable {W w:World} {q p:Nat} {N:Int} {A:Option Addr} {n c:Nat} {l:List SV} {x:SV}
def okSp (N:Int) (x:SV):Bool:=decide (x.addr % 8=0)&&decide (x.addr<32)&&x.line.all (okI N)
theorem unfitS_is (B:Blk W q #[.int .i64 N] 3) (D:Blk W p #[sf q] 101) (h:x.ok W) (h0:0<=x.addr) (h1:x.addr<=9223372036854775807) :
 Calls prog 94 #[.agg #[.int .i64 x.addr,.int .i64 x.cnt,.slice x.A x.n x.c],.pointer (some ⟨p,0,none⟩)] W λ e w'=>e=.returned (.bool (!okSp N x))/\Gr W w':=by
 have g1:=(zr W).al (.cells #[.int .i64 x.addr,.int .i64 x.cnt,.slice x.A x.n x.c] 91);have hl:x.n<=9223372036854775807:=by have:=h.2.2.2;omega
 have cc:=hid (ContainsFuncI_ok (c:=x.c) (B.gr g1) (h.2.2.1.gr g1) hl);have HG:=hid g1;have hv:okSp N x=(decide (x.addr % 8=0)&&decide (x.addr / 8<4)&&x.line.all (okI N)):=by
  unfold okSp;by_cases q:x.addr<32
  . have q2:x.addr / 8<4:=by omega
    simp [q,q2]
  . have q2:¬ x.addr / 8<4:=by omega
    simp [q,q2]
 obtain⟨L,hL⟩:∃ L,x.line.all (okI N)=L:=⟨_,rfl⟩;rw [hL] at cc hv;obtain⟨d0,-⟩:=D.at_ (k:=0) rfl;have hW:=D.lt;rw [hv];clear h g1 B D hL hv;go_enter func94,ntmps94;go_wp2_with fail
 all_goals first
  | (refine cc.out.mono ?_
     rintro e w1 ⟨rfl,g2⟩;go_wp2_with fail;go_ret;exact⟨ret_bool (by simp_all<;>(intro q;exfalso;omega)),HG.out.trans g2⟩)
  | (go_ret
     exact⟨ret_bool (by simp_all),HG.out⟩)
abbrev sg (p:Nat):Value:=.func (.func 94) #[] #[.pointer (some ⟨p,0,none⟩)]
theorem IndexFuncS_ok (B:Blk w q #[.int .i64 N] 3) (D:Blk w p #[sf q] 101) (hm:SMem w A n l) (hn:n<=9223372036854775807) (hk:∀ x∈l,0<=x.addr/\x.addr<=9223372036854775807) :
 Calls prog 126 #[.slice A n c,sg p] w λ e w'=>e=.returned (.int .i64 (badAt (okSp N) l 0))/\Gr w w':=by
 go_enter func126,ntmps126;go_wp2_with fail
 go_loopw [8] (λ i wr=>∃ k:Nat,k<=n/\i=.int .i64 k/\Hid (badAt (okSp N) (l.drop k) k=badAt (okSp N) l 0)/\Gr w wr) (λ i _=>n-(intOf i).toNat)
 case atStart=>exact⟨0,Nat.zero_le _,rfl,hid rfl,zr _⟩
 case round =>
  obtain⟨k,hkn,rfl,HB,hg⟩:=hrel;by_cases hlt:k<n
  . obtain⟨b,off,x,rfl,hbl,hx,ho,c0,c1,c2⟩:=(hm.gr hg).at_ hlt
    have hd:l.drop k=x::l.drop (k+1):=by
     obtain⟨hl,rfl⟩:=List.getElem?_eq_some_iff.1 hx;exact List.drop_eq_getElem_cons hl
    obtain⟨x0,x1⟩:=hk x (zmo hx);have cc:=hid (unfitS_is (B.gr hg) (D.gr hg) ho x0 x1);cases hf:okSp N x
    . have hr:badAt (okSp N) l 0=(k:Int):=by rw [<- HB.out,hd];simp [badAt,hf]
      have HR:=hid hr;rw [hf] at cc;clear hr hd hf hx HB hm hk ho x0 x1 B D;go_wp2_with fail;refine cc.out.mono ?_;rintro e w1 ⟨rfl,g2⟩;go_wp2_with fail;go_ret;rw [HR.out];exact⟨rfl,hg.trans g2⟩
    . have hr:Hid (badAt (okSp N) (l.drop (k+1)) (k+1)=badAt (okSp N) l 0):=hid (by rw [<- HB.out,hd];simp [badAt,hf])
      rw [hf] at cc;clear hd hf hx HB hm hk ho x0 x1 B D;go_wp2_with fail;refine cc.out.mono ?_;rintro e w1 ⟨rfl,g2⟩;go_wp2_with fail;go_roundw
      case rel=>exact⟨k+1,by omega,by go_num,hr,hg.trans g2⟩
      case measure=>simp [intOf];omega
  . obtain rfl:k=n:=by omega
    have hr:badAt (okSp N) l 0=-1:=by rw [<- HB.out,List.drop_of_length_le (by have:=hm.1;omega)];rfl
    have HR:=hid hr;clear hr HB hm hk;go_wp2_with fail;go_ret;rw [HR.out];exact⟨rfl,hg⟩
theorem ContainsFuncS_ok (B:Blk w q #[.int .i64 N] 3) (D:Blk w p #[sf q] 101) (hm:SMem w A n l) (hn:n<=9223372036854775807) (hk:∀ x∈l,0<=x.addr/\x.addr<=9223372036854775807) :
 Calls prog 93 #[.slice A n c,sg p] w λ e w'=>e=.returned (.bool (!l.all (okSp N)))/\Gr w w':=by
 have cc:=hid (IndexFuncS_ok (c:=c) B D hm hn hk);have HB:=hid (badAt_is (okSp N) l 0);generalize badAt (okSp N) l 0=r at *;go_enter func93,ntmps93;go_wp2_with fail;refine cc.out.mono ?_;rintro e w1 ⟨rfl,hb1⟩;go_wp2_with fail;go_ret;exact⟨ret_bool HB.out,hb1⟩
theorem rightTable_is (hm:SMem w A n l) (hn:n<=9223372036854775807) (hk:Tab l->∀ x∈l,0<=x.addr/\x.addr<=9223372036854775807) {v:Bool} (hv:v=true↔Tab l/\l.all (okSp N)=true) :
 Calls prog 69 #[.slice A n c,.int .i64 N] w λ e w'=>e=.returned (.bool v)/\Gr w w':=by
 have hmf:=mkF;have g1:=((zr w).al (.cells #[.int .i64 N] 3)).al (.cells #[sf w.heap.size] 101);have B1:=(Blk.new w #[.int .i64 N] 3).al (.cells #[sf w.heap.size] 101);have D1:=Blk.new (w.alloc (.cells #[.int .i64 N] 3)) #[sf w.heap.size] 101;rw [zsA] at D1;by_cases ht:Tab l
 . have e:v=l.all (okSp N):=by rw [Bool.eq_iff_iff,hv];simp [ht]
   rw [e];have cr:=hid (RRight_is (c:=c) (hm.gr g1) (v:=true) (by simp [ht]));have cc:=λ W (g:Gr _ W)=>hid (ContainsFuncS_ok (c:=c) (B1.gr g) (D1.gr g) (hm.gr (g1.trans g)) hn (hk ht))
   have G1:=hid g1;generalize l.all (okSp N)=L at cc ⊢;clear B1 D1 g1 hm hk hv e ht;go_enter func69,ntmps69;go_wp2_with fail;refine cr.out.mono ?_;rintro e w1 ⟨rfl,g2⟩;have C2:=cc _ g2;go_wp2_with fail;refine C2.out.mono ?_;rintro e w2 ⟨rfl,g3⟩;go_wp2_with fail;go_ret;exact⟨ret_bool (by simp),(G1.out.trans g2).trans g3⟩
 . have e:v=false:=by
    cases q:v
    . rfl
    . exact absurd (hv.1 q).1 ht
   rw [e];have cr:=hid (RRight_is (c:=c) (hm.gr g1) (v:=false) (by simp [ht]));have G1:=hid g1;clear B1 D1 g1 hm hk hv e ht;go_enter func69,ntmps69;go_wp2_with fail;refine cr.out.mono ?_;rintro e w1 ⟨rfl,g2⟩;go_wp2_with fail;go_ret;exact⟨rfl,G1.out.trans g2⟩
end
end P16
end
section
namespace P16
open P14 (pan ov)
open P12 (PV PMem)
theorem ownR_c {c:Cl}:OwnR c↔P14.OkS c.since c.rounds/\P14.OkW c.old:=⟨λ h=>⟨h.s,h.ol⟩,λ h=>⟨h.1.1,h.1.2,h.2⟩⟩
theorem Right_c {c:Cl} {v:Bool} (hv:v=true↔OwnR c) (W:World):Calls prog 96 #[ov c.since c.st c.aw c.rounds c.old] W λ e w'=>e=.returned (.bool v)/\Gr W w':=by
 by_cases h:OwnR c
 . rw [hv.2 h]
   exact P14.Right_yes (look_cl h)
 . have:v=false:=by
    cases q:v
    . rfl
    . exact absurd (hv.1 q) h
   rw [this];exact P14.Right_no (y:=1) (by decide) λ W=>P14.look_no λ q=>h (ownR_c.2 q)
def CliOk (p:List Ac) (c:Cl):Prop:=(0<=c.ticket/\c.ticket<4294967296)/\OwnR c/\PlaceOk p c
end P16
namespace P6
theorem tk_iff {n:Int}:tkB n 0=true↔0<=n/\n<4294967296:=by
 constructor
 . intro h
   unfold tkB at h;simp [fitB,wd] at h;omega
 . intro h
   exact tk_ok h ⟨by omega,by omega⟩
end P6
namespace P16
open P14 (pan ov)
open P12 (PV PMem)
section
variable {w:World} {A B:Option Addr} {n c d:Nat} {l:List Cl} {R:List PV}
theorem rightClients_is (hm:CMem w A n l) (hp:PMem w B n R) (hn:n<=1000) (hok:∀ p∈P12.pl R,∀ a∈p,P12.okA a=true) {v:Bool} (hv:v=true↔∀ (i:Nat) (c:Cl) (p:List Ac),l[i]?=some c->(P12.pl R)[i]?=some p->CliOk p c) :
 Calls prog 71 #[.slice A n c,.slice B n d] w λ e w'=>e=.returned (.bool v)/\Gr w w':=by
 have HM:=hid hm;have HP:=hid hp;have HV:=hid hv;have HO:=hid hok;clear hm hp hv hok;go_enter func71,ntmps71;go_wp2_with fail;refine (steps_is _).mono ?_;rintro e w1 ⟨⟨m,rfl,k1⟩,g1⟩;have K1:=hid k1;have G1:=hid g1;clear k1 g1;go_wp2_with fail
 go_loopw [11] (λ i wr=>∃ k:Nat,k<=n/\i=.int .i64 k/\Hid (∀ (i:Nat) (c:Cl) (p:List Ac),i<k->l[i]?=some c->(P12.pl R)[i]?=some p->CliOk p c)/\Hid (Gr w wr)/\Hid (KMap wr m)) (λ i _=>n-(intOf i).toNat)
 case atStart=>exact⟨0,Nat.zero_le _,rfl,hid (λ i c p h=>absurd h (by omega)),G1,K1⟩
 case round =>
  obtain⟨k,hk,rfl,HB,HG,HK⟩:=hrel;by_cases hlt:k<n
  . obtain⟨b,off,y,rfl,hb,hy,okx,c0,c1,c2,c3,c4,c5,c6,c7,c8,c9,c10,c11,c12⟩:=CMem.cells (RMem.gr HM.out HG.out) hlt
    obtain⟨pb,po,z,rfl,hpb,hz,hzo,pr⟩:=(HP.out.gr HG.out).at_ hlt;have hzp:(P12.pl R)[k]?=some z.l:=by unfold P12.pl;rw [List.getElem?_map,hz];rfl
    have hza:=HO.out z.l (zmo hzp);obtain⟨b1,hb1⟩:∃ b1,P6.tkB y.ticket 0=b1:=⟨_,rfl⟩;obtain⟨b2,hb2⟩:∃ b2:Bool,b2=true↔OwnR y:=by by_cases q:OwnR y;exact⟨true,by simp [q]⟩;exact⟨false,by simp [q]⟩
    obtain⟨b3,hb3⟩:∃ b3:Bool,b3=true↔PlaceOk z.l y:=by by_cases q:PlaceOk z.l y;exact⟨true,by simp [q]⟩;exact⟨false,by simp [q]⟩
    have e1:b1=true↔(0<=y.ticket/\y.ticket<4294967296):=by rw [<- hb1];exact P6.tk_iff
    have N0:=hid (Blk.new wr (clA y) 55);have N1:Hid (wr.cell? ⟨pb,po+k,none⟩=some (.slice z.A z.n z.c)):=hid pr;have C1:=λ W=>hid (P6.Right_is hb1 okx.ticket b64_0 W)
    have C2:=λ W=>hid (Right_c hb2 W)
    have C3:=λ W' (g:Gr wr W')=>hid (rightPlace_is (c:=y) (d:=z.c) (hzo.gr g).1 hza (HK.out.gr g) hb3)
    have HY:=hid hy;have HZ:=hid hzp;have HK2:=hid (hb3);have G0:Hid (Gr wr (wr.alloc (.cells (clA y) 55))):=hid ((zr wr).al _);have HE:Hid (b1=true/\b2=true/\b3=true↔CliOk z.l y):=hid (by unfold CliOk;rw [e1,hb2,hb3]);clear hy hz hzo hzp hza hb1 hb2 hb3 e1 HK2 okx;cases b1
    . skip
      have Bp:=N0.out.gr (zr _);obtain⟨p0,-⟩:=Bp.at_ (k:=0) rfl;obtain⟨p1,-⟩:=Bp.at_ (k:=1) rfl;obtain⟨p2,-⟩:=Bp.at_ (k:=2) rfl;obtain⟨p3,-⟩:=Bp.at_ (k:=3) rfl;obtain⟨p4,-⟩:=Bp.at_ (k:=4) rfl;obtain⟨p5,-⟩:=Bp.at_ (k:=5) rfl;obtain⟨p6,-⟩:=Bp.at_ (k:=6) rfl;obtain⟨p7,-⟩:=Bp.at_ (k:=7) rfl;obtain⟨p8,-⟩:=Bp.at_ (k:=8) rfl;obtain⟨p9,-⟩:=Bp.at_ (k:=9) rfl;obtain⟨p10,-⟩:=Bp.at_ (k:=10) rfl;obtain⟨p11,-⟩:=Bp.at_ (k:=11) rfl;obtain⟨p12,-⟩:=Bp.at_ (k:=12) rfl;have pr:=(World.cell?_of_block (a:=⟨pb,po+k,none⟩) ((G0.out.trans (zr _)).block pb hpb)).trans N1.out;clear Bp;go_upto_region 5 with fail;refine wp_region_held_drew (S:=(λ w'=>w'.cell? ⟨wr.heap.size,0,none⟩=some (.int .i64 y.gst)/\w'.cell? ⟨wr.heap.size,1,none⟩=some (.bool y.permit)/\w'.cell? ⟨wr.heap.size,2,none⟩=some (.int .i64 y.act)/\w'.cell? ⟨wr.heap.size,3,none⟩=some (.int .i64 y.pc)/\w'.cell? ⟨wr.heap.size,4,none⟩=some (.int .i64 y.worked)/\w'.cell? ⟨wr.heap.size,5,none⟩=some (.int .i64 y.ticket)/\w'.cell? ⟨wr.heap.size,6,none⟩=some (.bool y.first)/\w'.cell? ⟨wr.heap.size,7,none⟩=some (.bool y.told)/\w'.cell? ⟨wr.heap.size,8,none⟩=some (.int .i64 y.since)/\w'.cell? ⟨wr.heap.size,9,none⟩=some (.bool y.st)/\w'.cell? ⟨wr.heap.size,10,none⟩=some (.bool y.aw)/\w'.cell? ⟨wr.heap.size,11,none⟩=some (.int .i64 y.rounds)/\w'.cell? ⟨wr.heap.size,12,none⟩=some (.int .i64 y.old)/\w'.cell? ⟨pb,po+k,none⟩=some (.slice z.A z.n z.c))) (by kernel_rfl) ⟨p0,p1,p2,p3,p4,p5,p6,p7,p8,p9,p10,p11,p12,pr⟩ (λ hS=>?_);refine wG 0 hS ?_;refine wG 1 hS ?_;refine wG 2 hS ?_;refine wR1 3 (λ K hK=>?_);go_simp;go_at_call 90;refine (C1 _).out.mono ?_;rintro ee w2 ⟨rfl,g2⟩;go_wp2_with fail;have G2:=hid ((zr (wr.alloc (.cells (clA y) 55))).dr.trans g2);clear g2;have Bq:=N0.out.gr G2.out;obtain⟨q0,-⟩:=Bq.at_ (k:=0) rfl;obtain⟨q1,-⟩:=Bq.at_ (k:=1) rfl;obtain⟨q2,-⟩:=Bq.at_ (k:=2) rfl;obtain⟨q3,-⟩:=Bq.at_ (k:=3) rfl;obtain⟨q4,-⟩:=Bq.at_ (k:=4) rfl;obtain⟨q5,-⟩:=Bq.at_ (k:=5) rfl;obtain⟨q6,-⟩:=Bq.at_ (k:=6) rfl;obtain⟨q7,-⟩:=Bq.at_ (k:=7) rfl;obtain⟨q8,-⟩:=Bq.at_ (k:=8) rfl;obtain⟨q9,-⟩:=Bq.at_ (k:=9) rfl;obtain⟨q10,-⟩:=Bq.at_ (k:=10) rfl;obtain⟨q11,-⟩:=Bq.at_ (k:=11) rfl;obtain⟨q12,-⟩:=Bq.at_ (k:=12) rfl;have qr:=(World.cell?_of_block (a:=⟨pb,po+k,none⟩) ((G0.out.trans G2.out).block pb hpb)).trans N1.out;clear Bq;refine hK.out _ _ ⟨q0,q1,q2,q3,q4,q5,q6,q7,q8,q9,q10,q11,q12,qr⟩ (λ hS=>?_);clear hK K
      try simp only [pL]
      refine wG 4 hS ?_;refine wG 5 hS ?_;refine wP 6 hS ?_;refine wP 7 hS ?_;refine wP 8 hS ?_;refine wP 9 hS ?_;refine wG 10 hS ?_;refine wG 11 hS ?_;refine wP 12 hS ?_;refine wP 13 hS ?_;refine wP 14 hS ?_;refine wP 15 hS ?_;refine wP 16 hS ?_;refine wP 17 hS ?_;refine wP 18 hS ?_;refine wP 19 hS ?_;refine wG 20 hS ?_;refine wpAnyH_done (by kernel_rfl) ?_ _;clear hS;have hr:v=false:=by
       cases q:v
       . rfl
       . exact absurd (HE.out.2 (HV.out.1 q k y z.l HY.out HZ.out)) (by simp)
      go_wp2_with fail;go_ret;rw [hr];exact⟨rfl,HG.out.trans (G0.out.trans G2.out)⟩
    . cases b2
      . skip
        have Bp:=N0.out.gr (zr _);obtain⟨p0,-⟩:=Bp.at_ (k:=0) rfl;obtain⟨p1,-⟩:=Bp.at_ (k:=1) rfl;obtain⟨p2,-⟩:=Bp.at_ (k:=2) rfl;obtain⟨p3,-⟩:=Bp.at_ (k:=3) rfl;obtain⟨p4,-⟩:=Bp.at_ (k:=4) rfl;obtain⟨p5,-⟩:=Bp.at_ (k:=5) rfl;obtain⟨p6,-⟩:=Bp.at_ (k:=6) rfl;obtain⟨p7,-⟩:=Bp.at_ (k:=7) rfl;obtain⟨p8,-⟩:=Bp.at_ (k:=8) rfl;obtain⟨p9,-⟩:=Bp.at_ (k:=9) rfl;obtain⟨p10,-⟩:=Bp.at_ (k:=10) rfl;obtain⟨p11,-⟩:=Bp.at_ (k:=11) rfl;obtain⟨p12,-⟩:=Bp.at_ (k:=12) rfl;have pr:=(World.cell?_of_block (a:=⟨pb,po+k,none⟩) ((G0.out.trans (zr _)).block pb hpb)).trans N1.out;clear Bp;go_upto_region 5 with fail;refine wp_region_held_drew (S:=(λ w'=>w'.cell? ⟨wr.heap.size,0,none⟩=some (.int .i64 y.gst)/\w'.cell? ⟨wr.heap.size,1,none⟩=some (.bool y.permit)/\w'.cell? ⟨wr.heap.size,2,none⟩=some (.int .i64 y.act)/\w'.cell? ⟨wr.heap.size,3,none⟩=some (.int .i64 y.pc)/\w'.cell? ⟨wr.heap.size,4,none⟩=some (.int .i64 y.worked)/\w'.cell? ⟨wr.heap.size,5,none⟩=some (.int .i64 y.ticket)/\w'.cell? ⟨wr.heap.size,6,none⟩=some (.bool y.first)/\w'.cell? ⟨wr.heap.size,7,none⟩=some (.bool y.told)/\w'.cell? ⟨wr.heap.size,8,none⟩=some (.int .i64 y.since)/\w'.cell? ⟨wr.heap.size,9,none⟩=some (.bool y.st)/\w'.cell? ⟨wr.heap.size,10,none⟩=some (.bool y.aw)/\w'.cell? ⟨wr.heap.size,11,none⟩=some (.int .i64 y.rounds)/\w'.cell? ⟨wr.heap.size,12,none⟩=some (.int .i64 y.old)/\w'.cell? ⟨pb,po+k,none⟩=some (.slice z.A z.n z.c))) (by kernel_rfl) ⟨p0,p1,p2,p3,p4,p5,p6,p7,p8,p9,p10,p11,p12,pr⟩ (λ hS=>?_);refine wG 0 hS ?_;refine wG 1 hS ?_;refine wG 2 hS ?_;refine wR1 3 (λ K hK=>?_);go_simp;go_at_call 90;refine (C1 _).out.mono ?_;rintro ee w2 ⟨rfl,g2⟩;go_wp2_with fail;have G2:=hid ((zr (wr.alloc (.cells (clA y) 55))).dr.trans g2);clear g2;have Bq:=N0.out.gr G2.out;obtain⟨q0,-⟩:=Bq.at_ (k:=0) rfl;obtain⟨q1,-⟩:=Bq.at_ (k:=1) rfl;obtain⟨q2,-⟩:=Bq.at_ (k:=2) rfl;obtain⟨q3,-⟩:=Bq.at_ (k:=3) rfl;obtain⟨q4,-⟩:=Bq.at_ (k:=4) rfl;obtain⟨q5,-⟩:=Bq.at_ (k:=5) rfl;obtain⟨q6,-⟩:=Bq.at_ (k:=6) rfl;obtain⟨q7,-⟩:=Bq.at_ (k:=7) rfl;obtain⟨q8,-⟩:=Bq.at_ (k:=8) rfl;obtain⟨q9,-⟩:=Bq.at_ (k:=9) rfl;obtain⟨q10,-⟩:=Bq.at_ (k:=10) rfl;obtain⟨q11,-⟩:=Bq.at_ (k:=11) rfl;obtain⟨q12,-⟩:=Bq.at_ (k:=12) rfl;have qr:=(World.cell?_of_block (a:=⟨pb,po+k,none⟩) ((G0.out.trans G2.out).block pb hpb)).trans N1.out;clear Bq;refine hK.out _ _ ⟨q0,q1,q2,q3,q4,q5,q6,q7,q8,q9,q10,q11,q12,qr⟩ (λ hS=>?_);clear hK K
        try simp only [pL]
        refine wG 4 hS ?_;refine wG 5 hS ?_;refine wG 6 hS ?_;refine wG 7 hS ?_;refine wR1 8 (λ K hK=>?_);go_simp;go_at_call 96;refine (C2 _).out.mono ?_;rintro ee w3 ⟨rfl,g3⟩;go_wp2_with fail;have G3:=hid (G2.out.trans g3);clear g3;have Br:=N0.out.gr G3.out;obtain⟨r0,-⟩:=Br.at_ (k:=0) rfl;obtain⟨r1,-⟩:=Br.at_ (k:=1) rfl;obtain⟨r2,-⟩:=Br.at_ (k:=2) rfl;obtain⟨r3,-⟩:=Br.at_ (k:=3) rfl;obtain⟨r4,-⟩:=Br.at_ (k:=4) rfl;obtain⟨r5,-⟩:=Br.at_ (k:=5) rfl;obtain⟨r6,-⟩:=Br.at_ (k:=6) rfl;obtain⟨r7,-⟩:=Br.at_ (k:=7) rfl;obtain⟨r8,-⟩:=Br.at_ (k:=8) rfl;obtain⟨r9,-⟩:=Br.at_ (k:=9) rfl;obtain⟨r10,-⟩:=Br.at_ (k:=10) rfl;obtain⟨r11,-⟩:=Br.at_ (k:=11) rfl;obtain⟨r12,-⟩:=Br.at_ (k:=12) rfl;have rr:=(World.cell?_of_block (a:=⟨pb,po+k,none⟩) ((G0.out.trans G3.out).block pb hpb)).trans N1.out;clear Br;refine hK.out _ _ ⟨r0,r1,r2,r3,r4,r5,r6,r7,r8,r9,r10,r11,r12,rr⟩ (λ hS=>?_);clear hK K
        try simp only [pL]
        refine wG 9 hS ?_;refine wG 10 hS ?_;refine wG 11 hS ?_;refine wP 12 hS ?_;refine wP 13 hS ?_;refine wP 14 hS ?_;refine wP 15 hS ?_;refine wP 16 hS ?_;refine wP 17 hS ?_;refine wP 18 hS ?_;refine wP 19 hS ?_;refine wG 20 hS ?_;refine wpAnyH_done (by kernel_rfl) ?_ _;clear hS;have hr:v=false:=by
         cases q:v
         . rfl
         . exact absurd (HE.out.2 (HV.out.1 q k y z.l HY.out HZ.out)) (by simp)
        go_wp2_with fail;go_ret;rw [hr];exact⟨rfl,HG.out.trans (G0.out.trans G3.out)⟩
      . cases b3
        . skip
          have Bp:=N0.out.gr (zr _);obtain⟨p0,-⟩:=Bp.at_ (k:=0) rfl;obtain⟨p1,-⟩:=Bp.at_ (k:=1) rfl;obtain⟨p2,-⟩:=Bp.at_ (k:=2) rfl;obtain⟨p3,-⟩:=Bp.at_ (k:=3) rfl;obtain⟨p4,-⟩:=Bp.at_ (k:=4) rfl;obtain⟨p5,-⟩:=Bp.at_ (k:=5) rfl;obtain⟨p6,-⟩:=Bp.at_ (k:=6) rfl;obtain⟨p7,-⟩:=Bp.at_ (k:=7) rfl;obtain⟨p8,-⟩:=Bp.at_ (k:=8) rfl;obtain⟨p9,-⟩:=Bp.at_ (k:=9) rfl;obtain⟨p10,-⟩:=Bp.at_ (k:=10) rfl;obtain⟨p11,-⟩:=Bp.at_ (k:=11) rfl;obtain⟨p12,-⟩:=Bp.at_ (k:=12) rfl;have pr:=(World.cell?_of_block (a:=⟨pb,po+k,none⟩) ((G0.out.trans (zr _)).block pb hpb)).trans N1.out;clear Bp;go_upto_region 5 with fail
          go_region_held3 (λ w'=>w'.cell? ⟨wr.heap.size,0,none⟩=some (.int .i64 y.gst)/\w'.cell? ⟨wr.heap.size,1,none⟩=some (.bool y.permit)/\w'.cell? ⟨wr.heap.size,2,none⟩=some (.int .i64 y.act)/\w'.cell? ⟨wr.heap.size,3,none⟩=some (.int .i64 y.pc)/\w'.cell? ⟨wr.heap.size,4,none⟩=some (.int .i64 y.worked)/\w'.cell? ⟨wr.heap.size,5,none⟩=some (.int .i64 y.ticket)/\w'.cell? ⟨wr.heap.size,6,none⟩=some (.bool y.first)/\w'.cell? ⟨wr.heap.size,7,none⟩=some (.bool y.told)/\w'.cell? ⟨wr.heap.size,8,none⟩=some (.int .i64 y.since)/\w'.cell? ⟨wr.heap.size,9,none⟩=some (.bool y.st)/\w'.cell? ⟨wr.heap.size,10,none⟩=some (.bool y.aw)/\w'.cell? ⟨wr.heap.size,11,none⟩=some (.int .i64 y.rounds)/\w'.cell? ⟨wr.heap.size,12,none⟩=some (.int .i64 y.old)/\w'.cell? ⟨pb,po+k,none⟩=some (.slice z.A z.n z.c)) (first | exact⟨p0,p1,p2,p3,p4,p5,p6,p7,p8,p9,p10,p11,p12,pr⟩ | exact⟨q0,q1,q2,q3,q4,q5,q6,q7,q8,q9,q10,q11,q12,qr⟩ | exact⟨r0,r1,r2,r3,r4,r5,r6,r7,r8,r9,r10,r11,r12,rr⟩ | exact⟨s0,s1,s2,s3,s4,s5,s6,s7,s8,s9,s10,s11,s12,sr⟩) (first | (go_at_call 90;(refine (C1 _).out.mono ?_);rintro ee w2 ⟨rfl,g2⟩;have G2:=hid ((zr (wr.alloc (.cells (clA y) 55))).dr.trans g2);have Bq:=N0.out.gr G2.out;obtain⟨q0,-⟩:=Bq.at_ (k:=0) rfl;obtain⟨q1,-⟩:=Bq.at_ (k:=1) rfl;obtain⟨q2,-⟩:=Bq.at_ (k:=2) rfl;obtain⟨q3,-⟩:=Bq.at_ (k:=3) rfl;obtain⟨q4,-⟩:=Bq.at_ (k:=4) rfl;obtain⟨q5,-⟩:=Bq.at_ (k:=5) rfl;obtain⟨q6,-⟩:=Bq.at_ (k:=6) rfl;obtain⟨q7,-⟩:=Bq.at_ (k:=7) rfl;obtain⟨q8,-⟩:=Bq.at_ (k:=8) rfl;obtain⟨q9,-⟩:=Bq.at_ (k:=9) rfl;obtain⟨q10,-⟩:=Bq.at_ (k:=10) rfl;obtain⟨q11,-⟩:=Bq.at_ (k:=11) rfl;obtain⟨q12,-⟩:=Bq.at_ (k:=12) rfl;have qr:=(World.cell?_of_block (a:=⟨pb,po+k,none⟩) ((G0.out.trans G2.out).block pb hpb)).trans N1.out;clear Bq;clear g2) | (go_at_call 96;(refine (C2 _).out.mono ?_);rintro ee w3 ⟨rfl,g3⟩;have G3:=hid (G2.out.trans g3);have Br:=N0.out.gr G3.out;obtain⟨r0,-⟩:=Br.at_ (k:=0) rfl;obtain⟨r1,-⟩:=Br.at_ (k:=1) rfl;obtain⟨r2,-⟩:=Br.at_ (k:=2) rfl;obtain⟨r3,-⟩:=Br.at_ (k:=3) rfl;obtain⟨r4,-⟩:=Br.at_ (k:=4) rfl;obtain⟨r5,-⟩:=Br.at_ (k:=5) rfl;obtain⟨r6,-⟩:=Br.at_ (k:=6) rfl;obtain⟨r7,-⟩:=Br.at_ (k:=7) rfl;obtain⟨r8,-⟩:=Br.at_ (k:=8) rfl;obtain⟨r9,-⟩:=Br.at_ (k:=9) rfl;obtain⟨r10,-⟩:=Br.at_ (k:=10) rfl;obtain⟨r11,-⟩:=Br.at_ (k:=11) rfl;obtain⟨r12,-⟩:=Br.at_ (k:=12) rfl;have rr:=(World.cell?_of_block (a:=⟨pb,po+k,none⟩) ((G0.out.trans G3.out).block pb hpb)).trans N1.out;clear Br;clear g3) | (go_at_call 97;(refine (C3 _ (G0.out.trans G3.out)).out.mono ?_);rintro ee w4 ⟨rfl,g4⟩;have G4:=hid (G3.out.trans g4);have Bs:=N0.out.gr G4.out;obtain⟨s0,-⟩:=Bs.at_ (k:=0) rfl;obtain⟨s1,-⟩:=Bs.at_ (k:=1) rfl;obtain⟨s2,-⟩:=Bs.at_ (k:=2) rfl;obtain⟨s3,-⟩:=Bs.at_ (k:=3) rfl;obtain⟨s4,-⟩:=Bs.at_ (k:=4) rfl;obtain⟨s5,-⟩:=Bs.at_ (k:=5) rfl;obtain⟨s6,-⟩:=Bs.at_ (k:=6) rfl;obtain⟨s7,-⟩:=Bs.at_ (k:=7) rfl;obtain⟨s8,-⟩:=Bs.at_ (k:=8) rfl;obtain⟨s9,-⟩:=Bs.at_ (k:=9) rfl;obtain⟨s10,-⟩:=Bs.at_ (k:=10) rfl;obtain⟨s11,-⟩:=Bs.at_ (k:=11) rfl;obtain⟨s12,-⟩:=Bs.at_ (k:=12) rfl;have sr:=(World.cell?_of_block (a:=⟨pb,po+k,none⟩) ((G0.out.trans G4.out).block pb hpb)).trans N1.out;clear Bs;clear g4))
          have hr:v=false:=by
           cases q:v
           . rfl
           . exact absurd (HE.out.2 (HV.out.1 q k y z.l HY.out HZ.out)) (by simp)
          go_wp2_with fail;go_ret;rw [hr];exact⟨rfl,HG.out.trans (G0.out.trans G4.out)⟩
        . skip
          have Bp:=N0.out.gr (zr _);obtain⟨p0,-⟩:=Bp.at_ (k:=0) rfl;obtain⟨p1,-⟩:=Bp.at_ (k:=1) rfl;obtain⟨p2,-⟩:=Bp.at_ (k:=2) rfl;obtain⟨p3,-⟩:=Bp.at_ (k:=3) rfl;obtain⟨p4,-⟩:=Bp.at_ (k:=4) rfl;obtain⟨p5,-⟩:=Bp.at_ (k:=5) rfl;obtain⟨p6,-⟩:=Bp.at_ (k:=6) rfl;obtain⟨p7,-⟩:=Bp.at_ (k:=7) rfl;obtain⟨p8,-⟩:=Bp.at_ (k:=8) rfl;obtain⟨p9,-⟩:=Bp.at_ (k:=9) rfl;obtain⟨p10,-⟩:=Bp.at_ (k:=10) rfl;obtain⟨p11,-⟩:=Bp.at_ (k:=11) rfl;obtain⟨p12,-⟩:=Bp.at_ (k:=12) rfl;have pr:=(World.cell?_of_block (a:=⟨pb,po+k,none⟩) ((G0.out.trans (zr _)).block pb hpb)).trans N1.out;clear Bp;go_upto_region 5 with fail
          go_region_held3 (λ w'=>w'.cell? ⟨wr.heap.size,0,none⟩=some (.int .i64 y.gst)/\w'.cell? ⟨wr.heap.size,1,none⟩=some (.bool y.permit)/\w'.cell? ⟨wr.heap.size,2,none⟩=some (.int .i64 y.act)/\w'.cell? ⟨wr.heap.size,3,none⟩=some (.int .i64 y.pc)/\w'.cell? ⟨wr.heap.size,4,none⟩=some (.int .i64 y.worked)/\w'.cell? ⟨wr.heap.size,5,none⟩=some (.int .i64 y.ticket)/\w'.cell? ⟨wr.heap.size,6,none⟩=some (.bool y.first)/\w'.cell? ⟨wr.heap.size,7,none⟩=some (.bool y.told)/\w'.cell? ⟨wr.heap.size,8,none⟩=some (.int .i64 y.since)/\w'.cell? ⟨wr.heap.size,9,none⟩=some (.bool y.st)/\w'.cell? ⟨wr.heap.size,10,none⟩=some (.bool y.aw)/\w'.cell? ⟨wr.heap.size,11,none⟩=some (.int .i64 y.rounds)/\w'.cell? ⟨wr.heap.size,12,none⟩=some (.int .i64 y.old)/\w'.cell? ⟨pb,po+k,none⟩=some (.slice z.A z.n z.c)) (first | exact⟨p0,p1,p2,p3,p4,p5,p6,p7,p8,p9,p10,p11,p12,pr⟩ | exact⟨q0,q1,q2,q3,q4,q5,q6,q7,q8,q9,q10,q11,q12,qr⟩ | exact⟨r0,r1,r2,r3,r4,r5,r6,r7,r8,r9,r10,r11,r12,rr⟩ | exact⟨s0,s1,s2,s3,s4,s5,s6,s7,s8,s9,s10,s11,s12,sr⟩) (first | (go_at_call 90;(refine (C1 _).out.mono ?_);rintro ee w2 ⟨rfl,g2⟩;have G2:=hid ((zr (wr.alloc (.cells (clA y) 55))).dr.trans g2);have Bq:=N0.out.gr G2.out;obtain⟨q0,-⟩:=Bq.at_ (k:=0) rfl;obtain⟨q1,-⟩:=Bq.at_ (k:=1) rfl;obtain⟨q2,-⟩:=Bq.at_ (k:=2) rfl;obtain⟨q3,-⟩:=Bq.at_ (k:=3) rfl;obtain⟨q4,-⟩:=Bq.at_ (k:=4) rfl;obtain⟨q5,-⟩:=Bq.at_ (k:=5) rfl;obtain⟨q6,-⟩:=Bq.at_ (k:=6) rfl;obtain⟨q7,-⟩:=Bq.at_ (k:=7) rfl;obtain⟨q8,-⟩:=Bq.at_ (k:=8) rfl;obtain⟨q9,-⟩:=Bq.at_ (k:=9) rfl;obtain⟨q10,-⟩:=Bq.at_ (k:=10) rfl;obtain⟨q11,-⟩:=Bq.at_ (k:=11) rfl;obtain⟨q12,-⟩:=Bq.at_ (k:=12) rfl;have qr:=(World.cell?_of_block (a:=⟨pb,po+k,none⟩) ((G0.out.trans G2.out).block pb hpb)).trans N1.out;clear Bq;clear g2) | (go_at_call 96;(refine (C2 _).out.mono ?_);rintro ee w3 ⟨rfl,g3⟩;have G3:=hid (G2.out.trans g3);have Br:=N0.out.gr G3.out;obtain⟨r0,-⟩:=Br.at_ (k:=0) rfl;obtain⟨r1,-⟩:=Br.at_ (k:=1) rfl;obtain⟨r2,-⟩:=Br.at_ (k:=2) rfl;obtain⟨r3,-⟩:=Br.at_ (k:=3) rfl;obtain⟨r4,-⟩:=Br.at_ (k:=4) rfl;obtain⟨r5,-⟩:=Br.at_ (k:=5) rfl;obtain⟨r6,-⟩:=Br.at_ (k:=6) rfl;obtain⟨r7,-⟩:=Br.at_ (k:=7) rfl;obtain⟨r8,-⟩:=Br.at_ (k:=8) rfl;obtain⟨r9,-⟩:=Br.at_ (k:=9) rfl;obtain⟨r10,-⟩:=Br.at_ (k:=10) rfl;obtain⟨r11,-⟩:=Br.at_ (k:=11) rfl;obtain⟨r12,-⟩:=Br.at_ (k:=12) rfl;have rr:=(World.cell?_of_block (a:=⟨pb,po+k,none⟩) ((G0.out.trans G3.out).block pb hpb)).trans N1.out;clear Br;clear g3) | (go_at_call 97;(refine (C3 _ (G0.out.trans G3.out)).out.mono ?_);rintro ee w4 ⟨rfl,g4⟩;have G4:=hid (G3.out.trans g4);have Bs:=N0.out.gr G4.out;obtain⟨s0,-⟩:=Bs.at_ (k:=0) rfl;obtain⟨s1,-⟩:=Bs.at_ (k:=1) rfl;obtain⟨s2,-⟩:=Bs.at_ (k:=2) rfl;obtain⟨s3,-⟩:=Bs.at_ (k:=3) rfl;obtain⟨s4,-⟩:=Bs.at_ (k:=4) rfl;obtain⟨s5,-⟩:=Bs.at_ (k:=5) rfl;obtain⟨s6,-⟩:=Bs.at_ (k:=6) rfl;obtain⟨s7,-⟩:=Bs.at_ (k:=7) rfl;obtain⟨s8,-⟩:=Bs.at_ (k:=8) rfl;obtain⟨s9,-⟩:=Bs.at_ (k:=9) rfl;obtain⟨s10,-⟩:=Bs.at_ (k:=10) rfl;obtain⟨s11,-⟩:=Bs.at_ (k:=11) rfl;obtain⟨s12,-⟩:=Bs.at_ (k:=12) rfl;have sr:=(World.cell?_of_block (a:=⟨pb,po+k,none⟩) ((G0.out.trans G4.out).block pb hpb)).trans N1.out;clear Bs;clear g4))
          go_wp2_with fail;go_roundw
          case rel=>exact⟨k+1,by omega,by go_num,hid (λ i c p hi h1 h2=>by
           by_cases q:i=k
           . subst q;rw [HY.out] at h1;rw [HZ.out] at h2;cases h1;cases h2;exact HE.out.1 (by simp)
           . exact HB.out i c p (by omega) h1 h2),hid (HG.out.trans (G0.out.trans G4.out)),hid (HK.out.gr (G0.out.trans G4.out))⟩
          case measure=>simp [intOf];omega
  . obtain rfl:k=n:=by omega
    have hr:v=true:=HV.out.2 λ i c p hi hp=>HB.out i c p (by have:=(zgl hi);have:=HM.out.len;omega) hi hp
    go_wp2_with fail;go_ret;rw [hr];exact⟨rfl,HG.out⟩
end
end P16
end
section
namespace P4
section
variable {a b r s:Int}
def Tk (a b r s:Int):Prop:=(Tm a/\Tm b/\a+b<=4611686018427387904/\r=a+b/\s=0)\/(Tm a/\Tm b/\4611686018427387904<a+b/\r=0/\s=10)\/(¬ (Tm a/\Tm b)/\r=0/\s=1)
theorem Tick_is (h:Tk a b r s) (w:World):Calls prog 45 #[.int .i64 a,.int .i64 b] w λ e w'=>e=.returned (.tuple #[.int .i64 r,.int .i64 s])/\Gr w w':=by
 rcases h with ⟨h1,h2,h3,rfl,rfl⟩ | ⟨h1,h2,h3,rfl,rfl⟩ | ⟨h,rfl,rfl⟩
 . have c:=λ w=>hid ((both_yes h1 h2)▸right_ok a b w)
   unfold Tm at h1 h2;go_enter func45,ntmps45;go_wp2_with fail;refine (c _).out.mono ?_;rintro e w1 ⟨rfl,hb1⟩;go_wp2_with fail;go_ret2;exact⟨rfl,hb1⟩
 . have c:=λ w=>hid ((both_yes h1 h2)▸right_ok a b w)
   unfold Tm at h1 h2;go_enter func45,ntmps45;go_wp2_with fail;refine (c _).out.mono ?_;rintro e w1 ⟨rfl,hb1⟩;go_wp2_with fail;go_ret2;exact⟨rfl,hb1⟩
 . have c:=λ w=>hid ((both_no h)▸right_ok a b w)
   clear h;go_enter func45,ntmps45;go_wp2_with fail;refine (c _).out.mono ?_;rintro e w1 ⟨rfl,hb1⟩;go_wp2_with fail;go_ret2;exact⟨rfl,hb1⟩
end
end P4
end
section
namespace P16
open P12 (PV PMem)
theorem tabA_iff {T:List SV} {N:Int}:(TabA (T.map SV.pl)/\∀ s∈T.map SV.pl,∀ x∈s.2.2,x<N)↔Tab T/\T.all (okSp N)=true:=by
 have e:=svs_pl (T.map SV.pl);constructor
 . rintro⟨⟨h1,h2⟩,h3⟩
   have ht:Tab T:=Tab.pl e h1;refine⟨ht,List.all_eq_true.2 λ x hx=>?_⟩;have hm:=List.mem_map_of_mem (f:=SV.pl) hx;obtain⟨m,hm4,ea⟩:=h2 _ hm;have ea:x.addr=8*(m:Int):=ea;have h3:=h3 _ hm;unfold okSp;simp only [Bool.and_eq_true,decide_eq_true_eq,List.all_eq_true];refine⟨⟨by omega,by omega⟩,λ y hy=>?_⟩;have:y<N:=h3 y hy;unfold okI;simp;omega
 . rintro⟨h1,h2⟩
   rw [List.all_eq_true] at h2;refine⟨⟨Tab.pl e.symm h1,λ s hs=>?_⟩,λ s hs y hy=>?_⟩
   . obtain⟨x,hx,rfl⟩:=List.mem_map.1 hs
     have hk:=Tab.key h1.2 hx;unfold IsKey at hk;have:=h2 x hx;unfold okSp at this;simp only [Bool.and_eq_true,decide_eq_true_eq] at this;refine⟨(x.addr / 8).toNat,by omega,?_⟩;show x.addr=_;omega
   . obtain⟨x,hx,rfl⟩:=List.mem_map.1 hs
     have:=h2 x hx;unfold okSp at this;simp only [Bool.and_eq_true,decide_eq_true_eq,List.all_eq_true] at this;have:=this.2 y hy;unfold okI at this;simp at this;omega
theorem cright_iff {p:List Ac} {c:Cl} (h0:0<=c.gst):CRight p c↔CliOk p c:=by
 constructor
 . intro h
   refine⟨h.tk,⟨h.sc,h.rd,h.ol⟩,?_⟩;by_cases e:c.act=p.length
   . exact .inl ⟨e,h.dn.1 e,(h.fin e).1,(h.fin e).2⟩
   . exact .inr ⟨h.a0,by have:=h.a1;omega,λ q=>e (h.dn.2 q),h.at_⟩
 . rintro⟨h1,h2,h3⟩
   rcases h3 with ⟨e1,e2,e3,e4⟩ | ⟨e1,e2,e3,e4⟩
   . exact⟨by omega,by omega,⟨λ _=>e2,λ _=>e1⟩,h1,h2.sc,h2.rd,h2.ol,λ _=>⟨e3,e4⟩,λ k n hk=>by
      have:=(zgl hk);omega⟩
   . exact⟨e1,by omega,⟨λ q=>by omega,λ q=>absurd q e3⟩,h1,h2.sc,h2.rd,h2.ol,λ q=>by omega,e4⟩
theorem gor_iff {l:List Cl} (h8:l.length<=8):(∀ c∈l,(c.gst=0\/c.gst=1\/c.gst=2)/\(c.permit=true->c.gst=0))↔P11.rightB (l.map gor)=true:=by
 unfold P11.rightB;simp only [Bool.and_eq_true,decide_eq_true_eq,List.all_eq_true,List.length_map,List.mem_map,forall_exists_index,and_imp,forall_apply_eq_imp_iff₂];constructor
 . intro h
   refine⟨h8,λ c hc=>?_⟩;obtain⟨h1,h2⟩:=h c hc;unfold P11.okG gor;cases hp:c.permit
   . simp;omega
   . have:=h2 hp
     simp;omega
 . rintro⟨-,h⟩ c hc
   have:=h c hc;unfold P11.okG gor at this;simp only [Bool.and_eq_true,decide_eq_true_eq,Bool.or_eq_true,Bool.not_eq_true',beq_iff_eq] at this;refine⟨by omega,λ hp=>?_⟩;rw [hp] at this;simpa using this.2
theorem okM_iff {x:T3}:okM x=true↔OkW x.1/\(0<=x.2.1/\x.2.1<4294967296)/\(0<=x.2.2/\x.2.2<4294967296):=by
 have h1:P6.tkB x.2.1 x.2.2=(P6.tkB x.2.1 0&&P6.tkB x.2.2 0):=by
  have e0:fitB 1 0=true:=by decide
  unfold P6.tkB;rw [e0];simp
 unfold okM;rw [h1,Bool.and_eq_true,Bool.and_eq_true,decide_eq_true_eq,P6.tk_iff,P6.tk_iff]
theorem near_iff {t:Int}:(t==P4.near t)=true↔0<=t/\t<=4611686018427387904:=by
 constructor
 . intro h
   by_cases q:P4.Tm t
   . exact q
   . rw [P4.near_ne q] at h;cases h
 . intro h
   rw [P4.near_eq h];simp
section
variable {W:World} {r:WR} {ω:Wv}
theorem Right_is (h:WIs W r ω) {v:Bool} (hv:v=true↔RightW ω) :
 Calls prog 39 #[r.v] W λ e w'=>e=.returned (.bool v)/\Gr W w':=by
 obtain⟨R,hR,hpl⟩:=h.p;obtain⟨T,hT,htb⟩:=h.t;obtain⟨l1,l2,l3,l4⟩:=h.lens;have hnow:=h.now;have hstop:=h.stop;have N0:Hid (Blk (W.alloc (.cells r.a 29)) W.heap.size r.a 29):=hid (Blk.new W r.a _);obtain⟨b1,e1⟩:∃ b,(r.now==P4.near r.now)=b:=⟨_,rfl⟩;obtain⟨b2,e2⟩:∃ b,P12.rightB (P12.pl R)=b:=⟨_,rfl⟩;obtain⟨b5,e5⟩:∃ b,ω.mx.all okM=b:=⟨_,rfl⟩;obtain⟨b6,e6⟩:∃ b:Bool,b=true↔Tab T/\T.all (okSp (r.c.n:Int))=true:=⟨@decide _ (Classical.propDecidable _),@decide_eq_true_iff _ (Classical.propDecidable _)⟩;obtain⟨b7,e7⟩:∃ b,P11.rightB (ω.cl.map gor)=b:=⟨_,rfl⟩;obtain⟨b9,e9⟩:∃ b:Bool,b=true↔∀ (i:Nat) (c:Cl) (p:List Ac),ω.cl[i]?=some c->(P12.pl R)[i]?=some p->CliOk p c:=⟨@decide _ (Classical.propDecidable _),@decide_eq_true_iff _ (Classical.propDecidable _)⟩;have hfew:(r.c.n:Int)=(r.p.n:Int)->b2=true->r.c.n<=8/\(r.c.n=r.p.n)/\∀ p∈P12.pl R,∀ a∈p,P12.okA a=true:=by
  intro q1 q2;rw [<- e2] at q2;obtain⟨g1,g2⟩:=right_facts q2;rw [hpl,l1] at g1;exact⟨by omega,by omega,λ p hp a ha=>(g2 p hp).2 a ha⟩
 have c1:=λ W'=>hid (P4.Right_ok r.now b1 e1 W')
 have c2:=λ W' (g:Gr W W')=>hid (P12.Right_is (c:=r.p.c) e2 h.op.lt W' (hR.gr g))
 have c5:=λ W' (g:Gr W W')=>hid (ContainsFuncM_ok r.m.A r.m.n r.m.c ω.mx W' (h.m.gr g) h.om.lt)
 rw [e5] at c5;have hk:Tab T->∀ x∈T,0<=x.addr/\x.addr<=9223372036854775807:=λ ht x hx=>by
  have:=Tab.key ht.2 hx;unfold IsKey at this;omega
 have c6:=λ W' (g:Gr W W')=>hid (rightTable_is (c:=r.t.c) (N:=(r.c.n:Int)) (hT.gr g) h.ot.lt hk e6)
 have c7:(r.c.n:Int)=(r.p.n:Int)->b2=true->∀ W',Gr W W'->Hid (Calls prog 70 #[.slice r.c.A r.c.n r.c.c] W' λ e w'=>∃ G,e=.returned (.slice G r.c.n r.c.n)/\Gr W' w'/\Hid (∀ w'',Gr w' w''->Hid (Calls prog 47 #[.slice G r.c.n r.c.n] w'' λ e w3=>e=.returned (.bool b7)/\Gr w'' w3))) :=
  λ q1 q2 W' g=>hid ((gors_is (c:=r.c.c) (h.c.gr g) (by have:=(hfew q1 q2).1;omega)).mono λ e w' q=>⟨_,q.1,q.2.2,hid λ w'' g'=>hid (P11.Right_is e7 h.oc.lt w'' (q.2.1.gr g'))⟩)
 have c9:(r.c.n:Int)=(r.p.n:Int)->b2=true->∀ W',Gr W W'->Hid (Calls prog 71 #[.slice r.c.A r.c.n r.c.c,.slice r.p.A r.p.n r.p.c] W' λ e w'=>e=.returned (.bool b9)/\Gr W' w') :=
  λ q1 q2 W' g=>by
   obtain⟨g1,g2,g3⟩:=hfew q1 q2;have hp:=hR.gr g;rw [<- g2] at hp ⊢;exact hid (rightClients_is (c:=r.c.c) (d:=r.p.c) (h.c.gr g) hp (by omega) g3 e9)
 have f3:((r.c.n:Int)==(r.p.n:Int))=true↔ω.cl.length=ω.progs.length:=by rw [l1,l2,beq_iff_eq];omega
 have f4:((r.m.n:Int)==4)=true↔ω.mx.length=4:=by rw [l3,beq_iff_eq];omega
 have f1:b1=true↔0<=ω.now/\ω.now<=4611686018427387904:=by rw [<- e1,near_iff,hnow]
 have f2:b2=true↔P12.rightB ω.progs=true:=by rw [<- e2,hpl]
 have f5:b5=true↔∀ x∈ω.mx,OkW x.1/\(0<=x.2.1/\x.2.1<4294967296)/\(0<=x.2.2/\x.2.2<4294967296):=by
  rw [<- e5,List.all_eq_true];exact⟨λ q x hx=>okM_iff.1 (q x hx),λ q x hx=>okM_iff.2 (q x hx)⟩
 have f6:b6=true↔TabA ω.tb/\∀ s∈ω.tb,∀ x∈s.2.2,x<(ω.cl.length:Int):=by rw [e6,<- tabA_iff,htb,l2]
 have f7:ω.cl.length<=8->(b7=true↔∀ c∈ω.cl,(c.gst=0\/c.gst=1\/c.gst=2)/\(c.permit=true->c.gst=0)):=λ q=>by rw [<- e7,gor_iff q]
 rw [hpl] at e9;have hw:RightW ω↔b1=true/\b2=true/\((r.c.n:Int)==(r.p.n:Int))=true/\((r.m.n:Int)==4)=true/\b5=true/\b6=true/\b7=true/\(ω.stop=0\/ω.stop=11\/ω.stop=12)/\b9=true:=by
  constructor
  . intro q
    have h8:ω.cl.length<=8:=by rw [q.len];exact (right_facts q.progs).1
    refine⟨f1.2 q.now,f2.2 q.progs,f3.2 q.len,f4.2 q.m4,f5.2 q.mxs,f6.2 ⟨q.tab,q.ids⟩,(f7 h8).2 q.gors,q.stop,e9.2 λ i c p hc hp=>?_⟩;have:=(q.gors c (zmo hc)).1;exact (cright_iff (by omega)).1 (q.cls i c p hc hp)
  . rintro⟨q1,q2,q3,q4,q5,q6,q7,q8,q9⟩
    have hl:=f3.1 q3;have h8:ω.cl.length<=8:=by rw [hl];exact (right_facts (f2.1 q2)).1
    have hg:=(f7 h8).1 q7;refine⟨f1.1 q1,f2.1 q2,hl,f4.1 q4,(f6.1 q6).1,(f6.1 q6).2,hg,λ i c p hc hp=>?_,f5.1 q5,q8⟩;have:=(hg c (zmo hc)).1;exact (cright_iff (by omega)).2 (e9.1 q9 i c p hc hp)
 clear f1 f2 f3 f4 f5 f6 f7 e1 e2 e5 e6 e7 e9 hk hfew;have hv2:v=(b1&&b2&&((r.c.n:Int)==(r.p.n:Int))&&((r.m.n:Int)==4)&&b5&&b6&&b7&&((r.stop==0)||(r.stop==11)||(r.stop==12))&&b9):=by
  rw [Bool.eq_iff_iff,hv,hw,<- hstop];simp only [Bool.and_eq_true,Bool.or_eq_true,beq_iff_eq,and_assoc,or_assoc]
 rw [hv2];exact right_all N0 c1 c2 c5 c6 c7 c9
end
end P16
end
section
namespace P16
open P14 (pan)
open P12 (PV PMem)
section
variable {x:Cx} {W:World} {T E:Sl} {cl:List Cl} {mx:List T3} {tb:List Sp} {ev:List T3} {ω:Wv} {who:Int} {c:Cl} {pr:List Ac} {k n:Int} {a:T3}
abbrev Cx.wr (x:Cx) (T:Sl):WR:=⟨x.now,x.p,⟨some ⟨x.bc,x.oc,none⟩,x.nc,x.cc⟩,⟨some ⟨x.bm,x.om,none⟩,4,x.cm⟩,T,x.st⟩
theorem TS.new (h:TS x W T E cl mx tb ev) (hb:B64 x.st):WNew x.B W (x.wr T) ⟨x.now,x.progs,cl,mx,tb,x.st⟩:=λ W' f =>
 ⟨rfl,rfl,h.kt,hb,h.pr W' f.kb,orow_rmem (h.c.kept (f.2 _ h.lc h.c.lt)) h.lenc h.cb,orow_rmem (h.m.kept (f.2 _ h.lm h.m.lt)) h.lenm h.mb,h.tb W' f.kb,h.op,h.oc,h.om,h.ot⟩
theorem TS.enew (h:TS x W T E cl mx tb ev):ENew x.B W E.A E.n ev:=λ W' f=>h.ev W' f.kb
theorem TS.putS (h:TS x W T E cl mx tb ev) (y:Int):TS { x with st:=y } (W.setCell ⟨x.b,5,none⟩ (.int .i64 y)) T E cl mx tb ev :=
 have k:Kx x W (W.setCell ⟨x.b,5,none⟩ (.int .i64 y)):=Kx.st (.inl rfl) _
 { lb:=h.lb,lc:=h.lc,lm:=h.lm,n1:=h.n1,n2:=h.n2,n3:=h.n3,t:=h.t.set 5 _,c:=h.c.st (p:=⟨x.b,5,none⟩) h.n1 _,m:=h.m.st (p:=⟨x.b,5,none⟩) h.n2 _,cb:=h.cb,mb:=h.mb,lenc:=h.lenc,lenm:=h.lenm,pr:=λ _ q=>h.pr _ (k.kb.trans q),tb:=λ _ q=>h.tb _ (k.kb.trans q),ev:=λ _ q=>h.ev _ (k.kb.trans q),op:=h.op,ot:=h.ot,oe:=h.oe,oc:=h.oc,om:=h.om,w0:=h.w0,w1:=h.w1,wi:=h.wi,ni:=h.ni,kt:=h.kt }
theorem tab_len {tb:List Sp} (h:TabA tb):tb.length<=64:=by have:=h.1.1;unfold svs at this;rwa [List.length_map] at this
theorem tab_line {tb:List Sp} (h:TabA tb):∀ s∈tb,s.2.2.length<=64:=λ s hs=>by
 have:=((h.1.2.1 ⟨s.1,s.2.1,none,0,0,s.2.2⟩ (List.mem_map.2 ⟨s,hs,rfl⟩)).1.2.2.2.1).1;exact this
theorem RightW.few (h:RightW ω):Few ω:=by
 obtain⟨h1,h2⟩:=right_facts h.progs;exact⟨by omega,λ p hp=>by have:=(h2 p hp).1;omega,by rw [h.len];omega,by rw [h.m4];omega,by have:=tab_len h.tab;omega,λ s hs=>by have:=tab_line h.tab s hs;omega⟩
theorem mem_gtA {tb:List Sp} {m:Nat} {y:Int} (hy:y∈(gtA tb m).2):∃ s∈tb,y∈s.2.2:=by
 unfold gtA gt at hy
 cases hf:(svs tb).find? (λ x=>decide (x.addr=8*(m:Int))) with
 | none=>rw [hf] at hy;cases hy
 | some z =>
  rw [hf] at hy;have hm:=List.mem_of_find?_eq_some hf;unfold svs at hm;obtain⟨s,hs,rfl⟩:=List.mem_map.1 hm;exact⟨s,hs,hy⟩
theorem line_pos {tb:List Sp} (h:TabA tb) {s:Sp} (hs:s∈tb) {y:Int} (hy:y∈s.2.2):0<=y:=by
 have:=((h.1.2.1 ⟨s.1,s.2.1,none,0,0,s.2.2⟩ (List.mem_map.2 ⟨s,hs,rfl⟩)).1.2.2.2.1).2.1;exact this y hy
theorem steps_at (hr:RightW ω) (hs:¬ Still ω who):∃ c pr k n,ω.cl[who.toNat]?=some c/\ω.progs[who.toNat]?=some pr/\pr[c.act.toNat]?=some (k,n)/\0<=who/\who<(ω.cl.length:Int)/\c.gst=0/\ω.stop=0/\CRight pr c/\c.act<pr.length:=by
 have h0:ω.stop=0:=Classical.byContradiction λ q=>hs (.inl q)
 have h1:0<=who:=Classical.byContradiction λ q=>hs (.inr (.inl (by omega)))
 have h2:who<(ω.cl.length:Int):=Classical.byContradiction λ q=>hs (.inr (.inr (.inl (by omega))))
 obtain⟨c,hc⟩:∃ c,ω.cl[who.toNat]?=some c:=⟨_,zge (by omega)⟩;have hg:c.gst=0:=Classical.byContradiction λ q=>hs (.inr (.inr (.inr ⟨c,hc,q⟩)))
 have hl:=hr.len;obtain⟨pr,hp⟩:∃ p,ω.progs[who.toNat]?=some p:=⟨_,zge (by omega)⟩;have hcr:=hr.cls _ c pr hc hp;have ha1:c.act<pr.length:=by
  have h1:=hcr.a1;by_cases q:c.act=pr.length
  . have:=hcr.dn.1 q;omega
  . omega
 obtain⟨⟨k,n⟩,ha⟩:∃ a,pr[c.act.toNat]?=some a:=⟨_,zge (by have:=hcr.a0;omega)⟩;exact⟨c,pr,k,n,hc,hp,ha,h1,h2,hg,h0,hcr,ha1⟩
theorem act_ok (hr:RightW ω) {i:Nat} (hp:ω.progs[i]?=some pr) {j:Nat} (ha:pr[j]?=some (k,n)):(0<=k/\k<=3)/\0<=n/\(k=3->n<=1000)/\(k≠3->n<4):=by
 have h1:=((right_facts hr.progs).2 pr (zmo hp)).2 (k,n) (zmo ha);have h2:=P12.okA_iff.1 h1;dsimp only at h2;omega
theorem rn_of (hr:RightW ω) (h:TS x W T E ω.cl mx tb ev) (hc:ω.cl[x.who.toNat]?=some c) (hp:ω.progs[x.who.toNat]?=some pr) (hg:c.gst=0) (hcr:CRight pr c) (ha:c.act<pr.length) (hpr:x.progs=ω.progs) (hnp:x.p.n=x.nc):Rn x ω.cl c pr:=by
 obtain⟨f1,f2⟩:=right_facts hr.progs;have hl:=hr.len;have hn:=h.lenc;exact⟨hc,hg,(gor_iff (by omega)).1 hr.gors,by rw [hpr];exact hp,(f2 pr (zmo hp)).1,hcr.a0,ha,hnp,by omega⟩
theorem can_of (hr:RightW ω) (h:TS x W T E ω.cl ω.mx ω.tb ev) (R:Rn x ω.cl c pr) (hcr:CRight pr c) (hn:0<=x.n/\x.n<4) (ha:ω.mx[x.n.toNat]?=some a) (hnow:x.now=ω.now) (gl:P15.Glob W):Can x W ω.cl ω.mx ω.tb c a pr:=by
 have hm:=hr.mxs a (zmo ha);refine⟨R,hn.1,hn.2,ha,⟨hcr.sc,hcr.rd,hcr.ol⟩,by rw [hnow];exact hr.now,hm.1,hm.2.1,hm.2.2,hr.tab,λ y hy=>?_,hr.gors,gl⟩;obtain⟨s,hs,hys⟩:=mem_gtA hy;exact⟨line_pos hr.tab hs hys,hr.ids s hs y hys⟩
theorem stp_at {w:Mw} {i:Nat} {p:List Ac} (hc:w.cl[i]?=some c) (hp:w.progs[i]?=some p) (hs:w.stop=0) (hg:c.gst=0) (ha:p[c.act.toNat]?=some (k,n)) :
 stp w i=if k=3 then ({ w with cl:=w.cl.set i (work n p.length c) },none)
  else match touch w.now (runs w.cl) p.length i k c (w.cm n.toNat) with
   | .bad=>({ w with stop:=12 },none)
   | .fault=>({ w with stop:=11 },some ((i:Int),4,n))
   | .ok o =>
    let cl:=w.cl.set i o.c
    let cm:=λ j=>if j=n.toNat then o.m else w.cm j
    match o.rdy with
    | none=>({ w with cl:=cl,cm:=cm },o.ev.map λ e=>((i:Int),e,n))
    | some y =>
     match (cl[y.toNat]?).bind told with
     | none=>({ w with stop:=12 },none)
     | some d=>({ w with cl:=cl.set y.toNat d,cm:=cm },o.ev.map λ e=>((i:Int),e,n)):=by
 unfold stp;rw [hc,hp];dsimp only;rw [if_neg (by omega),ha];rfl
theorem mxAt_set {l:List T3} {m:Nat} (hm:m<l.length) (v:T3) (j:Nat):mxAt (l.set m v) j=if j=m then v else mxAt l j:=by
 unfold mxAt;by_cases e:j=m
 . subst e
   rw [if_pos rfl,zss hm];rfl
 . rw [if_neg e,zsn (Ne.symm e)]
theorem cm_set {mx:List T3} {tb tb':List Sp} {m:Nat} (o:Cm) (hm:m<mx.length) (hg:GotT tb tb' m (o.c,o.l)) :
 (λ j=>(⟨(mxAt (mx.set m (o.word,o.nx,o.sv)) j).1,(mxAt (mx.set m (o.word,o.nx,o.sv)) j).2.1,(mxAt (mx.set m (o.word,o.nx,o.sv)) j).2.2,(gtA tb' j).1,(gtA tb' j).2⟩:Cm)) =
   λ j=>if j=m then o else ⟨(mxAt mx j).1,(mxAt mx j).2.1,(mxAt mx j).2.2,(gtA tb j).1,(gtA tb j).2⟩:=by
 funext j;rw [mxAt_set hm];by_cases e:j=m
 . subst e
   rw [if_pos rfl,if_pos rfl,hg.2.1]
 . rw [if_neg e,if_neg e,hg.2.2 j e]
def TryS (x:Cx) (ω:Wv) (who:Int) (e:Ending) (W':World):Prop :=
 (e=.returned (.int .i64 0)/\∃ T' E' cl' mx' tb' ev',TS x W' T' E' cl' mx' tb' ev'/\TabA tb'/\mw ⟨ω.now,ω.progs,cl',mx',tb',ω.stop⟩=(stp (mw ω) who.toNat).1/\ev'=(stp (mw ω) who.toNat).2.toList) \/
 (e=.returned (.int .i64 12)/\stp (mw ω) who.toNat=({ mw ω with stop:=12 },none)) \/
 (e=.returned (.int .i64 11)/\stp (mw ω) who.toNat=({ mw ω with stop:=11 },some (who,4,x.n)))
theorem try_stp (hr:RightW ω) (h:TS x W T ⟨none,0,0⟩ ω.cl ω.mx ω.tb []) (hc:ω.cl[who.toNat]?=some c) (hp:ω.progs[who.toNat]?=some pr) (ha:pr[c.act.toNat]?=some (k,n)) (w0:0<=who) (hg:c.gst=0) (hst:ω.stop=0) (hcr:CRight pr c) (ha1:c.act<pr.length)
 (e1:x.now=ω.now) (e2:x.who=who) (e3:x.k=k) (e4:x.n=n) (e5:x.progs=ω.progs) (e6:x.p.n=x.nc) (gl:P15.Glob W) :
 Calls prog 42 #[.pointer (some ⟨x.b,0,none⟩)] W λ e W'=>Kx x W W'/\TryS x ω who e W':=by
 obtain⟨hk,hn0,hn3,hn4⟩:=act_ok hr hp ha;subst e2 e3 e4;have R:=rn_of hr h hc hp hg hcr ha1 e5 e6;obtain⟨hpc,hwk⟩:=hcr.at_ _ _ ha;have hS:=stp_at (w:=mw ω) hc hp hst hg ha;have hi:((x.who.toNat:Nat):Int)=x.who:=Int.toNat_of_nonneg w0;by_cases h3:x.k=3
 . rw [if_pos h3] at hS
   have hp0:c.pc=0:=by unfold OkPc at hpc;omega
   refine (try_work h R h3 hp0 (by omega) hn0 (hn3 h3)).mono ?_;rintro e W' ⟨q1,q2,q3⟩;exact⟨q1,.inl ⟨q2,_,_,_,_,_,_,q3,hr.tab,by rw [hS];rfl,by rw [hS];rfl⟩⟩
 . rw [if_neg h3] at hS
   have h4:=hn4 h3;have hm4:=hr.m4;have hml:x.n.toNat<ω.mx.length:=by omega
   obtain⟨a,hma⟩:∃ a,ω.mx[x.n.toNat]?=some a:=⟨_,zge hml⟩;have C:=can_of hr h R hcr ⟨hn0,h4⟩ hma e1 gl;have hcm:(mw ω).cm x.n.toNat=CM x ω.tb a:=by
    unfold mw CM cmOf;dsimp only;rw [mxAt_get hma]
   rw [hcm,hi] at hS;have hS:stp (mw ω) x.who.toNat=_:=hS;refine (try_is h C (by omega) hpc).mono ?_;rintro e W' ⟨q1,q2⟩;refine⟨q1,?_⟩;unfold TryQ touchR at q2;have hT:touch (mw ω).now (runs (mw ω).cl) pr.length x.who x.k c (CM x ω.tb a)=touch x.now (runs ω.cl) pr.length x.who x.k c (CM x ω.tb a):=by rw [e1];rfl
   rw [hT] at hS
   revert q2 hS
   generalize touch x.now (runs ω.cl) pr.length x.who x.k c (CM x ω.tb a)=Z;intro hS q2
   cases Z with
   | bad=>exact .inr (.inl ⟨q2,hS⟩)
   | fault=>exact .inr (.inr ⟨q2,hS⟩)
   | ok o =>
    obtain⟨oc,om,rdy,oev⟩:=o
    cases rdy with
    | none =>
     obtain⟨q3,T',E',tb',q4,q5⟩:=q2;exact .inl ⟨q3,_,_,_,_,_,_,q4,q5.1,by
      rw [hS];show (⟨ω.now,ω.progs,ω.cl.set x.who.toNat oc,_,ω.stop⟩:Mw)=⟨ω.now,ω.progs,ω.cl.set x.who.toNat oc,_,ω.stop⟩;congr 1;exact cm_set om hml q5,by rw [hS]⟩
    | some y =>
     have hcl:(mw ω).cl=ω.cl:=rfl;dsimp only at q2 hS;rw [hcl] at hS
     cases hd:((ω.cl.set x.who.toNat oc)[y.toNat]?).bind told with
     | none =>
      rw [hd] at q2 hS;exact .inr (.inl ⟨q2,hS⟩)
     | some d =>
      rw [hd] at q2 hS;obtain⟨q3,T',E',tb',q4,q5⟩:=q2;exact .inl ⟨q3,_,_,_,_,_,_,q4,q5.1,by
       rw [hS];show (⟨ω.now,ω.progs,(ω.cl.set x.who.toNat oc).set y.toNat d,_,ω.stop⟩:Mw)=⟨ω.now,ω.progs,(ω.cl.set x.who.toNat oc).set y.toNat d,_,ω.stop⟩;congr 1;exact cm_set om hml q5,by rw [hS]⟩
end
end P16
end
section
namespace P16
section
variable {W:World} {r:WR} {ω:Wv} {who:Int}
theorem goes_no (h:(r.stop==0)=false\/((r.stop==0)=true/\decide (0<=who)=false)\/((r.stop==0)=true/\decide (0<=who)=true/\decide (who<(r.c.n:Int))=false)) :
 Calls prog 40 #[r.v,.int .i64 who] W λ e w'=>e=.returned (.bool false)/\Gr W w':=by
 rcases h with h1 | ⟨h1,h2⟩ | ⟨h1,h2,h3⟩
 all_goals (
  go_enter func40,ntmps40;go_wp2_with fail;go_ret;exact⟨rfl,(zr W).al _⟩)
theorem goes_at {b off:Nat} {g:Int} (h1:(r.stop==0)=true) (h2:decide (0<=who)=true) (h3:decide (who<(r.c.n:Int))=true) (hA:r.c.A=some ⟨b,off,none⟩) (hb:b<W.heap.size) (c0:W.cell? ⟨b,off+who.toNat*13,none⟩=some (.int .i64 g)) :
 Calls prog 40 #[r.v,.int .i64 who] W λ e w'=>e=.returned (.bool (g==0))/\Gr W w':=by
 have a0:0<=who:=by simpa using h2
 have a1:who<(r.c.n:Int):=by simpa using h3
 obtain⟨now,p,c,m,t,stop⟩:=r;obtain⟨A,n,d⟩:=c;dsimp only at hA h1 h3 a1 ⊢;subst hA;go_enter func40,ntmps40;go_wp2_with fail;go_ret;exact⟨rfl,(zr W).al _⟩
theorem goes_is (h:WIs W r ω) {v:Bool} (hv:v=true↔¬ Still ω who) :
 Calls prog 40 #[r.v,.int .i64 who] W λ e w'=>e=.returned (.bool v)/\Gr W w':=by
 have hl:ω.cl.length=r.c.n:=h.lens.2.1;have hs:r.stop=ω.stop:=h.stop;by_cases h0:ω.stop≠0\/who<0\/(ω.cl.length:Int)<=who
 . have e:v=false:=by
    cases q:v
    . rfl
    . refine absurd ?_ (hv.1 q)
      rcases h0 with q | q | q
      . exact .inl q
      . exact .inr (.inl q)
      . exact .inr (.inr (.inl q))
   rw [e];refine goes_no ?_;by_cases q1:r.stop=0
   . by_cases q2:0<=who
     . refine .inr (.inr ⟨by simpa using q1,by simpa using q2,?_⟩)
       have:¬ who<(r.c.n:Int):=by omega
       simpa using this
     . exact .inr (.inl ⟨by simpa using q1,by simpa using q2⟩)
   . exact .inl (by simpa using q1)
 . have w0:0<=who:=by omega
   have w1:who<(r.c.n:Int):=by omega
   obtain⟨b,off,y,hA,hb,hy,okx,c0,-⟩:=CMem.cells h.c (k:=who.toNat) (by omega);have e:v=(y.gst==0):=by
    rw [Bool.eq_iff_iff,hv];unfold Still;simp only [beq_iff_eq];constructor
    . intro q
      by_cases g:y.gst=0
      . exact g
      . exact absurd (.inr (.inr (.inr ⟨y,hy,g⟩))) q
    . rintro g (q | q | q | ⟨c,q1,q2⟩)
      . exact h0 (.inl q)
      . omega
      . omega
      . rw [hy] at q1;cases q1;exact q2 g
   rw [e];refine goes_at ?_ (by simpa using w0) (by simpa using w1) hA hb c0;have:r.stop=0:=by rw [hs];omega
   simpa using this
end
end P16
end
end Go.Proofs.YtainfijdhcehlaaGreatDoor
