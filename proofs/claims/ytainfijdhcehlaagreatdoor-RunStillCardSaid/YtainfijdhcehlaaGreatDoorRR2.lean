/-
  A part of the proof.
-/
import Derived.Test.YtainfijdhcehlaaGreatDoorRR1
import Derived.Laws.BytesArg
set_option linter.unusedVariables false
set_option linter.unusedSimpArgs false
set_option maxRecDepth 100000
set_option maxHeartbeats 8000000
namespace Go.Proofs.YtainfijdhcehlaaGreatDoor
open Lib (hid)
section
open Go.ChangeShapes Go.WideShapes Go.ChangeAt Go.RowKit
namespace P12
theorem take_more {α:Type} {l:List α} {k:Nat} {x:α} (h:l[k]?=some x):l.take (k+1)=l.take k++[x]:=by
 rw [List.take_add_one,h];rfl
theorem rAct_is {a:Ac} {B:Bool} (hB:okA a=B) (w:World):Calls Tryz.prog 50 #[.agg #[.int .i64 a.1,.int .i64 a.2]] w λ e w'=>e=.returned (.bool B)/\Gr w w':=by
 obtain⟨k,n⟩:=a;have key:∀ B',okA (k,n)=B'->Hid (B'=B):=λ B' h=>hid (by rw [<- h,hB])
 clear hB;by_cases h3:k=3
 . subst h3
   by_cases h0:0<=n
   . by_cases h1:n<=1000
     . have HB:=key true (by unfold okA;simp;omega)
       clear key;go_enter Tryz.func50,Tryz.ntmps50;go_wp2_with fail;go_ret;rw [<- HB.out];exact⟨rfl,(Gr.refl w).al _⟩
     . have HB:=key false (by unfold okA;simp;omega)
       clear key;go_enter Tryz.func50,Tryz.ntmps50;go_wp2_with fail;go_ret;rw [<- HB.out];exact⟨rfl,(Gr.refl w).al _⟩
   . have HB:=key false (by unfold okA;simp;omega)
     clear key;go_enter Tryz.func50,Tryz.ntmps50;go_wp2_with fail;go_ret;rw [<- HB.out];exact⟨rfl,(Gr.refl w).al _⟩
 . have n3:(k==3)=false:=by simpa using h3
   by_cases h0:0<=k
   . by_cases h1:k<=2
     . by_cases h4:0<=n
       . by_cases h5:n<=3
         . have HB:=key true (by unfold okA;rw [if_neg (by simpa using h3)];simp;omega)
           clear key;go_enter Tryz.func50,Tryz.ntmps50;go_wp2_with fail;go_ret;rw [<- HB.out];exact⟨rfl,(Gr.refl w).al _⟩
         . have HB:=key false (by unfold okA;rw [if_neg (by simpa using h3)];simp;omega)
           clear key;go_enter Tryz.func50,Tryz.ntmps50;go_wp2_with fail;go_ret;rw [<- HB.out];exact⟨rfl,(Gr.refl w).al _⟩
       . have HB:=key false (by unfold okA;rw [if_neg (by simpa using h3)];simp;omega)
         clear key;go_enter Tryz.func50,Tryz.ntmps50;go_wp2_with fail;go_ret;rw [<- HB.out];exact⟨rfl,(Gr.refl w).al _⟩
     . have HB:=key false (by unfold okA;rw [if_neg (by simpa using h3)];simp;omega)
       clear key;go_enter Tryz.func50,Tryz.ntmps50;go_wp2_with fail;go_ret;rw [<- HB.out];exact⟨rfl,(Gr.refl w).al _⟩
   . have HB:=key false (by unfold okA;rw [if_neg (by simpa using h3)];simp;omega)
     clear key;go_enter Tryz.func50,Tryz.ntmps50;go_wp2_with fail;go_ret;rw [<- HB.out];exact⟨rfl,(Gr.refl w).al _⟩
theorem rTidy_is {A:Option Addr} {n c:Nat} {l:List Ac} {B:Bool} (hB:tidyB l=B) (hn:n<=9223372036854775807) (w:World) (hm:Mem w A n l) :
 Calls Tryz.prog 23 #[.slice A n c] w λ e w'=>e=.returned (.bool B)/\Gr w w':=by
 have HB0:=hid (show (held (ho false (-1)) l==some none)=B from hB);clear hB;go_enter Tryz.func23,Tryz.ntmps23;go_wp2_with fail
 go_loopw [3,4,9] (λ m b i wr=>∃ (k:Nat) (v:Bool) (u:Int),k<=n/\b=.bool v/\m=.int .i64 u/\i=.int .i64 k/\Hid ((held (ho v u) (l.drop k)==some none)=B)/\Gr w wr) (λ _ _ i _=>n-(intOf i).toNat)
 case atStart=>exact⟨0,false,-1,Nat.zero_le _,rfl,rfl,rfl,HB0,Gr.refl _⟩
 case round =>
  obtain⟨k,v,u,hk,rfl,rfl,rfl,HB,hg⟩:=hrel;by_cases hlt:k<n
  . obtain⟨b,off,x,rfl,hbl,hx,h1,h2,c0,c1⟩:=(hm.gr hg).at_ hlt
    have hd:l.drop k=x::l.drop (k+1):=by
     obtain⟨hl,rfl⟩:=List.getElem?_eq_some_iff.1 hx;exact List.drop_eq_getElem_cons hl
    have HK:=HB.out;rw [hd] at HK;obtain⟨x0,x1⟩:=x;clear hd hx HB hm HB0;dsimp only at c0 c1 h1 h2;by_cases e1:x0=1
    . rw [held_try e1] at HK
      have HK:=hid HK;subst e1;go_wp2_with fail;go_ret;exact⟨ret_bool HK.out,hg.al _⟩
    . have n1:(x0==1)=false:=by simpa using e1
      by_cases e0:x0=0
      . cases v
        . rw [held_lock e0] at HK
          have HK:=hid HK;subst e0;clear e1;go_wp2_with fail;go_roundw
          case rel=>exact⟨k+1,true,_,by omega,rfl,rfl,by go_num,HK,hg.al _⟩
          case measure=>simp [intOf];omega
        . rw [held_lock_no e0] at HK
          have HK:=hid HK;subst e0;clear e1;go_wp2_with fail;go_ret;exact⟨ret_bool HK.out,hg.al _⟩
      . have n0:(x0==0)=false:=by simpa using e0
        by_cases e2:x0=2
        . by_cases hv:v=true/\x1=u
          . obtain⟨rfl,rfl⟩:=hv
            rw [held_unlock (a:=(x0,x1)) e2 rfl] at HK;have HK:=hid HK;subst e2;clear e0 e1;have nb:(x1 != x1)=false:=by simp
            go_wp2_with fail;go_roundw
            case rel=>exact⟨k+1,false,_,by omega,rfl,rfl,by go_num,HK,hg.al _⟩
            case measure=>simp [intOf];omega
          . rw [held_unlock_no e2 (by cases v;exact .inl rfl;exact .inr λ e=>hv ⟨rfl,e⟩)] at HK
            have HK:=hid HK;subst e2;clear e0 e1;cases v
            . go_wp2_with fail
              go_ret;exact⟨ret_bool HK.out,hg.al _⟩
            . have hu:(x1==u)=false:=by simpa using λ e=>hv ⟨rfl,e⟩
              have hu':(x1 != u)=true:=by simp [bne,hu]
              go_wp2_with fail;go_ret;exact⟨ret_bool HK.out,hg.al _⟩
        . have n2:(x0==2)=false:=by simpa using e2
          rw [held_other e0 e1 e2] at HK;have HK:=hid HK;clear e0 e1 e2;go_wp2_with fail;go_roundw
          case rel=>exact⟨k+1,v,u,by omega,rfl,rfl,by go_num,HK,hg.al _⟩
          case measure=>simp [intOf];omega
  . obtain rfl:k=n:=by omega
    have HK:=HB.out;rw [List.drop_of_length_le (by have:=hm.1;omega),tidy_end] at HK;have HK:=hid HK;clear HB hm HB0;go_wp2_with fail;go_ret;exact⟨rfl,hg⟩
theorem plainInt:Tryz.prog.plainKey 3=true:=by kernel_rfl
theorem act_neq (a b:Ac) (W:World):(binOp .neq 67 (.agg #[.int .i64 a.1,.int .i64 a.2]) (.agg #[.int .i64 b.1,.int .i64 b.2])).run Tryz.prog W=.ok (.bool (!(a==b))) W:=by
 have h1:(Op.equalIn 9999 3 (.int .i64 a.1) (.int .i64 b.1)).run Tryz.prog W=.ok (a.1==b.1) W:=run_equalIn_int W 9998 3 .i64 .i64 a.1 b.1 Tryz.underlying3;have h2:(Op.equalIn 9999 3 (.int .i64 a.2) (.int .i64 b.2)).run Tryz.prog W=.ok (a.2==b.2) W:=run_equalIn_int W 9998 3 .i64 .i64 a.2 b.2 Tryz.underlying3;have p1:∀ x y:Int,(part 3 #[.int .i64 x,.int .i64 y] 0).run Tryz.prog W=.ok (.int .i64 x) W:=λ x y=>run_part_plain W plainInt rfl
 have p2:∀ x y:Int,(part 3 #[.int .i64 x,.int .i64 y] 1).run Tryz.prog W=.ok (.int .i64 y) W:=λ x y=>run_part_plain W plainInt rfl
 have hk : (Tryz.prog.fieldsOf 67).toList.map (fun f => (f.name == "_", f.type, f.offset)) = [(false, 3, 0), (false, 3, 1)] := by kernel_rfl
 rw [run_neq_struct,run_equalIn_struct W 9999 67 _ _ (by kernel_rfl) (by kernel_rfl)];generalize (Tryz.prog.fieldsOf 67).toList=F at hk ⊢;rcases F with _ | ⟨f0,_ | ⟨f1,_ | ⟨f2,F⟩⟩⟩
 . simp at hk
 . simp at hk
 rotate_left
 . simp at hk
 simp only [List.map_cons,List.map_nil,List.cons.injEq,Prod.mk.injEq,and_true,beq_eq_false_iff_ne] at hk;obtain⟨⟨n0,t0,o0⟩,n1,t1,o1⟩:=hk;rw [Op.eqFields,if_pos n0,t0,o0,Sem.run_bind,p1,Result.andThen_ok,Sem.run_bind,p1,Result.andThen_ok,Sem.run_bind,h1,Result.andThen_ok,Op.eqFields,if_pos n1,t1,o1];obtain⟨a0,a1⟩:=a;obtain⟨b0,b1⟩:=b;dsimp only at h1 h2 ⊢;by_cases h:a0=b0
 . subst h
   rw [show (a0==a0)=true from by simp,if_neg (by simp),Sem.run_bind,p2,Result.andThen_ok,Sem.run_bind,p2,Result.andThen_ok,Sem.run_bind,h2,Result.andThen_ok];by_cases g:a1=b1
   . subst g
     simp [Op.eqFields]
   . have g':(a1==b1)=false:=by simpa using g
     rw [g'];simp [g]
 . have h':(a0==b0)=false:=by simpa using h
   rw [h'];simp [h]
theorem rActs_is {A B:Option Addr} {n c m d:Nat} {a b:List Ac} {v:Bool} (hv:(a==b)=v) (hn:n<=9223372036854775807) (hmm:m<=9223372036854775807) (w:World) (ha:Mem w A n a) (hb:Mem w B m b) :
 Calls Tryz.prog 46 #[.slice A n c,.slice B m d] w λ e w'=>e=.returned (.bool v)/\∃ k,w'=w.drewN k:=by
 have la:=ha.1;have lb:=hb.1;by_cases hnm:n=m
 . subst hnm
   have t1:((n:Int) != (n:Int))=false:=by simp
   have HV:=hid hv;have HLA:=hid la;have HLB:=hid lb;have H0:=hid (show a.take 0=b.take 0 from rfl);clear hv la lb;go_enter Tryz.func46,Tryz.ntmps46;go_wp2_with fail
   go_loopw [13] (λ i wr=>∃ k:Nat,k<=n/\i=.int .i64 k/\Hid (a.take k=b.take k)/\Hid (∃ q,wr=w.drewN q)) (λ i _=>n-(intOf i).toNat)
   case atStart=>exact⟨0,Nat.zero_le _,rfl,H0,hid ⟨0,rfl⟩⟩
   case round =>
    obtain⟨k,hk,rfl,HK,HQ⟩:=hrel;have hG:Gr w wr:=by obtain⟨q,rfl⟩:=HQ.out;exact (Gr.refl w).drN q
    by_cases hlt:k<n
    . obtain⟨b1,o1,x,rfl,hb1,hx,-,-,c0,c1⟩:=(ha.gr hG).at_ hlt
      obtain⟨b2,o2,y,rfl,hb2,hy,-,-,d0,d1⟩:=(hb.gr hG).at_ hlt;obtain⟨E,hE⟩:∃ E,(x==y)=E:=⟨_,rfl⟩;have hne:=λ W=>act_neq x y W
      rw [hE] at hne;have k0:(0:Int)<=(k:Int):=by omega
      have k1:(k:Int)<(n:Int):=by omega
      have HX:=hid hx;have HY:=hid hy;have HE:=hid hE;clear hx hy hE ha hb;cases E
      . go_wp2_with fail
        go_quiet (fail)
        go_wp2_with fail;go_ret;refine⟨ret_bool ?_,by obtain⟨q,rfl⟩:=HQ.out;exact⟨_,World.drewN_drewN _ _ _⟩⟩;rw [<- HV.out];refine (beq_eq_false_iff_ne.2 λ e=>?_).symm;subst e;have h1:=HX.out;rw [HY.out] at h1;cases h1;have h2:=HE.out;simp at h2
      . go_wp2_with fail
        go_quiet (fail)
        go_wp2_with fail;go_roundw
        case rel=>exact⟨k+1,by omega,by go_num,hid (by rw [take_more HX.out,take_more HY.out,HK.out,eq_of_beq HE.out]),hid (by obtain⟨q,rfl⟩:=HQ.out;exact⟨_,World.drewN_drewN _ _ _⟩)⟩
        case measure=>simp [intOf];omega
    . obtain rfl:k=n:=by omega
      clear ha hb;go_wp2_with fail;go_ret;refine⟨ret_bool ?_,HQ.out⟩;rw [<- HV.out];have h:=HK.out;rw [List.take_of_length_le (by rw [HLA.out];exact Nat.le_refl _),List.take_of_length_le (by rw [HLB.out];exact Nat.le_refl _)] at h;rw [h];simp
 . have t1:((n:Int) != (m:Int))=true:=by simp;omega
   have HV:=hid (show v=false from by
    rw [<- hv];refine beq_eq_false_iff_ne.2 λ e=>hnm ?_
    rw [<- la,<- lb,e])
   clear hv la lb ha hb;go_enter Tryz.func46,Tryz.ntmps46;go_wp2_with fail;go_ret;exact⟨ret_bool HV.out.symm,0,rfl⟩
end P12
end
section
open Go.ChangeShapes Go.WideShapes Go.ChangeAt Go.RowKit
namespace P12
theorem all_no {α:Type} {p:α->Bool} {l:List α} {k:Nat} {x:α} (hx:l[k]?=some x) (h:p x=false):l.all p=false:=by
 rw [List.all_eq_false];exact⟨x,List.mem_of_getElem? hx,by rw [h];simp⟩
theorem all_more {α:Type} {p:α->Bool} {l:List α} {k:Nat} {x:α} (hx:l[k]?=some x) (h:p x=true) (g:(l.take k).all p=true):(l.take (k+1)).all p=true:=by
 rw [take_more hx,List.all_append,g];simp [h]
theorem rRight_is {A:Option Addr} {n c:Nat} {R:List PV} {B:Bool} (hB:rightB (pl R)=B) (hn:n<=9223372036854775807) (w:World) (hm:PMem w A n R) :
 Calls Tryz.prog 30 #[.slice A n c] w λ e w'=>e=.returned (.bool B)/\Gr w w':=by
 have hall:(pl R).all okP=R.all okV:=by unfold pl;rw [List.all_map];rfl
 have hlen:(pl R).length=n:=by unfold pl;rw [List.length_map,hm.len]
 rw [rightB_okP,hall,hlen] at hB;have HB:=hid hB;have HL:=hid hm.len;have H0:=hid (show (R.take 0).all okV=true from rfl);clear hB hall hlen;go_enter Tryz.func30,Tryz.ntmps30;go_wp2_with fail
 go_loopw [9] (λ i wr=>∃ k:Nat,k<=n/\i=.int .i64 k/\Hid ((R.take k).all okV=true)/\Gr w wr) (λ i _=>n-(intOf i).toNat)
 case atStart=>exact⟨0,Nat.zero_le _,rfl,H0,Gr.refl _⟩
 case round =>
  obtain⟨k,hk,rfl,HK,hg⟩:=hrel;by_cases hlt:k<n
  . obtain⟨b,off,x,rfl,hbl,hx,hok,c0⟩:=(hm.gr hg).at_ hlt
    have HX:=hid hx;have hxn:=hok.lt;have hmx:=hok.1;have H1:=hid (show (x.l.take 0).all okA=true from rfl);have k0:(0:Int)<=(k:Int):=by omega
    have k1:(k:Int)<(n:Int):=by omega
    have hokp:∀ v,okP x.l=v->Hid (okV x=v):=λ v h=>hid h
    obtain⟨xA,xn,xc,xl⟩:=x;dsimp only at hxn hmx c0 H1 hokp;have hxl:=hmx.1;clear hx hok;go_wp2_with fail
    rename World=>wo
    go_loopw [15] (λ j wr=>∃ i:Nat,i<=xn/\j=.int .i64 i/\Hid ((xl.take i).all okA=true)/\Gr wo wr) (λ j _=>xn-(intOf j).toNat)
    case atStart=>exact⟨0,Nat.zero_le _,rfl,H1,Gr.refl _⟩
    case round =>
     obtain⟨i,hi,rfl,HI,hgi⟩:=hrel;by_cases hit:i<xn
     . obtain⟨b2,off2,y,rfl,hbl2,hy,hy1,hy2,d0,d1⟩:=(hmx.gr hgi).at_ hit
       have HY:=hid hy;obtain⟨E,hE⟩:∃ E,okA y=E:=⟨_,rfl⟩;have ca:=λ W=>hid (rAct_is hE W)
       have HE:=hid hE;have i0:(0:Int)<=(i:Int):=by omega
       have i1:(i:Int)<(xn:Int):=by omega
       clear hy hE hmx hm;cases E
       . have HF:=hokp false (by
          unfold okP;rw [all_no HY.out HE.out];simp)
         have HR:=hid (show false=B from by
          rw [<- HB.out,all_no HX.out HF.out];simp)
         clear hokp;go_wp2_with fail;with_reducible refine (ca _).out.mono ?_
         rintro e w2 ⟨rfl,hb2⟩;go_wp2_with fail;go_ret;exact⟨ret_bool HR.out,(hg.trans (hgi.al _)).trans hb2⟩
       . clear hokp
         go_wp2_with fail;with_reducible refine (ca _).out.mono ?_
         rintro e w2 ⟨rfl,hb2⟩;go_wp2_with fail;go_roundw
         case rel=>exact⟨i+1,by omega,by go_num,hid (all_more HY.out HE.out HI.out),(hgi.al _).trans hb2⟩
         case measure=>simp [intOf];omega
     . obtain rfl:i=xn:=by omega
       have hal:=HI.out;rw [List.take_of_length_le (by omega)] at hal;by_cases h64:i<=64
       . have HF:=hokp true (by unfold okP;rw [hal,hxl];simpa using h64)
         have h65:¬ (64:Int)<(i:Int):=by omega
         clear hokp hmx hm;go_wp2_with fail;go_roundw
         case rel=>exact⟨k+1,by omega,by go_num,hid (all_more HX.out HF.out HK.out),hg.trans hgi⟩
         case measure=>simp [intOf];omega
       . have HF:=hokp false (by unfold okP;rw [hxl];simp;omega)
         have HR:=hid (show false=B from by
          rw [<- HB.out,all_no HX.out HF.out];simp)
         have h65:(64:Int)<(i:Int):=by omega
         clear hokp hmx hm;go_wp2_with fail;go_ret;exact⟨ret_bool HR.out,hg.trans hgi⟩
  . obtain rfl:k=n:=by omega
    have hal:=HK.out;rw [List.take_of_length_le (by rw [HL.out];exact Nat.le_refl _)] at hal;have HR:=hid (show decide (k<=8)=B from by rw [<- HB.out,hal];simp);clear hm hal;by_cases h8:k<=8
    . have h9:(k:Int)<=8:=by omega
      rw [decide_eq_true h8] at HR;go_wp2_with fail;go_ret;exact⟨ret_bool HR.out,hg⟩
    . have h9:¬ (k:Int)<=8:=by omega
      rw [decide_eq_false h8] at HR;go_wp2_with fail;go_ret;exact⟨ret_bool HR.out,hg⟩
theorem rSame_is {A B:Option Addr} {n c m d:Nat} {R T:List PV} {v:Bool} (hv:(pl R==pl T)=v) (hn:n<=9223372036854775807) (hmm:m<=9223372036854775807) (w:World) (ha:PMem w A n R) (hb:PMem w B m T) :
 Calls Tryz.prog 22 #[.slice A n c,.slice B m d] w λ e w'=>e=.returned (.bool v)/\∃ k,w'=w.drewN k:=by
 have la:(pl R).length=n:=by unfold pl;rw [List.length_map,ha.len]
 have lb:(pl T).length=m:=by unfold pl;rw [List.length_map,hb.len]
 by_cases hnm:n=m
 . subst hnm
   have t1:((n:Int) != (n:Int))=false:=by simp
   have HV:=hid hv;have HLA:=hid la;have HLB:=hid lb;have H0:=hid (show (pl R).take 0=(pl T).take 0 from rfl);clear hv la lb;go_enter Tryz.func22,Tryz.ntmps22;go_wp2_with fail
   go_loopw [13] (λ i wr=>∃ k:Nat,k<=n/\i=.int .i64 k/\Hid ((pl R).take k=(pl T).take k)/\Hid (∃ q,wr=w.drewN q)) (λ i _=>n-(intOf i).toNat)
   case atStart=>exact⟨0,Nat.zero_le _,rfl,H0,hid ⟨0,rfl⟩⟩
   case round =>
    obtain⟨k,hk,rfl,HK,HQ⟩:=hrel;have hG:Gr w wr:=by obtain⟨q,rfl⟩:=HQ.out;exact (Gr.refl w).drN q
    by_cases hlt:k<n
    . obtain⟨b1,o1,x,rfl,hb1,hx,okx,c0⟩:=(ha.gr hG).at_ hlt
      obtain⟨b2,o2,y,rfl,hb2,hy,oky,d0⟩:=(hb.gr hG).at_ hlt;obtain⟨E,hE⟩:∃ E,(x.l==y.l)=E:=⟨_,rfl⟩;have hro:=λ (n:Nat)=>hid (Calls.quiet_of (rActs_is (c:=x.c) (d:=y.c) hE okx.lt oky.lt (wr.drewN n) (okx.1.gr ((Gr.refl wr).drN n)) (oky.1.gr ((Gr.refl wr).drN n))))
      have k0:(0:Int)<=(k:Int):=by omega
      have k1:(k:Int)<(n:Int):=by omega
      have HX:=hid (show (pl R)[k]?=some x.l from by unfold pl;rw [List.getElem?_map,hx];rfl);have HY:=hid (show (pl T)[k]?=some y.l from by unfold pl;rw [List.getElem?_map,hy];rfl);have HE:=hid hE;clear hx hy hE ha hb okx oky;cases E
      . go_wp2_with fail
        go_quiet ((go_at_call 46;with_reducible exact (hro _).out))
        go_wp2_with fail;go_ret;refine⟨ret_bool ?_,by obtain⟨q,rfl⟩:=HQ.out;exact⟨_,World.drewN_drewN _ _ _⟩⟩;rw [<- HV.out];refine (beq_eq_false_iff_ne.2 λ e=>?_).symm;have h1:=HX.out;rw [e,HY.out] at h1;have h2:=HE.out;rw [Option.some.inj h1] at h2;simp at h2
      . go_wp2_with fail
        go_quiet ((go_at_call 46;with_reducible exact (hro _).out))
        go_wp2_with fail;go_roundw
        case rel=>exact⟨k+1,by omega,by go_num,hid (by rw [take_more HX.out,take_more HY.out,HK.out,eq_of_beq HE.out]),hid (by obtain⟨q,rfl⟩:=HQ.out;exact⟨_,World.drewN_drewN _ _ _⟩)⟩
        case measure=>simp [intOf];omega
    . obtain rfl:k=n:=by omega
      clear ha hb;go_wp2_with fail;go_ret;refine⟨ret_bool ?_,HQ.out⟩;rw [<- HV.out];have h:=HK.out;rw [List.take_of_length_le (by rw [HLA.out];exact Nat.le_refl _),List.take_of_length_le (by rw [HLB.out];exact Nat.le_refl _)] at h;rw [h];simp
 . have t1:((n:Int) != (m:Int))=true:=by simp;omega
   have HV:=hid (show v=false from by
    rw [<- hv];refine beq_eq_false_iff_ne.2 λ e=>hnm ?_
    rw [<- la,<- lb,e])
   clear hv la lb ha hb;go_enter Tryz.func22,Tryz.ntmps22;go_wp2_with fail;go_ret;exact⟨ret_bool HV.out.symm,0,rfl⟩
end P12
end
section
open Go.ChangeShapes Go.WideShapes Go.ChangeAt Go.RowKit
theorem pl_iff {x y:SV}:x.pl=y.pl↔x.addr=y.addr/\x.cnt=y.cnt/\x.line=y.line:=by simp [SV.pl]
section
variable {w:World}
theorem rSpots_is {x y:SV} (hx:x.ok w) (hy:y.ok w) {v:Bool} (hv:v=true↔x.pl=y.pl) :
 Calls Tryz.prog 66 #[.agg #[.int .i64 x.addr,.int .i64 x.cnt,.slice x.A x.n x.c],.agg #[.int .i64 y.addr,.int .i64 y.cnt,.slice y.A y.n y.c]] w λ e w'=>e=.returned (.bool v)/\Gr w w':=by
 have g0:=((Gr.refl w).al (.cells #[.int .i64 x.addr,.int .i64 x.cnt,.slice x.A x.n x.c] 91)).al (.cells #[.int .i64 y.addr,.int .i64 y.cnt,.slice y.A y.n y.c] 91);obtain⟨b,hb⟩:=yes_no (x.line=y.line);have CS:=hid (L7.rSame_is (c:=x.c) (d:=y.c) (hx.gr g0).2.2.1 (hy.gr g0).2.2.1 hx.lt hy.lt hb);rw [pl_iff] at hv;clear hx hy;generalize x.addr=xa at *;generalize y.addr=ya at *;generalize x.cnt=xc at *;generalize y.cnt=yc at *;by_cases h1:xa=ya
 . by_cases h2:xc=yc
   . subst h1 h2
     have hvb:v=b:=by rw [Bool.eq_iff_iff,hv,hb];simp
     subst hvb;clear hv hb;go_enter Tryz.func66,Tryz.ntmps66;go_wp2_with fail;with_reducible refine CS.out.mono ?_
     rintro e w1 ⟨rfl,h1⟩;have G:=hid (g0.trans h1);clear h1 g0;go_wp2_with fail;go_ret;exact⟨rfl,G.out⟩
   . have h2':(xc==yc)=false:=beq_eq_false_iff_ne.2 h2
     obtain rfl:v=false:=by
      cases v
      . rfl
      . exact absurd (hv.1 rfl).2.1 h2
     subst h1;clear hv hb h2 CS;go_enter Tryz.func66,Tryz.ntmps66;go_wp2_with fail;go_ret;exact⟨rfl,g0⟩
 . have h1':(xa==ya)=false:=beq_eq_false_iff_ne.2 h1
   obtain rfl:v=false:=by
    cases v
    . rfl
    . exact absurd (hv.1 rfl).1 h1
   clear hv hb h1 CS;go_enter Tryz.func66,Tryz.ntmps66;go_wp2_with fail;go_ret;exact⟨rfl,g0⟩
variable {A B:Option Addr} {n m c d:Nat} {l r:List SV}
theorem rSame_is (hA:SMem w A n l) (hB:SMem w B m r) (hn:n<=9223372036854775807) {v:Bool} (hv:v=true↔l.map SV.pl=r.map SV.pl) :
 Calls Tryz.prog 37 #[.slice A n c,.slice B m d] w λ e w'=>e=.returned (.bool v)/\Gr w w':=by
 have hla:=hA.1;have hlb:=hB.1;have HV:=hid hv;have HA:=hid hA;have HB:=hid hB;clear hA hB hv;by_cases hnm:n=m
 . subst hnm
   go_enter Tryz.func37,Tryz.ntmps37;go_wp2_with fail
   go_loopw [13] (λ i wr=>∃ k:Nat,k<=n/\i=.int .i64 k/\Hid (∀ j,j<k->(l.map SV.pl)[j]?=(r.map SV.pl)[j]?)/\Hid (Gr w wr)) (λ i _=>n-(intOf i).toNat)
   case atStart=>exact⟨0,Nat.zero_le _,rfl,hid (λ j hj=>absurd hj (by omega)),hid (Gr.refl _)⟩
   case round =>
    obtain⟨k,hkn,rfl,HJ,HG⟩:=hrel;by_cases hlt:k<n
    . obtain⟨b,off,x,rfl,hbl,hx,hokx,d0,d1,d2⟩:=(HA.out.gr HG.out).at_ hlt
      obtain⟨b',off',y,rfl,hbl',hy,hoky,f0,f1,f2⟩:=(HB.out.gr HG.out).at_ hlt;have k0:(0:Int)<=(k:Int):=by omega
      have k1:(k:Int)<(n:Int):=by omega
      obtain⟨b1,hb1⟩:=yes_no (x.pl=y.pl);have CS:Hid (∀ W,Gr wr W->Calls Tryz.prog 66 #[.agg #[.int .i64 x.addr,.int .i64 x.cnt,.slice x.A x.n x.c],.agg #[.int .i64 y.addr,.int .i64 y.cnt,.slice y.A y.n y.c]] W λ e w'=>e=.returned (.bool b1)/\Gr W w'):=hid λ W g=>rSpots_is (hokx.gr g) (hoky.gr g) hb1
      have HX:=hid hx;have HY:=hid hy;have HB1:=hid hb1;clear hx hy hokx hoky hb1
      cases b1 with
      | true =>
       have HJ':Hid (∀ j,j<k+1->(l.map SV.pl)[j]?=(r.map SV.pl)[j]?):=hid λ j hj=>by
        by_cases h:j<k
        . exact HJ.out j h
        . obtain rfl:j=k:=by omega
          rw [List.getElem?_map,List.getElem?_map,HX.out,HY.out];exact congrArg some (HB1.out.1 rfl)
       go_wp2_with fail
       go_region_held3 (λ W=>W.cell? ⟨b,off+k*3,none⟩=some (.int .i64 x.addr)/\W.cell? ⟨b,off+k*3+1,none⟩=some (.int .i64 x.cnt)/\W.cell? ⟨b,off+k*3+2,none⟩=some (.slice x.A x.n x.c)/\W.cell? ⟨b',off'+k*3,none⟩=some (.int .i64 y.addr)/\W.cell? ⟨b',off'+k*3+1,none⟩=some (.int .i64 y.cnt)/\W.cell? ⟨b',off'+k*3+2,none⟩=some (.slice y.A y.n y.c)/\Gr wr W)
        (first | exact⟨d0,d1,d2,f0,f1,f2,(Gr.refl wr).dr⟩ | assumption | (go_split_ands;exact⟨(hb.cell (p:=⟨b,off+k*3,none⟩) (Nat.lt_of_lt_of_le hbl (Below.size (by assumption)))).trans (by assumption),(hb.cell (p:=⟨b,off+k*3+1,none⟩) (Nat.lt_of_lt_of_le hbl (Below.size (by assumption)))).trans (by assumption),(hb.cell (p:=⟨b,off+k*3+2,none⟩) (Nat.lt_of_lt_of_le hbl (Below.size (by assumption)))).trans (by assumption),(hb.cell (p:=⟨b',off'+k*3,none⟩) (Nat.lt_of_lt_of_le hbl' (Below.size (by assumption)))).trans (by assumption),(hb.cell (p:=⟨b',off'+k*3+1,none⟩) (Nat.lt_of_lt_of_le hbl' (Below.size (by assumption)))).trans (by assumption),(hb.cell (p:=⟨b',off'+k*3+2,none⟩) (Nat.lt_of_lt_of_le hbl' (Below.size (by assumption)))).trans (by assumption),Gr.trans (by assumption) hb⟩))
        (first | (go_at_call 66;(with_reducible refine (CS.out _ (by go_split_ands;assumption)).mono ?_);rintro ee w9 ⟨rfl,hb⟩))
       rename_i hH;have G9:=hid (HG.out.trans hH.2.2.2.2.2.2);clear hH;go_wp2_with fail;go_roundw
       case rel=>exact⟨k+1,by omega,by go_num,HJ',G9⟩
       case measure=>simp [intOf];omega
      | false =>
       obtain rfl:v=false:=by
        cases v
        . rfl
        . have h1:=HV.out.1 rfl
          have h2:(l.map SV.pl)[k]?=(r.map SV.pl)[k]?:=by rw [h1]
          rw [List.getElem?_map,List.getElem?_map,HX.out,HY.out] at h2;exact absurd (HB1.out.2 (Option.some.inj h2)) (by simp)
       go_wp2_with fail
       go_region_held3 (λ W=>W.cell? ⟨b,off+k*3,none⟩=some (.int .i64 x.addr)/\W.cell? ⟨b,off+k*3+1,none⟩=some (.int .i64 x.cnt)/\W.cell? ⟨b,off+k*3+2,none⟩=some (.slice x.A x.n x.c)/\W.cell? ⟨b',off'+k*3,none⟩=some (.int .i64 y.addr)/\W.cell? ⟨b',off'+k*3+1,none⟩=some (.int .i64 y.cnt)/\W.cell? ⟨b',off'+k*3+2,none⟩=some (.slice y.A y.n y.c)/\Gr wr W)
        (first | exact⟨d0,d1,d2,f0,f1,f2,(Gr.refl wr).dr⟩ | assumption | (go_split_ands;exact⟨(hb.cell (p:=⟨b,off+k*3,none⟩) (Nat.lt_of_lt_of_le hbl (Below.size (by assumption)))).trans (by assumption),(hb.cell (p:=⟨b,off+k*3+1,none⟩) (Nat.lt_of_lt_of_le hbl (Below.size (by assumption)))).trans (by assumption),(hb.cell (p:=⟨b,off+k*3+2,none⟩) (Nat.lt_of_lt_of_le hbl (Below.size (by assumption)))).trans (by assumption),(hb.cell (p:=⟨b',off'+k*3,none⟩) (Nat.lt_of_lt_of_le hbl' (Below.size (by assumption)))).trans (by assumption),(hb.cell (p:=⟨b',off'+k*3+1,none⟩) (Nat.lt_of_lt_of_le hbl' (Below.size (by assumption)))).trans (by assumption),(hb.cell (p:=⟨b',off'+k*3+2,none⟩) (Nat.lt_of_lt_of_le hbl' (Below.size (by assumption)))).trans (by assumption),Gr.trans (by assumption) hb⟩))
        (first | (go_at_call 66;(with_reducible refine (CS.out _ (by go_split_ands;assumption)).mono ?_);rintro ee w9 ⟨rfl,hb⟩))
       rename_i hH;have G9:=hid (HG.out.trans hH.2.2.2.2.2.2);clear hH;go_wp2_with fail;go_ret;exact⟨rfl,G9.out⟩
    . obtain rfl:k=n:=by omega
      obtain rfl:v=true:=HV.out.2 (List.ext_getElem? λ j=>by
       by_cases h:j<k
       . exact HJ.out j h
       . rw [List.getElem?_eq_none (by rw [List.length_map];omega),List.getElem?_eq_none (by rw [List.length_map];omega)])
      clear HV;go_wp2_with fail;go_ret;exact⟨rfl,HG.out⟩
 . obtain rfl:v=false:=by
    cases v
    . rfl
    . have:=congrArg List.length (HV.out.1 rfl)
      simp [hla,hlb] at this;exact absurd this hnm
   have hne:((n:Int)==(m:Int))=false:=beq_eq_false_iff_ne.2 (by omega);have hne':((n:Int) != (m:Int))=true:=by simp [bne,hne]
   clear HV;go_enter Tryz.func37,Tryz.ntmps37;go_wp2_with fail;go_ret;exact⟨rfl,Gr.refl _⟩
end
end
section
open Go.ChangeShapes Go.WideShapes Go.ChangeAt Go.RowKit Go.Joins
namespace P16
open P12 (PV PMem)
theorem yn (p:Prop):∃ b:Bool,b=true↔p:=by
 by_cases h:p
 . exact⟨true,by simp [h]⟩
 . exact⟨false,by simp [h]⟩
theorem no_eq {v:Bool} {p:Prop} (hv:v=true↔p) (h:¬ p):v=false:=by
 cases v with
 | false=>rfl
 | true=>exact absurd (hv.1 rfl) h
theorem all_at {α:Type} {l m:List α} {n:Nat} (hl:l.length=n) (hm:m.length=n) (h:∀ j,j<n->l[j]?=m[j]?):l=m:=by
 refine List.ext_getElem? λ i=>?_
 by_cases hi:i<n
 . exact h i hi
 . rw [List.getElem?_eq_none (by omega),List.getElem?_eq_none (by omega)]
theorem at_more {α:Type} {l m:List α} {k:Nat} (h:∀ j,j<k->l[j]?=m[j]?) (e:l[k]?=m[k]?):∀ j,j<k+1->l[j]?=m[j]?:=by
 intro j hj;by_cases hk:j<k
 . exact h j hk
 . obtain rfl:j=k:=by omega
   exact e
theorem six {W:World} {b:Nat} {t:TypeId} {r:WR} (h:Blk W b r.a t) :
 W.cell? ⟨b,0,none⟩=some (.int .i64 r.now)/\W.cell? ⟨b,1,none⟩=some (.slice r.p.A r.p.n r.p.c)/\W.cell? ⟨b,2,none⟩=some (.slice r.c.A r.c.n r.c.c)/\W.cell? ⟨b,3,none⟩=some (.slice r.m.A r.m.n r.m.c)/\W.cell? ⟨b,4,none⟩=some (.slice r.t.A r.t.n r.t.c)/\W.cell? ⟨b,5,none⟩=some (.int .i64 r.stop) :=
 ⟨(h.at_ (k:=0) rfl).1,(h.at_ (k:=1) rfl).1,(h.at_ (k:=2) rfl).1,(h.at_ (k:=3) rfl).1,(h.at_ (k:=4) rfl).1,(h.at_ (k:=5) rfl).1⟩
section
variable {w:World} {r s:WR} {ω ψ:Wv}
theorem rWSame_is (ha:WIs w r ω) (hb:WIs w s ψ) {v:Bool} (hv:v=true↔ω=ψ) :
 Calls Tryz.prog 16 #[r.v,s.v] w λ e w'=>e=.returned (.bool v)/\Gr w w':=by
 by_cases e1:r.now=s.now;rotate_left
 . have hv0:v=false:=no_eq hv (λ e=>e1 (by rw [ha.now,hb.now,e]))
   have t1:(r.now != s.now)=true:=by simpa using e1
   subst hv0;clear ha hb hv e1;go_enter Tryz.func16,Tryz.ntmps16;go_wp2_with fail;go_ret;exact⟨rfl,((Gr.refl w).al _).al _⟩
 by_cases e2:r.stop=s.stop;rotate_left
 . have hv0:v=false:=no_eq hv (λ e=>e2 (by rw [ha.stop,hb.stop,e]))
   have t1:(r.now != s.now)=false:=by simpa using e1
   have t2:(r.stop != s.stop)=true:=by simpa using e2
   subst hv0;clear ha hb hv e1 e2;go_enter Tryz.func16,Tryz.ntmps16;go_wp2_with fail;go_ret;exact⟨rfl,((Gr.refl w).al _).al _⟩
 have t1:(r.now != s.now)=false:=by simpa using e1
 have t2:(r.stop != s.stop)=false:=by simpa using e2
 obtain⟨R,hR,eR⟩:=ha.p;obtain⟨T,hT,eT⟩:=hb.p;obtain⟨p,hp⟩:∃ p,(P12.pl R==P12.pl T)=p:=⟨_,rfl⟩;have cP:=λ W (g:Gr w W)=>hid (P12.rSame_is (c:=r.p.c) (d:=s.p.c) hp ha.op.lt hb.op.lt W (hR.gr g) (hT.gr g))
 obtain⟨X,hX,eX⟩:=ha.t;obtain⟨Y,hY,eY⟩:=hb.t;obtain⟨t,ht⟩:=yn (X.map SV.pl=Y.map SV.pl);have cT:=λ W (g:Gr w W)=>hid (Go.Proofs.YtainfijdhcehlaaGreatDoor.rSame_is (c:=r.t.c) (d:=s.t.c) (hX.gr g) (hY.gr g) ha.ot.lt ht)
 rw [eR,eT] at hp;rw [eX,eY] at ht;have hn:=ha.oc.lt;have hmn:=ha.om.lt;have lc:=ha.c.len;have lc':=hb.c.len;have lm:=ha.m.len;have lm':=hb.m.len;have HC:=hid ha.c;have HC':=hid hb.c;have HM:=hid ha.m;have HM':=hid hb.m;have HW:=hid (show p=true->t=true->ω.cl=ψ.cl->ω.mx=ψ.mx->v=true from λ h1 h2 h3 h4=>hv.2 (by
  have:=ha.now;have:=hb.now;have:=ha.stop;have:=hb.stop;subst h1;have h5:=eq_of_beq hp;have h6:=ht.1 h2;obtain⟨a1,a2,a3,a4,a5,a6⟩:=ω;obtain⟨b1,b2,b3,b4,b5,b6⟩:=ψ
  simp_all))
 have HN:=hid (show ω≠ψ->v=false from no_eq hv);have HV:=hid hv;have HP:=hid hp;have HT:=hid ht;have N0:=hid (show Blk ((w.alloc (.cells r.a 29)).alloc (.cells s.a 29)) w.heap.size r.a 29 from (Blk.new w _ _).al _);have N1:=hid (show Blk ((w.alloc (.cells r.a 29)).alloc (.cells s.a 29)) (w.heap.size+1) s.a 29 from by
  have:=Blk.new (w.alloc (.cells r.a 29)) s.a 29;rwa [World.size_alloc] at this)
 have G0:=hid (((Gr.refl w).al (.cells r.a 29)).al (.cells s.a 29));clear hv ha hb hR hT hX hY eR eT eX eY hp ht e1 e2;go_enter Tryz.func16,Tryz.ntmps16;go_wp2_with fail;with_reducible refine (cP _ G0.out).out.mono ?_
 rintro e w1 ⟨rfl,q1,hq1⟩;have g1:Gr ((w.alloc (.cells r.a 29)).alloc (.cells s.a 29)) w1:=by rw [hq1];exact (Gr.refl _).drN _
 have B0:=N0.out.gr g1;have B1:=N1.out.gr g1;have G1:=hid (G0.out.trans g1);have l0:=B0.lt;have l1:=B1.lt;obtain⟨q0,qp,qc,qm,qt,qs⟩:=six B0;obtain⟨u0,up,uc,um,ut,us⟩:=six B1;have HB0:=hid B0;have HB1:=hid B1;clear hq1 g1 B0 B1 cP N0 N1 G0
 cases p with
 | false =>
  have e:=HN.out (λ h=>by have:=HP.out;rw [h] at this;simp at this);subst e;go_wp2_with fail;go_ret;exact⟨rfl,G1.out⟩
 | true =>
 go_wp2_with fail;with_reducible refine (cT _ G1.out).out.mono ?_
 rintro e w2 ⟨rfl,g2⟩;have B0:=HB0.out.gr g2;have B1:=HB1.out.gr g2;have G2:=hid (G1.out.trans g2);clear q0 qp qc qm qt qs u0 up uc um ut us l0 l1 HB0 HB1;have l0:=B0.lt;have l1:=B1.lt;obtain⟨q0,qp,qc,qm,qt,qs⟩:=six B0;obtain⟨u0,up,uc,um,ut,us⟩:=six B1;have HB0:=hid B0;have HB1:=hid B1;clear g2 B0 B1 cT
 cases t with
 | false =>
  have e:=HN.out (λ h=>by have:=HT.out.2 (by rw [h]);simp at this);subst e;go_wp2_with fail;go_ret;exact⟨rfl,G2.out⟩
 | true =>
 by_cases e3:r.c.n=s.c.n;rotate_left
 . have t3:((r.c.n:Int) != (s.c.n:Int))=true:=by simp;omega
   have e:=HN.out (λ h=>e3 (by rw [<- lc,<- lc',h]));subst e;go_wp2_with fail;go_ret;exact⟨rfl,G2.out⟩
 by_cases e4:r.m.n=s.m.n;rotate_left
 . have t3:((r.c.n:Int) != (s.c.n:Int))=false:=by simp;omega
   have t4:((r.m.n:Int) != (s.m.n:Int))=true:=by simp;omega
   have e:=HN.out (λ h=>e4 (by rw [<- lm,<- lm',h]));subst e;go_wp2_with fail;go_ret;exact⟨rfl,G2.out⟩
 have t3:((r.c.n:Int) != (s.c.n:Int))=false:=by simp;omega
 have t4:((r.m.n:Int) != (s.m.n:Int))=false:=by simp;omega
 have LC:=hid lc;have LC':=hid lc';have LM:=hid lm;have LM':=hid lm';have E3:=hid e3;have E4:=hid e4;clear lc lc' lm lm' e3 e4;go_wp2_with fail
 go_loopw [56] (λ i wr=>∃ k:Nat,k<=r.c.n/\i=.int .i64 k/\Hid (∀ j,j<k->ω.cl[j]?=ψ.cl[j]?)/\Hid (Gr w2 wr)) (λ i _=>r.c.n-(intOf i).toNat)
 case atStart=>exact⟨0,Nat.zero_le _,rfl,hid (λ j hj=>absurd hj (by omega)),hid (Gr.refl _)⟩
 case round =>
  obtain⟨k,hk,rfl,HK,HQ⟩:=hrel;clear q0 qp qc qm qt qs u0 up uc um ut us l0 l1;have B0:=HB0.out.gr HQ.out;have B1:=HB1.out.gr HQ.out;have l0:=B0.lt;have l1:=B1.lt;obtain⟨q0,qp,qc,qm,qt,qs⟩:=six B0;obtain⟨u0,up,uc,um,ut,us⟩:=six B1;have HR:=hid B0;have HS:=hid B1;clear B0 B1;have G3:=hid (G2.out.trans HQ.out);by_cases hlt:k<r.c.n
  . have hlt':k<s.c.n:=by have:=E3.out;omega
    obtain⟨b,off,x,hA,hbl,hx,-,c0,c1,c2,c3,c4,c5,c6,c7,c8,c9,c10,c11,c12⟩:=CMem.cells (HC.out.gr G3.out) hlt;obtain⟨b',off',y,hA',hbl',hy,-,d0,d1,d2,d3,d4,d5,d6,d7,d8,d9,d10,d11,d12⟩:=CMem.cells (HC'.out.gr G3.out) hlt';rw [hA] at qc;rw [hA'] at uc;obtain⟨z,hz⟩:=yn (x=y);have hne:=λ W=>run_client_neq x y hz W
    have k0:(0:Int)<=(k:Int):=by omega
    have k1:(k:Int)<(r.c.n:Int):=by omega
    have k2:(k:Int)<(s.c.n:Int):=by omega
    have HX:=hid hx;have HY:=hid hy;have HZ:=hid hz;clear hx hy hz hA hA'
    cases z with
    | false =>
     have e:=HN.out (λ h=>by
      have h1:=HX.out;rw [h,HY.out] at h1;have:=HZ.out.2 (Option.some.inj h1).symm;simp at this)
     subst e;go_wp2_with fail
     go_quiet (fail)
     go_wp2_with fail;go_ret;exact⟨rfl,G3.out.drN _⟩
    | true =>
     have HK':=hid (at_more HK.out (by rw [HX.out,HY.out,HZ.out.1 rfl]));go_wp2_with fail
     go_quiet (fail)
     go_wp2_with fail;go_roundw
     case rel=>exact⟨k+1,by omega,by go_num,HK',hid (HQ.out.drN _)⟩
     case measure=>simp [intOf];omega
  . obtain rfl:k=r.c.n:=by omega
    have hcl:=hid (all_at LC.out (by rw [LC'.out,E3.out]) HK.out);have HQo:=hid HQ.out
    rename World=>wo
    go_wp2_with fail
    go_loopw [74] (λ i wr=>∃ k:Nat,k<=r.m.n/\i=.int .i64 k/\Hid (∀ j,j<k->ω.mx[j]?=ψ.mx[j]?)/\Hid (Gr w2 wr)) (λ i _=>r.m.n-(intOf i).toNat)
    case atStart=>exact⟨0,Nat.zero_le _,rfl,hid (λ j hj=>absurd hj (by omega)),HQo⟩
    case round =>
     clear HK HQ hk HQo HR HS q0 qp qc qm qt qs u0 up uc um ut us l0 l1 G3;obtain⟨k,hk,rfl,HK,HQ⟩:=hrel;have B0:=HB0.out.gr HQ.out;have B1:=HB1.out.gr HQ.out;have l0:=B0.lt;have l1:=B1.lt;obtain⟨q0,qp,qc,qm,qt,qs⟩:=six B0;obtain⟨u0,up,uc,um,ut,us⟩:=six B1;clear B0 B1;have G3:=hid (G2.out.trans HQ.out);by_cases hlt:k<r.m.n
     . have hlt':k<s.m.n:=by have:=E4.out;omega
       obtain⟨b,off,x,hA,hbl,hx,-,c0,c1,c2⟩:=T3Mem.cells (HM.out.gr G3.out) hlt;obtain⟨b',off',y,hA',hbl',hy,-,d0,d1,d2⟩:=T3Mem.cells (HM'.out.gr G3.out) hlt';rw [hA] at qm;rw [hA'] at um;obtain⟨z,hz⟩:=yn (x=y);have hne:=λ W=>run_mutex_neq x y hz W
       have k0:(0:Int)<=(k:Int):=by omega
       have k1:(k:Int)<(r.m.n:Int):=by omega
       have k2:(k:Int)<(s.m.n:Int):=by omega
       have HX:=hid hx;have HY:=hid hy;have HZ:=hid hz;clear hx hy hz hA hA'
       cases z with
       | false =>
        have e:=HN.out (λ h=>by
         have h1:=HX.out;rw [h,HY.out] at h1;have:=HZ.out.2 (Option.some.inj h1).symm;simp at this)
        subst e;go_wp2_with fail
        go_quiet (fail)
        go_wp2_with fail;go_ret;exact⟨rfl,G3.out.drN _⟩
       | true =>
        have HK':=hid (at_more HK.out (by rw [HX.out,HY.out,HZ.out.1 rfl]));go_wp2_with fail
        go_quiet (fail)
        go_wp2_with fail;go_roundw
        case rel=>exact⟨k+1,by omega,by go_num,HK',hid (HQ.out.drN _)⟩
        case measure=>simp [intOf];omega
     . obtain rfl:k=r.m.n:=by omega
       have e:=HW.out (by trivial) (by trivial) hcl.out (all_at LM.out (by rw [LM'.out,E4.out]) HK.out);subst e;go_wp2_with fail;go_ret;exact⟨rfl,G3.out⟩
end
end P16
end
section
open Go.ChangeShapes Go.WideShapes Go.ChangeAt Go.RowKit
section
variable {w W w':World} {base:Nat} {v:Value} {R:List SV} {y:SV} {g cap:Nat}
theorem srow_block (h:SRow W base v R.length R) {k:Nat} (hk:v.ownBlock=some k):base<=k:=by
 rcases h.2 with ⟨rfl,_⟩ | ⟨g',c',cur,rfl,hb,_⟩
 . cases hk
 . simp only [Value.ownBlock] at hk
   cases hk;exact hb
theorem Appended.gr (h:Appended W base v R y g cap w') (hr:SRow W base v R.length R) (hg:Gr w W) (hb:w.heap.size<=base):Gr w w' :=
 hg.gb h.2.1 λ k hk=>Nat.le_trans hb (srow_block hr hk)
end
end
section
open Go.ChangeShapes Go.WideShapes Go.ChangeAt Go.RowKit
theorem srow_cell {W:World} {base n:Nat} {v:Value} {l:List SV} (h:SRow W base v n l) {b o:Nat} (hb:b<base) (u:Value):SRow (W.setCell ⟨b,o,none⟩ u) base v n l :=
 h.kept (grownBy_cell W b o u) (by
  cases h0:v.ownBlock with
  | none=>exact .inl rfl
  | some g =>
   right;intro e;cases e;rcases h.2 with ⟨rfl,_⟩ | ⟨g',c',cur,rfl,hb',_⟩
   . cases h0
   . simp only [Value.ownBlock] at h0
     cases h0;omega)
theorem srow_gr2 {W W':World} {base n:Nat} {v:Value} {l:List SV} (h:SRow W base v n l) (hg:Gr W W'):SRow W' base v n l :=
 h.kept (row:=none) ⟨hg.os,hg.tape,hg.output,hg.size,λ k hk _=>hg.block k hk⟩ (by
  cases h0:v.ownBlock with
  | none=>exact .inl rfl
  | some g=>exact .inr (by simp))
end
section
open Go.ChangeShapes Go.WideShapes Go.ChangeAt Go.RowKit
namespace P16
open P12 (PV PMem POwn fewP)
def cutT (x:SV):SV:=⟨x.addr,x.cnt,x.A,if 12<x.n then 12 else x.n,x.c,x.line.take 12⟩
theorem cutT.ok {w:World} {x:SV} (h:x.ok w):(cutT x).ok w:=by
 have hl:=h.len;refine⟨h.1,h.2.1,?_,?_,h.2.2.2.2⟩
 . show IMem w x.A (if 12<x.n then 12 else x.n) (x.line.take 12)
   by_cases h70:12<x.n
   . rw [if_pos h70];exact h.2.2.1.take_ 12 (by omega)
   . rw [if_neg h70,List.take_of_length_le (by omega)];exact h.2.2.1
 . show (if 12<x.n then 12 else x.n)<=x.c
   have:=h.2.2.2.1;split<;>omega
def cutSp (x:Sp):Sp:=(x.1,x.2.1,x.2.2.take 12)
def cutW (ω:Wv):Wv:={ ω with progs:=fewP ω.progs,cl:=ω.cl.take 12,mx:=ω.mx.take 6,tb:=(ω.tb.take 8).map cutSp }
theorem least (n K:Nat):∃ N:Nat,(if (K:Int)<(n:Int) then (K:Int) else (n:Int))=(N:Int)/\min (n:Int) (K:Int)=(N:Int)/\N<=n/\N<=K/\∀ {α:Type} (l:List α),l.length=n->l.take K=l.take N:=by
 by_cases h:K<n
 . exact⟨K,by rw [if_pos (by omega)],by omega,by omega,by omega,λ l _=>rfl⟩
 . exact⟨n,by rw [if_neg (by omega)],by omega,by omega,by omega,λ l hl=>by rw [List.take_of_length_le (by omega),List.take_of_length_le (by omega)]⟩
def WTwo (w0:World) (B:Nat) (W:World) (r:WR) (ω:Wv):Prop:=∀ W',Gr w0 W'->FromB B W W'->WIs W' r ω
section
variable {w0 W W':World} {B base n c:Nat} {r:WR} {ω:Wv}
theorem WTwo.is (h:WTwo w0 B W r ω) (g:Gr w0 W):WIs W r ω:=h W g FromB.refl
theorem WTwo.to (h:WTwo w0 B W r ω) (g:FromB B W W'):WTwo w0 B W' r ω:=λ _ g' k=>h _ g' (g.trans k)
theorem srow_from {v:Value} {l:List SV} (h:SRow W base v n l) (hf:FromB B W W') (hb:B<=base):SRow W' base v n l:=by
 obtain⟨h1,h2⟩:=h;refine⟨h1,?_⟩;rcases h2 with q | ⟨g,cap,cur,e1,e2,e3,e4⟩
 . exact .inl q
 . exact .inr ⟨g,cap,cur,e1,e2,(hf.2 g (by omega) (Array.getElem?_eq_some_iff.1 e3).1).trans e3,e4⟩
theorem omem_from {α:Type} {en:α->Value} {ok:α->Prop} {A:Option Addr} {l:List α} (h:OMem en ok base W A n c l) (hf:FromB B W W') (hb:B<=base):OMem en ok base W' A n c l :=
 h.same hf.1 λ k h1 h2=>hf.2 k (Nat.le_trans hb h1) h2
end
section
variable {W:World} {b:Nat} {x0 x1 x2 x3 x4 x5:Value}
theorem put6_srow {base n:Nat} {v:Value} {l:List SV} (h:SRow W base v n l) (hb:b<base):SRow ((((((W.setCell ⟨b,0,none⟩ x0).setCell ⟨b,1,none⟩ x1).setCell ⟨b,2,none⟩ x2).setCell ⟨b,3,none⟩ x3).setCell ⟨b,4,none⟩ x4).setCell ⟨b,5,none⟩ x5) base v n l :=
 srow_cell (srow_cell (srow_cell (srow_cell (srow_cell (srow_cell h hb x0) hb x1) hb x2) hb x3) hb x4) hb x5
theorem put6_omem {α:Type} {en:α->Value} {ok:α->Prop} {base n c:Nat} {A:Option Addr} {l:List α} (h:OMem en ok base W A n c l) (hb:b<base):OMem en ok base ((((((W.setCell ⟨b,0,none⟩ x0).setCell ⟨b,1,none⟩ x1).setCell ⟨b,2,none⟩ x2).setCell ⟨b,3,none⟩ x3).setCell ⟨b,4,none⟩ x4).setCell ⟨b,5,none⟩ x5) A n c l :=
 (((((h.st (p:=⟨b,0,none⟩) hb x0).st (p:=⟨b,1,none⟩) hb x1).st (p:=⟨b,2,none⟩) hb x2).st (p:=⟨b,3,none⟩) hb x3).st (p:=⟨b,4,none⟩) hb x4).st (p:=⟨b,5,none⟩) hb x5
end
end P16
end
section
open Go.ChangeShapes Go.WideShapes Go.ChangeAt Go.RowKit
namespace P16
open P12 (PV PMem)
abbrev p0:List Ac:=[(0,0),(2,0)]
theorem p0_right:P12.rightB [p0]=true:=by decide
end P16
end
end Go.Proofs.YtainfijdhcehlaaGreatDoor
