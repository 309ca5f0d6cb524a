/-
  A part of the proof.
-/
import Derived.Test.YtainfijdhcehlaaGreatDoorQC6
set_option linter.unusedVariables false
set_option linter.unusedSimpArgs false
set_option maxRecDepth 100000
set_option maxHeartbeats 8000000
namespace Go.Proofs.YtainfijdhcehlaaGreatDoor
open Lib (hid)
open Go.Proofs.Tryz
open Go.ChangeAt Go.ChangeShapes Go.RowKit Go.Shelf Go.WideShapes
section
namespace P14
open P3 (fl pw)
open P4 (Tm)
section
variable {s r:Int} {t k a b c:Bool} {n:Int} {w:World}
def more (a c:Bool):Int:=if a||c then 1 else 0
theorem wanted_ok (h:OkS s r) (hn:OkN n) (hb:b=true\/k=false) (hm:OkN (n+more a c)) :
 Calls prog 181 #[ov s t k r (pw a b c n)] w λ e w'=>e=.returned (.int .i64 (pw (a||!c) (b&&!k) (c||(t&&a)) (n+more a c)))/\Gr w w':=by
 have L:=λ w=>hid (look_ok (t:=t) (k:=k) (a:=a) (b:=b) (c:=c) (w:=w) h hn)
 have HD:=λ w=>hid (held_is a b c n w)
 have HE:=λ w=>run_hold_neq a c false false w
 obtain⟨v,hv⟩:∃ v,pw a b c n=v:=⟨_,rfl⟩;obtain⟨x,hx⟩:∃ x,pw a b c (n+1)=x:=⟨_,rfl⟩;have WT:OkN (n+1)->∀ w,Hid (Calls prog 200 #[.int .i64 (pw a b c n),.int .i64 1] w λ e w'=>e=.returned (.tuple #[.int .i64 (pw a b c (n+1)),.int .i64 0])/\Gr w w') :=
  λ h1 w=>hid (P3.Waits_ok a b c n 1 (n+1) hn (by unfold OkN at h1;unfold wrap64;omega) h1 w)
 obtain⟨R,hR⟩:∃ R,pw (a||!c) (b&&!k) (c||(t&&a)) (n+more a c)=R:=⟨_,rfl⟩;have HV:=hid hv;have HX:=hid hx;have HR:=hid hR;have HN:=hid hn;rw [hv] at L WT ⊢;rw [hx] at WT;rw [hR];clear h hv hx hR hn;have hk:(b=true/\k=true)\/(b=true/\k=false)\/(b=false/\k=false):=by
  rcases hb with rfl | rfl
  . cases k<;>simp
  . cases b<;>simp
 clear hb;have N0:=hid (Blk.new w #[.int .i64 s,.bool t,.bool k,.int .i64 r,.int .i64 v] 53);have N1:=hid λ w1=>Blk.new w1 #[.bool a,.bool b,.bool c,.int .i64 n] 42
 cases a<;>cases c
 . have HE:∀ w,(binOp .neq 230 (.agg #[.bool false,.bool false]) (.agg #[.bool false,.bool false])).run prog w=.ok (.bool false) w:=λ w=>HE w
   clear WT;clear hm;rcases hk with ⟨rfl,rfl⟩ | ⟨rfl,rfl⟩ | ⟨rfl,rfl⟩<;>cases t
   all_goals (
    go_enter func181,ntmps181;go_wp2_with fail;refine (L _).out.mono ?_;rintro e w1 ⟨rfl,g1⟩;have B0:=N0.out.gr g1;have B1:=N1.out w1;have G0:=((zr w).al _).trans g1;have hlt:=B0.lt;obtain⟨q1,-⟩:=B0.at_ (k:=1) rfl;obtain⟨q2,-⟩:=B0.at_ (k:=2) rfl;obtain⟨q4,-⟩:=B0.at_ (k:=4) rfl;clear g1;go_wp2_with fail;refine (need_yes _ _).mono ?_;rintro e w2 ⟨rfl,rfl⟩;go_wp2_with fail;refine (HD _).out.mono ?_;rintro e w3 ⟨rfl,g3⟩;replace B0:=(B0.al _).gr g3;replace B1:=B1.gr g3;replace G0:=(G0.al _).trans g3;replace hlt:=B0.lt;replace q1:=(B0.at_ (k:=1) rfl).1;replace q2:=(B0.at_ (k:=2) rfl).1;clear q4;obtain⟨e0,-⟩:=B1.at_ (k:=0) rfl;obtain⟨e2,-⟩:=B1.at_ (k:=2) rfl;clear g3;go_wp2_with fail;go_ret;refine⟨?_,G0⟩;show Ending.returned (Value.int .i64 _)=Ending.returned (Value.int .i64 R);refine congrArg _ (congrArg _ ?_);have hn:=HN.out;unfold OkN at hn;rw [<- HR.out,<- HV.out]
    try simp only [P3.or_1 (n:=n) (by omega),P3.or_4 (n:=n) (by omega),P3.not_2 (n:=n) (by omega),P3.or_1 (n:=n+1) (by omega),P3.or_4 (n:=n+1) (by omega),P3.not_2 (n:=n+1) (by omega)]
    simp [more])
 . have HE:∀ w,(binOp .neq 230 (.agg #[.bool false,.bool true]) (.agg #[.bool false,.bool false])).run prog w=.ok (.bool true) w:=λ w=>HE w
   have WT:=WT hm;clear hm;rcases hk with ⟨rfl,rfl⟩ | ⟨rfl,rfl⟩ | ⟨rfl,rfl⟩<;>cases t
   all_goals (
    go_enter func181,ntmps181;go_wp2_with fail;refine (L _).out.mono ?_;rintro e w1 ⟨rfl,g1⟩;have B0:=N0.out.gr g1;have B1:=N1.out w1;have G0:=((zr w).al _).trans g1;have hlt:=B0.lt;obtain⟨q1,-⟩:=B0.at_ (k:=1) rfl;obtain⟨q2,-⟩:=B0.at_ (k:=2) rfl;obtain⟨q4,-⟩:=B0.at_ (k:=4) rfl;clear g1;go_wp2_with fail;refine (need_yes _ _).mono ?_;rintro e w2 ⟨rfl,rfl⟩;go_wp2_with fail;refine (HD _).out.mono ?_;rintro e w3 ⟨rfl,g3⟩;replace B0:=(B0.al _).gr g3;replace B1:=B1.gr g3;replace G0:=(G0.al _).trans g3;replace hlt:=B0.lt;replace q1:=(B0.at_ (k:=1) rfl).1;replace q2:=(B0.at_ (k:=2) rfl).1;clear q4;obtain⟨e0,-⟩:=B1.at_ (k:=0) rfl;obtain⟨e2,-⟩:=B1.at_ (k:=2) rfl;clear g3;go_wp2_with fail;refine (WT _).out.mono ?_;rintro e w4 ⟨rfl,g4⟩;go_wp2_with fail;refine (sureI_yes _ _).mono ?_;rintro e w5 ⟨rfl,rfl⟩;replace B0:=B0.gr g4;replace B1:=B1.gr g4;replace G0:=G0.trans g4;replace q1:=(B0.at_ (k:=1) rfl).1;replace q2:=(B0.at_ (k:=2) rfl).1;replace e0:=(B1.at_ (k:=0) rfl).1;replace e2:=(B1.at_ (k:=2) rfl).1;clear g4;go_wp2_with fail;go_ret;refine⟨?_,G0⟩;show Ending.returned (Value.int .i64 _)=Ending.returned (Value.int .i64 R);refine congrArg _ (congrArg _ ?_);have hn:=HN.out;unfold OkN at hn;rw [<- HR.out,<- HX.out]
    try simp only [P3.or_1 (n:=n) (by omega),P3.or_4 (n:=n) (by omega),P3.not_2 (n:=n) (by omega),P3.or_1 (n:=n+1) (by omega),P3.or_4 (n:=n+1) (by omega),P3.not_2 (n:=n+1) (by omega)]
    simp [more])
 . have HE:∀ w,(binOp .neq 230 (.agg #[.bool true,.bool false]) (.agg #[.bool false,.bool false])).run prog w=.ok (.bool true) w:=λ w=>HE w
   have WT:=WT hm;clear hm;rcases hk with ⟨rfl,rfl⟩ | ⟨rfl,rfl⟩ | ⟨rfl,rfl⟩<;>cases t
   all_goals (
    go_enter func181,ntmps181;go_wp2_with fail;refine (L _).out.mono ?_;rintro e w1 ⟨rfl,g1⟩;have B0:=N0.out.gr g1;have B1:=N1.out w1;have G0:=((zr w).al _).trans g1;have hlt:=B0.lt;obtain⟨q1,-⟩:=B0.at_ (k:=1) rfl;obtain⟨q2,-⟩:=B0.at_ (k:=2) rfl;obtain⟨q4,-⟩:=B0.at_ (k:=4) rfl;clear g1;go_wp2_with fail;refine (need_yes _ _).mono ?_;rintro e w2 ⟨rfl,rfl⟩;go_wp2_with fail;refine (HD _).out.mono ?_;rintro e w3 ⟨rfl,g3⟩;replace B0:=(B0.al _).gr g3;replace B1:=B1.gr g3;replace G0:=(G0.al _).trans g3;replace hlt:=B0.lt;replace q1:=(B0.at_ (k:=1) rfl).1;replace q2:=(B0.at_ (k:=2) rfl).1;clear q4;obtain⟨e0,-⟩:=B1.at_ (k:=0) rfl;obtain⟨e2,-⟩:=B1.at_ (k:=2) rfl;clear g3;go_wp2_with fail;refine (WT _).out.mono ?_;rintro e w4 ⟨rfl,g4⟩;go_wp2_with fail;refine (sureI_yes _ _).mono ?_;rintro e w5 ⟨rfl,rfl⟩;replace B0:=B0.gr g4;replace B1:=B1.gr g4;replace G0:=G0.trans g4;replace q1:=(B0.at_ (k:=1) rfl).1;replace q2:=(B0.at_ (k:=2) rfl).1;replace e0:=(B1.at_ (k:=0) rfl).1;replace e2:=(B1.at_ (k:=2) rfl).1;clear g4;go_wp2_with fail;go_ret;refine⟨?_,G0⟩;show Ending.returned (Value.int .i64 _)=Ending.returned (Value.int .i64 R);refine congrArg _ (congrArg _ ?_);have hn:=HN.out;unfold OkN at hn;rw [<- HR.out,<- HX.out]
    try simp only [P3.or_1 (n:=n) (by omega),P3.or_4 (n:=n) (by omega),P3.not_2 (n:=n) (by omega),P3.or_1 (n:=n+1) (by omega),P3.or_4 (n:=n+1) (by omega),P3.not_2 (n:=n+1) (by omega)]
    simp [more])
 . have HE:∀ w,(binOp .neq 230 (.agg #[.bool true,.bool true]) (.agg #[.bool false,.bool false])).run prog w=.ok (.bool true) w:=λ w=>HE w
   have WT:=WT hm;clear hm;rcases hk with ⟨rfl,rfl⟩ | ⟨rfl,rfl⟩ | ⟨rfl,rfl⟩<;>cases t
   all_goals (
    go_enter func181,ntmps181;go_wp2_with fail;refine (L _).out.mono ?_;rintro e w1 ⟨rfl,g1⟩;have B0:=N0.out.gr g1;have B1:=N1.out w1;have G0:=((zr w).al _).trans g1;have hlt:=B0.lt;obtain⟨q1,-⟩:=B0.at_ (k:=1) rfl;obtain⟨q2,-⟩:=B0.at_ (k:=2) rfl;obtain⟨q4,-⟩:=B0.at_ (k:=4) rfl;clear g1;go_wp2_with fail;refine (need_yes _ _).mono ?_;rintro e w2 ⟨rfl,rfl⟩;go_wp2_with fail;refine (HD _).out.mono ?_;rintro e w3 ⟨rfl,g3⟩;replace B0:=(B0.al _).gr g3;replace B1:=B1.gr g3;replace G0:=(G0.al _).trans g3;replace hlt:=B0.lt;replace q1:=(B0.at_ (k:=1) rfl).1;replace q2:=(B0.at_ (k:=2) rfl).1;clear q4;obtain⟨e0,-⟩:=B1.at_ (k:=0) rfl;obtain⟨e2,-⟩:=B1.at_ (k:=2) rfl;clear g3;go_wp2_with fail;refine (WT _).out.mono ?_;rintro e w4 ⟨rfl,g4⟩;go_wp2_with fail;refine (sureI_yes _ _).mono ?_;rintro e w5 ⟨rfl,rfl⟩;replace B0:=B0.gr g4;replace B1:=B1.gr g4;replace G0:=G0.trans g4;replace q1:=(B0.at_ (k:=1) rfl).1;replace q2:=(B0.at_ (k:=2) rfl).1;replace e0:=(B1.at_ (k:=0) rfl).1;replace e2:=(B1.at_ (k:=2) rfl).1;clear g4;go_wp2_with fail;go_ret;refine⟨?_,G0⟩;show Ending.returned (Value.int .i64 _)=Ending.returned (Value.int .i64 R);refine congrArg _ (congrArg _ ?_);have hn:=HN.out;unfold OkN at hn;rw [<- HR.out,<- HX.out]
    try simp only [P3.or_1 (n:=n) (by omega),P3.or_4 (n:=n) (by omega),P3.not_2 (n:=n) (by omega),P3.or_1 (n:=n+1) (by omega),P3.or_4 (n:=n+1) (by omega),P3.not_2 (n:=n+1) (by omega)]
    simp [more])
end
end P14
end
section
namespace P14
open P3 (fl pw)
open P4 (Tm)
section
variable {s r:Int} {t k a b c:Bool} {n:Int} {w:World}
theorem wanted_broken (h:OkS s r) (hn:OkN n) :
 Calls prog 181 #[ov s t true r (pw a false c n)] w λ e w'=>e=.panicked (pan 12)/\Gr w w':=by
 have L:=λ w=>hid (look_ok (t:=t) (k:=true) (a:=a) (b:=false) (c:=c) (w:=w) h hn)
 generalize pw a false c n=v at *;have N0:=Blk.new w #[.int .i64 s,.bool t,.bool true,.int .i64 r,.int .i64 v] 53;have G0:=(zr w).al (.cells #[.int .i64 s,.bool t,.bool true,.int .i64 r,.int .i64 v] 53);clear h hn;go_enter func181,ntmps181;go_wp2_with fail;refine (L _).out.mono ?_;rintro e w1 ⟨rfl,g1⟩;have hlt:=(N0.gr g1).lt;obtain⟨q2,-⟩:=(N0.gr g1).at_ (k:=2) rfl;have G:=hid ((G0.trans g1).al (.cells #[.bool a,.bool false,.bool c,.int .i64 n] 42));clear N0 G0 g1;go_wp2_with fail;refine (need_no _ _).mono ?_;rintro e w2 ⟨rfl,rfl⟩;go_wp2_with fail;exact⟨rfl,rfl,G.out⟩
theorem wanted_over (h:OkS s r) (hn:OkN n) (hb:b=true\/k=false) (hac:(a||c)=true) (hm:¬ OkN (n+1)) :
 Calls prog 181 #[ov s t k r (pw a b c n)] w λ e w'=>e=.panicked (pan 10)/\Gr w w':=by
 have L:=λ w=>hid (look_ok (t:=t) (k:=k) (a:=a) (b:=b) (c:=c) (w:=w) h hn)
 have HD:=λ w=>hid (held_is a b c n w)
 have hq:(!hEq a c false false)=true:=by cases a<;>cases c<;>first | rfl | exact absurd hac (by decide)
 have HE:=λ w=>hq▸run_hold_neq a c false false w
 have WT:=λ w=>hid (P3.Waits_no a b c n 1 (n+1) hn (by unfold OkN at hn;unfold wrap64;omega) hm w)
 generalize pw a b c n=v at *;have N0:=Blk.new w #[.int .i64 s,.bool t,.bool k,.int .i64 r,.int .i64 v] 53;have G0:=(zr w).al (.cells #[.int .i64 s,.bool t,.bool k,.int .i64 r,.int .i64 v] 53);have N1:=hid λ w1=>Blk.new w1 #[.bool a,.bool b,.bool c,.int .i64 n] 42
 have GN:=hid λ (w1:World) (g:Gr _ w1)=>(G0.trans g).al (.cells #[.bool a,.bool b,.bool c,.int .i64 n] 42)
 have hk:b=true\/(b=false/\k=false):=by cases b<;>simp_all
 clear h hn hac hm hq hb;rcases hk with rfl | ⟨rfl,rfl⟩
 all_goals (
  go_enter func181,ntmps181;go_wp2_with fail;refine (L _).out.mono ?_;rintro e w1 ⟨rfl,g1⟩;have hlt:=(N0.gr g1).lt;obtain⟨q2,-⟩:=(N0.gr g1).at_ (k:=2) rfl;obtain⟨q4,-⟩:=(N0.gr g1).at_ (k:=4) rfl;have G:=GN.out w1 g1;clear N0 G0 GN g1;go_wp2_with fail;refine (need_yes _ _).mono ?_;rintro e w2 ⟨rfl,rfl⟩;go_wp2_with fail;refine (HD _).out.mono ?_;rintro e w3 ⟨rfl,g3⟩;go_wp2_with fail;refine (WT _).out.mono ?_;rintro e w4 ⟨rfl,g4⟩;go_wp2_with fail;refine (sureI_no _ rfl _).mono ?_;rintro e w5 ⟨rfl,rfl⟩;go_wp2_with fail;exact⟨rfl,rfl,(G.trans g3).trans g4⟩)
def chg (t:Bool) (n:Int):Int:=if t=false\/n=1 then -11 else -7
theorem taken_broken (h:OkS s r) (hn:OkN n) (hb:¬ (a=false/\b=false/\0<n)) :
 Calls prog 198 #[ov s t k r (pw a b c n)] w λ e w'=>e=.panicked (pan 12)/\Gr w w':=by
 have L:=λ w=>hid (look_ok (t:=t) (k:=k) (a:=a) (b:=b) (c:=c) (w:=w) h hn)
 generalize pw a b c n=v at *;have N0:=Blk.new w #[.int .i64 s,.bool t,.bool k,.int .i64 r,.int .i64 v] 53;have G0:=(zr w).al (.cells #[.int .i64 s,.bool t,.bool k,.int .i64 r,.int .i64 v] 53);have GN:=hid λ (w1:World) (g:Gr _ w1)=>(G0.trans g).al (.cells #[.bool a,.bool b,.bool c,.int .i64 n] 42)
 have hk:a=true\/(a=false/\b=true)\/(a=false/\b=false/\decide (0<n)=false):=by
  cases a<;>cases b<;>simp_all
 clear h hn hb;rcases hk with rfl | ⟨rfl,rfl⟩ | ⟨rfl,rfl,h0⟩
 all_goals (
  go_enter func198,ntmps198;go_wp2_with fail;refine (L _).out.mono ?_;rintro e w1 ⟨rfl,g1⟩;have hlt:=(N0.gr g1).lt;have G:=GN.out w1 g1;clear N0 G0 GN g1;go_wp2_with fail;refine (need_no _ _).mono ?_;rintro e w2 ⟨rfl,rfl⟩;go_wp2_with fail;exact⟨rfl,rfl,G⟩)
theorem taken_ok (h:OkS s r) (hn:OkN n) (h0:0<n) :
 Calls prog 198 #[ov s t k r (pw false false c n)] w λ e w'=>e=.returned (.int .i64 (chg t n))/\Gr w w':=by
 have L:=λ w=>hid (look_ok (t:=t) (k:=k) (a:=false) (b:=false) (c:=c) (w:=w) h hn)
 generalize pw false false c n=v at *;have N0:=Blk.new w #[.int .i64 s,.bool t,.bool k,.int .i64 r,.int .i64 v] 53;have G0:=(zr w).al (.cells #[.int .i64 s,.bool t,.bool k,.int .i64 r,.int .i64 v] 53);have hk:(t=false/\chg t n=-11)\/(t=true/\(n==1)=true/\chg t n=-11)\/(t=true/\(n==1)=false/\chg t n=-7):=by
  unfold chg;cases t
  . exact .inl ⟨rfl,by simp⟩
  . by_cases h1:n=1
    . exact .inr (.inl ⟨rfl,by simp [h1],by simp [h1]⟩)
    . exact .inr (.inr ⟨rfl,by simp [h1],by simp [h1]⟩)
 obtain⟨C,hC⟩:∃ C,chg t n=C:=⟨_,rfl⟩;rw [hC] at hk ⊢;clear h hn hC;rcases hk with ⟨rfl,rfl⟩ | ⟨rfl,h1,rfl⟩ | ⟨rfl,h1,rfl⟩
 all_goals (
  go_enter func198,ntmps198;go_wp2_with fail;refine (L _).out.mono ?_;rintro e w1 ⟨rfl,g1⟩;have hlt:=(N0.gr g1).lt;obtain⟨q1,-⟩:=(N0.gr g1).at_ (k:=1) rfl;have G:=(G0.trans g1).al (.cells #[.bool false,.bool false,.bool c,.int .i64 n] 42);clear N0 G0 g1;go_wp2_with fail;refine (need_yes _ _).mono ?_;rintro e w2 ⟨rfl,rfl⟩;go_wp2_with fail;go_ret;exact⟨rfl,G⟩)
end
end P14
end
section
namespace P14
open P3 (fl pw)
open P4 (Tm)
section
variable {s r:Int} {t k a b c:Bool} {n u o x:Int} {w:World}
theorem Wants_cl {W:World} {g:Nat} (B:Blk W g #[.int .i64 s,.bool t,.bool k,.int .i64 r,.int .i64 o] 53)
 (hc:∀ W,Calls prog 181 #[ov s t k r o] W λ e w'=>e=.returned (.int .i64 x)/\Gr W w') :
 Calls prog 180 #[.pointer (some ⟨g,0,none⟩)] W λ e w'=>e=.returned (.int .i64 x)/\Gr W w':=by
 have HC:=λ W=>hid (hc W)
 obtain⟨⟨q0,q1,q2,q3,q4⟩,-⟩:=own_cells B;clear hc B;go_enter func180,ntmps180;go_wp2_with fail;refine (HC _).out.mono ?_;rintro e w1 ⟨rfl,g1⟩;go_wp2_with fail;go_ret;exact⟨rfl,g1⟩
theorem Wants_up {W:World} {g:Nat} {y:Int} (B:Blk W g #[.int .i64 s,.bool t,.bool k,.int .i64 r,.int .i64 o] 53)
 (hc:∀ W,Calls prog 181 #[ov s t k r o] W λ e w'=>e=.panicked (pan y)/\Gr W w') :
 Calls prog 180 #[.pointer (some ⟨g,0,none⟩)] W λ e w'=>e=.panicked (pan y)/\Gr W w':=by
 have HC:=λ W=>hid (hc W)
 obtain⟨⟨q0,q1,q2,q3,q4⟩,-⟩:=own_cells B;clear hc B;go_enter func180,ntmps180;go_wp2_with fail;refine (HC _).out.mono ?_;rintro e w1 ⟨rfl,g1⟩;go_wp2_with fail;exact⟨rfl,rfl,g1⟩
theorem Wants_ok (hc:∀ W,Calls prog 181 #[ov s t k r o] W λ e w'=>e=.returned (.int .i64 x)/\Gr W w') :
 Calls prog 142 #[ov s t k r o] w λ e w'=>e=.returned (.tuple #[.int .i64 x,.int .i64 0])/\Gr w w':=by
 have N0:=Blk.new w #[.int .i64 s,.bool t,.bool k,.int .i64 r,.int .i64 o] 53;have T:=hid (toldI_ok (F:=180) (caps:=#[.pointer (some ⟨w.heap.size,0,none⟩)]) (w:=w.alloc (.cells #[.int .i64 s,.bool t,.bool k,.int .i64 r,.int .i64 o] 53)) (enters_of func180 (by kernel_rfl) rfl) x (λ W G=>Wants_cl (N0.gr G) hc));have G0:=(zr w).al (.cells #[.int .i64 s,.bool t,.bool k,.int .i64 r,.int .i64 o] 53);clear hc N0;have hmf:=mkF;go_enter func142,ntmps142;go_wp2_with fail;refine T.out.mono ?_;rintro e w1 ⟨rfl,g1⟩;go_wp2_with fail;go_ret2;exact⟨rfl,G0.trans g1⟩
theorem Wants_no {y:Int} (hc:∀ W,Calls prog 181 #[ov s t k r o] W λ e w'=>e=.panicked (pan y)/\Gr W w') :
 Calls prog 142 #[ov s t k r o] w λ e w'=>e=.returned (.tuple #[.int .i64 0,.int .i64 y])/\Gr w w':=by
 have N0:=Blk.new w #[.int .i64 s,.bool t,.bool k,.int .i64 r,.int .i64 o] 53;have T:=hid (toldI_no (F:=180) (caps:=#[.pointer (some ⟨w.heap.size,0,none⟩)]) (w:=w.alloc (.cells #[.int .i64 s,.bool t,.bool k,.int .i64 r,.int .i64 o] 53)) (enters_of func180 (by kernel_rfl) rfl) y (λ W G=>Wants_up (N0.gr G) hc));have G0:=(zr w).al (.cells #[.int .i64 s,.bool t,.bool k,.int .i64 r,.int .i64 o] 53);clear hc N0;have hmf:=mkF;go_enter func142,ntmps142;go_wp2_with fail;refine T.out.mono ?_;rintro e w1 ⟨rfl,g1⟩;go_wp2_with fail;go_ret2;exact⟨rfl,G0.trans g1⟩
theorem Handed_cl {W:World} {g:Nat} (B:Blk W g #[.int .i64 s,.bool t,.bool k,.int .i64 r,.int .i64 o] 53)
 (hc:∀ W,Calls prog 198 #[ov s t k r o] W λ e w'=>e=.returned (.int .i64 x)/\Gr W w') :
 Calls prog 197 #[.pointer (some ⟨g,0,none⟩)] W λ e w'=>e=.returned (.int .i64 x)/\Gr W w':=by
 have HC:=λ W=>hid (hc W)
 obtain⟨⟨q0,q1,q2,q3,q4⟩,-⟩:=own_cells B;clear hc B;go_enter func197,ntmps197;go_wp2_with fail;refine (HC _).out.mono ?_;rintro e w1 ⟨rfl,g1⟩;go_wp2_with fail;go_ret;exact⟨rfl,g1⟩
theorem Handed_up {W:World} {g:Nat} {y:Int} (B:Blk W g #[.int .i64 s,.bool t,.bool k,.int .i64 r,.int .i64 o] 53)
 (hc:∀ W,Calls prog 198 #[ov s t k r o] W λ e w'=>e=.panicked (pan y)/\Gr W w') :
 Calls prog 197 #[.pointer (some ⟨g,0,none⟩)] W λ e w'=>e=.panicked (pan y)/\Gr W w':=by
 have HC:=λ W=>hid (hc W)
 obtain⟨⟨q0,q1,q2,q3,q4⟩,-⟩:=own_cells B;clear hc B;go_enter func197,ntmps197;go_wp2_with fail;refine (HC _).out.mono ?_;rintro e w1 ⟨rfl,g1⟩;go_wp2_with fail;exact⟨rfl,rfl,g1⟩
theorem Handed_ok (hc:∀ W,Calls prog 198 #[ov s t k r o] W λ e w'=>e=.returned (.int .i64 x)/\Gr W w') :
 Calls prog 155 #[ov s t k r o] w λ e w'=>e=.returned (.tuple #[.int .i64 x,.int .i64 0])/\Gr w w':=by
 have N0:=Blk.new w #[.int .i64 s,.bool t,.bool k,.int .i64 r,.int .i64 o] 53;have T:=hid (toldI_ok (F:=197) (caps:=#[.pointer (some ⟨w.heap.size,0,none⟩)]) (w:=w.alloc (.cells #[.int .i64 s,.bool t,.bool k,.int .i64 r,.int .i64 o] 53)) (enters_of func197 (by kernel_rfl) rfl) x (λ W G=>Handed_cl (N0.gr G) hc));have G0:=(zr w).al (.cells #[.int .i64 s,.bool t,.bool k,.int .i64 r,.int .i64 o] 53);clear hc N0;have hmf:=mkF;go_enter func155,ntmps155;go_wp2_with fail;refine T.out.mono ?_;rintro e w1 ⟨rfl,g1⟩;go_wp2_with fail;go_ret2;exact⟨rfl,G0.trans g1⟩
theorem Handed_no {y:Int} (hc:∀ W,Calls prog 198 #[ov s t k r o] W λ e w'=>e=.panicked (pan y)/\Gr W w') :
 Calls prog 155 #[ov s t k r o] w λ e w'=>e=.returned (.tuple #[.int .i64 0,.int .i64 y])/\Gr w w':=by
 have N0:=Blk.new w #[.int .i64 s,.bool t,.bool k,.int .i64 r,.int .i64 o] 53;have T:=hid (toldI_no (F:=197) (caps:=#[.pointer (some ⟨w.heap.size,0,none⟩)]) (w:=w.alloc (.cells #[.int .i64 s,.bool t,.bool k,.int .i64 r,.int .i64 o] 53)) (enters_of func197 (by kernel_rfl) rfl) y (λ W G=>Handed_up (N0.gr G) hc));have G0:=(zr w).al (.cells #[.int .i64 s,.bool t,.bool k,.int .i64 r,.int .i64 o] 53);clear hc N0;have hmf:=mkF;go_enter func155,ntmps155;go_wp2_with fail;refine T.out.mono ?_;rintro e w1 ⟨rfl,g1⟩;go_wp2_with fail;go_ret2;exact⟨rfl,G0.trans g1⟩
theorem Got_cl {W:World} {g:Nat} (B:Blk W g #[.int .i64 s,.bool t,.bool k,.int .i64 r,.int .i64 o] 53)
 (hc:∀ W,Calls prog 130 #[ov s t k r o] W λ e w'=>e=.returned (fl a b c n)/\Gr W w') :
 Calls prog 182 #[.pointer (some ⟨g,0,none⟩)] W λ e w'=>e=.returned (.bool (!a&&!c))/\Gr W w':=by
 have HC:=λ W=>hid (hc W)
 obtain⟨⟨q0,q1,q2,q3,q4⟩,-⟩:=own_cells B;have HD:=λ w=>hid (held_is a b c n w)
 have hq:hEq a c false false=(!a&&!c):=by cases a<;>cases c<;>rfl
 have HE:=λ w=>hq▸run_hold_eql a c false false w
 generalize (!a&&!c)=v at *;clear hc B hq;go_enter func182,ntmps182;go_wp2_with fail;refine (HC _).out.mono ?_;rintro e w1 ⟨rfl,g1⟩;go_wp2_with fail;refine (HD _).out.mono ?_;rintro e w2 ⟨rfl,g2⟩;go_wp2_with fail;go_ret;exact⟨rfl,g1.trans g2⟩
theorem Got_ok (hc:∀ W,Calls prog 130 #[ov s t k r o] W λ e w'=>e=.returned (fl a b c n)/\Gr W w') :
 Calls prog 143 #[ov s t k r o] w λ e w'=>e=.returned (.tuple #[.bool (!a&&!c),.int .i64 0])/\Gr w w':=by
 have N0:=Blk.new w #[.int .i64 s,.bool t,.bool k,.int .i64 r,.int .i64 o] 53;have T:=hid (toldB_ok (F:=182) (caps:=#[.pointer (some ⟨w.heap.size,0,none⟩)]) (w:=w.alloc (.cells #[.int .i64 s,.bool t,.bool k,.int .i64 r,.int .i64 o] 53)) (enters_of func182 (by kernel_rfl) rfl) (!a&&!c) (λ W G=>Got_cl (N0.gr G) hc));have G0:=(zr w).al (.cells #[.int .i64 s,.bool t,.bool k,.int .i64 r,.int .i64 o] 53);clear hc N0;have hmf:=mkF;go_enter func143,ntmps143;go_wp2_with fail;refine T.out.mono ?_;rintro e w1 ⟨rfl,g1⟩;go_wp2_with fail;go_ret2;exact⟨rfl,G0.trans g1⟩
theorem Wakes_cl {W:World} {g:Nat} (B:Blk W g #[.int .i64 s,.bool t,.bool k,.int .i64 r,.int .i64 o] 53)
 (hc:∀ W,Calls prog 130 #[ov s t k r o] W λ e w'=>e=.returned (fl a b c n)/\Gr W w') :
 Calls prog 205 #[.pointer (some ⟨g,0,none⟩)] W λ e w'=>e=.returned (.bool (!k&&!b&&decide (0<n)))/\Gr W w':=by
 have HC:=λ W=>hid (hc W)
 obtain⟨⟨q0,q1,q2,q3,q4⟩,-⟩:=own_cells B;have B:=hid B;clear hc;cases k<;>cases b
 all_goals (
  go_enter func205,ntmps205;go_wp2_with fail;refine (HC _).out.mono ?_;rintro e w1 ⟨rfl,g1⟩;have hlt:=(B.out.gr g1).lt;obtain⟨p2,-⟩:=(B.out.gr g1).at_ (k:=2) rfl;go_wp2_with fail;go_ret;exact⟨by simp,g1.al _⟩)
theorem Wakes_ok (hc:∀ W,Calls prog 130 #[ov s t k r o] W λ e w'=>e=.returned (fl a b c n)/\Gr W w') :
 Calls prog 178 #[ov s t k r o] w λ e w'=>e=.returned (.tuple #[.bool (!k&&!b&&decide (0<n)),.int .i64 0])/\Gr w w':=by
 have N0:=Blk.new w #[.int .i64 s,.bool t,.bool k,.int .i64 r,.int .i64 o] 53;have T:=hid (toldB_ok (F:=205) (caps:=#[.pointer (some ⟨w.heap.size,0,none⟩)]) (w:=w.alloc (.cells #[.int .i64 s,.bool t,.bool k,.int .i64 r,.int .i64 o] 53)) (enters_of func205 (by kernel_rfl) rfl) (!k&&!b&&decide (0<n)) (λ W G=>Wakes_cl (N0.gr G) hc));have G0:=(zr w).al (.cells #[.int .i64 s,.bool t,.bool k,.int .i64 r,.int .i64 o] 53);clear hc N0;have hmf:=mkF;go_enter func178,ntmps178;go_wp2_with fail;refine T.out.mono ?_;rintro e w1 ⟨rfl,g1⟩;go_wp2_with fail;go_ret2;exact⟨rfl,G0.trans g1⟩
end
end P14
end
section
namespace P14
open P3 (fl pw)
open P4 (Tm)
section
variable {s r:Int} {t k a b c:Bool} {n u o x:Int} {w:World}
def snc (s u:Int):Int:=if s=-1 then u else s
def ltB (s u:Int):Bool:=decide (s≠-1/\1000000<P4.gap s u)
theorem asleep_ok (h:OkS s r) (hn:OkN n) (hu:Tm u) :
 Calls prog 185 #[ov s t k r (pw a b c n),.int .i64 u] w λ e w'=>e=.returned (ov (snc s u) t k r (pw a b c n))/\Gr w w':=by
 have L:=λ w=>hid (look_ok (t:=t) (k:=k) (a:=a) (b:=b) (c:=c) (w:=w) h hn)
 have R:=λ w=>hid (P4.Right_ok u true (by rw [P4.near_eq hu];simp) w)
 generalize pw a b c n=o at *;have G0:=hid (((zr w).al (.cells #[.int .i64 s,.bool t,.bool k,.int .i64 r,.int .i64 o] 53)).al (.cells #[.int .i64 0,.bool false,.bool false,.int .i64 0,.int .i64 0] 53));have N0:=(Blk.new w #[.int .i64 s,.bool t,.bool k,.int .i64 r,.int .i64 o] 53).al (.cells #[.int .i64 0,.bool false,.bool false,.int .i64 0,.int .i64 0] 53);have N1:=Blk.new (w.alloc (.cells #[.int .i64 s,.bool t,.bool k,.int .i64 r,.int .i64 o] 53)) #[.int .i64 0,.bool false,.bool false,.int .i64 0,.int .i64 0] 53;rw [zsA] at N1;have N0:=hid N0;have N1:=hid N1;have hne:w.heap.size+1≠w.heap.size:=by omega
 have hs:(s=-1/\snc s u=u)\/((s==-1)=false/\snc s u=s):=by
  unfold snc;by_cases h1:s=-1
  . exact .inl ⟨h1,if_pos h1⟩
  . exact .inr ⟨beq_eq_false_iff_ne.2 h1,if_neg h1⟩
 generalize snc s u=S at *;clear h hn hu;rcases hs with ⟨rfl,rfl⟩ | ⟨h1,rfl⟩
 . go_enter func185,ntmps185
   go_wp2_with fail;refine (L _).out.mono ?_;rintro e w1 ⟨rfl,g1⟩;go_wp2_with fail;refine (R _).out.mono ?_;rintro e w2 ⟨rfl,g2⟩;have B0:=(N0.out.gr g1).gr g2;have B1:=(N1.out.gr g1).gr g2;have G2:=(G0.out.trans g1).trans g2;obtain⟨⟨q0,q1,q2,q3,q4⟩,z0,-⟩:=own_cells B0;obtain⟨⟨e0,e1,e2,e3,e4⟩,y0,y1,y2,y3,y4⟩:=own_cells B1;have BF:=own_st (B1.st (p:=⟨w.heap.size,0,none⟩) hne.symm (.int .i64 S)) S t k r o;have GF:=hid (own_gr (g:=w.heap.size+1) (G2.st (p:=⟨w.heap.size,0,none⟩) (Nat.le_refl _) (.int .i64 S)) (Nat.le_succ _) S t k r o);obtain⟨⟨c0,c1,c2,c3,c4⟩,-⟩:=own_cells BF;clear B0 B1 BF G2 g1 g2;go_wp2_with fail;refine (need_yes _ _).mono ?_;rintro e w3 ⟨rfl,rfl⟩;go_wp2_with fail;exact bodyPost_ret (v:=ov S t k r o) (by simp [results,results185,go_sem,c0,c1,c2,c3,c4]) rfl ⟨rfl,GF.out⟩
 . go_enter func185,ntmps185
   go_wp2_with fail;refine (L _).out.mono ?_;rintro e w1 ⟨rfl,g1⟩;go_wp2_with fail;refine (R _).out.mono ?_;rintro e w2 ⟨rfl,g2⟩;have B0:=(N0.out.gr g1).gr g2;have B1:=(N1.out.gr g1).gr g2;have G2:=(G0.out.trans g1).trans g2;obtain⟨⟨q0,q1,q2,q3,q4⟩,z0,-⟩:=own_cells B0;obtain⟨⟨e0,e1,e2,e3,e4⟩,y0,y1,y2,y3,y4⟩:=own_cells B1;have BF:=own_st B1 S t k r o;have GF:=hid (own_gr (g:=w.heap.size+1) G2 (Nat.le_succ _) S t k r o);obtain⟨⟨c0,c1,c2,c3,c4⟩,-⟩:=own_cells BF;clear B0 B1 BF G2 g1 g2;go_wp2_with fail;refine (need_yes _ _).mono ?_;rintro e w3 ⟨rfl,rfl⟩;go_wp2_with fail;exact bodyPost_ret (v:=ov S t k r o) (by simp [results,results185,go_sem,c0,c1,c2,c3,c4]) rfl ⟨rfl,GF.out⟩
theorem late_is (hs:s=-1\/Tm s) (hu:Tm u) {B:Bool} (hB:ltB s u=B) :
 Calls prog 216 #[ov s t k r o,.int .i64 u] w λ e w'=>e=.returned (.bool B)/\Gr w w':=by
 have G0:=(zr w).al (.cells #[.int .i64 s,.bool t,.bool k,.int .i64 r,.int .i64 o] 53);by_cases h1:s=-1
 . subst h1
   obtain rfl:B=false:=by rw [<- hB];simp [ltB]
   clear hs hu hB;go_enter func216,ntmps216;go_wp2_with fail;go_ret;exact⟨rfl,G0⟩
 . have hs':Tm s:=hs.resolve_left h1
   have A:=P4.Ap.ex s u;have C:=λ w=>hid (P4.Late_is (a:=s) (b:=u) (r:=P4.gap s u) (s:=0) (.inl ⟨hs',hu,rfl,rfl⟩) B (by rw [<- hB];simp [ltB,h1]) w)
   clear A hs hs' hu hB;have hn1:(s != -1)=true:=by simp [h1]
   go_enter func216,ntmps216;go_wp2_with fail;refine (C _).out.mono ?_;rintro e w1 ⟨rfl,g1⟩;go_wp2_with fail;refine (sureB_yes _ _).mono ?_;rintro e w2 ⟨rfl,rfl⟩;go_wp2_with fail;go_ret;exact⟨rfl,G0.trans g1⟩
end
end P14
end
section
namespace P14
open P3 (fl pw)
open P4 (Tm)
def ovEq (s:Int) (t k:Bool) (r o:Int) (s':Int) (t' k':Bool) (r' o':Int):Bool:=decide (s=s'/\t=t'/\k=k'/\r=r'/\o=o')
theorem run_own_eql (s:Int) (t k:Bool) (r o:Int) (s':Int) (t' k':Bool) (r' o':Int) (w:World) :
 (binOp .eql 53 (ov s t k r o) (ov s' t' k' r' o')).run prog w=.ok (.bool (ovEq s t k r o s' t' k' r' o')) w:=by
 by_cases h1:s=s'
 . by_cases h2:t=t'
   . by_cases h3:k=k'
     . by_cases h4:r=r'
       . by_cases h5:o=o'
         . have e:ovEq s t k r o s' t' k' r' o'=true:=by simp [ovEq,h1,h2,h3,h4,h5]
           rw [e];subst h1 h2 h3 h4 h5;go_simp
         . have e:ovEq s t k r o s' t' k' r' o'=false:=by simp [ovEq,h5]
           have h6:(o==o')=false:=beq_eq_false_iff_ne.2 h5;rw [e];subst h1 h2 h3 h4;go_simp
       . have e:ovEq s t k r o s' t' k' r' o'=false:=by simp [ovEq,h4]
         have h6:(r==r')=false:=beq_eq_false_iff_ne.2 h4;rw [e];subst h1 h2 h3;go_simp
     . have e:ovEq s t k r o s' t' k' r' o'=false:=by simp [ovEq,h3]
       have h6:(k==k')=false:=beq_eq_false_iff_ne.2 h3;rw [e];subst h1 h2;go_simp
   . have e:ovEq s t k r o s' t' k' r' o'=false:=by simp [ovEq,h2]
     have h6:(t==t')=false:=beq_eq_false_iff_ne.2 h2;rw [e];subst h1;go_simp
 . have e:ovEq s t k r o s' t' k' r' o'=false:=by simp [ovEq,h1]
   have h6:(s==s')=false:=beq_eq_false_iff_ne.2 h1;rw [e];go_simp
section
variable {s r:Int} {t k a b c:Bool} {n u o x S:Int} {w:World}
theorem Sleep_cl {W:World} {g h:Nat} (B:Blk W g #[.int .i64 s,.bool t,.bool k,.int .i64 r,.int .i64 o] 53) (D:Blk W h #[.int .i64 u] 3)
 (hc:∀ W,Calls prog 185 #[ov s t k r o,.int .i64 u] W λ e w'=>e=.returned (ov S t k r o)/\Gr W w') :
 Calls prog 184 #[.pointer (some ⟨g,0,none⟩),.pointer (some ⟨h,0,none⟩)] W λ e w'=>e=.returned (ov S t k r o)/\Gr W w':=by
 have HC:=λ W=>hid (hc W)
 have hlt:=B.lt;have hlt2:=D.lt;obtain⟨⟨q0,q1,q2,q3,q4⟩,-⟩:=own_cells B;obtain⟨d0,-⟩:=D.at_ (k:=0) rfl;have N1:=hid (Blk.new W #[.int .i64 0,.bool false,.bool false,.int .i64 0,.int .i64 0] 53);have G0:=hid ((zr W).al (.cells #[.int .i64 0,.bool false,.bool false,.int .i64 0,.int .i64 0] 53));clear hc B D;go_enter func184,ntmps184;go_wp2_with fail;refine (HC _).out.mono ?_;rintro e w1 ⟨rfl,g1⟩;have B1:=N1.out.gr g1;obtain⟨⟨e0,e1,e2,e3,e4⟩,y0,y1,y2,y3,y4⟩:=own_cells B1;have BF:=own_st B1 S t k r o;have GF:=hid (own_gr (g:=W.heap.size) (G0.out.trans g1) (Nat.le_refl _) S t k r o);obtain⟨⟨c0,c1,c2,c3,c4⟩,-⟩:=own_cells BF;clear g1 B1 BF;go_wp2_with fail;exact bodyPost_ret (v:=ov S t k r o) (by simp [results,results184,go_sem,c0,c1,c2,c3,c4]) rfl ⟨rfl,GF.out⟩
theorem Sleep_ok (hc:∀ W,Calls prog 185 #[ov s t k r o,.int .i64 u] W λ e w'=>e=.returned (ov S t k r o)/\Gr W w') :
 Calls prog 145 #[ov s t k r o,.int .i64 u] w λ e w'=>e=.returned (.tuple #[ov S t k r o,.bool (decide (S=s)),.int .i64 0])/\Gr w w':=by
 have N0:=((Blk.new w #[.int .i64 s,.bool t,.bool k,.int .i64 r,.int .i64 o] 53).al (.cells #[.int .i64 u] 3)).al (.cells #[.int .i64 0,.bool false,.bool false,.int .i64 0,.int .i64 0] 53);have N1:=(Blk.new (w.alloc (.cells #[.int .i64 s,.bool t,.bool k,.int .i64 r,.int .i64 o] 53)) #[.int .i64 u] 3).al (.cells #[.int .i64 0,.bool false,.bool false,.int .i64 0,.int .i64 0] 53);have N2:=Blk.new ((w.alloc (.cells #[.int .i64 s,.bool t,.bool k,.int .i64 r,.int .i64 o] 53)).alloc (.cells #[.int .i64 u] 3)) #[.int .i64 0,.bool false,.bool false,.int .i64 0,.int .i64 0] 53;rw [zsA] at N1;rw [zsA,zsA] at N2;have G0:=((((zr w).al (.cells #[.int .i64 s,.bool t,.bool k,.int .i64 r,.int .i64 o] 53)).al (.cells #[.int .i64 u] 3)).al (.cells #[.int .i64 0,.bool false,.bool false,.int .i64 0,.int .i64 0] 53));have T:=hid (toldO_ok (F:=184) (caps:=#[.pointer (some ⟨w.heap.size,0,none⟩),.pointer (some ⟨w.heap.size+1,0,none⟩)]) (w:=((w.alloc (.cells #[.int .i64 s,.bool t,.bool k,.int .i64 r,.int .i64 o] 53)).alloc (.cells #[.int .i64 u] 3)).alloc (.cells #[.int .i64 0,.bool false,.bool false,.int .i64 0,.int .i64 0] 53)) (enters_of func184 (by kernel_rfl) rfl) S t k r o (λ W G=>Sleep_cl (N0.gr G) (N1.gr G) hc));clear hc N1;have N0:=hid N0;have N2:=hid N2;have hq:ovEq S t k r o s t k r o=(decide (S=s)):=by simp [ovEq]
 have HE:=λ w=>hq▸run_own_eql S t k r o s t k r o w
 clear hq;have hmf:=mkF;go_enter func145,ntmps145;go_wp2_with fail;refine T.out.mono ?_;rintro e w1 ⟨rfl,g1⟩;have B0:=N0.out.gr g1;have B2:=N2.out.gr g1;have G:=hid (G0.trans g1);have l0:=B0.lt;have l2:=B2.lt;obtain⟨⟨q0,q1,q2,q3,q4⟩,-⟩:=own_cells B0;obtain⟨⟨e0,e1,e2,e3,e4⟩,y0,y1,y2,y3,y4⟩:=own_cells B2;clear g1 G0 N0 N2 T;have BF:=((own_st B2 S t k r o).al (.cells #[.int .i64 S,.bool t,.bool k,.int .i64 r,.int .i64 o] 53)).gr ((zr _).dr);have GF:=hid (((own_gr (g:=w.heap.size+1+1) G.out (by omega) S t k r o).al (.cells #[.int .i64 S,.bool t,.bool k,.int .i64 r,.int .i64 o] 53)).dr);obtain⟨⟨c0,c1,c2,c3,c4⟩,-⟩:=own_cells BF;clear BF B0 B2;go_wp2_with fail
 go_region
 go_wp2_with fail;exact bodyPost_ret (v:=.tuple #[ov S t k r o,.bool (decide (S=s)),.int .i64 0]) (by simp [results,results145,go_sem,c0,c1,c2,c3,c4]) rfl ⟨rfl,GF.out⟩
end
end P14
end
section
namespace P14
open P3 (fl pw)
open P4 (Tm)
section
variable {s r:Int} {t k a b c:Bool} {n u o x:Int} {w:World}
theorem run_starv (a b c:Bool) (n:Int) (w:World):(Instr.field 42 (fl a b c n) 2).run prog w=.ok (.bool c) w:=by kernel_rfl
def Mid (w W:World) (s:Int) (T k:Bool) (r x:Int):Prop :=
 Blk W w.heap.size #[.int .i64 s,.bool T,.bool k,.int .i64 r,.int .i64 x] 53/\Blk W (w.heap.size+1) #[.int .i64 0,.bool false,.bool false,.int .i64 0,.int .i64 0] 53/\Gr w W
theorem Mid.gr {w W W':World} {T:Bool} (h:Mid w W s T k r x) (g:Gr W W'):Mid w W' s T k r x:=⟨h.1.gr g,h.2.1.gr g,h.2.2.trans g⟩
theorem Mid.mk {w W:World} (B0:Blk W w.heap.size #[.int .i64 s,.bool t,.bool k,.int .i64 r,.int .i64 o] 53) (B1:Blk W (w.heap.size+1) #[.int .i64 0,.bool false,.bool false,.int .i64 0,.int .i64 0] 53) (G:Gr w W) (T:Bool) (x:Int) :
 Mid w ((W.setCell ⟨w.heap.size,1,none⟩ (.bool T)).setCell ⟨w.heap.size,4,none⟩ (.int .i64 x)) s T k r x :=
 ⟨(B0.set 1 (.bool T)).set 4 (.int .i64 x),(B1.st (p:=⟨w.heap.size,1,none⟩) (by show w.heap.size≠w.heap.size+1;omega) _).st (p:=⟨w.heap.size,4,none⟩) (by show w.heap.size≠w.heap.size+1;omega) _,
   (G.st (p:=⟨w.heap.size,1,none⟩) (Nat.le_refl _) _).st (p:=⟨w.heap.size,4,none⟩) (Nat.le_refl _) _⟩
theorem woken_word (h:OkS s r) (ho:OkW o) (hu:Tm u) (hx:¬ OkW x) {T:Bool} (hT:(t||ltB s u)=T) :
 Calls prog 196 #[ov s t k r o,.int .i64 u,.int .i64 x] w λ e w'=>e=.panicked (pan 1)/\Gr w w':=by
 obtain⟨a',b',c',n',rfl,hn⟩:=P3.pw_of ho;have L:=λ w=>hid (look_ok (t:=t) (k:=k) (a:=a') (b:=b') (c:=c') (w:=w) h hn)
 have R:=λ w=>hid (P4.Right_ok u true (by rw [P4.near_eq hu];simp) w)
 have K:=λ w=>hid (late_is (t:=t) (k:=k) (r:=r) (o:=pw a' b' c' n') (w:=w) h.1 hu (B:=ltB s u) rfl)
 have HT:=hid hT;have L2:=λ w=>hid (look_no (s:=s) (r:=r) (t:=T) (k:=k) (o:=x) (w:=w) λ q=>hx q.2)
 clear hx;clear ho hT;generalize pw a' b' c' n'=o at *;have G0:=hid (((zr w).al (.cells #[.int .i64 s,.bool t,.bool k,.int .i64 r,.int .i64 o] 53)).al (.cells #[.int .i64 0,.bool false,.bool false,.int .i64 0,.int .i64 0] 53));have N0:=hid ((Blk.new w #[.int .i64 s,.bool t,.bool k,.int .i64 r,.int .i64 o] 53).al (.cells #[.int .i64 0,.bool false,.bool false,.int .i64 0,.int .i64 0] 53));have N1:=Blk.new (w.alloc (.cells #[.int .i64 s,.bool t,.bool k,.int .i64 r,.int .i64 o] 53)) #[.int .i64 0,.bool false,.bool false,.int .i64 0,.int .i64 0] 53;rw [zsA] at N1;have N1:=hid N1;generalize ltB s u=B at *;clear h hn hu;cases t
 . obtain rfl:B=T:=HT.out
   go_enter func196,ntmps196;go_wp2_with fail;refine (L _).out.mono ?_;rintro e w1 ⟨rfl,g1⟩;go_wp2_with fail;refine (R _).out.mono ?_;rintro e w2 ⟨rfl,g2⟩;have B0:=(N0.out.gr g1).gr g2;obtain⟨⟨q0,q1,q2,q3,q4⟩,-⟩:=own_cells B0;go_wp2_with fail;refine (need_yes _ _).mono ?_;rintro e w3 ⟨rfl,rfl⟩;go_wp2_with fail;refine (K _).out.mono ?_;rintro e w4 ⟨rfl,g4⟩;have B0:=B0.gr g4;have M:=hid (Mid.mk B0 (((N1.out.gr g1).gr g2).gr g4) (((G0.out.trans g1).trans g2).trans g4) B x);clear q0 q1 q2 q3 q4;obtain⟨⟨q0,q1,q2,q3,q4⟩,z0,z1,z2,z3,z4⟩:=own_cells B0;clear B0 g1 g2 g4 N0 N1 G0;go_wp2_with fail;refine (L2 _).out.mono ?_;rintro e w5 ⟨rfl,g5⟩;have M:=M.out.gr g5;go_wp2_with fail;exact⟨rfl,rfl,M.2.2⟩
 . obtain rfl:T=true:=by rw [<- HT.out];rfl
   go_enter func196,ntmps196;go_wp2_with fail;refine (L _).out.mono ?_;rintro e w1 ⟨rfl,g1⟩;go_wp2_with fail;refine (R _).out.mono ?_;rintro e w2 ⟨rfl,g2⟩;have B0:=(N0.out.gr g1).gr g2;obtain⟨⟨q0,q1,q2,q3,q4⟩,z0,z1,z2,z3,z4⟩:=own_cells B0;have M:=hid (Mid.mk B0 ((N1.out.gr g1).gr g2) ((G0.out.trans g1).trans g2) true x);clear B0 g1 g2 N0 N1 G0;go_wp2_with fail;refine (need_yes _ _).mono ?_;rintro e w3 ⟨rfl,rfl⟩;go_wp2_with fail;refine (L2 _).out.mono ?_;rintro e w5 ⟨rfl,g5⟩;have M:=M.out.gr g5;go_wp2_with fail;exact⟨rfl,rfl,M.2.2⟩
theorem woken_handed (h:OkS s r) (ho:OkW o) (hu:Tm u) (hx:OkN n) {T:Bool} (hT:(t||ltB s u)=T) :
 Calls prog 196 #[ov s t k r o,.int .i64 u,.int .i64 (pw a b true n)] w λ e w'=>e=.returned (.tuple #[ov s T k r (pw a b true n),.bool true])/\Gr w w':=by
 obtain⟨a',b',c',n',rfl,hn⟩:=P3.pw_of ho;have L:=λ w=>hid (look_ok (t:=t) (k:=k) (a:=a') (b:=b') (c:=c') (w:=w) h hn)
 have R:=λ w=>hid (P4.Right_ok u true (by rw [P4.near_eq hu];simp) w)
 have K:=λ w=>hid (late_is (t:=t) (k:=k) (r:=r) (o:=pw a' b' c' n') (w:=w) h.1 hu (B:=ltB s u) rfl)
 have HF:=λ w=>run_starv a b true n w
 have HT:=hid hT;have L2:=λ w=>hid (look_ok (s:=s) (r:=r) (t:=T) (k:=k) (a:=a) (b:=b) (c:=true) (w:=w) h hx)
 clear hx;clear ho hT;generalize pw a b true n=x at *;generalize pw a' b' c' n'=o at *;have G0:=hid (((zr w).al (.cells #[.int .i64 s,.bool t,.bool k,.int .i64 r,.int .i64 o] 53)).al (.cells #[.int .i64 0,.bool false,.bool false,.int .i64 0,.int .i64 0] 53));have N0:=hid ((Blk.new w #[.int .i64 s,.bool t,.bool k,.int .i64 r,.int .i64 o] 53).al (.cells #[.int .i64 0,.bool false,.bool false,.int .i64 0,.int .i64 0] 53));have N1:=Blk.new (w.alloc (.cells #[.int .i64 s,.bool t,.bool k,.int .i64 r,.int .i64 o] 53)) #[.int .i64 0,.bool false,.bool false,.int .i64 0,.int .i64 0] 53;rw [zsA] at N1;have N1:=hid N1;generalize ltB s u=B at *;clear h hn hu;cases t
 . obtain rfl:B=T:=HT.out
   go_enter func196,ntmps196;go_wp2_with fail;refine (L _).out.mono ?_;rintro e w1 ⟨rfl,g1⟩;go_wp2_with fail;refine (R _).out.mono ?_;rintro e w2 ⟨rfl,g2⟩;have B0:=(N0.out.gr g1).gr g2;obtain⟨⟨q0,q1,q2,q3,q4⟩,-⟩:=own_cells B0;go_wp2_with fail;refine (need_yes _ _).mono ?_;rintro e w3 ⟨rfl,rfl⟩;go_wp2_with fail;refine (K _).out.mono ?_;rintro e w4 ⟨rfl,g4⟩;have B0:=B0.gr g4;have M:=hid (Mid.mk B0 (((N1.out.gr g1).gr g2).gr g4) (((G0.out.trans g1).trans g2).trans g4) B x);clear q0 q1 q2 q3 q4;obtain⟨⟨q0,q1,q2,q3,q4⟩,z0,z1,z2,z3,z4⟩:=own_cells B0;clear B0 g1 g2 g4 N0 N1 G0;go_wp2_with fail;refine (L2 _).out.mono ?_;rintro e w5 ⟨rfl,g5⟩;have M:=M.out.gr g5;obtain⟨M0,M1,MG⟩:=M;clear g5 q0 q1 q2 q3 q4 z0 z1 z2 z3 z4;obtain⟨⟨q0,q1,q2,q3,q4⟩,-⟩:=own_cells M0;obtain⟨⟨e0,e1,e2,e3,e4⟩,y0,y1,y2,y3,y4⟩:=own_cells M1;have BF:=own_st M1 s B k r x;have GF:=hid (own_gr (g:=w.heap.size+1) MG (Nat.le_succ _) s B k r x);obtain⟨⟨c0,c1,c2,c3,c4⟩,-⟩:=own_cells BF;clear M0 M1 BF MG;go_wp2_with fail;exact bodyPost_ret (v:=.tuple #[ov s B k r x,.bool true]) (by simp [results,results196,go_sem,c0,c1,c2,c3,c4]) rfl ⟨rfl,GF.out⟩
 . obtain rfl:T=true:=by rw [<- HT.out];rfl
   go_enter func196,ntmps196;go_wp2_with fail;refine (L _).out.mono ?_;rintro e w1 ⟨rfl,g1⟩;go_wp2_with fail;refine (R _).out.mono ?_;rintro e w2 ⟨rfl,g2⟩;have B0:=(N0.out.gr g1).gr g2;obtain⟨⟨q0,q1,q2,q3,q4⟩,z0,z1,z2,z3,z4⟩:=own_cells B0;have M:=hid (Mid.mk B0 ((N1.out.gr g1).gr g2) ((G0.out.trans g1).trans g2) true x);clear B0 g1 g2 N0 N1 G0;go_wp2_with fail;refine (need_yes _ _).mono ?_;rintro e w3 ⟨rfl,rfl⟩;go_wp2_with fail;refine (L2 _).out.mono ?_;rintro e w5 ⟨rfl,g5⟩;have M:=M.out.gr g5;obtain⟨M0,M1,MG⟩:=M;clear g5 q0 q1 q2 q3 q4 z0 z1 z2 z3 z4;obtain⟨⟨q0,q1,q2,q3,q4⟩,-⟩:=own_cells M0;obtain⟨⟨e0,e1,e2,e3,e4⟩,y0,y1,y2,y3,y4⟩:=own_cells M1;have BF:=own_st M1 s true k r x;have GF:=hid (own_gr (g:=w.heap.size+1) MG (Nat.le_succ _) s true k r x);obtain⟨⟨c0,c1,c2,c3,c4⟩,-⟩:=own_cells BF;clear M0 M1 BF MG;go_wp2_with fail;exact bodyPost_ret (v:=.tuple #[ov s true k r x,.bool true]) (by simp [results,results196,go_sem,c0,c1,c2,c3,c4]) rfl ⟨rfl,GF.out⟩
theorem woken_back (h:OkS s r) (ho:OkW o) (hu:Tm u) (hx:OkN n) {T:Bool} (hT:(t||ltB s u)=T) :
 Calls prog 196 #[ov s t k r o,.int .i64 u,.int .i64 (pw a b false n)] w λ e w'=>e=.returned (.tuple #[ov s T true 0 (pw a b false n),.bool false])/\Gr w w':=by
 obtain⟨a',b',c',n',rfl,hn⟩:=P3.pw_of ho;have L:=λ w=>hid (look_ok (t:=t) (k:=k) (a:=a') (b:=b') (c:=c') (w:=w) h hn)
 have R:=λ w=>hid (P4.Right_ok u true (by rw [P4.near_eq hu];simp) w)
 have K:=λ w=>hid (late_is (t:=t) (k:=k) (r:=r) (o:=pw a' b' c' n') (w:=w) h.1 hu (B:=ltB s u) rfl)
 have HF:=λ w=>run_starv a b false n w
 have HT:=hid hT;have L2:=λ w=>hid (look_ok (s:=s) (r:=r) (t:=T) (k:=k) (a:=a) (b:=b) (c:=false) (w:=w) h hx)
 clear hx;clear ho hT;generalize pw a b false n=x at *;generalize pw a' b' c' n'=o at *;have G0:=hid (((zr w).al (.cells #[.int .i64 s,.bool t,.bool k,.int .i64 r,.int .i64 o] 53)).al (.cells #[.int .i64 0,.bool false,.bool false,.int .i64 0,.int .i64 0] 53));have N0:=hid ((Blk.new w #[.int .i64 s,.bool t,.bool k,.int .i64 r,.int .i64 o] 53).al (.cells #[.int .i64 0,.bool false,.bool false,.int .i64 0,.int .i64 0] 53));have N1:=Blk.new (w.alloc (.cells #[.int .i64 s,.bool t,.bool k,.int .i64 r,.int .i64 o] 53)) #[.int .i64 0,.bool false,.bool false,.int .i64 0,.int .i64 0] 53;rw [zsA] at N1;have N1:=hid N1;generalize ltB s u=B at *;clear h hn hu;cases t
 . obtain rfl:B=T:=HT.out
   go_enter func196,ntmps196;go_wp2_with fail;refine (L _).out.mono ?_;rintro e w1 ⟨rfl,g1⟩;go_wp2_with fail;refine (R _).out.mono ?_;rintro e w2 ⟨rfl,g2⟩;have B0:=(N0.out.gr g1).gr g2;obtain⟨⟨q0,q1,q2,q3,q4⟩,-⟩:=own_cells B0;go_wp2_with fail;refine (need_yes _ _).mono ?_;rintro e w3 ⟨rfl,rfl⟩;go_wp2_with fail;refine (K _).out.mono ?_;rintro e w4 ⟨rfl,g4⟩;have B0:=B0.gr g4;have M:=hid (Mid.mk B0 (((N1.out.gr g1).gr g2).gr g4) (((G0.out.trans g1).trans g2).trans g4) B x);clear q0 q1 q2 q3 q4;obtain⟨⟨q0,q1,q2,q3,q4⟩,z0,z1,z2,z3,z4⟩:=own_cells B0;clear B0 g1 g2 g4 N0 N1 G0;go_wp2_with fail;refine (L2 _).out.mono ?_;rintro e w5 ⟨rfl,g5⟩;have M:=M.out.gr g5;obtain⟨M0,M1,MG⟩:=M;clear g5 q0 q1 q2 q3 q4 z0 z1 z2 z3 z4;obtain⟨⟨q0,q1,q2,q3,q4⟩,z0,z1,z2,z3,z4⟩:=own_cells M0;obtain⟨⟨e0,e1,e2,e3,e4⟩,y0,y1,y2,y3,y4⟩:=own_cells M1;have hne:w.heap.size≠w.heap.size+1:=by omega
   have BF:=own_st ((M1.st (p:=⟨w.heap.size,2,none⟩) hne (.bool true)).st (p:=⟨w.heap.size,3,none⟩) hne (.int .i64 0)) s B true 0 x;have GF:=hid (own_gr (g:=w.heap.size+1) ((MG.st (p:=⟨w.heap.size,2,none⟩) (Nat.le_refl _) (.bool true)).st (p:=⟨w.heap.size,3,none⟩) (Nat.le_refl _) (.int .i64 0)) (Nat.le_succ _) s B true 0 x);obtain⟨⟨c0,c1,c2,c3,c4⟩,-⟩:=own_cells BF;clear M0 M1 BF MG;go_wp2_with fail;exact bodyPost_ret (v:=.tuple #[ov s B true 0 x,.bool false]) (by simp [results,results196,go_sem,c0,c1,c2,c3,c4]) rfl ⟨rfl,GF.out⟩
 . obtain rfl:T=true:=by rw [<- HT.out];rfl
   go_enter func196,ntmps196;go_wp2_with fail;refine (L _).out.mono ?_;rintro e w1 ⟨rfl,g1⟩;go_wp2_with fail;refine (R _).out.mono ?_;rintro e w2 ⟨rfl,g2⟩;have B0:=(N0.out.gr g1).gr g2;obtain⟨⟨q0,q1,q2,q3,q4⟩,z0,z1,z2,z3,z4⟩:=own_cells B0;have M:=hid (Mid.mk B0 ((N1.out.gr g1).gr g2) ((G0.out.trans g1).trans g2) true x);clear B0 g1 g2 N0 N1 G0;go_wp2_with fail;refine (need_yes _ _).mono ?_;rintro e w3 ⟨rfl,rfl⟩;go_wp2_with fail;refine (L2 _).out.mono ?_;rintro e w5 ⟨rfl,g5⟩;have M:=M.out.gr g5;obtain⟨M0,M1,MG⟩:=M;clear g5 q0 q1 q2 q3 q4 z0 z1 z2 z3 z4;obtain⟨⟨q0,q1,q2,q3,q4⟩,z0,z1,z2,z3,z4⟩:=own_cells M0;obtain⟨⟨e0,e1,e2,e3,e4⟩,y0,y1,y2,y3,y4⟩:=own_cells M1;have hne:w.heap.size≠w.heap.size+1:=by omega
   have BF:=own_st ((M1.st (p:=⟨w.heap.size,2,none⟩) hne (.bool true)).st (p:=⟨w.heap.size,3,none⟩) hne (.int .i64 0)) s true true 0 x;have GF:=hid (own_gr (g:=w.heap.size+1) ((MG.st (p:=⟨w.heap.size,2,none⟩) (Nat.le_refl _) (.bool true)).st (p:=⟨w.heap.size,3,none⟩) (Nat.le_refl _) (.int .i64 0)) (Nat.le_succ _) s true true 0 x);obtain⟨⟨c0,c1,c2,c3,c4⟩,-⟩:=own_cells BF;clear M0 M1 BF MG;go_wp2_with fail;exact bodyPost_ret (v:=.tuple #[ov s true true 0 x,.bool false]) (by simp [results,results196,go_sem,c0,c1,c2,c3,c4]) rfl ⟨rfl,GF.out⟩
end
end P14
end
section
namespace P14
open P3 (fl pw)
open P4 (Tm)
structure But (h:Nat) (w w':World):Prop where
 os:w'.os=w.os
 tape:w'.tape=w.tape
 output:w'.output=w.output
 size:w.heap.size<=w'.heap.size
 block:∀ b,b<w.heap.size->b≠h->w'.heap[b]?=w.heap[b]?
section
variable {h:Nat} {a w w' w'':World}
theorem But.of (g:Gr w w'):But h w w':=⟨g.os,g.tape,g.output,g.size,λ b hb _=>g.block b hb⟩
theorem But.set (g:But h w w') (i:Nat) (v:Value):But h w (w'.setCell ⟨h,i,none⟩ v) :=
 ⟨g.os,g.tape,g.output,by simpa using g.size,λ b hb hn=>(Below.heap_setCell w' ⟨h,i,none⟩ v b hn).trans (g.block b hb hn)⟩
theorem But.st (g:But h w w') {p:Addr} (hp:w.heap.size<=p.block) (v:Value):But h w (w'.setCell p v) :=
 ⟨g.os,g.tape,g.output,by simpa using g.size,λ b hb hn=>(Below.heap_setCell w' p v b (Nat.ne_of_lt (zlt hb hp))).trans (g.block b hb hn)⟩
theorem But.trans (g:But h a w) (g':But h w w'):But h a w' :=
 ⟨g'.os.trans g.os,g'.tape.trans g.tape,g'.output.trans g.output,Nat.le_trans g.size g'.size,λ b hb hn=>(g'.block b (zlt hb g.size) hn).trans (g.block b hb hn)⟩
theorem But.gr (g:Gr a w) (g':But h w w') (hh:a.heap.size<=h):Gr a w' :=
 ⟨g'.os.trans g.os,g'.tape.trans g.tape,g'.output.trans g.output,Nat.le_trans g.size g'.size,λ b hb=>(g'.block b (zlt hb g.size) (Nat.ne_of_lt (zlt hb hh))).trans (g.block b hb)⟩
theorem But.blk {b:Nat} {vs:Array Value} {t:TypeId} (g:But h w w') (B:Blk w b vs t) (hn:b≠h):Blk w' b vs t:=by
 unfold Blk;rw [g.block b B.lt hn];exact B
theorem But.own {g:Nat} (G:But h w w') (hg:w.heap.size<=g) (s:Int) (t k:Bool) (r o:Int) :
 But h w (((((w'.setCell ⟨g,0,none⟩ (.int .i64 s)).setCell ⟨g,1,none⟩ (.bool t)).setCell ⟨g,2,none⟩ (.bool k)).setCell ⟨g,3,none⟩ (.int .i64 r)).setCell ⟨g,4,none⟩ (.int .i64 o)) :=
 ((((G.st (p:=⟨g,0,none⟩) hg _).st (p:=⟨g,1,none⟩) hg _).st (p:=⟨g,2,none⟩) hg _).st (p:=⟨g,3,none⟩) hg _).st (p:=⟨g,4,none⟩) hg _
theorem own_far {W:World} {g b:Nat} {vs:Array Value} {T:TypeId} (B:Blk W b vs T) (hn:g≠b) (s:Int) (t k:Bool) (r o:Int) :
 Blk (((((W.setCell ⟨g,0,none⟩ (.int .i64 s)).setCell ⟨g,1,none⟩ (.bool t)).setCell ⟨g,2,none⟩ (.bool k)).setCell ⟨g,3,none⟩ (.int .i64 r)).setCell ⟨g,4,none⟩ (.int .i64 o)) b vs T :=
 ((((B.st (p:=⟨g,0,none⟩) hn _).st (p:=⟨g,1,none⟩) hn _).st (p:=⟨g,2,none⟩) hn _).st (p:=⟨g,3,none⟩) hn _).st (p:=⟨g,4,none⟩) hn _
end
section
variable {F:Nat} {caps:Array Value} {w:World}
theorem toldX_ok (eg:∀ args w,(callFunc F args).run prog w=.ok (.enter F args) w) (s:Int) (t k:Bool) (r o:Int) {h:Nat} (hh:h<w.heap.size) {vs:Array Value} {Th:TypeId}
 (hq:∀ W,Gr w W->Calls prog F caps W λ e w'=>e=.returned (.agg #[.int .i64 s,.bool t,.bool k,.int .i64 r,.int .i64 o])/\But h W w'/\Blk w' h vs Th) :
 Calls prog 183 #[.func (.func F) #[] caps] w λ e w'=>e=.returned (.tuple #[.agg #[.int .i64 s,.bool t,.bool k,.int .i64 r,.int .i64 o],.int .i64 0])/\But h w w'/\Blk w' h vs Th:=by
 have hmf:=mkF;have HQ:=hid hq;clear hq;have h1:w.heap.size≠h:=by omega
 have h2:w.heap.size+1≠h:=by omega
 go_enter_defers func183,ntmps183
 go_wp2_with fail;refine (HQ.out _ (((zr w).al _).al _)).mono ?_;rintro e w1 ⟨rfl,g1,X1⟩;have B0:=g1.blk ((Blk.new w #[.int .i64 0,.bool false,.bool false,.int .i64 0,.int .i64 0] 53).al (.cells #[.int .i64 0] 27)) h1;have B1:=Blk.new (w.alloc (.cells #[.int .i64 0,.bool false,.bool false,.int .i64 0,.int .i64 0] 53)) #[.int .i64 0] 27;rw [zsA] at B1;replace B1:=g1.blk B1 h2;have G0:=(But.of (h:=h) (((zr w).al (.cells #[.int .i64 0,.bool false,.bool false,.int .i64 0,.int .i64 0] 53)).al (.cells #[.int .i64 0] 27))).trans g1;have hne:w.heap.size+1≠w.heap.size:=by omega
 obtain⟨⟨a0,a1,a2,a3,a4⟩,y0,y1,y2,y3,y4⟩:=own_cells B0;obtain⟨q0,z0⟩:=B1.at_ (k:=0) rfl;have BF:=(own_st B0 s t k r o).st (p:=⟨w.heap.size+1,0,none⟩) hne (.int .i64 0);have BG:=(own_far B1 hne.symm s t k r o).set 0 (.int .i64 0);have XF:=hid ((own_far X1 h1 s t k r o).st (p:=⟨w.heap.size+1,0,none⟩) h2 (.int .i64 0));obtain⟨⟨c0,c1,c2,c3,c4⟩,-⟩:=own_cells BF;obtain⟨q1,z1⟩:=BG.at_ (k:=0) (v:=.int .i64 0) rfl;have G:=hid ((G0.own (g:=w.heap.size) (Nat.le_refl _) s t k r o).st (p:=⟨w.heap.size+1,0,none⟩) (Nat.le_succ _) (.int .i64 0));clear B0 B1 BF BG g1 G0 X1;go_wp2_with fail;refine leaves_cons (f:=208) (args:=#[.pointer (some ⟨w.heap.size+1,0,none⟩)]) (by simp) (by simp [go_sem]) ?_;refine (catchO_idle ⟨w.heap.size+1,0,none⟩ _).mono ?_;rintro e u' w'' ⟨rfl,rfl,rfl⟩;simp [Leaves,settle,results,results183,go_sem,q1,c0,c1,c2,c3,c4];exact⟨G.out,XF.out⟩
end
section
variable {s r:Int} {t k a b c:Bool} {n u o x S R X:Int} {T K v:Bool} {w:World}
theorem Wake_cl {W:World} {g i j h:Nat} (B:Blk W g #[.int .i64 s,.bool t,.bool k,.int .i64 r,.int .i64 o] 53) (D:Blk W i #[.int .i64 u] 3) (E:Blk W j #[.int .i64 x] 3) (H:Blk W h #[.bool false] 4)
 (hc:∀ W,Calls prog 196 #[ov s t k r o,.int .i64 u,.int .i64 x] W λ e w'=>e=.returned (.tuple #[ov S T K R X,.bool v])/\Gr W w') :
 Calls prog 195 #[.pointer (some ⟨g,0,none⟩),.pointer (some ⟨i,0,none⟩),.pointer (some ⟨j,0,none⟩),.pointer (some ⟨h,0,none⟩)] W λ e w' =>
  e=.returned (ov S T K R X)/\But h W w'/\Blk w' h #[.bool v] 4:=by
 have HC:=λ W=>hid (hc W)
 have hlt:=B.lt;have hlt2:=D.lt;have hlt3:=E.lt;have hlt4:=H.lt;have hne:W.heap.size≠h:=by omega
 obtain⟨⟨q0,q1,q2,q3,q4⟩,-⟩:=own_cells B;obtain⟨d0,-⟩:=D.at_ (k:=0) rfl;obtain⟨f0,-⟩:=E.at_ (k:=0) rfl;have N1:=hid (Blk.new W #[.int .i64 0,.bool false,.bool false,.int .i64 0,.int .i64 0] 53);have NH:=hid (H.al (.cells #[.int .i64 0,.bool false,.bool false,.int .i64 0,.int .i64 0] 53));have G0:=hid ((zr W).al (.cells #[.int .i64 0,.bool false,.bool false,.int .i64 0,.int .i64 0] 53));clear hc B D E H;go_enter func195,ntmps195;go_wp2_with fail;refine (HC _).out.mono ?_;rintro e w1 ⟨rfl,g1⟩;have B1:=N1.out.gr g1;have H1:=NH.out.gr g1;obtain⟨⟨e0,e1,e2,e3,e4⟩,y0,y1,y2,y3,y4⟩:=own_cells B1;obtain⟨p0,z0⟩:=H1.at_ (k:=0) rfl;have C1:=(own_st B1 S T K R X).st (p:=⟨h,0,none⟩) (Ne.symm hne) (.bool v);have H2:=(own_far H1 hne S T K R X).set 0 (.bool v);have G2:=(((But.of (h:=h) (G0.out.trans g1)).own (g:=W.heap.size) (Nat.le_refl _) S T K R X).set 0 (.bool v));have C1:=hid C1;have H2:=hid H2;have G2:=hid G2;clear g1 B1 H1;go_upto_region 2 with fail;clear e0 e1 e2 e3 e4 y0 y1 y2 y3 y4 p0 z0 q0 q1 q2 q3 q4 d0 f0;generalize ((((((w1.setCell ⟨W.heap.size,0,none⟩ (.int .i64 S)).setCell ⟨W.heap.size,1,none⟩ (.bool T)).setCell ⟨W.heap.size,2,none⟩ (.bool K)).setCell ⟨W.heap.size,3,none⟩ (.int .i64 R)).setCell ⟨W.heap.size,4,none⟩ (.int .i64 X)).setCell ⟨h,0,none⟩ (.bool v))=W2 at C1 H2 G2 ⊢;obtain⟨⟨j0,j1,j2,j3,j4⟩,z0,z1,z2,z3,z4⟩:=own_cells C1.out;have C2:=own_st C1.out S T K R X;have HF:=hid (own_far H2.out hne S T K R X);have GF:=hid (G2.out.own (g:=W.heap.size) (Nat.le_refl _) S T K R X);obtain⟨⟨c0,c1,c2,c3,c4⟩,-⟩:=own_cells C2;clear C2;go_wp2_with fail;exact bodyPost_ret (v:=ov S T K R X) (by simp [results,results195,go_sem,c0,c1,c2,c3,c4]) rfl ⟨rfl,GF.out,HF.out⟩
def Laid (w W:World) (s:Int) (t k:Bool) (r o u x:Int):Prop :=
 Blk W w.heap.size #[.int .i64 s,.bool t,.bool k,.int .i64 r,.int .i64 o] 53/\Blk W (w.heap.size+1) #[.int .i64 u] 3/\Blk W (w.heap.size+1+1) #[.int .i64 x] 3 /\
 Blk W (w.heap.size+1+1+1) #[.int .i64 0,.bool false,.bool false,.int .i64 0,.int .i64 0] 53/\Blk W (w.heap.size+1+1+1+1) #[.bool false] 4/\Gr w W
theorem Laid.gr {W W':World} (h:Laid w W s t k r o u x) (g:Gr W W'):Laid w W' s t k r o u x :=
 ⟨h.1.gr g,h.2.1.gr g,h.2.2.1.gr g,h.2.2.2.1.gr g,h.2.2.2.2.1.gr g,h.2.2.2.2.2.trans g⟩
theorem Laid.mk (w:World) (s:Int) (t k:Bool) (r o u x:Int) :
 Laid w (((((w.alloc (.cells #[.int .i64 s,.bool t,.bool k,.int .i64 r,.int .i64 o] 53)).alloc (.cells #[.int .i64 u] 3)).alloc (.cells #[.int .i64 x] 3)).alloc (.cells #[.int .i64 0,.bool false,.bool false,.int .i64 0,.int .i64 0] 53)).alloc (.cells #[.bool false] 4)) s t k r o u x:=by
 have b0:=(((Blk.new w #[.int .i64 s,.bool t,.bool k,.int .i64 r,.int .i64 o] 53).al (.cells #[.int .i64 u] 3)).al (.cells #[.int .i64 x] 3)).al (.cells #[.int .i64 0,.bool false,.bool false,.int .i64 0,.int .i64 0] 53) |>.al (.cells #[.bool false] 4)
 have b1:=((Blk.new (w.alloc (.cells #[.int .i64 s,.bool t,.bool k,.int .i64 r,.int .i64 o] 53)) #[.int .i64 u] 3).al (.cells #[.int .i64 x] 3)).al (.cells #[.int .i64 0,.bool false,.bool false,.int .i64 0,.int .i64 0] 53) |>.al (.cells #[.bool false] 4)
 have b2:=(Blk.new ((w.alloc (.cells #[.int .i64 s,.bool t,.bool k,.int .i64 r,.int .i64 o] 53)).alloc (.cells #[.int .i64 u] 3)) #[.int .i64 x] 3).al (.cells #[.int .i64 0,.bool false,.bool false,.int .i64 0,.int .i64 0] 53) |>.al (.cells #[.bool false] 4)
 have b3:=(Blk.new (((w.alloc (.cells #[.int .i64 s,.bool t,.bool k,.int .i64 r,.int .i64 o] 53)).alloc (.cells #[.int .i64 u] 3)).alloc (.cells #[.int .i64 x] 3)) #[.int .i64 0,.bool false,.bool false,.int .i64 0,.int .i64 0] 53).al (.cells #[.bool false] 4);have b4:=Blk.new ((((w.alloc (.cells #[.int .i64 s,.bool t,.bool k,.int .i64 r,.int .i64 o] 53)).alloc (.cells #[.int .i64 u] 3)).alloc (.cells #[.int .i64 x] 3)).alloc (.cells #[.int .i64 0,.bool false,.bool false,.int .i64 0,.int .i64 0] 53)) #[.bool false] 4;rw [zsA] at b1;rw [zsA,zsA] at b2;rw [zsA,zsA,zsA] at b3;rw [zsA,zsA,zsA,zsA] at b4;exact⟨b0,b1,b2,b3,b4,(((((zr w).al _).al _).al _).al _).al _⟩
theorem Wake_ok (hc:∀ W,Calls prog 196 #[ov s t k r o,.int .i64 u,.int .i64 x] W λ e w'=>e=.returned (.tuple #[ov S T K R X,.bool v])/\Gr W w') :
 Calls prog 154 #[ov s t k r o,.int .i64 u,.int .i64 x] w λ e w'=>e=.returned (.tuple #[ov S T K R X,.bool v,.int .i64 0])/\Gr w w':=by
 have L0:=Laid.mk w s t k r o u x;have TT:=hid (toldX_ok (F:=195) (caps:=#[.pointer (some ⟨w.heap.size,0,none⟩),.pointer (some ⟨w.heap.size+1,0,none⟩),.pointer (some ⟨w.heap.size+1+1,0,none⟩),.pointer (some ⟨w.heap.size+1+1+1+1,0,none⟩)]) (w:=(((((w.alloc (.cells #[.int .i64 s,.bool t,.bool k,.int .i64 r,.int .i64 o] 53)).alloc (.cells #[.int .i64 u] 3)).alloc (.cells #[.int .i64 x] 3)).alloc (.cells #[.int .i64 0,.bool false,.bool false,.int .i64 0,.int .i64 0] 53)).alloc (.cells #[.bool false] 4))) (enters_of func195 (by kernel_rfl) rfl) S T K R X (h:=w.heap.size+1+1+1+1) L0.2.2.2.2.1.lt (λ W G=>Wake_cl (L0.gr G).1 (L0.gr G).2.1 (L0.gr G).2.2.1 (L0.gr G).2.2.2.2.1 hc));clear hc;have L0:=hid L0;have hmf:=mkF;go_enter func154,ntmps154;go_wp2_with fail;refine TT.out.mono ?_;rintro e w1 ⟨rfl,g1,H1⟩;have B3:=g1.blk L0.out.2.2.2.1 (by omega);have G:=hid (But.gr L0.out.2.2.2.2.2 g1 (by omega));have l3:=B3.lt;have l4:=H1.lt;obtain⟨⟨e0,e1,e2,e3,e4⟩,y0,y1,y2,y3,y4⟩:=own_cells B3;obtain⟨p0,-⟩:=H1.at_ (k:=0) rfl;have BF:=((own_st B3 S T K R X).al (.cells #[.int .i64 S,.bool T,.bool K,.int .i64 R,.int .i64 X] 53)).gr ((zr _).dr);have GF:=hid (((own_gr (g:=w.heap.size+1+1+1) G.out (by omega) S T K R X).al (.cells #[.int .i64 S,.bool T,.bool K,.int .i64 R,.int .i64 X] 53)).dr);obtain⟨⟨c0,c1,c2,c3,c4⟩,-⟩:=own_cells BF;clear BF B3 H1 g1 TT;go_wp2_with fail
 go_region
 go_wp2_with fail;exact bodyPost_ret (v:=.tuple #[ov S T K R X,.bool v,.int .i64 0]) (by simp [results,results154,go_sem,c0,c1,c2,c3,c4]) rfl ⟨rfl,GF.out⟩
end
end P14
end
section
namespace P16
open P14 (pan ov)
structure OwnR (c:Cl):Prop where
 sc:c.since=-1\/P4.Tm c.since
 rd:0<=c.rounds/\c.rounds<=4
 ol:OkW c.old
abbrev ovc (c:Cl):Value:=ov c.since c.st c.aw c.rounds c.old
section
variable {c:Cl} {now x u:Int} {W:World}
theorem OwnR.s (h:OwnR c):P14.OkS c.since c.rounds:=⟨h.sc,h.rd⟩
theorem OwnR.n (h:OwnR c):P14.OkN (wd c.old).n:=h.ol.n
theorem OwnR.o (h:OwnR c):c.old=P3.pw (wd c.old).L (wd c.old).K (wd c.old).S (wd c.old).n:=pw_un h.ol
theorem look_cl (h:OwnR c) (W:World):Calls prog 130 #[ovc c] W λ e w'=>e=.returned (P3.fl (wd c.old).L (wd c.old).K (wd c.old).S (wd c.old).n)/\Gr W w':=by
 have q:=P14.look_ok (s:=c.since) (r:=c.rounds) (t:=c.st) (k:=c.aw) (a:=(wd c.old).L) (b:=(wd c.old).K) (c:=(wd c.old).S) (n:=(wd c.old).n) (w:=W) h.s h.n;rw [<- h.o] at q;exact q
theorem Wakes_c (h:OwnR c) (W:World):Calls prog 178 #[ovc c] W λ e w'=>e=.returned (.tuple #[.bool (!c.aw&&!(wd c.old).K&&decide (0<(wd c.old).n)),.int .i64 0])/\Gr W w' :=
 P14.Wakes_ok (look_cl h)
theorem Got_c (h:OwnR c) (W:World):Calls prog 143 #[ovc c] W λ e w'=>e=.returned (.tuple #[.bool (!(wd c.old).L&&!(wd c.old).S),.int .i64 0])/\Gr W w' :=
 P14.Got_ok (look_cl h)
def goes (c:Cl) (u:Int):Bool:=decide ((wd c.old).L=true/\(wd c.old).S=false/\c.rounds<4/\1<u)
theorem Spins_c (h:OwnR c) (hu:0<=u) (W:World):Calls prog 138 #[ovc c,.int .i64 u] W λ e w'=>e=.returned (.tuple #[.bool (goes c u),.int .i64 0])/\Gr W w':=by
 have hr:=h.rd;have hng:¬ (c.rounds<0\/u<0):=by omega
 by_cases h4:c.rounds<4/\1<u
 . have e:goes c u=((wd c.old).L&&!(wd c.old).S):=by
    unfold goes;cases (wd c.old).L<;>cases (wd c.old).S<;>simp [h4.1,h4.2]
   rw [e];exact P14.SpinsB λ W g k B D=>P14.Spins_yes B D (look_cl h) λ W=>P6.Can_few hng h4.1 (by simp [h4.2]) W
 . have e:goes c u=false:=by
    unfold goes;exact decide_eq_false λ q=>h4 ⟨q.2.2.1,q.2.2.2⟩
   rw [e];refine P14.SpinsB λ W g k B D=>P14.Spins_no B D (look_cl h) λ W=>?_
   by_cases h5:c.rounds<4
   . exact P6.Can_few hng h5 (decide_eq_false λ q=>h4 ⟨h5,q⟩) W
   . exact P6.Can_many hng h5 W
theorem wanted_c (h:OwnR c) (hw:wants c=some x) (W:World):Calls prog 181 #[ovc c] W λ e w'=>e=.returned (.int .i64 x)/\Gr W w':=by
 have hn:=h.n;have ho:=h.o;unfold P14.OkN at hn;unfold wants at hw;dsimp only at hw;generalize wd c.old=o at *;obtain⟨L,K,S,n⟩:=o;dsimp only at *;have e:c.aw=true->K=true:=λ q=>by
  cases K
  . rw [if_pos ⟨q,rfl⟩] at hw;cases hw
  . rfl
 rw [if_neg (by rintro⟨q1,q2⟩;rw [e q1] at q2;cases q2)] at hw;have hm:P14.OkN (n+P14.more L S):=by
  unfold P14.OkN P14.more;by_cases hLS:(L||S)=true
  . rw [if_pos hLS]
    by_cases hb:268435456<=n+1
    . rw [if_pos ⟨by simpa using hLS,hb⟩] at hw;cases hw
    . omega
  . rw [if_neg hLS];omega
 rw [if_neg (by
  rintro⟨q1,q2⟩;unfold P14.OkN P14.more at hm;rw [if_pos (by simpa using q1)] at hm;omega)] at hw
 cases hw;have q:=P14.wanted_ok (s:=c.since) (t:=c.st) (k:=c.aw) (r:=c.rounds) (a:=L) (b:=K) (c:=S) (n:=n) (w:=W) h.s hn (by
  cases hk:c.aw
  . exact .inr rfl
  . exact .inl (e hk)) hm
 rw [<- ho] at q;have ex:P3.pw (L||!S) (K&&!c.aw) (S||(c.st&&L)) (n+P14.more L S)=un { L:=L||!S,K:=K&&!c.aw,S:=S||(c.st&&L),n:=if L=true\/S=true then n+1 else n }:=by
  rw [<- un_pw];congr 1;unfold P14.more;by_cases hLS:(L||S)=true
  . rw [if_pos hLS,if_pos (by simpa using hLS)]
  . rw [if_neg hLS,if_neg (by simpa using hLS)];exact Int.add_zero _
 rw [ex] at q;simpa using q
theorem Wants_c (h:OwnR c) (hw:wants c=some x) (W:World):Calls prog 142 #[ovc c] W λ e w'=>e=.returned (.tuple #[.int .i64 x,.int .i64 0])/\Gr W w' :=
 P14.Wants_ok (wanted_c h hw)
theorem wants_ok (h:OwnR c) (hw:wants c=some x):OkW x:=by
 have hn:=h.n;unfold P14.OkN at hn;unfold wants at hw;dsimp only at hw
 split at hw
 . cases hw
 split at hw
 . cases hw
 rename_i h1 h2;cases hw;by_cases hLS:((wd c.old).L||(wd c.old).S)=true
 . have hb:¬ 268435456<=(wd c.old).n+1:=λ q=>h2 ⟨by simpa using hLS,q⟩
   exact okW_un (by dsimp only;rw [if_pos hLS];omega) (by dsimp only;rw [if_pos hLS];omega)
 . exact okW_un (by dsimp only;rw [if_neg hLS];omega) (by dsimp only;rw [if_neg hLS];omega)
theorem Wants_x (h:OwnR c) (hw:wants c=none):∃ y:Int,(y==0)=false/\∀ W,Calls prog 142 #[ovc c] W λ e w'=>e=.returned (.tuple #[.int .i64 0,.int .i64 y])/\Gr W w':=by
 have hn:=h.n;have ho:=h.o;have hs:=h.s;unfold wants at hw;dsimp only at hw;generalize wd c.old=o at *;obtain⟨L,K,S,n⟩:=o;dsimp only at *;by_cases h1:c.aw=true/\K=false
 . obtain⟨q1,rfl⟩:=h1
   refine⟨12,by decide,λ W=>P14.Wants_no λ W=>?_⟩;have q:=P14.wanted_broken (s:=c.since) (t:=c.st) (r:=c.rounds) (a:=L) (c:=S) (n:=n) (w:=W) hs hn;rw [<- ho] at q;show Calls prog 181 #[ov c.since c.st c.aw c.rounds c.old] W _;rw [q1];exact q
 . rw [if_neg h1] at hw
   by_cases h2:(L=true\/S=true)/\268435456<=n+1
   . refine⟨10,by decide,λ W=>P14.Wants_no λ W=>?_⟩
     have q:=P14.wanted_over (s:=c.since) (t:=c.st) (k:=c.aw) (r:=c.rounds) (a:=L) (b:=K) (c:=S) (n:=n) (w:=W) hs hn (by
      cases hk:c.aw
      . exact .inr rfl
      . left
        cases K
        . exact absurd ⟨hk,rfl⟩ h1
        . rfl) (by simpa using h2.1) (by have:=h2.2;unfold P14.OkN;omega)
     rw [<- ho] at q;exact q
   . rw [if_neg h2] at hw
     cases hw
theorem Sleep_c (h:OwnR c) (hu:P4.Tm now) (W:World):Calls prog 145 #[ovc c,.int .i64 now] W λ e w'=>e=.returned (.tuple #[ov (if c.since=-1 then now else c.since) c.st c.aw c.rounds c.old,.bool (!decide (c.since=-1)),.int .i64 0])/\Gr W w':=by
 have q:=P14.Sleep_ok (s:=c.since) (t:=c.st) (k:=c.aw) (r:=c.rounds) (o:=c.old) (u:=now) (S:=P14.snc c.since now) (w:=W) λ W=>by
  have q:=P14.asleep_ok (s:=c.since) (t:=c.st) (k:=c.aw) (r:=c.rounds) (u:=now) (a:=(wd c.old).L) (b:=(wd c.old).K) (c:=(wd c.old).S) (n:=(wd c.old).n) (w:=W) h.s h.n hu;rw [<- h.o] at q;exact q
 have e:decide (P14.snc c.since now=c.since)=!decide (c.since=-1):=by
  unfold P14.snc;unfold P4.Tm at hu;by_cases hs:c.since=-1
  . rw [if_pos hs];simp [hs];omega
  . rw [if_neg hs];simp [hs]
 rw [e] at q;exact q
theorem Wake_h (h:OwnR c) (hu:P4.Tm now) (hx:OkW x) (hS:(wd x).S=true) (W:World):Calls prog 154 #[ovc c,.int .i64 now,.int .i64 x] W λ e w'=>e=.returned (.tuple #[ov c.since (c.st||late c.since now) c.aw c.rounds x,.bool true,.int .i64 0])/\Gr W w' :=
 P14.Wake_ok λ W=>by
  have e:=pw_un hx;rw [hS] at e;have q:=P14.woken_handed (s:=c.since) (t:=c.st) (k:=c.aw) (r:=c.rounds) (o:=c.old) (u:=now) (a:=(wd x).L) (b:=(wd x).K) (n:=(wd x).n) (w:=W) h.s h.ol hu hx.n (T:=c.st||late c.since now) rfl;rw [<- e] at q;exact q
theorem Wake_b (h:OwnR c) (hu:P4.Tm now) (hx:OkW x) (hS:(wd x).S=false) (W:World):Calls prog 154 #[ovc c,.int .i64 now,.int .i64 x] W λ e w'=>e=.returned (.tuple #[ov c.since (c.st||late c.since now) true 0 x,.bool false,.int .i64 0])/\Gr W w' :=
 P14.Wake_ok λ W=>by
  have e:=pw_un hx;rw [hS] at e;have q:=P14.woken_back (s:=c.since) (t:=c.st) (k:=c.aw) (r:=c.rounds) (o:=c.old) (u:=now) (a:=(wd x).L) (b:=(wd x).K) (n:=(wd x).n) (w:=W) h.s h.ol hu hx.n (T:=c.st||late c.since now) rfl;rw [<- e] at q;exact q
theorem Handed_c (h:OwnR c) (hd:hands c=some x) (W:World):Calls prog 155 #[ovc c] W λ e w'=>e=.returned (.tuple #[.int .i64 x,.int .i64 0])/\Gr W w' :=
 P14.Handed_ok λ W=>by
  have hn:=h.n;have ho:=h.o;unfold hands at hd;dsimp only at hd;generalize wd c.old=o at *;obtain⟨L,K,S,n⟩:=o;dsimp only at *
  split at hd
  . cases hd
  . rename_i hb
    have hL:L=false:=by cases L;rfl;exact absurd (.inl rfl) hb
    have hK:K=false:=by cases K;rfl;exact absurd (.inr (.inl rfl)) hb
    have h0:0<n:=by
     have:n≠0:=λ q=>hb (.inr (.inr q))
     have:=hn.1;omega
    subst hL hK;cases hd;have q:=P14.taken_ok (s:=c.since) (t:=c.st) (k:=c.aw) (r:=c.rounds) (c:=S) (n:=n) (w:=W) h.s hn h0;rw [<- ho] at q;exact q
theorem Handed_x (h:OwnR c) (hd:hands c=none) (W:World):Calls prog 155 #[ovc c] W λ e w'=>e=.returned (.tuple #[.int .i64 0,.int .i64 12])/\Gr W w' :=
 P14.Handed_no λ W=>by
  have hn:=h.n;have ho:=h.o;unfold hands at hd;dsimp only at hd;generalize wd c.old=o at *;obtain⟨L,K,S,n⟩:=o;dsimp only at *
  split at hd
  . rename_i hb
    have q:=P14.taken_broken (s:=c.since) (t:=c.st) (k:=c.aw) (r:=c.rounds) (a:=L) (b:=K) (c:=S) (n:=n) (w:=W) h.s hn (by
     rintro⟨rfl,rfl,q⟩;rcases hb with q1 | q1 | q1
     . cases q1
     . cases q1
     . omega)
    rw [<- ho] at q;exact q
  . cases hd
end
end P16
end
section
namespace P16
open P14 (pan)
open P12 (PV PMem)
section
variable {x:Cx} {W:World} {T E:Sl} {cl:List Cl} {mx:List T3} {tb:List Sp} {ev:List T3} {c:Cl} {a:T3} {pr:List Ac}
theorem gives_none {v:Int} {W:World} (hk:OkW v) (hg:P15.Glob W) (hn:¬ ((wd v).L=false/\(wd v).K=false/\(wd v).S=false/\(wd v).n≠0)):Calls prog 159 #[.int .i64 v] W λ e w'=>e=.returned (.tuple #[.bool false,.int .i64 0,.int .i64 0])/\Gr W w':=by
 have q:=P15.Wakes_none (a:=(wd v).L) (b:=(wd v).K) (c:=(wd v).S) (n:=(wd v).n) (w:=W) hg hk.n (by
  by_cases h:(wd v).n=0
  . exact .inl h
  . right
    unfold P15.st;cases hL:(wd v).L
    . cases hS:(wd v).S
      . cases hK:(wd v).K
        . exact absurd ⟨hL,hK,hS,h⟩ hn
        . simp
      . simp
    . simp)
 rw [<- pw_un hk] at q;exact q
theorem gives_yes {v:Int} {W:World} (hk:OkW v) (hg:P15.Glob W) (h1:(wd v).L=false) (h2:(wd v).K=false) (h3:(wd v).S=false) (hn:(wd v).n≠0):Calls prog 159 #[.int .i64 v] W λ e w'=>e=.returned (.tuple #[.bool true,.int .i64 (un { L:=false,K:=true,S:=false,n:=(wd v).n-1 }),.int .i64 0])/\Gr W w':=by
 have e:=pw_un hk;rw [h1,h2,h3] at e;have:=hk.n;have q:=P15.Wakes_yes (n:=(wd v).n) (w:=W) hg hk.n (by omega) (m:=(wd v).n-1) rfl;rw [<- e] at q;exact q
theorem give_none (h:TS x W T E cl mx tb ev) (hg:P15.Glob W) (hR:Rn x cl c pr) (hk:OkW c.old) (hn:¬ ((wd c.old).L=false/\(wd c.old).K=false/\(wd c.old).S=false/\(wd c.old).n≠0)) :
 Calls prog 111 #[.pointer (some ⟨x.b,0,none⟩)] W λ e W'=>e=.returned (.tuple #[])/\TS x W' T E (cl.set x.who.toNat (over c pr.length)) mx tb ev/\Kx x W W':=by
 have hc:=hR.hc;have C:=hid (gives_none hk hg hn);have H:=hid h;obtain⟨-,-,-,-,-,-,-,c7,-,-,-,-⟩:=h.cells;obtain⟨-,-,-,-,-,-,-,-,-,-,-,-,s12,-⟩:=h.cl_ hc;clear h hk hn;go_enter func111,ntmps111;go_wp2_with fail;refine C.out.mono ?_;rintro e w2 ⟨rfl,g2⟩;have G2:=hid g2;have ho:=hid (over_is (H.out.gr g2) hR);clear g2;go_wp2_with fail;refine (bothBI_yes _ _ _).mono ?_;rintro e w3 ⟨rfl,rfl⟩;go_wp2_with fail;refine ho.out.mono ?_;rintro e w4 ⟨rfl,h4,k4⟩;have H4:=hid h4;have K4:=hid k4;clear h4 k4;go_wp2_with fail
 (first | go_end0 | ((try simp only [Exit.inBlock,Exit.then]);refine bodyPost_ret (results_none rfl _ _ _) rfl ?_))
 exact⟨rfl,H4.out,(Kx.gr G2.out).trans K4.out⟩
theorem give_yes (h:TS x W T E cl mx tb ev) (hg:P15.Glob W) (hR:Rn x cl c pr) (h0:0<=x.n) (h4:x.n<4) (ha:mx[x.n.toNat]?=some a) (hk:OkW c.old) (k1:(wd c.old).L=false) (k2:(wd c.old).K=false) (k3:(wd c.old).S=false) (kn:(wd c.old).n≠0) (hne:(a.1==c.old)=true) :
 Calls prog 111 #[.pointer (some ⟨x.b,0,none⟩)] W λ e W'=>e=.returned (.tuple #[])/\TS x W' T E (cl.set x.who.toNat { c with pc:=12 }) (mx.set x.n.toNat (un { L:=false,K:=true,S:=false,n:=(wd c.old).n-1 },a.2)) tb ev/\Kx x W W':=by
 have hc:=hR.hc;have hn:=hk.n;have C:=hid (gives_yes hk hg k1 k2 k3 kn);have hw:OkW (un { L:=false,K:=true,S:=false,n:=(wd c.old).n-1 }):=okW_un (by dsimp only;omega) (by dsimp only;omega);generalize un { L:=false,K:=true,S:=false,n:=(wd c.old).n-1 }=v at C hw ⊢;have H:=hid h;obtain⟨-,-,-,-,-,-,-,c7,-,-,-,-⟩:=h.cells;obtain⟨-,-,-,-,-,-,-,-,-,-,-,-,s12,-⟩:=h.cl_ hc;clear h k1 k2 k3 kn hn hk;go_enter func111,ntmps111;go_wp2_with fail;refine C.out.mono ?_;rintro e w2 ⟨rfl,g2⟩;have G2:=hid g2;have hs:=hid (swaps_yes (H.out.gr g2) h0 h4 ha hc hne hw);clear g2 c7 s12;go_wp2_with fail;refine (bothBI_yes _ _ _).mono ?_;rintro e w3 ⟨rfl,rfl⟩;go_wp2_with fail;refine hs.out.mono ?_;rintro e w4 ⟨rfl,h9,k9⟩;have K9:=hid k9;clear k9;have hc9:=hc;have H9:=hid h9;obtain⟨-,-,-,-,-,-,-,q7,-,-,-,-⟩:=h9.cells;obtain⟨-,-,-,r3,-,-,-,-,-,-,-,-,-,sz⟩:=h9.cl_ hc9;have y3:=sz 3 (by decide);clear sz;clear h9;go_wp2_with fail
 (first | go_end0 | ((try simp only [Exit.inBlock,Exit.then]);refine bodyPost_ret (results_none rfl _ _ _) rfl ?_))
 exact⟨rfl,H9.out.putPc hc ⟨by omega,by omega⟩,((Kx.gr G2.out).trans K9.out).trans (Kx.st (.inr (.inl rfl)) _)⟩
theorem give_no (h:TS x W T E cl mx tb ev) (hg:P15.Glob W) (hR:Rn x cl c pr) (h0:0<=x.n) (h4:x.n<4) (ha:mx[x.n.toNat]?=some a) (hk:OkW c.old) (k1:(wd c.old).L=false) (k2:(wd c.old).K=false) (k3:(wd c.old).S=false) (kn:(wd c.old).n≠0) (hne:(a.1==c.old)=false) :
 Calls prog 111 #[.pointer (some ⟨x.b,0,none⟩)] W λ e W'=>e=.returned (.tuple #[])/\TS x W' T E (cl.set x.who.toNat { c with pc:=11 }) mx tb ev/\Kx x W W':=by
 have hc:=hR.hc;have hn:=hk.n;have C:=hid (gives_yes hk hg k1 k2 k3 kn);have hw:OkW (un { L:=false,K:=true,S:=false,n:=(wd c.old).n-1 }):=okW_un (by dsimp only;omega) (by dsimp only;omega);generalize un { L:=false,K:=true,S:=false,n:=(wd c.old).n-1 }=v at C hw ⊢;have H:=hid h;obtain⟨-,-,-,-,-,-,-,c7,-,-,-,-⟩:=h.cells;obtain⟨-,-,-,-,-,-,-,-,-,-,-,-,s12,-⟩:=h.cl_ hc;clear h k1 k2 k3 kn hn hk;go_enter func111,ntmps111;go_wp2_with fail;refine C.out.mono ?_;rintro e w2 ⟨rfl,g2⟩;have G2:=hid g2;have hs:=hid (swaps_no (H.out.gr g2) h0 h4 ha hc hne v);clear g2 c7 s12;go_wp2_with fail;refine (bothBI_yes _ _ _).mono ?_;rintro e w3 ⟨rfl,rfl⟩;go_wp2_with fail;refine hs.out.mono ?_;rintro e w4 ⟨rfl,d,rfl⟩;have h9:=(H.out.gr G2.out).gr ((zr _).drN d);have k9:Kx x _ _:=Kx.gr ((zr w3).drN d);have K9:=hid k9;clear k9;have hc9:=hc;have H9:=hid h9;obtain⟨-,-,-,-,-,-,-,q7,-,-,-,-⟩:=h9.cells;obtain⟨-,-,-,r3,-,-,-,-,-,-,-,-,-,sz⟩:=h9.cl_ hc9;have y3:=sz 3 (by decide);clear sz;clear h9;go_wp2_with fail
 (first | go_end0 | ((try simp only [Exit.inBlock,Exit.then]);refine bodyPost_ret (results_none rfl _ _ _) rfl ?_))
 exact⟨rfl,H9.out.putPc hc ⟨by omega,by omega⟩,((Kx.gr G2.out).trans K9.out).trans (Kx.st (.inr (.inl rfl)) _)⟩
theorem await_yes (h:TS x W T E cl mx tb ev) (hR:Rn x cl c pr) (h0:0<=x.n) (h4:x.n<4) (ha:mx[x.n.toNat]?=some a) (hn:0<=a.2.1/\a.2.1<4294967296) (hs:0<=a.2.2/\a.2.2<4294967296) (ht:(c.ticket==a.2.2)=true) (hp:0<=c.pc/\c.pc<=100) :
 Calls prog 103 #[.pointer (some ⟨x.b,0,none⟩)] W λ e W'=>e=.returned (.tuple #[])/\TS x W' T E (cl.set x.who.toNat { c with pc:=c.pc+1 }) mx tb ev/\Kx x W W':=by
 have hc:=hR.hc;have cm:=λ W' (g:Gr W W')=>hid (mutex_is (h.gr g) h0 h4)
 have ct:=λ W=>hid (P6.Turn_is (n:=a.2.1) (s:=a.2.2) (m:=c.ticket) (v:=true) (q:=0) (.inl ⟨P6.tk_ok hn hs,ht,rfl⟩) ⟨by omega,by omega⟩ ⟨by omega,by omega⟩ W)
 have H:=hid h;obtain⟨-,-,-,-,-,-,-,c7,-,-,-,-⟩:=h.cells;obtain⟨-,-,-,-,-,s5,-,-,-,-,-,-,-,-⟩:=h.cl_ hc;obtain⟨-,m1,m2,-⟩:=h.mx_ ha;clear h hn hs ht;go_enter func103,ntmps103;go_upto_region 0 with fail
 go_region_held3 (λ w'=>w'.cell? ⟨x.b,7,none⟩=some (.pointer (some ⟨x.bc,x.oc+x.who.toNat*13,none⟩))/\w'.cell? ⟨x.bc,x.oc+x.who.toNat*13+5,none⟩=some (.int .i64 c.ticket)/\w'.cell? ⟨x.bm,x.om+x.n.toNat*3+1,none⟩=some (.int .i64 a.2.1)/\w'.cell? ⟨x.bm,x.om+x.n.toNat*3+2,none⟩=some (.int .i64 a.2.2)) (first | exact⟨c7,s5,m1,m2⟩ | exact⟨q7,r5,u1,u2⟩) (first | (go_at_call 132;(refine (cm _ ((zr W).dr)).out.mono ?_);rintro ee w2 ⟨rfl,d,rfl⟩) | (go_at_call 148;(refine (ct _).out.mono ?_);rintro ee w3 ⟨rfl,g3⟩;have G3:=hid (((zr W).drN (1+d)).trans g3);have h3:=H.out.gr G3.out;obtain⟨-,-,-,-,-,-,-,q7,-,-,-,-⟩:=h3.cells;obtain⟨-,-,-,-,-,r5,-,-,-,-,-,-,-,-⟩:=h3.cl_ hc;obtain⟨-,u1,u2,-⟩:=h3.mx_ ha;clear g3 h3) | (go_at_call 137;(refine (sureB_yes _ _).mono ?_);rintro ee w4 ⟨rfl,rfl⟩))
 rename_i hh;clear hh c7 s5 m1 m2 q7 r5 u1 u2;have h9:=H.out.gr G3.out;have hc9:=hc;have H9:=hid h9;obtain⟨-,-,-,-,-,-,-,q7,-,-,-,-⟩:=h9.cells;obtain⟨-,-,-,r3,-,-,-,-,-,-,-,-,-,sz⟩:=h9.cl_ hc9;have y3:=sz 3 (by decide);clear sz;clear h9;go_wp2_with fail
 (first | go_end0 | ((try simp only [Exit.inBlock,Exit.then]);refine bodyPost_ret (results_none rfl _ _ _) rfl ?_))
 exact⟨rfl,H9.out.putPc hc ⟨by omega,by omega⟩,(Kx.gr G3.out).trans (Kx.st (.inr (.inl rfl)) _)⟩
theorem await_no (h:TS x W T E cl mx tb ev) (hR:Rn x cl c pr) (h0:0<=x.n) (h4:x.n<4) (ha:mx[x.n.toNat]?=some a) (hn:0<=a.2.1/\a.2.1<4294967296) (hs:0<=a.2.2/\a.2.2<4294967296) (ht:(c.ticket==a.2.2)=false) (hp:0<=c.pc/\c.pc<=100) :
 Calls prog 103 #[.pointer (some ⟨x.b,0,none⟩)] W λ e W'=>e=.returned (.tuple #[])/\TS x W' T E cl mx tb ev/\Kx x W W':=by
 have hc:=hR.hc;have cm:=λ W' (g:Gr W W')=>hid (mutex_is (h.gr g) h0 h4)
 have ct:=λ W=>hid (P6.Turn_is (n:=a.2.1) (s:=a.2.2) (m:=c.ticket) (v:=false) (q:=0) (.inl ⟨P6.tk_ok hn hs,ht,rfl⟩) ⟨by omega,by omega⟩ ⟨by omega,by omega⟩ W)
 have H:=hid h;obtain⟨-,-,-,-,-,-,-,c7,-,-,-,-⟩:=h.cells;obtain⟨-,-,-,-,-,s5,-,-,-,-,-,-,-,-⟩:=h.cl_ hc;obtain⟨-,m1,m2,-⟩:=h.mx_ ha;clear h hn hs ht;go_enter func103,ntmps103;go_upto_region 0 with fail
 go_region_held3 (λ w'=>w'.cell? ⟨x.b,7,none⟩=some (.pointer (some ⟨x.bc,x.oc+x.who.toNat*13,none⟩))/\w'.cell? ⟨x.bc,x.oc+x.who.toNat*13+5,none⟩=some (.int .i64 c.ticket)/\w'.cell? ⟨x.bm,x.om+x.n.toNat*3+1,none⟩=some (.int .i64 a.2.1)/\w'.cell? ⟨x.bm,x.om+x.n.toNat*3+2,none⟩=some (.int .i64 a.2.2)) (first | exact⟨c7,s5,m1,m2⟩ | exact⟨q7,r5,u1,u2⟩) (first | (go_at_call 132;(refine (cm _ ((zr W).dr)).out.mono ?_);rintro ee w2 ⟨rfl,d,rfl⟩) | (go_at_call 148;(refine (ct _).out.mono ?_);rintro ee w3 ⟨rfl,g3⟩;have G3:=hid (((zr W).drN (1+d)).trans g3);have h3:=H.out.gr G3.out;obtain⟨-,-,-,-,-,-,-,q7,-,-,-,-⟩:=h3.cells;obtain⟨-,-,-,-,-,r5,-,-,-,-,-,-,-,-⟩:=h3.cl_ hc;obtain⟨-,u1,u2,-⟩:=h3.mx_ ha;clear g3 h3) | (go_at_call 137;(refine (sureB_yes _ _).mono ?_);rintro ee w4 ⟨rfl,rfl⟩))
 rename_i hh;clear hh c7 s5 m1 m2 q7 r5 u1 u2;go_wp2_with fail
 (first | go_end0 | ((try simp only [Exit.inBlock,Exit.then]);refine bodyPost_ret (results_none rfl _ _ _) rfl ?_))
 exact⟨rfl,H.out.gr G3.out,Kx.gr G3.out⟩
theorem withG_rn (h:Rn x cl c pr) (g:P11.G):(cl.set x.who.toNat (withG c g))[x.who.toNat]?=some (withG c g):=by rw [zss (List.getElem?_eq_some_iff.1 h.hc).1]
theorem sleep_bad (h:TS x W T E cl mx tb ev) (h0:0<=x.n) (h4:x.n<4) (ha:mx[x.n.toNat]?=some a) (hn:0<=a.2.1/\a.2.1<4294967296) (hs:0<=a.2.2/\a.2.2<4294967296) (ho:(a.2.1-a.2.2) % 4294967296=0) :
 Calls prog 105 #[.pointer (some ⟨x.b,0,none⟩)] W λ e W'=>e=.panicked (pan 12)/\Kx x W W':=by
 have cs:=hid (serve_no h h0 h4 ha hn hs ho);clear h ho hn hs;go_enter func105,ntmps105;go_wp2_with fail;refine cs.out.mono ?_;rintro e w1 ⟨rfl,k1⟩;go_wp2_with fail;exact bodyPost_pan rfl ⟨rfl,k1⟩
theorem sleep_told (h:TS x W T E cl mx tb ev) (hR:Rn x cl c pr) (h0:0<=x.n) (h4:x.n<4) (ha:mx[x.n.toNat]?=some a) (hn:0<=a.2.1/\a.2.1<4294967296) (hs:0<=a.2.2/\a.2.2<4294967296) (ho:(a.2.1-a.2.2) % 4294967296≠0) (ht:c.told=true) :
 Calls prog 105 #[.pointer (some ⟨x.b,0,none⟩)] W λ e W'=>e=.returned (.tuple #[])/\TS x W' T E (cl.set x.who.toNat { c with pc:=7 }) (mx.set x.n.toNat (a.1,a.2.1,(a.2.2+1) % 4294967296)) tb ev/\Kx x W W':=by
 have hc:=hR.hc;have cs:=hid (serve_yes h h0 h4 ha hn hs ho);clear h ho hn hs;go_enter func105,ntmps105;go_wp2_with fail;refine cs.out.mono ?_;rintro e w1 ⟨rfl,h1,k1⟩;have K1:=hid k1;have H1:=hid h1;obtain⟨-,-,-,-,-,-,-,c7,-,-,-,-⟩:=h1.cells;obtain⟨-,-,-,s3,-,-,-,s7,-,-,-,-,-,sz⟩:=h1.cl_ hc;have y3:=sz 3 (by decide);clear sz;rw [ht] at s7;clear h1 k1;go_wp2_with fail
 (first | go_end0 | ((try simp only [Exit.inBlock,Exit.then]);refine bodyPost_ret (results_none rfl _ _ _) rfl ?_))
 exact⟨rfl,H1.out.putPc hc ⟨by omega,by omega⟩,K1.out.trans (Kx.st (.inr (.inl rfl)) _)⟩
theorem sleep_park (h:TS x W T E cl mx tb ev) (hR:Rn x cl c pr) (h0:0<=x.n) (h4:x.n<4) (ha:mx[x.n.toNat]?=some a) (hn:0<=a.2.1/\a.2.1<4294967296) (hs:0<=a.2.2/\a.2.2<4294967296) (ho:(a.2.1-a.2.2) % 4294967296≠0) (ht:c.told=false) :
 Calls prog 105 #[.pointer (some ⟨x.b,0,none⟩)] W λ e W'=>e=.returned (.tuple #[])/\TS x W' T E (cl.set x.who.toNat { withG c (if c.permit then 0 else 1,false) with pc:=7 }) (mx.set x.n.toNat (a.1,a.2.1,(a.2.2+1) % 4294967296)) tb ev/\Kx x W W':=by
 have hc:=hR.hc;have cs:=hid (serve_yes h h0 h4 ha hn hs ho);clear h ho hn hs;obtain⟨g,hg⟩:∃ g:P11.G,(if c.permit then (0:Int) else 1,false)=g:=⟨_,rfl⟩;rw [hg];have bg:B64 g.1:=by rw [<- hg];dsimp only;split<;>exact⟨by omega,by omega⟩
 go_enter func105,ntmps105;go_wp2_with fail;refine cs.out.mono ?_;rintro e w1 ⟨rfl,h1,k1⟩;have K1:=hid k1;have H1:=hid h1;obtain⟨-,-,c2,-,-,-,c6,c7,-,-,-,-⟩:=h1.cells;obtain⟨-,-,-,-,-,-,-,s7,-,-,-,-,-,-⟩:=h1.cl_ hc;rw [ht] at s7;have E4:P11.outc P11.pkG (cl.map gor) x.who=(0,(cl.map gor).set x.who.toNat g):=by
  have q:=P11.outc_at (p:=P11.pkG) (k:=x.who.toNat) (x:=gor c) hR.rg (by rw [List.getElem?_map,hc];rfl);rw [Int.toNat_of_nonneg h1.w0] at q;have e:P11.pkG (gor c)=(0,g):=by unfold P11.pkG;rw [if_pos (show (gor c).1=0 from hR.g0),<- hg];rfl
  simpa [e] using q
 have hcg:=λ W' (g':Gr w1 W')=>hid (changeGor_yes (W:=W') (who:=x.who) (enters_of func153 (by kernel_rfl) rfl) (p:=0) (h1.gr g').cells.2.2.1 h1.n1 (h1.gr g').c h1.lenc (by have:=hR.nc;omega) h1.cb hc (λ W A m d hm he=>P11.Park_at (by have:=hR.nc;have:=h1.lenc;omega) E4 (by rw [List.length_set,List.length_map];exact h1.lenc) W hm))
 clear h1 k1 E4 hg;go_upto_region 2 with fail;refine wp_region_held_drew (S:=(λ w'=>w'.cell? ⟨x.b,6,none⟩=some (.int .i64 x.who))) (by kernel_rfl) c6 (λ hS=>?_);refine wG 0 hS ?_;refine wG 1 hS ?_;refine wG 2 hS ?_;refine wG 3 hS ?_;refine wG 4 hS ?_;refine wG 5 hS ?_;refine wG 6 hS ?_;refine wR1 7 (λ K hK=>?_);go_simp;go_at_call 64;refine (hcg _ (zr w1).dr).out.mono ?_;rintro ee w2 ⟨rfl,o2,k2⟩;go_wp2_with fail;have h2:=(H1.out.gr (zr w1).dr).ko k2 o2 (List.length_set ..) (λ d hd=>(List.mem_or_eq_of_mem_set hd).elim (H1.out.cb d) (λ e=>e▸{ H1.out.cb c (zmo hc) with gst:=bg }));have d6:=h2.cells.2.2.2.2.2.2.1;refine hK.out _ _ d6 (λ hS=>?_);clear hK K
 try simp only [pL]
 refine wpAnyH_done (by kernel_rfl) ?_ _;have K2:=hid (((K1.out).trans (Kx.gr (zr w1).dr)).trans k2.kx);clear hS d6 o2 k2 c2 c6 c7 s7;have h9:=h2;clear h2;have hc9:=withG_rn hR g;have H9:=hid h9;obtain⟨-,-,-,-,-,-,-,q7,-,-,-,-⟩:=h9.cells;obtain⟨-,-,-,r3,-,-,-,-,-,-,-,-,-,sz⟩:=h9.cl_ hc9;have y3:=sz 3 (by decide);clear sz;clear h9;go_wp2_with fail
 (first | go_end0 | ((try simp only [Exit.inBlock,Exit.then]);refine bodyPost_ret (results_none rfl _ _ _) rfl ?_))
 have h3:=H9.out.putPc hc9 (v:=7) ⟨by omega,by omega⟩;rw [List.set_set] at h3;exact⟨rfl,h3,K2.out.trans (Kx.st (.inr (.inl rfl)) _)⟩
end
end P16
end
section
namespace P16
open P14 (pan)
open P12 (PV PMem)
section
variable {x:Cx} {W:World} {T E:Sl} {cl:List Cl} {mx:List T3} {tb:List Sp} {ev:List T3} {c:Cl} {a:T3} {pr:List Ac}
theorem draw_yes (h:TS x W T E cl mx tb ev) (hR:Rn x cl c pr) (h0:0<=x.n) (h4:x.n<4) (ha:mx[x.n.toNat]?=some a) (hn:0<=a.2.1/\a.2.1<4294967296) (hs:0<=a.2.2/\a.2.2<4294967296) (ho:(a.2.1-a.2.2) % 4294967296≠4294967295) (hp:0<=c.pc/\c.pc<=100) :
 Calls prog 102 #[.pointer (some ⟨x.b,0,none⟩)] W λ e W'=>e=.returned (.tuple #[])/\TS x W' T E (cl.set x.who.toNat { c with ticket:=a.2.1,pc:=c.pc+1 }) (mx.set x.n.toNat (a.1,(a.2.1+1) % 4294967296,a.2.2)) tb ev/\Kx x W W':=by
 have hc:=hR.hc;have cd:=λ W=>hid (P6.Draw_yes (P6.tk_ok hn hs) (by rw [P6.tk_out hn hs];exact ho) (P6.tk_up hn) ⟨by omega,by omega⟩ ⟨by omega,by omega⟩ W)
 have bt:B64 a.2.1:=⟨by omega,by omega⟩;have bs:B64 a.2.2:=⟨by omega,by omega⟩;have bu:B64 ((a.2.1+1) % 4294967296):=⟨by omega,by omega⟩;obtain⟨u,hu⟩:∃ u,(a.2.1+1) % 4294967296=u:=⟨_,rfl⟩;rw [hu] at cd bu ⊢;have CBc:=h.cb c (zmo hc);have bp:B64 (c.pc+1):=⟨by omega,by omega⟩;clear hu ho hn hs;go_enter func102,ntmps102;go_wp2_with fail;refine (mutex_is h h0 h4).mono ?_;rintro e w1 ⟨rfl,d,rfl⟩;have H1:=hid (h.gr ((zr W).drN d));have K1:Hid (Kx x W _):=hid (Kx.gr ((zr W).drN d));generalize W.drewN d=w1 at H1 K1 ⊢;have h1:=H1.out;obtain⟨-,-,-,-,-,-,-,c7,-,-,-,-⟩:=h1.cells;obtain⟨-,m1,m2,-⟩:=h1.mx_ ha;clear h h1;go_upto_region 1 with fail;refine wp_region_held_drew (S:=(λ w'=>w'.cell? ⟨x.b,7,none⟩=some (.pointer (some ⟨x.bc,x.oc+x.who.toNat*13,none⟩)))) (by kernel_rfl) c7 (λ hS=>?_);refine wG 0 hS ?_;refine wG 1 hS ?_;refine wG 2 hS ?_;refine wG 3 hS ?_;refine wG 4 hS ?_;refine wG 5 hS ?_;refine wG 6 hS ?_;refine wG 7 hS ?_;refine wR1 8 (λ K hK=>?_);go_simp;refine hK.out _ _ c7 (λ hS=>?_);clear hK K
 try simp only [pL]
 refine wR1 9 (λ K hK=>?_);go_simp;go_at_call 147;refine (cd _).out.mono ?_;rintro ee w2 ⟨rfl,g2⟩;go_wp2_with fail;have G2:=hid ((zr w1).dr.trans g2);have d7:=(H1.out.gr G2.out).cells.2.2.2.2.2.2.2.1;clear g2;refine hK.out _ _ d7 (λ hS=>?_);clear hK K
 try simp only [pL]
 refine wG 10 hS ?_;refine wG 11 hS ?_;refine wG 12 hS ?_;refine wR1 13 (λ K hK=>?_);go_simp;go_at_call 146;refine (bothTI_yes _ _ _ _).mono ?_;rintro ee w3 ⟨rfl,g3⟩;go_wp2_with fail;have G3:=hid (G2.out.trans g3);have h3:=H1.out.gr G3.out;obtain⟨-,-,-,-,-,-,-,e7,-,-,-,-⟩:=h3.cells;obtain⟨-,f1,f2,mz⟩:=h3.mx_ ha;have x1:=mz 1 (by decide);have x2:=mz 2 (by decide);clear mz;obtain⟨-,-,-,s3,-,s5,-,-,-,-,-,-,-,sz⟩:=h3.cl_ hc;have y5:=sz 5 (by decide);have y3:=sz 3 (by decide);clear sz;clear g3 h3 d7;refine hK.out _ _ e7 (λ hS=>?_);clear hK K
 try simp only [pL]
 refine wG 14 hS ?_;refine wG 15 hS ?_;refine wG 16 hS ?_;refine wG 17 hS ?_;refine wG 18 hS ?_;refine wR1 19 (λ K hK=>?_);go_simp;have h4':=(H1.out.gr G3.out).putL ha (u:=u) (v:=a.2.2) bu bs;have i7:=h4'.cells.2.2.2.2.2.2.2.1;have H4:=hid h4';have n3:=h4'.n3;have n3':=h4'.n3.symm;clear h4';refine hK.out _ _ i7 (λ hS=>?_);clear hK K
 try simp only [pL]
 refine wG 20 hS ?_;refine wG 21 hS ?_;refine wR1 22 (λ K hK=>?_);go_simp;have h5:=H4.out.putC hc 5 (.int .i64 a.2.1) { c with ticket:=a.2.1 } rfl (by decide) { CBc with ticket:=bt };have j7:=h5.cells.2.2.2.2.2.2.2.1;have H5:=hid h5;clear h5;refine hK.out _ _ j7 (λ hS=>?_);clear hK K
 try simp only [pL]
 refine wpAnyH_done (by kernel_rfl) ?_ _;have H6:Hid (TS x (((w3.setCell ⟨x.bm,x.om+x.n.toNat*3+1,none⟩ (.int .i64 u)).setCell ⟨x.bm,x.om+x.n.toNat*3+1+1,none⟩ (.int .i64 a.2.2)).setCell ⟨x.bc,x.oc+x.who.toNat*13+5,none⟩ (.int .i64 a.2.1)) T E (cl.set x.who.toNat { c with ticket:=a.2.1 }) (mx.set x.n.toNat (a.1,u,a.2.2)) tb ev):=H5;have K6:Hid (Kx x w1 (((w3.setCell ⟨x.bm,x.om+x.n.toNat*3+1,none⟩ (.int .i64 u)).setCell ⟨x.bm,x.om+x.n.toNat*3+1+1,none⟩ (.int .i64 a.2.2)).setCell ⟨x.bc,x.oc+x.who.toNat*13+5,none⟩ (.int .i64 a.2.1))):=hid ((((Kx.gr G3.out).trans (Kx.st (.inr (.inr rfl)) _)).trans (Kx.st (.inr (.inr rfl)) _)).trans (Kx.st (.inr (.inl rfl)) _));clear hS e7 f1 f2 x1 x2 s3 s5 y5 y3 i7 j7 H5 H4 c7 m1 m2;generalize ((w3.setCell ⟨x.bm,x.om+x.n.toNat*3+1,none⟩ (.int .i64 u)).setCell ⟨x.bm,x.om+x.n.toNat*3+1+1,none⟩ (.int .i64 a.2.2)).setCell ⟨x.bc,x.oc+x.who.toNat*13+5,none⟩ (.int .i64 a.2.1)=w6 at H6 K6 ⊢;have hc6:(cl.set x.who.toNat { c with ticket:=a.2.1 })[x.who.toNat]?=some { c with ticket:=a.2.1 }:=by rw [zss (zgl hc)]
 have h6:=H6.out;obtain⟨-,-,-,-,-,-,-,c7,-,-,-,-⟩:=h6.cells;obtain⟨-,-,-,s3,-,-,-,-,-,-,-,-,-,sz⟩:=h6.cl_ hc6;have y3:=sz 3 (by decide);clear sz;dsimp only at s3;clear h6;rename_i hh;clear hh;go_wp2_with fail
 (first | go_end0 | ((try simp only [Exit.inBlock,Exit.then]);refine bodyPost_ret (results_none rfl _ _ _) rfl ?_))
 have h7:=H6.out.putC2 hc 3 (.int .i64 (c.pc+1)) { c with ticket:=a.2.1,pc:=c.pc+1 } rfl (by decide) { CBc with ticket:=bt,pc:=bp };exact⟨rfl,h7,(K1.out.trans K6.out).trans (Kx.st (.inr (.inl rfl)) _)⟩
theorem draw_no (h:TS x W T E cl mx tb ev) (h0:0<=x.n) (h4:x.n<4) (ha:mx[x.n.toNat]?=some a) (hn:0<=a.2.1/\a.2.1<4294967296) (hs:0<=a.2.2/\a.2.2<4294967296) (ho:(a.2.1-a.2.2) % 4294967296=4294967295) :
 Calls prog 102 #[.pointer (some ⟨x.b,0,none⟩)] W λ e W'=>e=.panicked (pan 12)/\Kx x W W':=by
 have cd:=λ W=>hid (P6.Draw_full (P6.tk_ok hn hs) (by rw [P6.tk_out hn hs];exact ho) ⟨by omega,by omega⟩ ⟨by omega,by omega⟩ W)
 clear ho hn hs;go_enter func102,ntmps102;go_wp2_with fail;refine (mutex_is h h0 h4).mono ?_;rintro e w1 ⟨rfl,d,rfl⟩;have H1:=hid (h.gr ((zr W).drN d));have K1:Hid (Gr W _):=hid ((zr W).drN d);generalize W.drewN d=w1 at H1 K1 ⊢;have h1:=H1.out;obtain⟨-,-,-,-,-,-,-,c7,-,-,-,-⟩:=h1.cells;obtain⟨-,m1,m2,-⟩:=h1.mx_ ha;clear h h1;go_upto_region 1 with fail;refine wp_region_held_drew (S:=(λ w'=>w'.cell? ⟨x.b,7,none⟩=some (.pointer (some ⟨x.bc,x.oc+x.who.toNat*13,none⟩)))) (by kernel_rfl) c7 (λ hS=>?_);refine wG 0 hS ?_;refine wG 1 hS ?_;refine wG 2 hS ?_;refine wG 3 hS ?_;refine wG 4 hS ?_;refine wG 5 hS ?_;refine wG 6 hS ?_;refine wG 7 hS ?_;refine wR1 8 (λ K hK=>?_);go_simp;refine hK.out _ _ c7 (λ hS=>?_);clear hK K
 try simp only [pL]
 refine wR1 9 (λ K hK=>?_);go_simp;go_at_call 147;refine (cd _).out.mono ?_;rintro ee w2 ⟨rfl,g2⟩;go_wp2_with fail;have G2:=hid ((zr w1).dr.trans g2);have d7:=(H1.out.gr G2.out).cells.2.2.2.2.2.2.2.1;clear g2;refine hK.out _ _ d7 (λ hS=>?_);clear hK K
 try simp only [pL]
 refine wG 10 hS ?_;refine wG 11 hS ?_;refine wG 12 hS ?_;refine wR1 13 (λ K hK=>?_);go_simp;go_at_call 146;refine (bothTI_no _ _ _ (by decide) _).mono ?_;rintro ee w3 ⟨rfl,g3⟩;exact bodyPost_pan rfl ⟨rfl,Kx.gr (K1.out.trans (G2.out.trans g3))⟩
end
end P16
end
section
section
variable {w W w':World} {base:Nat} {v:Value} {R:List SV} {y:SV} {g cap:Nat}
theorem Appended.row (h:Appended W base v R y g cap w'):SRow w' base (.slice (some ⟨g,0,none⟩) (R.length+1) cap) (R++[y]).length (R++[y]):=by
 rw [List.length_append];exact h.1
end
end
theorem grownBy_cell (W:World) (b o:Nat) (v:Value):W.grownBy (W.setCell ⟨b,o,none⟩ v) (some b) :=
 ⟨rfl,rfl,rfl,by simp [World.setCell],λ k _ hk=>Below.heap_setCell _ _ _ k (λ e=>hk (by rw [e]))⟩
theorem spot_stored {W:World} {b:Nat} {vs:Array Value} {t:TypeId} (h:Blk W b vs t) (h3:vs.size=3) (x y z:Value) :
 Blk (((W.setCell ⟨b,0,none⟩ x).setCell ⟨b,1,none⟩ y).setCell ⟨b,2,none⟩ z) b #[x,y,z] t:=by
 have h2:=((h.set 0 x).set 1 y).set 2 z;have e:((vs.setIfInBounds 0 x).setIfInBounds 1 y).setIfInBounds 2 z=#[x,y,z]:=by
  match vs,h3 with
  | ⟨[p,q,r]⟩,_=>rfl
 rw [e] at h2;exact h2
section
def Told (A:Option Addr) (n:Nat) (s:Int×Int×List Int) (x e:Int) (W:World) (ee:Ending) (W':World):Prop :=
 ∃ z:SV,ee=.returned (.tuple #[.agg #[.int .i64 z.addr,.int .i64 z.cnt,.slice z.A z.n z.c],.int .i64 x,.int .i64 e])/\z.ok W'/\z.pl=s/\Gr W W'/\((z.A=A/\z.n=n)\/∀ k,z.A.map (·.block)=some k->W.heap.size<=k)
def ComeR (a q:Int) (l:List Int) (who:Int) (first:Bool) (s:Int×Int×List Int) (x e:Int):Prop :=
 (e≠0/\L7.PushR l who first [] e/\s=(0,0,[])/\x=0)\/(0<q/\(∃ r,L7.PushR l who first r 0)/\s=(a,q-1,l)/\x=who/\e=0)\/(¬ 0<q/\(∃ r,L7.PushR l who first r 0/\s=(a,q,r))/\x=-1/\e=0)
section
variable {w:World} {a q:Int} {A:Option Addr} {n c:Nat} {l:List Int} {b1 b2:Nat} {who:Int} {first:Bool}
theorem coming1_is (ha:B64 a) (hq:B64 q) (hm:IMem w A n l) (hnc:n<=c) (hcm:c<=9223372036854775807) (hw:B64 who)
 (c1:w.cell? ⟨b1,0,none⟩=some (.int .i64 who)) (c2:w.cell? ⟨b2,0,none⟩=some (.bool first)) (l1:b1<w.heap.size) (l2:b2<w.heap.size)
 {s:Int×Int×List Int} {x e:Int} (h:ComeR a q l who first s x e) :
 Calls prog 214 #[.agg #[.int .i64 a,.int .i64 q,.slice A n c],.pointer (some ⟨b1,0,none⟩),.pointer (some ⟨b2,0,none⟩)] w (Told A n s x e w):=by
 have g0:=((zr w).al (.cells #[.int .i64 a,.int .i64 q,.slice A n c] 91)).al (.cells #[.int .i64 0,.int .i64 0,.slice none 0 0] 91);have B0:=(Blk.new w #[.int .i64 a,.int .i64 q,.slice A n c] 91).al (.cells #[.int .i64 0,.int .i64 0,.slice none 0 0] 91);have B1:=Blk.new (w.alloc (.cells #[.int .i64 a,.int .i64 q,.slice A n c] 91)) #[.int .i64 0,.int .i64 0,.slice none 0 0] 91;simp only [zsA] at B1;have e1:((w.alloc (.cells #[.int .i64 a,.int .i64 q,.slice A n c] 91)).alloc (.cells #[.int .i64 0,.int .i64 0,.slice none 0 0] 91)).cell? ⟨b1,0,none⟩=some (.int .i64 who):=(g0.cell (p:=⟨b1,0,none⟩) l1).trans c1;have e2:((w.alloc (.cells #[.int .i64 a,.int .i64 q,.slice A n c] 91)).alloc (.cells #[.int .i64 0,.int .i64 0,.slice none 0 0] 91)).cell? ⟨b2,0,none⟩=some (.bool first):=(g0.cell (p:=⟨b2,0,none⟩) l2).trans c2;have HN:Hid (n<=9223372036854775807):=hid (Nat.le_trans hnc hcm);have HNC:=hid hnc;have HCM:=hid hcm;have HA:=hid ha;have HQ:=hid hq;have HM:=hid hm;have HW:=hid hw;have C1:=hid c1;have L1:=hid l1;rcases h with ⟨he,hp,rfl,rfl⟩ | ⟨h0,⟨r,hp⟩,rfl,rfl,rfl⟩ | ⟨h0,⟨r,hp,rfl⟩,rfl,rfl⟩
 . have KP:=hid (L7.Push_is (c:=c) (hm.gr g0) hnc HN.out hw hp)
   have ne:(e==0)=false:=beq_eq_false_iff_ne.2 he;have nb:(e != 0)=true:=by simp [bne,ne]
   have HB0:=hid B0;have HB1:=hid B1;have G0:=hid g0;have p2:=(B0.at_ (k:=2) rfl).1;clear hp hm hnc hcm ha hq hw c1 c2 l1 l2 B0 B1 g0 he;go_enter func214,ntmps214;go_wp2_with fail;refine KP.out.mono ?_;rintro ee w1 ⟨C,k,rfl,own1,h1⟩;have D1:=HB1.out.gr h1;have G1:=hid (G0.out.trans h1);obtain⟨q0,z0⟩:=D1.at_ (k:=0) rfl;obtain⟨q1,z1⟩:=D1.at_ (k:=1) rfl;obtain⟨q2,z2⟩:=D1.at_ (k:=2) rfl;have HF:=hid (spot_stored D1 rfl (.int .i64 0) (.int .i64 0) (.slice none 0 0));have hge:w.heap.size<=w.heap.size+1:=Nat.le_succ _;have HG:=hid (((G1.out.st (p:=⟨w.heap.size+1,0,none⟩) hge (.int .i64 0)).st (p:=⟨w.heap.size+1,1,none⟩) hge (.int .i64 0)).st (p:=⟨w.heap.size+1,2,none⟩) hge (.slice none 0 0));clear own1 h1 D1 p2 e1 e2 KP hge;go_wp2_with fail;have F:=HF.out;have GF:=HG.out;clear q0 z0 q1 z1 q2 z2 HF HG;generalize ((w1.setCell _ _).setCell _ _).setCell _ _=WF at F GF ⊢;have q0:WF.cell? ⟨w.heap.size+1,0,none⟩=some (.int .i64 0):=(F.at_ (k:=0) rfl).1;have q1:WF.cell? ⟨w.heap.size+1,1,none⟩=some (.int .i64 0):=(F.at_ (k:=1) rfl).1;have q2:WF.cell? ⟨w.heap.size+1,2,none⟩=some (.slice none 0 0):=(F.at_ (k:=2) rfl).1;exact bodyPost_ret (v:=.tuple #[.agg #[.int .i64 0,.int .i64 0,.slice none 0 0],.int .i64 0,.int .i64 e]) (by simp [results,results214,go_sem,q0,q1,q2]) rfl
    ⟨⟨0,0,none,0,0,[]⟩,rfl,ok_zero _ b64_zero,rfl,GF,.inr (λ _ h=>by cases h)⟩
 . have KP:=hid (L7.Push_is (c:=c) (hm.gr g0) hnc HN.out hw hp)
   have HB0:=hid B0;have HB1:=hid B1;have G0:=hid g0;have p2:=(B0.at_ (k:=2) rfl).1;have hw1:wrap64 (q-1)=q-1:=by have:=hq.2;unfold wrap64;omega
   have HQ1:Hid (B64 (q-1)):=hid ⟨by omega,by have:=hq.2;omega⟩;clear hp hm hnc hcm ha hq hw c1 c2 l1 l2 B0 B1 g0;go_enter func214,ntmps214;go_wp2_with fail;refine KP.out.mono ?_;rintro ee w1 ⟨C,k,rfl,own1,h1⟩;have D0:=HB0.out.gr h1;have D1:=HB1.out.gr h1;have G1:=hid (G0.out.trans h1);obtain⟨p1,y1⟩:=D0.at_ (k:=1) rfl;have HD0:=hid D0;have HD1:=hid D1;have HW1:=hid hw1;clear own1 h1 D0 D1 p2 e1 e2 KP hw1;go_wp2_with fail;rw [HW1.out];have DX0:Blk (w1.setCell ⟨w.heap.size,1,none⟩ (.int .i64 (q-1))) w.heap.size #[.int .i64 a,.int .i64 (q-1),.slice A n c] 91:=by simpa using HD0.out.set 1 (.int .i64 (q-1))
   have DX1:Blk (w1.setCell ⟨w.heap.size,1,none⟩ (.int .i64 (q-1))) (w.heap.size+1) #[.int .i64 0,.int .i64 0,.slice none 0 0] 91:=HD1.out.st (by show w.heap.size≠w.heap.size+1;omega) _;have GX:Gr w (w1.setCell ⟨w.heap.size,1,none⟩ (.int .i64 (q-1))):=G1.out.st (p:=⟨w.heap.size,1,none⟩) (Nat.le_refl _) _;clear p1 y1 HD0 HD1 G1;generalize w1.setCell ⟨w.heap.size,1,none⟩ (.int .i64 (q-1))=X at *;have r1:X.cell? ⟨b1,0,none⟩=some (.int .i64 x):=(GX.cell (p:=⟨b1,0,none⟩) L1.out).trans C1.out;have p0:X.cell? ⟨w.heap.size,0,none⟩=some (.int .i64 a):=(DX0.at_ (k:=0) rfl).1;have p1:X.cell? ⟨w.heap.size,1,none⟩=some (.int .i64 (q-1)):=(DX0.at_ (k:=1) rfl).1;have p2:X.cell? ⟨w.heap.size,2,none⟩=some (.slice A n c):=(DX0.at_ (k:=2) rfl).1;obtain⟨q0,z0⟩:=DX1.at_ (k:=0) rfl;obtain⟨q1,z1⟩:=DX1.at_ (k:=1) rfl;obtain⟨q2,z2⟩:=DX1.at_ (k:=2) rfl;have hge:w.heap.size<=w.heap.size+1:=Nat.le_succ _;have hne1:b1≠w.heap.size+1:=by have:=L1.out;omega
   have hlt:w.heap.size+1<X.heap.size:=DX1.lt;have HF:=hid ((spot_stored DX1 rfl (.int .i64 a) (.int .i64 (q-1)) (.slice A n c)).gr (zr _).dr);have HG:=hid ((((GX.st (p:=⟨w.heap.size+1,0,none⟩) hge (.int .i64 a)).st (p:=⟨w.heap.size+1,1,none⟩) hge (.int .i64 (q-1))).st (p:=⟨w.heap.size+1,2,none⟩) hge (.slice A n c)).dr);clear DX0 DX1 GX hge
   go_region
   go_wp2_with fail;have F:=HF.out;have GF:=HG.out;clear q0 z0 q1 z1 q2 z2 p0 p1 p2 r1 HF HG;generalize (((X.setCell _ _).setCell _ _).setCell _ _).drew=WF at F GF ⊢;have q0:WF.cell? ⟨w.heap.size+1,0,none⟩=some (.int .i64 a):=(F.at_ (k:=0) rfl).1;have q1:WF.cell? ⟨w.heap.size+1,1,none⟩=some (.int .i64 (q-1)):=(F.at_ (k:=1) rfl).1;have q2:WF.cell? ⟨w.heap.size+1,2,none⟩=some (.slice A n c):=(F.at_ (k:=2) rfl).1;exact bodyPost_ret (v:=.tuple #[.agg #[.int .i64 a,.int .i64 (q-1),.slice A n c],.int .i64 x,.int .i64 0]) (by simp [results,results214,go_sem,q0,q1,q2]) rfl
    ⟨⟨a,q-1,A,n,c,l⟩,rfl,⟨HA.out,HQ1.out,HM.out.gr GF,HNC.out,HCM.out⟩,rfl,GF,.inl ⟨rfl,rfl⟩⟩
 . have KP:=hid (L7.Push_is (c:=c) (hm.gr g0) hnc HN.out hw hp)
   have HB0:=hid B0;have HB1:=hid B1;have G0:=hid g0;have p2:=(B0.at_ (k:=2) rfl).1;clear hp hm hnc hcm ha hq hw c1 c2 l1 l2 B0 B1 g0;go_enter func214,ntmps214;go_wp2_with fail;refine KP.out.mono ?_;rintro ee w1 ⟨C,k,rfl,own1,h1⟩;have D0:=HB0.out.gr h1;have D1:=HB1.out.gr h1;have G1:=hid (G0.out.trans h1);have b01:w.heap.size≠w.heap.size+1:=by omega
   have hge:w.heap.size<=w.heap.size+1:=Nat.le_succ _;have s0:w.heap.size<((w.alloc (.cells #[.int .i64 a,.int .i64 q,.slice A n c] 91)).alloc (.cells #[.int .i64 0,.int .i64 0,.slice none 0 0] 91)).heap.size:=by simp;omega
   have s1:w.heap.size+1<((w.alloc (.cells #[.int .i64 a,.int .i64 q,.slice A n c] 91)).alloc (.cells #[.int .i64 0,.int .i64 0,.slice none 0 0] 91)).heap.size:=by simp
   obtain⟨p0,y0⟩:=D0.at_ (k:=0) rfl;obtain⟨p1,y1⟩:=D0.at_ (k:=1) rfl;obtain⟨p2',y2⟩:=D0.at_ (k:=2) rfl;obtain⟨q0,z0⟩:=D1.at_ (k:=0) rfl;obtain⟨q1,z1⟩:=D1.at_ (k:=1) rfl;obtain⟨q2,z2⟩:=D1.at_ (k:=2) rfl;have hlt1:=D1.lt;have DX1:Blk (w1.setCell ⟨w.heap.size,2,none⟩ (.slice C r.length k)) (w.heap.size+1) #[.int .i64 0,.int .i64 0,.slice none 0 0] 91:=D1.st b01 _;have HF:=hid (spot_stored DX1 rfl (.int .i64 a) (.int .i64 q) (.slice C r.length k));have HG:=hid ((((G1.out.st (p:=⟨w.heap.size,2,none⟩) (Nat.le_refl _) (.slice C r.length k)).st (p:=⟨w.heap.size+1,0,none⟩) hge (.int .i64 a)).st (p:=⟨w.heap.size+1,1,none⟩) hge (.int .i64 q)).st (p:=⟨w.heap.size+1,2,none⟩) hge (.slice C r.length k));have HO:=hid ((((own1.st (p:=⟨w.heap.size,2,none⟩) s0 (.slice C r.length k)).st (p:=⟨w.heap.size+1,0,none⟩) s1 (.int .i64 a)).st (p:=⟨w.heap.size+1,1,none⟩) s1 (.int .i64 q)).st (p:=⟨w.heap.size+1,2,none⟩) s1 (.slice C r.length k));clear own1 h1 D0 D1 DX1 p2 e1 e2 KP hge s0 s1 G1;go_wp2_with fail;have F:=HF.out;have GF:=HG.out;have OF:=HO.out;clear q0 z0 q1 z1 q2 z2 p0 p1 p2' y0 y1 y2 HF HG HO;generalize (((w1.setCell _ _).setCell _ _).setCell _ _).setCell _ _=WF at F GF OF ⊢;have q0:WF.cell? ⟨w.heap.size+1,0,none⟩=some (.int .i64 a):=(F.at_ (k:=0) rfl).1;have q1:WF.cell? ⟨w.heap.size+1,1,none⟩=some (.int .i64 q):=(F.at_ (k:=1) rfl).1;have q2:WF.cell? ⟨w.heap.size+1,2,none⟩=some (.slice C r.length k):=(F.at_ (k:=2) rfl).1;exact bodyPost_ret (v:=.tuple #[.agg #[.int .i64 a,.int .i64 q,.slice C r.length k],.int .i64 (-1),.int .i64 0]) (by simp [results,results214,go_sem,q0,q1,q2]) rfl
    ⟨⟨a,q,C,r.length,k,r⟩,rfl,⟨HA.out,HQ.out,OF.mem,OF.le,by have:=OF.max;unfold maxLen at this;exact this⟩,rfl,GF,.inr (λ k hk=>Nat.le_trans (by simp only [zsA];omega) (OF.lt k hk).1)⟩
end
end
section
def GiveR (a q:Int) (l:List Int) (s:Int×Int×List Int) (x e:Int):Prop :=
 (∃ r,l=x::r/\s=(a,q,r)/\e=0)\/(l=[]/\q=2147483647/\s=(0,0,[])/\x=0/\e=10)\/(l=[]/\q<2147483647/\s=(a,q+1,[])/\x=-1/\e=0)
section
variable {w:World} {a q:Int} {A:Option Addr} {n c:Nat} {l:List Int}
theorem granted_is (ha:B64 a) (hq0:0<=q) (hq1:q<=2147483647) (hm:IMem w A n l) (hnc:n<=c) (hcm:c<=9223372036854775807) (hl:L7.Ln l)
 {s:Int×Int×List Int} {x e:Int} (h:GiveR a q l s x e) :
 Calls prog 201 #[.agg #[.int .i64 a,.int .i64 q,.slice A n c]] w (Told A n s x e w):=by
 have g0:=((zr w).al (.cells #[.int .i64 a,.int .i64 q,.slice A n c] 91)).al (.cells #[.int .i64 0,.int .i64 0,.slice none 0 0] 91);have B0:=(Blk.new w #[.int .i64 a,.int .i64 q,.slice A n c] 91).al (.cells #[.int .i64 0,.int .i64 0,.slice none 0 0] 91);have B1:=Blk.new (w.alloc (.cells #[.int .i64 a,.int .i64 q,.slice A n c] 91)) #[.int .i64 0,.int .i64 0,.slice none 0 0] 91;simp only [zsA] at B1;have HN:Hid (n<=9223372036854775807):=hid (Nat.le_trans hnc hcm);have HCM:=hid hcm;have HA:=hid ha;have HQ:Hid (B64 q):=hid ⟨by omega,by omega⟩;have HM:=hid hm;have hlen:=hm.1;have b01:w.heap.size≠w.heap.size+1:=by omega
 have hge:w.heap.size<=w.heap.size+1:=Nat.le_succ _;rcases h with ⟨r,rfl,rfl,rfl⟩ | ⟨rfl,rfl,rfl,rfl,rfl⟩ | ⟨rfl,h1,rfl,rfl,rfl⟩
 . have KP:=hid (L7.Pop_is (c:=c) (hm.gr g0) hnc HN.out (.inr (.inr ⟨hl,rfl,rfl⟩)))
   have hn0:(0:Int)<(n:Int):=by simp at hlen;omega
   have HB0:=hid B0;have HB1:=hid B1;have G0:=hid g0;have p2:=(B0.at_ (k:=2) rfl).1;have s0:w.heap.size<((w.alloc (.cells #[.int .i64 a,.int .i64 q,.slice A n c] 91)).alloc (.cells #[.int .i64 0,.int .i64 0,.slice none 0 0] 91)).heap.size:=by simp;omega
   have s1:w.heap.size+1<((w.alloc (.cells #[.int .i64 a,.int .i64 q,.slice A n c] 91)).alloc (.cells #[.int .i64 0,.int .i64 0,.slice none 0 0] 91)).heap.size:=by simp
   have HS0:=hid s0;have HS1:=hid s1;clear hm hnc hcm ha hl B0 B1 g0 hlen s0 s1;go_enter func201,ntmps201;go_wp2_with fail;refine KP.out.mono ?_;rintro ee w1 ⟨C,k,rfl,own1,h1⟩;have D0:=HB0.out.gr h1;have D1:=HB1.out.gr h1;have G1:=hid (G0.out.trans h1);have s0:=HS0.out;have s1:=HS1.out;obtain⟨p0,y0⟩:=D0.at_ (k:=0) rfl;obtain⟨p1,y1⟩:=D0.at_ (k:=1) rfl;obtain⟨p2',y2⟩:=D0.at_ (k:=2) rfl;obtain⟨q0,z0⟩:=D1.at_ (k:=0) rfl;obtain⟨q1,z1⟩:=D1.at_ (k:=1) rfl;obtain⟨q2,z2⟩:=D1.at_ (k:=2) rfl;have hlt1:=D1.lt;have DX1:Blk (w1.setCell ⟨w.heap.size,2,none⟩ (.slice C r.length k)) (w.heap.size+1) #[.int .i64 0,.int .i64 0,.slice none 0 0] 91:=D1.st b01 _;have HF:=hid (spot_stored DX1 rfl (.int .i64 a) (.int .i64 q) (.slice C r.length k));have HG:=hid ((((G1.out.st (p:=⟨w.heap.size,2,none⟩) (Nat.le_refl _) (.slice C r.length k)).st (p:=⟨w.heap.size+1,0,none⟩) hge (.int .i64 a)).st (p:=⟨w.heap.size+1,1,none⟩) hge (.int .i64 q)).st (p:=⟨w.heap.size+1,2,none⟩) hge (.slice C r.length k));have HO:=hid ((((own1.st (p:=⟨w.heap.size,2,none⟩) s0 (.slice C r.length k)).st (p:=⟨w.heap.size+1,0,none⟩) s1 (.int .i64 a)).st (p:=⟨w.heap.size+1,1,none⟩) s1 (.int .i64 q)).st (p:=⟨w.heap.size+1,2,none⟩) s1 (.slice C r.length k));clear own1 h1 D0 D1 DX1 p2 KP hge s0 s1 G1;go_wp2_with fail;have F:=HF.out;have GF:=HG.out;have OF:=HO.out;clear q0 z0 q1 z1 q2 z2 p0 p1 p2' y0 y1 y2 HF HG HO;generalize (((w1.setCell _ _).setCell _ _).setCell _ _).setCell _ _=WF at F GF OF ⊢;have q0:WF.cell? ⟨w.heap.size+1,0,none⟩=some (.int .i64 a):=(F.at_ (k:=0) rfl).1;have q1:WF.cell? ⟨w.heap.size+1,1,none⟩=some (.int .i64 q):=(F.at_ (k:=1) rfl).1;have q2:WF.cell? ⟨w.heap.size+1,2,none⟩=some (.slice C r.length k):=(F.at_ (k:=2) rfl).1;exact bodyPost_ret (v:=.tuple #[.agg #[.int .i64 a,.int .i64 q,.slice C r.length k],.int .i64 x,.int .i64 0]) (by simp [results,results201,go_sem,q0,q1,q2]) rfl
    ⟨⟨a,q,C,r.length,k,r⟩,rfl,⟨HA.out,HQ.out,OF.mem,OF.le,by have:=OF.max;unfold maxLen at this;exact this⟩,rfl,GF,.inr (λ k hk=>Nat.le_trans (by simp only [zsA];omega) (OF.lt k hk).1)⟩
 . obtain rfl:n=0:=by simpa using hlen.symm
   obtain⟨q0,z0⟩:=B1.at_ (k:=0) rfl;obtain⟨q1,z1⟩:=B1.at_ (k:=1) rfl;obtain⟨q2,z2⟩:=B1.at_ (k:=2) rfl;obtain⟨p1,y1⟩:=B0.at_ (k:=1) rfl;obtain⟨p2,y2⟩:=B0.at_ (k:=2) rfl;clear hm hnc hcm ha hl B0 B1 g0 hlen hq0 hq1;go_enter func201,ntmps201;go_wp2_with fail;exact bodyPost_ret (v:=.tuple #[.agg #[.int .i64 0,.int .i64 0,.slice none 0 0],.int .i64 0,.int .i64 10]) (by simp [results,results201,go_sem]) rfl
    ⟨⟨0,0,none,0,0,[]⟩,rfl,ok_zero _ b64_zero,rfl,((zr w).al _).al _,.inr (λ _ h=>by cases h)⟩
 . obtain rfl:n=0:=by simpa using hlen.symm
   have ne:(q==2147483647)=false:=beq_eq_false_iff_ne.2 (by omega);have hw1:wrap64 (q+1)=q+1:=by unfold wrap64;omega
   have HQ1:Hid (B64 (q+1)):=hid ⟨by omega,by omega⟩;have HW1:=hid hw1;clear hm hnc hcm ha hl B0 B1 g0 hlen hq0 hq1 h1 hw1;go_enter func201,ntmps201;go_wp2_with fail;rw [HW1.out];exact bodyPost_ret (v:=.tuple #[.agg #[.int .i64 a,.int .i64 (q+1),.slice A 0 c],.int .i64 (-1),.int .i64 0]) (by simp [results,results201,go_sem]) rfl
    ⟨⟨a,q+1,A,0,c,[]⟩,rfl,⟨HA.out,HQ1.out,EMem.nil_,Nat.zero_le _,HCM.out⟩,rfl,((zr w).al _).al _,.inl ⟨rfl,rfl⟩⟩
end
end
end Go.Proofs.YtainfijdhcehlaaGreatDoor
