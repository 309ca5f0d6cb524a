/-
  A part of the proof.
-/
import Derived.Test.YtainfijdhcehlaaGreatDoorQS9
import Derived.BigQuiet
import Derived.Laws.StructEq
import Derived.Laws.BitsAllLaws
import Derived.Deep.RegionHeld3
import Derived.RegionTactic
import Derived.Carry
import Derived.Stop.LaidErr
import Derived.LaidLaws
import Derived.SizedLaws
import Derived.ChangeMaps5
import Derived.Lay
import Derived.LaidMore
import Derived.Shelf.Vars
import Derived.SevenTiedAt
import Derived.LaidByTextLater
import Derived.Lib.SmallJoins
import Derived.Lib.Hide
import Derived.Lib.AtoiAll
import Derived.Lib.CutLaws
import Derived.Deep.QuietTactic
set_option linter.all false
set_option maxRecDepth 100000
set_option maxHeartbeats 8000000
namespace Go.Proofs.YtainfijdhcehlaaGreatDoor
open Lib (hid)
section
open Go.ChangeShapes Go.WideShapes Go.ChangeAt Go.RowKit
namespace P3
abbrev fl (a b c:Bool) (n:Int):Value:=.agg #[.bool a,.bool b,.bool c,.int .i64 n]
def b1 (a:Bool):Int:=if a then 1 else 0
def bitI (a:Bool) (b:Int):Int:=if a then b else 0
def pw (a b c:Bool) (n:Int):Int:=8*n+4*b1 c+2*b1 b+b1 a
theorem fbit_ok (is:Bool) (b:Int) (w:World):Calls Tryz.prog 234 #[.bool is,.int .i64 b] w λ e w'=>e=.returned (.int .i64 (bitI is b))/\w'=w:=by
 cases is
 . go_enter Tryz.func234,Tryz.ntmps234
   go_wp2
   go_ret
   exact⟨rfl,rfl⟩
 . go_enter Tryz.func234,Tryz.ntmps234
   go_wp2
   go_ret
   exact⟨rfl,rfl⟩
theorem i64_small {x:Nat} (h:x<2 ^ 63):IntKind.i64.wrap (x:Int)=x:=by
 rw [IntKind.wrap_i64];omega
theorem ofInt_i64 (a:Nat) (ha:a<2 ^ 63):(BitVec.ofInt 64 (a:Int)).toNat=a:=by
 rw [BitVec.toNat_ofInt];omega
theorem i64_or (i x y:Nat) (hx:x % 2 ^ i=0) (hy:y<2 ^ i) (h:x+y<2 ^ 63):bits .or .i64 (x:Int) (y:Int)=((x+y:Nat):Int):=by
 show IntKind.i64.wrap ((BitVec.ofInt 64 (x:Int) ||| BitVec.ofInt 64 (y:Int)).toNat:Int)=_
 rw [BitVec.toNat_or,ofInt_i64 x (by omega),ofInt_i64 y (by omega),nat_join i x y hx hy,i64_small h]
theorem i64_bit (i x:Nat) (hi:2 ^ i<2 ^ 63) (h:x<2 ^ 63):bits .and .i64 (x:Int) ((2 ^ i:Nat):Int)=((x / 2 ^ i % 2*2 ^ i:Nat):Int):=by
 have hl:x &&& 2 ^ i<2 ^ 63:=Nat.lt_of_le_of_lt Nat.and_le_left h
 show IntKind.i64.wrap ((BitVec.ofInt 64 (x:Int) &&& BitVec.ofInt 64 ((2 ^ i:Nat):Int)).toNat:Int)=_
 rw [BitVec.toNat_and,ofInt_i64 x h,ofInt_i64 _ hi,i64_small hl,nat_bit]
theorem i64_mask31 (n:Int):bits .and .i64 n 2147483647=n % 2147483648:=by
 have hm:(BitVec.ofInt 64 2147483647).toNat=2 ^ 31-1:=by decide
 have key:(BitVec.ofInt 64 n &&& BitVec.ofInt 64 2147483647).toNat=(n % ((2 ^ 64:Nat):Int)).toNat % 2 ^ 31:=by
  rw [BitVec.toNat_and,BitVec.toNat_ofInt,hm,Nat.and_two_pow_sub_one_eq_mod]
 show IntKind.i64.wrap ((BitVec.ofInt 64 n &&& BitVec.ofInt 64 2147483647).toNat:Nat)=n % 2147483648
 rw [key,IntKind.wrap_i64]
 omega
theorem b1_le (a:Bool):0<=b1 a/\b1 a<=1:=by cases a<;>decide
theorem pw_nat (a b c:Bool) (n:Int) (h:0<=n/\n<268435456):∃ x:Nat,pw a b c n=(x:Int)/\x<2147483648:=by
 have h1:=b1_le a
 have h2:=b1_le b
 have h3:=b1_le c
 refine⟨(pw a b c n).toNat,?_,?_⟩<;>unfold pw<;>omega
theorem and1 (a b c:Bool) (n:Int) (h:0<=n/\n<268435456):(bits .and .i64 (pw a b c n) 1 != 0)=a:=by
 obtain⟨x,hx,hl⟩:=pw_nat a b c n h
 have e:=i64_bit 0 x (by decide) (by omega)
 simp only [Nat.pow_zero,Nat.div_one,Nat.mul_one] at e
 rw [hx]
 rw [show (1:Int)=((1:Nat):Int) from rfl,e]
 have h2:pw a b c n=x:=hx
 unfold pw at h2
 cases a<;>cases b<;>cases c<;>simp [b1] at h2<;>simp<;>omega
theorem and2 (a b c:Bool) (n:Int) (h:0<=n/\n<268435456):(bits .and .i64 (pw a b c n) 2 != 0)=b:=by
 obtain⟨x,hx,hl⟩:=pw_nat a b c n h
 have e:=i64_bit 1 x (by decide) (by omega)
 simp only [Nat.pow_one] at e
 rw [hx]
 rw [show (2:Int)=((2:Nat):Int) from rfl,e]
 have h2:pw a b c n=x:=hx
 unfold pw at h2
 cases a<;>cases b<;>cases c<;>simp [b1] at h2<;>simp<;>omega
theorem and4 (a b c:Bool) (n:Int) (h:0<=n/\n<268435456):(bits .and .i64 (pw a b c n) 4 != 0)=c:=by
 obtain⟨x,hx,hl⟩:=pw_nat a b c n h
 have e:=i64_bit 2 x (by decide) (by omega)
 rw [show (2:Nat) ^ 2=4 from rfl] at e
 rw [hx]
 rw [show (4:Int)=((4:Nat):Int) from rfl,e]
 have h2:pw a b c n=x:=hx
 unfold pw at h2
 cases a<;>cases b<;>cases c<;>simp [b1] at h2<;>simp<;>omega
theorem div8 (a b c:Bool) (n:Int) (h:0<=n/\n<268435456):wrap64 ((pw a b c n).tdiv 8)=n:=by
 have h1:=b1_le a
 have h2:=b1_le b
 have h3:=b1_le c
 have h0:0<=pw a b c n:=by unfold pw;omega
 rw [Int.tdiv_eq_ediv_of_nonneg h0]
 unfold wrap64 pw
 omega
theorem ors (a b c:Bool) (n:Int):bits .or .i64 (bits .or .i64 (bits .or .i64 (bits .and .i64 (wrap64 (n*8)) 2147483647) (bitI c 4)) (bitI b 2)) (bitI a 1)=pw a b c (n % 268435456):=by
 rw [i64_mask31]
 obtain⟨x,hx⟩:∃ x:Nat,n % 268435456=(x:Int):=⟨(n % 268435456).toNat,by omega⟩
 have hl:x<268435456:=by omega
 have e:wrap64 (n*8) % 2147483648=((8*x:Nat):Int):=by unfold wrap64;omega
 rw [e,hx]
 have e3:bitI c 4=((if c=true then 4 else 0:Nat):Int):=by cases c<;>rfl
 have e2:bitI b 2=((if b=true then 2 else 0:Nat):Int):=by cases b<;>rfl
 have e1:bitI a 1=((if a=true then 1 else 0:Nat):Int):=by cases a<;>rfl
 rw [e3,e2,e1,i64_or 3 (8*x) _ (by omega) (by cases c<;>decide) (by cases c<;>simp<;>omega)]
 rw [i64_or 2 _ _ (by cases c<;>simp<;>omega) (by cases b<;>decide) (by cases b<;>cases c<;>simp<;>omega)]
 rw [i64_or 1 _ _ (by cases c<;>cases b<;>simp<;>omega) (by cases a<;>decide) (by cases a<;>cases b<;>cases c<;>simp<;>omega)]
 unfold pw
 cases a<;>cases b<;>cases c<;>simp [b1]<;>omega
theorem fl_eq {a b c a' b' c':Bool} {n n':Int} (h1:a=a') (h2:b=b') (h3:c=c') (h4:n=n'):fl a b c n=fl a' b' c' n':=by rw [h1,h2,h3,h4]
theorem split_ok (a b c:Bool) (n:Int) (h:0<=n/\n<268435456) (w:World):Calls Tryz.prog 38 #[.int .i64 (pw a b c n)] w λ e w'=>e=.returned (fl a b c n)/\Gr w w':=by
 have h1:=hid (and1 a b c n h)
 have h2:=hid (and2 a b c n h)
 have h3:=hid (and4 a b c n h)
 have h4:=hid (div8 a b c n h)
 generalize pw a b c n=v at *
 go_enter Tryz.func38,Tryz.ntmps38
 go_wp2
 refine bodyPost_ret (v:=fl (bits .and .i64 v 1 != 0) (bits .and .i64 v 2 != 0) (bits .and .i64 v 4 != 0) (wrap64 (v.tdiv 8))) (by simp [results,Tryz.results38,go_sem]) rfl ⟨?_,(Gr.refl _).al _⟩
 exact congrArg _ (fl_eq h1.out h2.out h3.out h4.out)
theorem join_ok (a b c:Bool) (n:Int) (w:World):Calls Tryz.prog 227 #[fl a b c n] w λ e w'=>e=.returned (.int .i64 (pw a b c (n % 268435456)))/\Gr w w':=by
 have h:=hid (ors a b c n)
 go_enter Tryz.func227,Tryz.ntmps227
 go_wp2_with fail
 go_quiet ((go_at_call 234;exact Calls.quiet_of_same (fbit_ok _ _ _)))
 go_wp2_with fail
 go_ret
 exact⟨congrArg _ (congrArg _ h.out),((Gr.refl _).al _).drN _⟩
def FlAt (w:World) (k:Nat) (a b c:Bool) (n:Int):Prop :=
 w.cell? ⟨k,0,none⟩=some (.bool a)/\w.cell? ⟨k,1,none⟩=some (.bool b)/\w.cell? ⟨k,2,none⟩=some (.bool c)/\w.cell? ⟨k,3,none⟩=some (.int .i64 n)/\k<w.heap.size
theorem FlAt.new (w:World) (a b c:Bool) (n:Int) (t:TypeId):FlAt (w.alloc (.cells #[.bool a,.bool b,.bool c,.int .i64 n] t)) w.heap.size a b c n :=
 ⟨by simp,by simp,by simp,by simp,by simp⟩
theorem FlAt.gr {w w':World} {k:Nat} {a b c:Bool} {n:Int} (h:FlAt w k a b c n) (g:Gr w w'):FlAt w' k a b c n:=by
 obtain⟨h0,h1,h2,h3,h4⟩:=h
 exact⟨(g.cell (p:=⟨k,0,none⟩) h4).trans h0,(g.cell (p:=⟨k,1,none⟩) h4).trans h1,(g.cell (p:=⟨k,2,none⟩) h4).trans h2,(g.cell (p:=⟨k,3,none⟩) h4).trans h3,Nat.lt_of_lt_of_le h4 g.size⟩
def Fz (w:World) (k:Nat):Prop:=w.frozen? ⟨k,0,none⟩=false/\w.frozen? ⟨k,1,none⟩=false/\w.frozen? ⟨k,2,none⟩=false/\w.frozen? ⟨k,3,none⟩=false/\k<w.heap.size
theorem Fz.new (w:World) (C:Array Value) (t:TypeId):Fz (w.alloc (.cells C t)) w.heap.size :=
 ⟨by simp [go_sem],by simp [go_sem],by simp [go_sem],by simp [go_sem],by simp⟩
theorem Fz.gr {w w':World} {k:Nat} (h:Fz w k) (g:Gr w w'):Fz w' k:=by
 obtain⟨h0,h1,h2,h3,h4⟩:=h
 exact⟨(g.frozen (p:=⟨k,0,none⟩) h4).trans h0,(g.frozen (p:=⟨k,1,none⟩) h4).trans h1,(g.frozen (p:=⟨k,2,none⟩) h4).trans h2,(g.frozen (p:=⟨k,3,none⟩) h4).trans h3,Nat.lt_of_lt_of_le h4 g.size⟩
theorem Pack_ok (a b c:Bool) (n:Int) (h:0<=n/\n<268435456) (w:World):Calls Tryz.prog 217 #[fl a b c n] w λ e w'=>e=.returned (.tuple #[.int .i64 (pw a b c n),.int .i64 0])/\Gr w w':=by
 have hm:n % 268435456=n:=by omega
 have c1:=λ w=>hid (hm▸join_ok a b c n w)
 have c2:=λ w=>hid (split_ok a b c n h w)
 clear hm h
 generalize pw a b c n=v at *
 go_enter Tryz.func217,Tryz.ntmps217
 go_wp2_with fail
 refine (c1 _).out.mono ?_
 rintro e w1 ⟨rfl,hb1⟩
 have F:=(FlAt.new w a b c n _).gr hb1
 have G:=((Gr.refl w).al _).trans hb1
 clear hb1
 obtain⟨K,hK⟩:∃ k,w.heap.size=k:=⟨_,rfl⟩
 rw [hK] at F
 simp only [hK]
 clear hK
 go_wp2_with fail
 go_region_held3 (λ w'=>w'.cell? ⟨K,0,none⟩=some (.bool a)/\w'.cell? ⟨K,1,none⟩=some (.bool b)/\w'.cell? ⟨K,2,none⟩=some (.bool c)/\w'.cell? ⟨K,3,none⟩=some (.int .i64 n)/\K<w'.heap.size/\Gr w w') (first | exact⟨F.1,F.2.1,F.2.2.1,F.2.2.2.1,F.2.2.2.2,G.dr⟩ | (go_split_ands;exact⟨(hb2.cell (p:=⟨K,0,none⟩) (by assumption)).trans (by assumption),(hb2.cell (p:=⟨K,1,none⟩) (by assumption)).trans (by assumption),(hb2.cell (p:=⟨K,2,none⟩) (by assumption)).trans (by assumption),(hb2.cell (p:=⟨K,3,none⟩) (by assumption)).trans (by assumption),Nat.lt_of_lt_of_le (by assumption) hb2.size,Gr.trans (by assumption) hb2⟩))
  (first | (go_at_call 38;refine (c2 _).out.mono ?_;rintro ee w2 ⟨rfl,hb2⟩))
 rename_i hH
 obtain⟨q0,q1,q2,q3,q4,q5⟩:=hH
 go_wp2_with fail
 go_ret2
 exact⟨rfl,q5⟩
theorem Pack_no (a b c:Bool) (n:Int) (h:¬ (0<=n/\n<268435456)) (w:World):Calls Tryz.prog 217 #[fl a b c n] w λ e w'=>e=.returned (.tuple #[.int .i64 0,.int .i64 1])/\Gr w w':=by
 obtain⟨m,hm⟩:∃ m,n % 268435456=m:=⟨_,rfl⟩
 have hmn:(m==n)=false:=beq_eq_false_iff_ne.2 (by omega)
 have c1:=λ w=>hid (hm▸join_ok a b c n w)
 have c2:=λ w=>hid (split_ok a b c m (by omega) w)
 clear hm h
 generalize pw a b c m=v at *
 go_enter Tryz.func217,Tryz.ntmps217
 go_wp2_with fail
 refine (c1 _).out.mono ?_
 rintro e w1 ⟨rfl,hb1⟩
 have F:=(FlAt.new w a b c n _).gr hb1
 have G:=((Gr.refl w).al _).trans hb1
 clear hb1
 obtain⟨K,hK⟩:∃ k,w.heap.size=k:=⟨_,rfl⟩
 rw [hK] at F
 simp only [hK]
 clear hK
 go_wp2_with fail
 go_region_held3 (λ w'=>w'.cell? ⟨K,0,none⟩=some (.bool a)/\w'.cell? ⟨K,1,none⟩=some (.bool b)/\w'.cell? ⟨K,2,none⟩=some (.bool c)/\w'.cell? ⟨K,3,none⟩=some (.int .i64 n)/\K<w'.heap.size/\Gr w w') (first | exact⟨F.1,F.2.1,F.2.2.1,F.2.2.2.1,F.2.2.2.2,G.dr⟩ | (go_split_ands;exact⟨(hb2.cell (p:=⟨K,0,none⟩) (by assumption)).trans (by assumption),(hb2.cell (p:=⟨K,1,none⟩) (by assumption)).trans (by assumption),(hb2.cell (p:=⟨K,2,none⟩) (by assumption)).trans (by assumption),(hb2.cell (p:=⟨K,3,none⟩) (by assumption)).trans (by assumption),Nat.lt_of_lt_of_le (by assumption) hb2.size,Gr.trans (by assumption) hb2⟩))
  (first | (go_at_call 38;refine (c2 _).out.mono ?_;rintro ee w2 ⟨rfl,hb2⟩))
 rename_i hH
 obtain⟨q0,q1,q2,q3,q4,q5⟩:=hH
 go_wp2_with fail
 go_ret2
 exact⟨rfl,q5⟩
theorem Unpack_ok (a b c:Bool) (n:Int) (h:0<=n/\n<268435456) (w:World):Calls Tryz.prog 17 #[.int .i64 (pw a b c n)] w λ e w'=>e=.returned (.tuple #[fl a b c n,.int .i64 0])/\Gr w w':=by
 have c2:=λ w=>hid (split_ok a b c n h w)
 obtain⟨x,hx,hl⟩:=pw_nat a b c n h
 have h0:¬ pw a b c n<0:=by omega
 have h1:¬ 2147483647<pw a b c n:=by omega
 clear hx hl x
 generalize pw a b c n=v at *
 go_enter Tryz.func17,Tryz.ntmps17
 go_wp2_with fail
 refine (c2 _).out.mono ?_
 rintro e w1 ⟨rfl,hb1⟩
 obtain⟨q0,q1,q2,q3,q4⟩:=(FlAt.new w false false false 0 _).gr hb1
 obtain⟨z0,z1,z2,z3,z4⟩:=(Fz.new w _ _).gr hb1
 have G:=((Gr.refl w).al _).trans hb1
 clear hb1
 go_wp2_with fail
 exact bodyPost_ret (v:=.tuple #[fl a b c n,.int .i64 0]) (by simp [results,Tryz.results17,go_sem,q0,q1,q2,q3]) rfl ⟨rfl,(((G.st (Nat.le_refl _) _).st (Nat.le_refl _) _).st (Nat.le_refl _) _).st (Nat.le_refl _) _⟩
theorem Unpack_no (v:Int) (h:¬ (0<=v/\v<2147483648)) (w:World):Calls Tryz.prog 17 #[.int .i64 v] w λ e w'=>e=.returned (.tuple #[fl false false false 0,.int .i64 1])/\Gr w w':=by
 by_cases h0:v<0
 . clear h
   go_enter Tryz.func17,Tryz.ntmps17
   go_wp2_with fail
   exact bodyPost_ret (v:=.tuple #[fl false false false 0,.int .i64 1]) (by simp [results,Tryz.results17,go_sem]) rfl ⟨rfl,(Gr.refl w).al _⟩
 . have h1:2147483647<v:=by omega
   clear h
   go_enter Tryz.func17,Tryz.ntmps17
   go_wp2_with fail
   exact bodyPost_ret (v:=.tuple #[fl false false false 0,.int .i64 1]) (by simp [results,Tryz.results17,go_sem]) rfl ⟨rfl,(Gr.refl w).al _⟩
theorem Waits_is (a b c:Bool) (n d m:Int) (r s:Int) (h:0<=n/\n<268435456) (hm:wrap64 (n+d)=m) (hp:∀ w,Calls Tryz.prog 217 #[fl a b c m] w λ e w'=>e=.returned (.tuple #[.int .i64 r,.int .i64 s])/\Gr w w') (r' s':Int) (hrs:(s=0/\r'=r/\s'=0)\/(s=1/\r'=0/\s'=10)) (w:World):Calls Tryz.prog 200 #[.int .i64 (pw a b c n),.int .i64 d] w λ e w'=>e=.returned (.tuple #[.int .i64 r',.int .i64 s'])/\Gr w w':=by
 have c1:=λ w=>hid (Unpack_ok a b c n h w)
 have c2:=λ w=>hid (hp w)
 have HM:=hid hm
 clear h hp hm
 generalize pw a b c n=v at *
 go_enter Tryz.func200,Tryz.ntmps200
 go_wp2_with fail
 refine (c1 _).out.mono ?_
 rintro e w1 ⟨rfl,hb1⟩
 go_wp2_with fail
 rw [HM.out]
 refine (c2 _).out.mono ?_
 rintro e w2 ⟨rfl,hb2⟩
 rcases hrs with ⟨rfl,rfl,rfl⟩ | ⟨rfl,rfl,rfl⟩
 . go_wp2_with fail
   go_ret2
   exact⟨rfl,(hb1.al _).trans hb2⟩
 . go_wp2_with fail
   go_ret2
   exact⟨rfl,(hb1.al _).trans hb2⟩
theorem Waits_ok (a b c:Bool) (n d m:Int) (h:0<=n/\n<268435456) (hm:wrap64 (n+d)=m) (hr:0<=m/\m<268435456) (w:World):Calls Tryz.prog 200 #[.int .i64 (pw a b c n),.int .i64 d] w λ e w'=>e=.returned (.tuple #[.int .i64 (pw a b c m),.int .i64 0])/\Gr w w' :=
 Waits_is a b c n d m (pw a b c m) 0 h hm (λ w=>Pack_ok a b c m hr w) _ _ (.inl ⟨rfl,rfl,rfl⟩) w
theorem Waits_no (a b c:Bool) (n d m:Int) (h:0<=n/\n<268435456) (hm:wrap64 (n+d)=m) (hr:¬ (0<=m/\m<268435456)) (w:World):Calls Tryz.prog 200 #[.int .i64 (pw a b c n),.int .i64 d] w λ e w'=>e=.returned (.tuple #[.int .i64 0,.int .i64 10])/\Gr w w' :=
 Waits_is a b c n d m 0 1 h hm (λ w=>Pack_no a b c m hr w) _ _ (.inr ⟨rfl,rfl,rfl⟩) w
theorem pw_of {v:Int} (h:0<=v/\v<2147483648):∃ a b c n,v=pw a b c n/\0<=n/\n<268435456:=by
 refine⟨decide (v % 2=1),decide (v / 2 % 2=1),decide (v / 4 % 2=1),v / 8,?_,by omega,by omega⟩
 unfold pw b1
 by_cases h1:v % 2=1<;>by_cases h2:v / 2 % 2=1<;>by_cases h3:v / 4 % 2=1<;>simp [h1,h2,h3]<;>omega
end P3
end
section
open Go.ChangeShapes Go.WideShapes Go.ChangeAt Go.RowKit
namespace P3
theorem i64_or_low (m y z:Nat) (hy:y<8) (hz:z<8) (hm:m<2 ^ 59):bits .or .i64 ((8*m+y:Nat):Int) (z:Int)=((8*m+(y ||| z):Nat):Int):=by
 have hyz:y ||| z<8:=Nat.or_lt_two_pow (n:=3) hy hz
 show IntKind.i64.wrap ((BitVec.ofInt 64 ((8*m+y:Nat):Int) ||| BitVec.ofInt 64 (z:Int)).toNat:Int)=_
 rw [BitVec.toNat_or,ofInt_i64 _ (by omega),ofInt_i64 _ (by omega),<- nat_join 3 (8*m) y (by omega) hy,Nat.or_assoc,nat_join 3 (8*m) (y ||| z) (by omega) hyz,i64_small (by omega)]
theorem bv_andNot (X Y:BitVec 64):(X &&& ~~~Y)+(X &&& Y)=X:=by
 have h:(X &&& ~~~Y) &&& (X &&& Y)=0#64:=by
  ext i hi
  simp
  cases X[i]<;>cases Y[i]<;>decide
 rw [BitVec.add_eq_or_of_and_eq_zero _ _ h]
 ext i hi
 simp
 cases X[i]<;>cases Y[i]<;>rfl
theorem i64_andNot (x z:Nat) (hx:x<2 ^ 63) (hz:z<2 ^ 63):bits .andNot .i64 (x:Int) (z:Int)=((x-(x &&& z):Nat):Int):=by
 have e:=congrArg BitVec.toNat (bv_andNot (BitVec.ofInt 64 (x:Int)) (BitVec.ofInt 64 (z:Int)))
 have l:(BitVec.ofInt 64 (x:Int) &&& ~~~BitVec.ofInt 64 (z:Int)).toNat<=x:=by
  rw [BitVec.toNat_and,ofInt_i64 x hx];exact Nat.and_le_left
 have l2:x &&& z<=x:=Nat.and_le_left
 rw [BitVec.toNat_add,BitVec.toNat_and (BitVec.ofInt 64 (x:Int)) (BitVec.ofInt 64 (z:Int)),ofInt_i64 x hx,ofInt_i64 z hz] at e
 show IntKind.i64.wrap ((BitVec.ofInt 64 (x:Int) &&& ~~~BitVec.ofInt 64 (z:Int)).toNat:Int)=_
 generalize (BitVec.ofInt 64 (x:Int) &&& ~~~BitVec.ofInt 64 (z:Int)).toNat=q at *
 rw [Nat.mod_eq_of_lt (by omega)] at e
 rw [i64_small (by omega)]
 omega
section
variable {a b c:Bool} {n:Int}
theorem low_of (a b c:Bool) (n:Int) (h:0<=n/\n<536870912):∃ m y:Nat,pw a b c n=((8*m+y:Nat):Int)/\(m:Int)=n/\y=(if c then 4 else 0)+(if b then 2 else 0)+(if a then 1 else 0)/\y<8:=by
 refine⟨n.toNat,(if c then 4 else 0)+(if b then 2 else 0)+(if a then 1 else 0),?_,by omega,rfl,by cases a<;>cases b<;>cases c<;>decide⟩
 unfold pw
 cases a<;>cases b<;>cases c<;>simp [b1]<;>omega
theorem or_1 (h:0<=n/\n<536870912):bits .or .i64 (pw a b c n) 1=pw true b c n:=by
 obtain⟨m,y,e,hm,hy,hl⟩:=low_of a b c n h
 rw [e,show (1:Int)=((1:Nat):Int) from rfl,i64_or_low m y 1 hl (by decide) (by omega)]
 unfold pw
 subst hy
 cases a<;>cases b<;>cases c<;>simp [b1]<;>omega
theorem or_4 (h:0<=n/\n<536870912):bits .or .i64 (pw a b c n) 4=pw a b true n:=by
 obtain⟨m,y,e,hm,hy,hl⟩:=low_of a b c n h
 rw [e,show (4:Int)=((4:Nat):Int) from rfl,i64_or_low m y 4 hl (by decide) (by omega)]
 unfold pw
 subst hy
 cases a<;>cases b<;>cases c<;>simp [b1]<;>omega
theorem or_2 (h:0<=n/\n<536870912):bits .or .i64 (pw a b c n) 2=pw a true c n:=by
 obtain⟨m,y,e,hm,hy,hl⟩:=low_of a b c n h
 rw [e,show (2:Int)=((2:Nat):Int) from rfl,i64_or_low m y 2 hl (by decide) (by omega)]
 unfold pw
 subst hy
 cases a<;>cases b<;>cases c<;>simp [b1]<;>omega
def lowI (a b c:Bool):Int:=4*b1 c+2*b1 b+b1 a
theorem and7 (h:0<=n/\n<536870912):bits .and .i64 (pw a b c n) 7=lowI a b c:=by
 obtain⟨m,y,e,hm,hy,hl⟩:=low_of a b c n h
 rw [e,show (7:Int)=((7:Nat):Int) from rfl]
 show IntKind.i64.wrap ((BitVec.ofInt 64 ((8*m+y:Nat):Int) &&& BitVec.ofInt 64 ((7:Nat):Int)).toNat:Int)=_
 rw [BitVec.toNat_and,ofInt_i64 _ (by omega),ofInt_i64 7 (by decide),show (7:Nat)=2 ^ 3-1 from rfl,Nat.and_two_pow_sub_one_eq_mod,i64_small (by omega)]
 have h8:(8*m+y) % 2 ^ 3=y:=by omega
 rw [h8]
 subst hy
 cases a<;>cases b<;>cases c<;>rfl
theorem not_2 (h:0<=n/\n<536870912):bits .andNot .i64 (pw a b c n) 2=pw a false c n:=by
 obtain⟨m,y,e,hm,hy,hl⟩:=low_of a b c n h
 rw [e,show (2:Int)=((2:Nat):Int) from rfl,i64_andNot _ 2 (by omega) (by decide),nat_bit1]
 unfold pw
 subst hy
 cases a<;>cases b<;>cases c<;>simp [b1]<;>omega
end
end P3
end
section
open Go.ChangeShapes Go.WideShapes Go.ChangeAt Go.RowKit
theorem laidOut:laidOutB Tryz.prog=true:=by kernel_rfl
section
variable {H:Type} {enc:TypeId×Value->H} {P:Program} {W W':World}
theorem trodAll_stays (hl:laidOutB P=true) (hb:Below W.heap.size W W') (sp:Nat->Bool):∀ {ts:List TypeId} {vs:List Value} {ds:List (DataW H)} {ps:List MemPlace},
 (ts.all λ t=>P.readableRec t&&decide (t<P.types.size))=true->DataW.TrodAll enc P W 0 (λ _=>true) true ts vs ds ps->(∀ x∈ps,x.block<W.heap.size)->(∀ x∈ps,sp x.block=true) ->
 DataW.TrodAll enc P W' 0 sp true ts vs ds ps
 | [],[],[],_,_,h,_,_=>h
 | t::ts,v::vs,d::ds,_,hr,⟨p,q,h1,h2,e⟩,hlt,hs=>by
  simp only [List.all_cons,Bool.and_eq_true,decide_eq_true_eq] at hr
  exact⟨p,q,WideElems.Trod_stays hl hr.1.1 hr.1.2 h1 (λ x hx=>hb.same (hlt x (by rw [e];exact List.mem_append_left _ hx))) (λ x hx=>hs x (by rw [e];exact List.mem_append_left _ hx)),
   trodAll_stays hl hb sp hr.2 h2 (λ x hx=>hlt x (by rw [e];exact List.mem_append_right _ hx)) (λ x hx=>hs x (by rw [e];exact List.mem_append_right _ hx)),e⟩
end
end
section
open Go.ChangeShapes Go.WideShapes Go.ChangeAt Go.RowKit Go.Joins
namespace LW
theorem returns_laid_shaped {H:Type} {enc:TypeId×Value->H} {a:Assume} {C:Checked} {os:Os} {f:FuncId} {fn:Func} {s:ChangeSpec} {conds:List PathCond} {apart fresh handsOn again:Bool} {X:World->Array Value->Prop}
 (hX:∀ (w w':World) (args:Array Value),w.heap=w'.heap->X w args->X w' args)
 (ow:ownKnob C.prog.godebug=none) (started:os.Started) (noInit:C.prog.inits.idxOf? f=none) (hfn:C.prog.funcs[f]?=some fn)
 (witness:∃ (w:World) (tape:Tape) (i:Input),w.os=os/\(w.forCall tape i).Shaped C.prog/\i.vars=[]/\Input.okWide C.prog (w.forCall tape i) .any w.heap.size f i /\
   ((s.pre enc C.prog fn conds apart (w.forCall tape i).memory i.args/\X (w.forCall tape i).memory i.args)/\sizedMet enc C.prog fn (OpenSpec.ofChange s) apart (w.forCall tape i).memory i.args)/\a.holds C.prog (lone (Frame.enter C.prog f i.args .normal) [] (w.forCall tape i)))
 (contract:∀ (W:World) (base:Nat) (args:Array Value) (ds gs:List (DataW H)) (before:List MemPlace),
   (∀ (j:Nat) t v,fn.params[j]?=some t->args[j]?=some v->Value.okWide C.prog W .any base t v) ->
   DataW.Whole enc C.prog fn.params.toList s.vars apart W args.toList ds gs before->X W args->W.ShapedOpen C.prog ->
   Calls C.prog f args W λ e W'=>∃ v,e=.returned v/\s.post enc C.prog fn apart fresh handsOn again W args v W') :
 ReturnsInHanded a C os f .any (λ w args=>(s.pre enc C.prog fn conds apart w args/\X w args)/\sizedMet enc C.prog fn (OpenSpec.ofChange s) apart w args) (s.post enc C.prog fn apart fresh handsOn again):=by
 refine returnsInHanded_of_calls ow started noInit witness ?_
 intro w tape i _ hsh _ hok hpre _
 obtain⟨_,_,_,fn',hfn',_,_,_,_,hval⟩:=hok
 obtain rfl:fn'=fn:=Option.some.inj (hfn'.symm.trans hfn)
 obtain⟨⟨⟨ds,gs,before,hw,_⟩,hx⟩,_⟩:=hpre
 refine (contract (w.forCall tape i) w.heap.size i.args ds gs before hval (DataW.Whole.of_heap (w':=w.forCall tape i) (by rfl) hw) (hX _ _ _ (by rfl) hx) hsh).mono λ e W' ⟨v,he,hp⟩=>?_
 subst he
 exact ChangeSpec.post_blind hp
end LW
end
section
open Go.ChangeShapes Go.WideShapes Go.ChangeAt Go.RowKit
namespace P15
open P3 (fl pw lowI)
def Glob (w : World) : Prop := w.var? Tryz.prog "deadbolt/give.states" = some #[.int .i64 0, .int .i64 3, .int .i64 1, .int .i64 3, .int .i64 2, .int .i64 3, .int .i64 2, .int .i64 3]
theorem Glob.gr {w w':World} (h:Glob w) (g:Gr w w'):Glob w' :=
 Joins.var_stays (by kernel_rfl : Tryz.prog.globalNamed "deadbolt/give.states" = some 0) h g (Nat.le_refl _)
def st (a b c:Bool):Int:=if a then 3 else if c then 2 else if b then 1 else 0
theorem Glob.at_ {w:World} (h:Glob w) (a b c:Bool):w.cell? ⟨0,(lowI a b c).toNat,none⟩=some (.int .i64 (st a b c)):=by
 have hn : Tryz.prog.globalNamed "deadbolt/give.states" = some 0 := by kernel_rfl
 have hc:=World.var?_cell hn h
 cases a<;>cases b<;>cases c
 . exact hc 0
 . exact hc 4
 . exact hc 2
 . exact hc 6
 . exact hc 1
 . exact hc 5
 . exact hc 3
 . exact hc 7
theorem low_in (a b c:Bool):0<=lowI a b c/\lowI a b c<8:=by cases a<;>cases b<;>cases c<;>decide
section
variable {a b c:Bool} {n v:Int} {w:World}
theorem state_of (hg:Glob w) (hv:bits .and .i64 v 7=lowI a b c) :
 Calls Tryz.prog 199 #[.int .i64 v] w λ e w'=>e=.returned (.int .i64 (st a b c))/\w'=w:=by
 have h0:=hg.at_ a b c
 obtain⟨h1,h2⟩:=low_in a b c
 generalize lowI a b c=k at *
 go_enter Tryz.func199,Tryz.ntmps199
 go_wp2_with fail
 go_ret
 exact⟨rfl,rfl⟩
end
end P15
end
section
open Go.ChangeShapes Go.WideShapes Go.ChangeAt Go.RowKit
namespace P16
open P12 (PV PMem)
def FromB (B:Nat) (W W':World):Prop:=W.heap.size<=W'.heap.size/\∀ k,B<=k->k<W.heap.size->W'.heap[k]?=W.heap[k]?
section
variable {B B':Nat} {W W' W'':World}
theorem FromB.refl:FromB B W W:=⟨Nat.le_refl _,λ _ _ _=>rfl⟩
theorem FromB.trans (h:FromB B W W') (k:FromB B W' W''):FromB B W W'' :=
 ⟨Nat.le_trans h.1 k.1,λ j h1 h2=>(k.2 j h1 (Nat.lt_of_lt_of_le h2 h.1)).trans (h.2 j h1 h2)⟩
theorem FromB.up (h:FromB B W W') (hb:B<=B'):FromB B' W W':=⟨h.1,λ k h1 h2=>h.2 k (Nat.le_trans hb h1) h2⟩
theorem FromB.gr (g:Gr W W'):FromB B W W':=⟨g.size,λ k _ h=>g.block k h⟩
theorem FromB.st {p:Addr} (hp:p.block<B) (u:Value):FromB B W (W.setCell p u) :=
 ⟨by simp [World.setCell],λ k h1 _=>Below.heap_setCell W p u k (by omega)⟩
def WNew (B:Nat) (W:World) (r:WR) (ω:Wv):Prop:=∀ W',FromB B W W'->WIs W' r ω
variable {r:WR} {ω:Wv}
theorem WNew.is (h:WNew B W r ω):WIs W r ω:=h W FromB.refl
theorem WNew.to (h:WNew B W r ω) (g:FromB B W W'):WNew B W' r ω:=λ _ k=>h _ (g.trans k)
theorem WNew.gr (h:WNew B W r ω) (g:Gr W W'):WNew B W' r ω:=h.to (FromB.gr g)
theorem WNew.low (h:WNew B W r ω) (hb:B'<=B):WNew B' W r ω:=λ _ k=>h _ (k.up hb)
def ENew (B:Nat) (W:World) (A:Option Addr) (n:Nat) (l:List T3):Prop:=∀ W',FromB B W W'->T3Mem W' A n l
variable {A:Option Addr} {n:Nat} {l:List T3}
theorem ENew.is (h:ENew B W A n l):T3Mem W A n l:=h W FromB.refl
theorem ENew.to (h:ENew B W A n l) (g:FromB B W W'):ENew B W' A n l:=λ _ k=>h _ (g.trans k)
theorem ENew.gr (h:ENew B W A n l) (g:Gr W W'):ENew B W' A n l:=h.to (FromB.gr g)
theorem ENew.low (h:ENew B W A n l) (hb:B'<=B):ENew B' W A n l:=λ _ k=>h _ (k.up hb)
theorem ENew.nil:ENew B W none 0 []:=λ _ _=>RMem.nil_
theorem FromB.put6 {b:Nat} (hb:b<B) (x0 x1 x2 x3 x4 x5:Value):FromB B W ((((((W.setCell ⟨b,0,none⟩ x0).setCell ⟨b,1,none⟩ x1).setCell ⟨b,2,none⟩ x2).setCell ⟨b,3,none⟩ x3).setCell ⟨b,4,none⟩ x4).setCell ⟨b,5,none⟩ x5) :=
 ((((((FromB.st (p:=⟨b,0,none⟩) hb x0).trans (FromB.st (p:=⟨b,1,none⟩) hb x1)).trans (FromB.st (p:=⟨b,2,none⟩) hb x2)).trans (FromB.st (p:=⟨b,3,none⟩) hb x3)).trans (FromB.st (p:=⟨b,4,none⟩) hb x4)).trans (FromB.st (p:=⟨b,5,none⟩) hb x5))
end
def svs (tb:List Sp):List SV:=tb.map λ s=>⟨s.1,s.2.1,none,0,0,s.2.2⟩
theorem svs_pl (tb:List Sp):(svs tb).map SV.pl=tb:=by
 unfold svs
 rw [List.map_map]
 exact (List.map_congr_left λ x _=>rfl).trans (List.map_id _)
def TabA (tb:List Sp):Prop:=Tab (svs tb)/\∀ s∈tb,∃ m:Nat,m<4/\s.1=8*(m:Int)
def gtA (tb:List Sp) (m:Nat):Int×List Int:=gt (svs tb) (8*(m:Int))
def mxAt (l:List T3) (m:Nat):T3:=(l[m]?).getD (0,0,0)
def mw (ω:Wv):Mw:=⟨ω.now,ω.progs,ω.cl,λ m=>⟨(mxAt ω.mx m).1,(mxAt ω.mx m).2.1,(mxAt ω.mx m).2.2,(gtA ω.tb m).1,(gtA ω.tb m).2⟩,ω.stop⟩
def zeroW:Wv:=⟨0,[],[],[],[],0⟩
def newW (l:List (List Ac)):Wv:=⟨0,l,l.map λ p=>first 0 false 0 p.length,[(0,0,0),(0,0,0),(0,0,0),(0,0,0)],[],0⟩
theorem mxAt_zero (m:Nat):mxAt [(0,0,0),(0,0,0),(0,0,0),(0,0,0)] m=(0,0,0):=by
 unfold mxAt
 match m with
 | 0=>rfl
 | 1=>rfl
 | 2=>rfl
 | 3=>rfl
 | n+4=>rfl
theorem mw_new (l:List (List Ac)):mw (newW l)=P16.new l:=by
 unfold mw newW P16.new
 congr 1
 funext m
 dsimp only
 rw [mxAt_zero]
 rfl
structure CRight (p:List Ac) (c:Cl):Prop where
 a0:0<=c.act
 a1:c.act<=p.length
 dn:c.act=p.length↔c.gst=2
 tk:0<=c.ticket/\c.ticket<4294967296
 sc:c.since=-1\/(0<=c.since/\c.since<=4611686018427387904)
 rd:0<=c.rounds/\c.rounds<=4
 ol:OkW c.old
 fin:c.act=p.length->c.pc=0/\c.worked=0
 at_:∀ k n,p[c.act.toNat]?=some (k,n)->OkPc k c.pc/\(c.worked=0\/(k=3/\0<c.worked/\c.worked<n))
structure RightW (ω:Wv):Prop where
 now:0<=ω.now/\ω.now<=4611686018427387904
 progs:P12.rightB ω.progs=true
 len:ω.cl.length=ω.progs.length
 m4:ω.mx.length=4
 tab:TabA ω.tb
 ids:∀ s∈ω.tb,∀ x∈s.2.2,x<(ω.cl.length:Int)
 gors:∀ c∈ω.cl,(c.gst=0\/c.gst=1\/c.gst=2)/\(c.permit=true->c.gst=0)
 cls:∀ (i:Nat) c p,ω.cl[i]?=some c->ω.progs[i]?=some p->CRight p c
 mxs:∀ x∈ω.mx,OkW x.1/\(0<=x.2.1/\x.2.1<4294967296)/\(0<=x.2.2/\x.2.2<4294967296)
 stop:ω.stop=0\/ω.stop=11\/ω.stop=12
def Still (ω:Wv) (who:Int):Prop:=ω.stop≠0\/who<0\/(ω.cl.length:Int)<=who\/∃ c,ω.cl[who.toNat]?=some c/\c.gst≠0
def NewM (l:List (List Ac)) (ψ:Wv) (x:Int):Prop:=(P12.rightB l=true/\ψ=newW l/\x=0)\/(P12.rightB l=false/\ψ=zeroW/\x=1)
def StepM (ω:Wv) (who:Int) (ψ:Wv) (ev:List T3) (x:Int):Prop :=
 (¬ RightW ω/\ψ=zeroW/\ev=[]/\x=1) \/
 (RightW ω/\Still ω who/\ψ=ω/\ev=[]/\x=0) \/
 (RightW ω/\¬ Still ω who/\ψ.mx.length=4/\TabA ψ.tb/\mw ψ=(stp (mw ω) who.toNat).1/\ev=(stp (mw ω) who.toNat).2.toList/\x=0)
def Tim (d:Int):Prop:=0<=d/\d<=4611686018427387904
def TickM (ω:Wv) (d:Int) (ψ:Wv) (x:Int):Prop :=
 (¬ (RightW ω/\Tim d)/\ψ=zeroW/\x=1) \/
 (RightW ω/\Tim d/\ω.stop≠0/\ψ=ω/\x=0) \/
 (RightW ω/\Tim d/\ω.stop=0/\ω.now+d<=4611686018427387904/\ψ={ ω with now:=ω.now+d }/\x=0) \/
 (RightW ω/\Tim d/\ω.stop=0/\4611686018427387904<ω.now+d/\ψ=zeroW/\x=10)
structure Mach:Prop where
 new:∀ (W:World) (A:Option Addr) (n c:Nat) (R:List PV),P15.Glob W->PMem W A n R->n<=9223372036854775807 ->
  Calls Tryz.prog 12 #[.slice A n c] W λ e W'=>(∃ (s:WR) (ψ:Wv) (x:Int),e=.returned (.tuple #[s.v,.int .i64 x])/\NewM (P12.pl R) ψ x/\WNew W.heap.size W' s ψ)/\Gr W W'
 step:∀ (W:World) (r:WR) (ω:Wv) (who:Int),P15.Glob W->WIs W r ω->B64 who ->
  Calls Tryz.prog 20 #[r.v,.int .i64 who] W λ e W'=>(∃ (s:WR) (ψ:Wv) (A:Option Addr) (n c:Nat) (ev:List T3) (x:Int),e=.returned (.tuple #[s.v,.slice A n c,.int .i64 x])/\StepM ω who ψ ev x/\WNew W.heap.size W' s ψ/\ENew W.heap.size W' A n ev/\n<=c/\c<=9223372036854775807)/\Gr W W'
 tick:∀ (W:World) (r:WR) (ω:Wv) (d:Int),P15.Glob W->WIs W r ω->B64 d ->
  Calls Tryz.prog 21 #[r.v,.int .i64 d] W λ e W'=>(∃ (s:WR) (ψ:Wv) (x:Int),e=.returned (.tuple #[s.v,.int .i64 x])/\TickM ω d ψ x/\WNew W.heap.size W' s ψ)/\Gr W W'
structure Fine (ω:Wv):Prop where
 inv:WInv (mw ω)
 progs:P12.rightB ω.progs=true
 m4:ω.mx.length=4
 tab:TabA ω.tb
theorem right_facts {l:List (List Ac)} (h:P12.rightB l=true):l.length<=8/\∀ p∈l,p.length<=64/\∀ a∈p,P12.okA a=true:=by
 unfold P12.rightB at h
 simp only [Bool.and_eq_true,decide_eq_true_eq,List.all_eq_true] at h
 exact⟨h.1,λ p hp=>h.2 p hp⟩
theorem okA_OkA {a:Ac} (h:P12.okA a=true):OkA a:=by
 rcases P12.okA_iff.1 h with h | h<;>unfold OkA<;>omega
theorem Fine.new {l:List (List Ac)} (h:P12.rightB l=true):Fine (newW l):=by
 refine⟨?_,h,rfl,Tab.nil,λ s hs=>by cases hs⟩
 rw [mw_new]
 obtain⟨h1,h2⟩:=right_facts h
 exact WInv.new h1 λ p hp a ha=>okA_OkA ((h2 p hp).2 a ha)
theorem mxAt_get {l:List T3} {m:Nat} {x:T3} (h:l[m]?=some x):mxAt l m=x:=by unfold mxAt;rw [h];rfl
section
variable {ω ψ:Wv} {who d:Int} {ev:List T3} {x:Int}
theorem Fine.right (h:Fine ω):RightW ω:=by
 have hi:=h.inv
 refine⟨hi.tm,h.progs,hi.len,h.m4,h.tab,λ s hs y hy=>?_,λ c hc=>?_,λ i c p hc hp=>?_,λ y hy=>?_,?_⟩
 . obtain⟨m,hm,e⟩:=h.tab.2 s hs
   have hmem:(⟨s.1,s.2.1,none,0,0,s.2.2⟩:SV)∈svs ω.tb:=List.mem_map.2 ⟨s,hs,rfl⟩
   have hg:=gt_mem h.tab.1.2 hmem
   have hL:=(hi.iv m hm).L.lm y
   have e2:(mw ω).cm m=⟨(mxAt ω.mx m).1,(mxAt ω.mx m).2.1,(mxAt ω.mx m).2.2,s.2.1,s.2.2⟩:=by
    show (⟨_,_,_,(gtA ω.tb m).1,(gtA ω.tb m).2⟩:Cm)=_
    unfold gtA
    rw [<- e]
    rw [hg]
   rw [e2] at hL
   obtain⟨i,hi1,rfl,_⟩:=hL.1 hy
   have:ω.cl.length=ω.progs.length:=hi.len
   have hi1:i<ω.progs.length:=hi1
   omega
 . obtain⟨i,hc⟩:=List.getElem?_of_mem hc
   have hlt:=(List.getElem?_eq_some_iff.1 hc).1
   have hl:ω.cl.length=ω.progs.length:=hi.len
   have hci:=hi.ci i c (ω.progs[i]'(by omega)) hc (List.getElem?_eq_getElem _)
   exact⟨hci.g,λ q=>by rw [hci.pm] at q;cases q⟩
 . have hci:=hi.ci i c p hc hp
   refine⟨hci.a0,hci.a1,hci.dn.symm,hci.tb,hci.sc,hci.rd,hci.ol,λ e=>⟨hci.fin e,?_⟩,λ k n ha=>⟨hci.pcs k n ha,?_⟩⟩
   . rcases hci.wk with q | ⟨_,n,q,_⟩
     . exact q
     . have:=(List.getElem?_eq_some_iff.1 q).1
       omega
   . rcases hci.wk with q | ⟨q0,n',q,q2⟩
     . exact .inl q
     . rw [ha] at q
       cases q
       exact .inr ⟨rfl,q0,q2⟩
 . obtain⟨m,hy⟩:=List.getElem?_of_mem hy
   have hlt:=(List.getElem?_eq_some_iff.1 hy).1
   have hm:m<4:=by rw [<- h.m4];exact hlt
   have e:mxAt ω.mx m=y:=mxAt_get hy
   have h1:=hi.ow m hm
   have h2:=(hi.iv m hm).T.nb
   have h3:=(hi.iv m hm).T.sb
   have h1:OkW (mxAt ω.mx m).1:=h1
   have h2:0<=(mxAt ω.mx m).2.1/\(mxAt ω.mx m).2.1<4294967296:=h2
   have h3:0<=(mxAt ω.mx m).2.2/\(mxAt ω.mx m).2.2<4294967296:=h3
   rw [e] at h1 h2 h3
   exact⟨h1,h2,h3⟩
 . rcases hi.st with q | q
   . exact .inl q
   . exact .inr (.inl q)
theorem still_stp (h:RightW ω) (hs:Still ω who) (h0:0<=who):stp (mw ω) who.toNat=(mw ω,none):=by
 unfold stp
 cases hc:(mw ω).cl[who.toNat]? with
 | none=>rfl
 | some c =>
  cases hp:(mw ω).progs[who.toNat]? with
  | none=>rfl
  | some p =>
   have hc:ω.cl[who.toNat]?=some c:=hc
   have hlt:=(List.getElem?_eq_some_iff.1 hc).1
   dsimp only
   rw [if_pos]
   rcases hs with q | q | q | ⟨c',q1,q2⟩
   . exact .inl q
   . omega
   . omega
   . rw [hc] at q1;cases q1;exact .inr q2
theorem StepM.fine (h:Fine ω) (hs:StepM ω who ψ ev x):Fine ψ/\x=0/\ψ.progs=ω.progs/\((who<0/\ψ=ω/\ev=[])\/(0<=who/\StpR (mw ω) who.toNat (mw ψ) ((stp (mw ω) who.toNat).2)/\(ω.stop≠0->ψ=ω)/\mw ψ=(stp (mw ω) who.toNat).1/\ev=(stp (mw ω) who.toNat).2.toList)):=by
 have hr:=h.right
 rcases hs with ⟨q,_⟩ | ⟨_,q,rfl,rfl,rfl⟩ | ⟨_,q,m4,tab,e1,rfl,rfl⟩
 . exact absurd hr q
 . refine⟨h,rfl,rfl,?_⟩
   by_cases h0:who<0
   . exact .inl ⟨h0,rfl,rfl⟩
   . have e:=still_stp hr q (by omega)
     have hi:=stp_inv h.inv who.toNat
     rw [e] at hi ⊢
     exact .inr ⟨by omega,hi,λ _=>rfl,rfl,rfl⟩
 . have hi:=stp_inv h.inv who.toNat
   rw [<- e1] at hi
   have hp:ψ.progs=ω.progs:=hi.pr
   have h0:0<=who:=by
    by_cases h0:0<=who
    . exact h0
    . exact absurd (.inr (.inl (by omega))) q
   exact⟨⟨hi.inv,by rw [hp];exact h.progs,m4,tab⟩,rfl,hp,.inr ⟨h0,hi,λ hn=>absurd (.inl hn) q,e1,rfl⟩⟩
end
end P16
end
section
open Go.ChangeShapes Go.WideShapes Go.ChangeAt Go.RowKit
namespace P12
def cutV (x:PV):PV:=⟨x.A,if 70<x.n then 70 else x.n,x.c,x.l.take 70⟩
theorem cutV_ok {w:World} {x:PV} (h:x.ok w):(cutV x).ok w:=by
 obtain⟨h1,h2,h3⟩:=h
 refine⟨?_,?_,h3⟩
 . show Mem w x.A (if 70<x.n then 70 else x.n) (x.l.take 70)
   split
   . exact h1.take_ 70 (by omega)
   . rw [List.take_of_length_le (by have:=h1.1;omega)]
     exact h1
 . show (if 70<x.n then 70 else x.n)<=x.c
   split<;>omega
def fewP (l:List (List Ac)):List (List Ac):=(l.take 10).map λ p=>p.take 70
theorem take_snoc {α:Type} {l:List α} {k:Nat} {x:α} (h:l[k]?=some x):l.take (k+1)=l.take k++[x]:=by
 rw [List.take_add_one,h];rfl
end P12
end
section
open Go.ChangeShapes Go.WideShapes Go.ChangeAt Go.RowKit
namespace P16
open P12 (PV PMem POwn pl fewP cutV cutV_ok take_snoc pmem_one wpList_append_progs Ac)
theorem few_is {w:World} {A:Option Addr} {n c:Nat} {L:List PV} (hm:PMem w A n L) (hc:n<=c) (hn:n<=9223372036854775807) :
 Calls Tryz.prog 13 #[.slice A n c] w λ e w'=>(∃ B m d R,e=.returned (.slice B m d)/\R=(L.take 10).map cutV/\pl R=fewP (pl L)/\m<=10/\POwn w' w.heap.size 0 B m d R)/\Gr w w':=by
 have hlen:=hm.len
 obtain⟨N,hN⟩:∃ N:Nat,(if (10:Int)<(n:Int) then (10:Int) else (n:Int))=(N:Int)/\N<=n/\N<=10/\L.take 10=L.take N:=by
  by_cases h:10<n
  . exact⟨10,by rw [if_pos (by omega)];rfl,by omega,by omega,rfl⟩
  . exact⟨n,by rw [if_neg (by omega)],by omega,by omega,by rw [List.take_of_length_le (by omega),List.take_of_length_le (by omega)]⟩
 obtain⟨hN,hNn,hN10,htk⟩:=hN
 have hNm:min (n:Int) 10=(N:Int):=by rw [<- hN];split<;>omega
 have HM:=hid hm
 have HTK:=hid htk
 have h0:(0:Int)<=(N:Int):=by omega
 have h1:(N:Int)<=(c:Int):=by omega
 clear hm htk
 go_enter Tryz.func13,Tryz.ntmps13
 go_wp2_with fail
 go_loopw [3,12] (λ O i wr=>∃ (k:Nat) (B:Option Addr) (d:Nat),k<=N/\i=.int .i64 (k:Int)/\O=.slice B k d/\Hid (POwn wr w.heap.size 0 B k d ((L.take k).map cutV))/\Hid (Gr w wr)) (λ _ i _=>N-(intOf i).toNat)
 case atStart=>exact⟨0,none,0,Nat.zero_le _,rfl,rfl,hid POwn.nil,hid (Gr.refl _)⟩
 case round =>
  obtain⟨k,B,d,hk,rfl,rfl,HR,HG⟩:=hrel
  by_cases hlt:k<N
  . obtain⟨b,off,x,rfl,hbl,hx,hok,d0⟩:=(HM.out.gr HG.out).at_ (show k<n by omega)
    have hxold:x.ok w:=HM.out.2 x (List.mem_of_getElem? hx)
    have HX:=hid (show (L.take (k+1)).map cutV=(L.take k).map cutV++[cutV x] from by rw [take_snoc hx,List.map_append];rfl)
    have k0:(0:Int)<=(k:Int):=by omega
    have k1:(k:Int)<(N:Int):=by omega
    obtain⟨q,hq⟩:∃ q,(if 70<x.n then 70 else x.n)=q:=⟨_,rfl⟩
    have hqi:(if (70:Int)<(x.n:Int) then (70:Int) else (x.n:Int))=(q:Int):=by rw [<- hq];split<;>split<;>omega
    have hqm:min (x.n:Int) 70=(q:Int):=by rw [<- hqi];split<;>omega
    have q0:(0:Int)<=(q:Int):=by omega
    have q1:(q:Int)<=(x.c:Int):=by have:=hok.2.1;rw [<- hq];split<;>omega
    have hcv:cutV x=⟨x.A,q,x.c,x.l.take 70⟩:=by unfold cutV;rw [hq]
    have g1:=(Gr.refl wr).al (.cells #[.slice x.A q x.c] 64)
    have hcok:(cutV x).ok (wr.alloc (.cells #[.slice x.A q x.c] 64)):=(cutV_ok hok).gr g1
    have HPM:=hid (pmem_one (x:=cutV x) (by rw [hcv];exact Blk.new wr #[.slice x.A q x.c] 64) hcok)
    have HOW:=hid (HR.out.gr g1)
    have hlate:=HR.out.late
    have hws:=HG.out.size
    have HOFF:Hid (∀ z∈[cutV x],0<z.n->∀ j,z.A.map (·.block)=some j->0<=j/\j<(wr.alloc (.cells #[.slice x.A q x.c] 64)).heap.size/\B.map (·.block)≠some j):=hid λ z hz hz0 j hj=>by
     rw [List.mem_singleton] at hz
     subst hz
     obtain⟨b',off',e,hb',_⟩:=(cutV_ok hxold).1.2.2 hz0
     rw [e] at hj
     simp at hj
     refine⟨Nat.zero_le _,by rw [World.size_alloc];omega,λ e2=>?_⟩
     have:=hlate _ e2
     omega
    have HG2:=hid (HG.out.trans g1)
    have hbase:w.heap.size<=(wr.alloc (.cells #[.slice x.A q x.c] 64)).heap.size:=HG2.out.size
    have HLT:=hid hlate
    clear hx hok g1 hcok hcv hq hxold hlate
    go_wp2_with (at_builtin;refine Mark.stop ?_)
    refine Mark.go ?_
    refine wpList_append_progs (news:=[cutV x]) rfl (.tmp 16) (.tmp 22) rfl rfl rfl HOW.out HPM.out HOFF.out (by omega) hbase ?_
    intro A' c' w3 hG
    have HP3:=hG.1
    rw [<- HX.out] at HP3
    have HP3:=hid HP3
    have HG3:=hid (HG2.out.gb hG.2 (λ j e=>HLT.out j e))
    clear hG
    go_wp2_with fail
    go_roundw
    case rel=>exact⟨k+1,A',c',by omega,by go_num,rfl,HP3,HG3⟩
    case measure=>simp [intOf];omega
  . obtain rfl:k=N:=by omega
    have HF:=hid (show pl ((L.take k).map cutV)=fewP (pl L) from by
     unfold pl fewP
     rw [<- List.map_take,HTK.out,List.map_map,List.map_map]
     rfl)
    go_wp2_with fail
    go_ret
    exact⟨⟨B,k,d,_,rfl,by rw [HTK.out],HF.out,hN10,HR.out⟩,HG.out⟩
end P16
end
section
open Go.ChangeShapes Go.WideShapes Go.ChangeAt Go.RowKit Go.Joins
namespace P16
theorem run_mutex_neq (x y:T3) {b:Bool} (hb:b=true↔x=y) (w:World) :
 (binOp .neq 48 (.agg #[.int .i64 x.1,.int .i64 x.2.1,.int .i64 x.2.2]) (.agg #[.int .i64 y.1,.int .i64 y.2.1,.int .i64 y.2.2])).run Tryz.prog w=.ok (.bool (!b)) w:=by
 obtain⟨x1,x2,x3⟩:=x
 obtain⟨y1,y2,y3⟩:=y
 have hb:=hid hb
 go_simp
 have hb:=hb.out
 simp only [Prod.mk.injEq] at hb
 repeat' split
 all_goals (congr 2;cases b<;>simp_all)
theorem client_ext {x y:Cl} (h:x.gst=y.gst/\x.permit=y.permit/\x.act=y.act/\x.pc=y.pc/\x.worked=y.worked/\x.ticket=y.ticket/\x.first=y.first/\x.told=y.told/\x.since=y.since/\x.st=y.st/\x.aw=y.aw/\x.rounds=y.rounds/\x.old=y.old):x=y:=by
 cases x;cases y;simp_all
theorem run_client_neq (x y:Cl) {b:Bool} (hb:b=true↔x=y) (w:World) :
 (binOp .neq 55 (.agg #[.int .i64 x.gst,.bool x.permit,.int .i64 x.act,.int .i64 x.pc,.int .i64 x.worked,.int .i64 x.ticket,.bool x.first,.bool x.told,.int .i64 x.since,.bool x.st,.bool x.aw,.int .i64 x.rounds,.int .i64 x.old]) (.agg #[.int .i64 y.gst,.bool y.permit,.int .i64 y.act,.int .i64 y.pc,.int .i64 y.worked,.int .i64 y.ticket,.bool y.first,.bool y.told,.int .i64 y.since,.bool y.st,.bool y.aw,.int .i64 y.rounds,.int .i64 y.old])).run Tryz.prog w=.ok (.bool (!b)) w:=by
 have no:x≠y->Result.ok (Value.bool true) w=Result.ok (Value.bool (!b)) w:=λ h=>by
  have e:b=false:=by
   cases b with
   | false=>rfl
   | true=>exact absurd (hb.1 rfl) h
  rw [e];rfl
 have yes:x=y->Result.ok (Value.bool false) w=Result.ok (Value.bool (!b)) w:=λ h=>by rw [hb.2 h];rfl
 clear hb
 go_simp
 by_cases h0:x.gst=y.gst
 rotate_left
 . rw [if_neg h0];exact no (λ e=>h0 (by rw [e]))
 rw [if_pos h0]
 by_cases h1:x.permit=y.permit
 rotate_left
 . rw [if_neg h1];exact no (λ e=>h1 (by rw [e]))
 rw [if_pos h1]
 by_cases h2:x.act=y.act
 rotate_left
 . rw [if_neg h2];exact no (λ e=>h2 (by rw [e]))
 rw [if_pos h2]
 by_cases h3:x.pc=y.pc
 rotate_left
 . rw [if_neg h3];exact no (λ e=>h3 (by rw [e]))
 rw [if_pos h3]
 by_cases h4:x.worked=y.worked
 rotate_left
 . rw [if_neg h4];exact no (λ e=>h4 (by rw [e]))
 rw [if_pos h4]
 by_cases h5:x.ticket=y.ticket
 rotate_left
 . rw [if_neg h5];exact no (λ e=>h5 (by rw [e]))
 rw [if_pos h5]
 by_cases h6:x.first=y.first
 rotate_left
 . rw [if_neg h6];exact no (λ e=>h6 (by rw [e]))
 rw [if_pos h6]
 by_cases h7:x.told=y.told
 rotate_left
 . rw [if_neg h7];exact no (λ e=>h7 (by rw [e]))
 rw [if_pos h7]
 by_cases h8:x.since=y.since
 rotate_left
 . rw [if_neg h8];exact no (λ e=>h8 (by rw [e]))
 rw [if_pos h8]
 by_cases h9:x.st=y.st
 rotate_left
 . rw [if_neg h9];exact no (λ e=>h9 (by rw [e]))
 rw [if_pos h9]
 by_cases h10:x.aw=y.aw
 rotate_left
 . rw [if_neg h10];exact no (λ e=>h10 (by rw [e]))
 rw [if_pos h10]
 by_cases h11:x.rounds=y.rounds
 rotate_left
 . rw [if_neg h11];exact no (λ e=>h11 (by rw [e]))
 rw [if_pos h11]
 by_cases h12:x.old=y.old
 rotate_left
 . rw [if_neg h12];exact no (λ e=>h12 (by rw [e]))
 rw [if_pos h12]
 exact yes (client_ext ⟨h0,h1,h2,h3,h4,h5,h6,h7,h8,h9,h10,h11,h12⟩)
end P16
end
section
namespace P12
def ho (b:Bool) (m:Int):Option Int:=if b then some m else none
theorem held_try {b:Bool} {m:Int} {a:Ac} {r:List Ac} (h:a.1=1):held (ho b m) (a::r)=none:=by rw [held,if_pos h]
theorem held_lock_no {m:Int} {a:Ac} {r:List Ac} (h:a.1=0):held (ho true m) (a::r)=none:=by rw [held,if_neg (by omega),if_pos h];rfl
theorem held_lock {m:Int} {a:Ac} {r:List Ac} (h:a.1=0):held (ho false m) (a::r)=held (ho true a.2) r:=by rw [held,if_neg (by omega),if_pos h];rfl
theorem held_unlock_no {b:Bool} {m:Int} {a:Ac} {r:List Ac} (h:a.1=2) (hb:b=false\/a.2≠m):held (ho b m) (a::r)=none:=by
 rw [held,if_neg (by omega),if_neg (by omega),if_pos h,if_neg]
 intro e
 cases b
 . cases e
 . rcases hb with hb | hb
   . cases hb
   . exact hb (Option.some.inj e).symm
theorem held_unlock {m:Int} {a:Ac} {r:List Ac} (h:a.1=2) (hm:a.2=m):held (ho true m) (a::r)=held (ho false m) r:=by
 rw [held,if_neg (by omega),if_neg (by omega),if_pos h,if_pos (by rw [hm];rfl)];rfl
theorem held_other {b:Bool} {m:Int} {a:Ac} {r:List Ac} (h0:a.1≠0) (h1:a.1≠1) (h2:a.1≠2):held (ho b m) (a::r)=held (ho b m) r:=by
 rw [held,if_neg h1,if_neg h0,if_neg h2]
theorem tidy_end (b:Bool) (m:Int):(held (ho b m) []==some none)=!b:=by cases b<;>rfl
end P12
end
section
open Go.ChangeShapes Go.WideShapes Go.ChangeAt Go.RowKit
namespace P12
theorem ret_bool {a b:Bool} (h:a=b):Ending.returned (.bool a)=.returned (.bool b):=by rw [h]
theorem unfit_is {a:Ac} {B:Bool} (hB:okA a=B) (w:World):Calls Tryz.prog 83 #[.agg #[.int .i64 a.1,.int .i64 a.2]] w λ e w'=>e=.returned (.bool (!B))/\Gr w w':=by
 obtain⟨k,n⟩:=a
 have key:∀ B',okA (k,n)=B'->Hid (B'=B):=λ B' h=>hid (by rw [<- h,hB])
 clear hB
 by_cases h4:0<=k/\k<=2
 . have e:k=0\/k=1\/k=2:=by omega
   clear h4
   by_cases h0:n<0
   . have HB:=key false (by unfold okA;rcases e with rfl | rfl | rfl<;>simp<;>omega)
     clear key
     rcases e with rfl | rfl | rfl<;>(
      go_enter Tryz.func83,Tryz.ntmps83
      go_wp2_with fail
      go_ret
      rw [<- HB.out]
      exact⟨rfl,(Gr.refl w).al _⟩)
   . by_cases h3:n<4
     . have HB:=key true (by unfold okA;rcases e with rfl | rfl | rfl<;>simp<;>omega)
       have h3':¬ (4:Int)<=n:=by omega
       clear key
       rcases e with rfl | rfl | rfl<;>(
        go_enter Tryz.func83,Tryz.ntmps83
        go_wp2_with fail
        go_ret
        rw [<- HB.out]
        exact⟨rfl,(Gr.refl w).al _⟩)
     . have HB:=key false (by unfold okA;rcases e with rfl | rfl | rfl<;>simp<;>omega)
       have h3':(4:Int)<=n:=by omega
       clear key
       rcases e with rfl | rfl | rfl<;>(
        go_enter Tryz.func83,Tryz.ntmps83
        go_wp2_with fail
        go_ret
        rw [<- HB.out]
        exact⟨rfl,(Gr.refl w).al _⟩)
 . by_cases h5:k=3
   . subst h5
     by_cases h0:n<0
     . have HB:=key false (by unfold okA;simp;omega)
       clear key
       go_enter Tryz.func83,Tryz.ntmps83
       go_wp2_with fail
       go_ret
       rw [<- HB.out]
       exact⟨rfl,(Gr.refl w).al _⟩
     . by_cases h3:1000<n
       . have HB:=key false (by unfold okA;simp;omega)
         clear key
         go_enter Tryz.func83,Tryz.ntmps83
         go_wp2_with fail
         go_ret
         rw [<- HB.out]
         exact⟨rfl,(Gr.refl w).al _⟩
       . have HB:=key true (by unfold okA;simp;omega)
         clear key
         go_enter Tryz.func83,Tryz.ntmps83
         go_wp2_with fail
         go_ret
         rw [<- HB.out]
         exact⟨rfl,(Gr.refl w).al _⟩
   . have HB:=key false (by unfold okA;rw [if_neg h5];simp;omega)
     have e0:(k==0)=false:=by simp;omega
     have e1:(k==1)=false:=by simp;omega
     have e2:(k==2)=false:=by simp;omega
     have e3:(k==3)=false:=by simp;omega
     clear key h4 h5
     go_enter Tryz.func83,Tryz.ntmps83
     go_wp2_with fail
     go_ret
     rw [<- HB.out]
     exact⟨rfl,(Gr.refl w).al _⟩
def badAt {α:Type} (p:α->Bool):List α->Nat->Int
 | [],_=>-1
 | x::r,k=>if p x then badAt p r (k+1) else k
theorem badAt_is {α:Type} (p:α->Bool) (l:List α):∀ k:Nat,decide (0<=badAt p l k)=!l.all p:=by
 induction l with
 | nil=>intro k;rfl
 | cons x r ih =>
  intro k
  unfold badAt
  cases hx:p x
  . simp [hx]
  . simp [hx,ih]
theorem IndexFunc_ok (A:Option Addr) (n c:Nat) (l:List Ac) (w:World) (hm:Mem w A n l) (hn:n<=9223372036854775807) :
 Calls Tryz.prog 120 #[.slice A n c,.func (.func 83) #[] #[]] w λ e w'=>e=.returned (.int .i64 (badAt okA l 0))/\Gr w w':=by
 go_enter Tryz.func120,Tryz.ntmps120
 go_wp2_with fail
 go_loopw [8] (λ i wr=>∃ k:Nat,k<=n/\i=.int .i64 k/\Hid (badAt okA (l.drop k) k=badAt okA l 0)/\Gr w wr) (λ i _=>n-(intOf i).toNat)
 case atStart=>exact⟨0,Nat.zero_le _,rfl,hid rfl,Gr.refl _⟩
 case round =>
  obtain⟨k,hk,rfl,HB,hg⟩:=hrel
  by_cases hlt:k<n
  . obtain⟨b,off,x,rfl,hbl,hx,h1,h2,c0,c1⟩:=(hm.gr hg).at_ hlt
    have hd:l.drop k=x::l.drop (k+1):=by
     obtain⟨hl,rfl⟩:=List.getElem?_eq_some_iff.1 hx
     exact List.drop_eq_getElem_cons hl
    cases hf:okA x
    . have hr:badAt okA l 0=(k:Int):=by rw [<- HB.out,hd];simp [badAt,hf]
      have cc:=λ w=>hid (unfit_is hf w)
      have HR:=hid hr
      clear hr hd hf hx HB hm
      go_wp2_with fail
      with_reducible refine (cc _).out.mono ?_
      rintro e w1 ⟨rfl,hb1⟩
      go_wp2_with fail
      go_ret
      rw [HR.out]
      exact⟨rfl,hg.trans hb1⟩
    . have hr:Hid (badAt okA (l.drop (k+1)) (k+1)=badAt okA l 0):=hid (by rw [<- HB.out,hd];simp [badAt,hf])
      have cc:=λ w=>hid (unfit_is hf w)
      clear hd hf hx HB hm
      go_wp2_with fail
      with_reducible refine (cc _).out.mono ?_
      rintro e w1 ⟨rfl,hb1⟩
      go_wp2_with fail
      go_roundw
      case rel=>exact⟨k+1,by omega,by go_num,hr,hg.trans hb1⟩
      case measure=>simp [intOf];omega
  . obtain rfl:k=n:=by omega
    have hr:badAt okA l 0=-1:=by rw [<- HB.out,List.drop_of_length_le (by have:=hm.1;omega)];rfl
    have HR:=hid hr
    clear hr HB hm
    go_wp2_with fail
    go_ret
    rw [HR.out]
    exact⟨rfl,hg⟩
theorem ContainsFunc_ok (A:Option Addr) (n c:Nat) (l:List Ac) (w:World) (hm:Mem w A n l) (hn:n<=9223372036854775807) :
 Calls Tryz.prog 82 #[.slice A n c,.func (.func 83) #[] #[]] w λ e w'=>e=.returned (.bool (!l.all okA))/\Gr w w':=by
 have cc:=λ w hm=>hid (IndexFunc_ok A n c l w hm hn)
 have HB:=hid (badAt_is okA l 0)
 generalize badAt okA l 0=r at *
 go_enter Tryz.func82,Tryz.ntmps82
 go_wp2_with fail
 with_reducible refine (cc _ hm).out.mono ?_
 rintro e w1 ⟨rfl,hb1⟩
 go_wp2_with fail
 go_ret
 exact⟨ret_bool HB.out,hb1⟩
def okP (p:List Ac):Bool:=decide (p.length<=64)&&p.all okA
theorem rightB_okP (l:List (List Ac)):rightB l=(decide (l.length<=8)&&l.all okP):=rfl
theorem unfitProgram_is (x:PV) {B:Bool} (hB:okP x.l=B) (w:World) (hm:x.ok w) :
 Calls Tryz.prog 56 #[.slice x.A x.n x.c] w λ e w'=>e=.returned (.bool (!B))/\Gr w w':=by
 have hn:=hm.lt
 obtain⟨A,n,c,l⟩:=x
 have hm:=hm.1
 dsimp only at hm hn hB ⊢
 by_cases h64:n<=64
 . have hr:l.all okA=B:=by rw [<- hB];simp [okP,hm.1,h64]
   have cc:=λ w hm=>hid (ContainsFunc_ok A n c l w hm hn)
   have HR:=hid hr
   clear hr hB
   generalize l.all okA=B' at *
   have h65:¬ 64<n:=by omega
   go_enter Tryz.func56,Tryz.ntmps56
   go_wp2_with fail
   with_reducible refine (cc _ hm).out.mono ?_
   rintro e w1 ⟨rfl,hb1⟩
   go_wp2_with fail
   go_ret
   rw [HR.out]
   exact⟨ret_bool (by simp;intro h;omega),hb1⟩
 . have hr:false=B:=by rw [<- hB];simp [okP,hm.1,h64]
   have HR:=hid hr
   have h65:64<n:=by omega
   clear hr hB
   go_enter Tryz.func56,Tryz.ntmps56
   go_wp2_with fail
   go_ret
   rw [<- HR.out]
   exact⟨rfl,Gr.refl _⟩
def okV (x:PV):Bool:=okP x.l
theorem IndexFuncP_ok (A:Option Addr) (n c:Nat) (R:List PV) (w:World) (hm:PMem w A n R) (hn:n<=9223372036854775807) :
 Calls Tryz.prog 81 #[.slice A n c,.func (.func 56) #[] #[]] w λ e w'=>e=.returned (.int .i64 (badAt okV R 0))/\Gr w w':=by
 go_enter Tryz.func81,Tryz.ntmps81
 go_wp2_with fail
 go_loopw [8] (λ i wr=>∃ k:Nat,k<=n/\i=.int .i64 k/\Hid (badAt okV (R.drop k) k=badAt okV R 0)/\Gr w wr) (λ i _=>n-(intOf i).toNat)
 case atStart=>exact⟨0,Nat.zero_le _,rfl,hid rfl,Gr.refl _⟩
 case round =>
  obtain⟨k,hk,rfl,HB,hg⟩:=hrel
  by_cases hlt:k<n
  . obtain⟨b,off,x,rfl,hbl,hx,ho,c0⟩:=(hm.gr hg).at_ hlt
    have hd:R.drop k=x::R.drop (k+1):=by
     obtain⟨hl,rfl⟩:=List.getElem?_eq_some_iff.1 hx
     exact List.drop_eq_getElem_cons hl
    have cc:=λ w hm B hf=>hid (unfitProgram_is x (B:=B) hf w hm)
    cases hf:okP x.l
    . have hr:badAt okV R 0=(k:Int):=by rw [<- HB.out,hd];simp [badAt,okV,hf]
      have HR:=hid hr
      have cc:=λ w hm=>cc w hm _ hf
      clear hr hd hf hx HB hm
      go_wp2_with fail
      with_reducible refine (cc _ ho).out.mono ?_
      rintro e w1 ⟨rfl,hb1⟩
      go_wp2_with fail
      go_ret
      rw [HR.out]
      exact⟨rfl,hg.trans hb1⟩
    . have hr:Hid (badAt okV (R.drop (k+1)) (k+1)=badAt okV R 0):=hid (by rw [<- HB.out,hd];simp [badAt,okV,hf])
      have cc:=λ w hm=>cc w hm _ hf
      clear hd hf hx HB hm
      go_wp2_with fail
      with_reducible refine (cc _ ho).out.mono ?_
      rintro e w1 ⟨rfl,hb1⟩
      go_wp2_with fail
      go_roundw
      case rel=>exact⟨k+1,by omega,by go_num,hr,hg.trans hb1⟩
      case measure=>simp [intOf];omega
  . obtain rfl:k=n:=by omega
    have hr:badAt okV R 0=-1:=by rw [<- HB.out,List.drop_of_length_le (by have:=hm.len;omega)];rfl
    have HR:=hid hr
    clear hr HB hm
    go_wp2_with fail
    go_ret
    rw [HR.out]
    exact⟨rfl,hg⟩
theorem ContainsFuncP_ok (A:Option Addr) (n c:Nat) (R:List PV) (w:World) (hm:PMem w A n R) (hn:n<=9223372036854775807) :
 Calls Tryz.prog 55 #[.slice A n c,.func (.func 56) #[] #[]] w λ e w'=>e=.returned (.bool (!R.all okV))/\Gr w w':=by
 have cc:=λ w hm=>hid (IndexFuncP_ok A n c R w hm hn)
 have HB:=hid (badAt_is okV R 0)
 generalize badAt okV R 0=r at *
 go_enter Tryz.func55,Tryz.ntmps55
 go_wp2_with fail
 with_reducible refine (cc _ hm).out.mono ?_
 rintro e w1 ⟨rfl,hb1⟩
 go_wp2_with fail
 go_ret
 exact⟨ret_bool HB.out,hb1⟩
theorem Right_is {A:Option Addr} {n c:Nat} {R:List PV} {B:Bool} (hB:rightB (pl R)=B) (hn:n<=9223372036854775807) (w:World) (hm:PMem w A n R) :
 Calls Tryz.prog 34 #[.slice A n c] w λ e w'=>e=.returned (.bool B)/\Gr w w':=by
 have hall:(pl R).all okP=R.all okV:=by unfold pl;rw [List.all_map];rfl
 have hlen:(pl R).length=n:=by unfold pl;rw [List.length_map,hm.len]
 rw [rightB_okP,hall,hlen] at hB
 by_cases h64:n<=8
 . have hr:R.all okV=B:=by rw [<- hB];simp [h64]
   have cc:=λ w hm=>hid (ContainsFuncP_ok A n c R w hm hn)
   have HR:=hid hr
   clear hr hB hall
   generalize R.all okV=B' at *
   go_enter Tryz.func34,Tryz.ntmps34
   go_wp2_with fail
   with_reducible refine (cc _ hm).out.mono ?_
   rintro e w1 ⟨rfl,hb1⟩
   go_wp2_with fail
   go_ret
   rw [<- HR.out]
   exact⟨ret_bool (by simp),hb1⟩
 . have hr:false=B:=by rw [<- hB];simp [h64]
   have HR:=hid hr
   have h65:decide (n<=8)=false:=by simpa using h64
   clear hr hB hall
   go_enter Tryz.func34,Tryz.ntmps34
   go_wp2_with fail
   go_ret
   rw [<- HR.out]
   exact⟨rfl,Gr.refl _⟩
end P12
end
end Go.Proofs.YtainfijdhcehlaaGreatDoor
