/-
  A part of the proof.
-/
import Derived.Test.YtainfijdhcehlaaGreatDoorQC3
import Derived.Deep.Fields
import Derived.Stop.LaidErr
import Derived.LaidLaws
import Derived.SizedLaws
import Derived.ChangeMaps5
import Derived.Lay
import Derived.LaidMore
import Derived.Shelf.Vars
import Derived.SevenTiedAt
import Derived.LaidByTextLater
import Derived.Carry
import Derived.Laws.StructEq
import Derived.Laws.BitsAllLaws
set_option linter.unusedVariables false
set_option linter.unusedSimpArgs false
set_option maxRecDepth 100000
set_option maxHeartbeats 8000000
namespace Go.Proofs.YtainfijdhcehlaaGreatDoor
open Lib (hid)
open Go.Proofs.Tryz
open Go.ChangeAt Go.ChangeShapes Go.Joins Go.RowKit Go.WideShapes
section
section
variable {w:World} {A:Option Addr} {n c:Nat} {L:List SV} {s:SV}
theorem Set_no (hm:SMem w A n L) (hsok:s.ok w) (h:¬ SOk s\/¬ Tab L) :
 Calls prog 213 #[.slice A n c,.agg #[.int .i64 s.addr,.int .i64 s.cnt,.slice s.A s.n s.c]] w λ e w'=>e=.returned (.tuple #[.slice none 0 0,.int .i64 1])/\Gr w w':=by
 have g0:=(((zr w).al (.cells #[.int .i64 s.addr,.int .i64 s.cnt,.slice s.A s.n s.c] 91)).al (.cells #[.slice none 0 0] 26)).al (.cells #[.int .i64 0] 27);have B4:=(Blk.new (w.alloc (.cells #[.int .i64 s.addr,.int .i64 s.cnt,.slice s.A s.n s.c] 91)) #[.slice none 0 0] 26).al (.cells #[.int .i64 0] 27);have B5:=Blk.new ((w.alloc (.cells #[.int .i64 s.addr,.int .i64 s.cnt,.slice s.A s.n s.c] 91)).alloc (.cells #[.slice none 0 0] 26)) #[.int .i64 0] 27;simp only [zsA] at B4 B5;obtain⟨b1,hb1⟩:=yes_no (SOk s);obtain⟨b2,hb2⟩:=yes_no (Tab L);have C1:=hid (rsound_is (hsok.gr g0) hb1);have C2:=λ W (g:Gr w W)=>RRight_is (c:=c) (hm.gr g) hb2
 have K2:=hid C2;have hbb:b1=false\/(b1=true/\b2=false):=by
  cases b1
  . exact .inl rfl
  . right
    refine⟨rfl,?_⟩;cases b2
    . rfl
    . rcases h with h | h
      . exact absurd (hb1.1 rfl) h
      . exact absurd (hb2.1 rfl) h
 clear C2 hb1 hb2 h hm hsok;rcases hbb with rfl | ⟨rfl,rfl⟩
 . go_enter func213,ntmps213
   go_wp2_with fail;refine C1.out.mono ?_;rintro e w1 ⟨rfl,h1⟩;have D4:=B4.gr h1;have D5:=B5.gr h1;have G:=g0.trans h1;obtain⟨p4,z4⟩:=D4.at_ (k:=0) rfl;obtain⟨p5,z5⟩:=D5.at_ (k:=0) rfl;have HF4:=hid ((D4.set 0 (.slice none 0 0)).st (p:=⟨w.heap.size+1+1,0,none⟩) (by show w.heap.size+1+1≠w.heap.size+1;omega) (.int .i64 1));have HF5:=hid ((D5.st (p:=⟨w.heap.size+1,0,none⟩) (by show w.heap.size+1≠w.heap.size+1+1;omega) (.slice none 0 0)).set 0 (.int .i64 1));have HGF:=hid ((G.st (p:=⟨w.heap.size+1,0,none⟩) (by show w.heap.size<=w.heap.size+1;omega) (.slice none 0 0)).st (p:=⟨w.heap.size+1+1,0,none⟩) (by show w.heap.size<=w.heap.size+1+1;omega) (.int .i64 1));clear C1 K2 h1 D4 D5 G B4 B5 g0;go_wp2_with fail;have F4:=HF4.out;have F5:=HF5.out;have GF:=HGF.out;clear p4 z4 p5 z5 HF4 HF5 HGF;generalize (w1.setCell _ _).setCell _ _=WF at F4 F5 GF ⊢;have q4:WF.cell? ⟨w.heap.size+1,0,none⟩=some (.slice none 0 0):=(F4.at_ (k:=0) rfl).1;have q5:WF.cell? ⟨w.heap.size+1+1,0,none⟩=some (.int .i64 1):=(F5.at_ (k:=0) rfl).1;exact bodyPost_ret (v:=.tuple #[.slice none 0 0,.int .i64 1]) (by simp [results,results213,go_sem,q4,q5]) rfl ⟨rfl,GF⟩
 . go_enter func213,ntmps213
   go_wp2_with fail;refine C1.out.mono ?_;rintro e w0 ⟨rfl,h0⟩;go_wp2_with fail;refine (K2.out _ (g0.trans h0)).mono ?_;rintro e w1 ⟨rfl,h1'⟩;have h1:=h0.trans h1';have D4:=B4.gr h1;have D5:=B5.gr h1;have G:=g0.trans h1;obtain⟨p4,z4⟩:=D4.at_ (k:=0) rfl;obtain⟨p5,z5⟩:=D5.at_ (k:=0) rfl;have HF4:=hid ((D4.set 0 (.slice none 0 0)).st (p:=⟨w.heap.size+1+1,0,none⟩) (by show w.heap.size+1+1≠w.heap.size+1;omega) (.int .i64 1));have HF5:=hid ((D5.st (p:=⟨w.heap.size+1,0,none⟩) (by show w.heap.size+1≠w.heap.size+1+1;omega) (.slice none 0 0)).set 0 (.int .i64 1));have HGF:=hid ((G.st (p:=⟨w.heap.size+1,0,none⟩) (by show w.heap.size<=w.heap.size+1;omega) (.slice none 0 0)).st (p:=⟨w.heap.size+1+1,0,none⟩) (by show w.heap.size<=w.heap.size+1+1;omega) (.int .i64 1));clear C1 K2 h1 h1' h0 D4 D5 G B4 B5 g0;go_wp2_with fail;have F4:=HF4.out;have F5:=HF5.out;have GF:=HGF.out;clear p4 z4 p5 z5 HF4 HF5 HGF;generalize (w1.setCell _ _).setCell _ _=WF at F4 F5 GF ⊢;have q4:WF.cell? ⟨w.heap.size+1,0,none⟩=some (.slice none 0 0):=(F4.at_ (k:=0) rfl).1;have q5:WF.cell? ⟨w.heap.size+1+1,0,none⟩=some (.int .i64 1):=(F5.at_ (k:=0) rfl).1;exact bodyPost_ret (v:=.tuple #[.slice none 0 0,.int .i64 1]) (by simp [results,results213,go_sem,q4,q5]) rfl ⟨rfl,GF⟩
theorem Set_isO (hm:SMem w A n L) (hnc:n<=c) (hcm:c<=9223372036854775807) (hsok:s.ok w) {R:List (Int×Int×List Int)} {e:Int} (h:SetR L s R e) :
 Calls prog 213 #[.slice A n c,.agg #[.int .i64 s.addr,.int .i64 s.cnt,.slice s.A s.n s.c]] w λ ee w' =>
  ∃ B m T,ee=.returned (.tuple #[.slice B T.length m,.int .i64 e])/\SMem w' B T.length T/\T.length<=m/\m<=9223372036854775807/\T.map SV.pl=R/\Gr w w'/\SOwn w' w.heap.size (.slice B T.length m) T:=by
 rcases h with ⟨h,rfl,rfl⟩ | ⟨hs,ht,h⟩
 . refine (Set_no (c:=c) hm hsok h).mono ?_
   rintro ee w' ⟨rfl,hg⟩;exact⟨none,0,[],rfl,SMem.nil_,Nat.le_refl _,by omega,rfl,hg,SOwn.nil _ _⟩
 . refine (Set_yes hm hnc hcm hsok ht hs).mono ?_
   rintro ee w' (⟨h64,rfl,hg⟩ | ⟨h64,B,m,T,rfl,h1,h2,h3,h4,hg,ho⟩)
   . obtain⟨_,rfl,rfl⟩:=h.resolve_right (λ h'=>by omega)
     exact⟨none,0,[],rfl,SMem.nil_,Nat.le_refl _,by omega,rfl,hg,SOwn.nil _ _⟩
   . obtain⟨_,rfl,rfl⟩:=h.resolve_left (λ h'=>by omega)
     exact⟨B,m,T,rfl,h1,h2,h3,h4,hg,ho⟩
theorem b64_zero:B64 0:=⟨by decide,by decide⟩
theorem ok_zero (w:World) {a:Int} (ha:B64 a):SV.ok w ⟨a,0,none,0,0,[]⟩:=⟨ha,b64_zero,EMem.nil_,Nat.le_refl _,Nat.zero_le _⟩
def GetR (L:List SV) (a:Int) (g:Int×Int×List Int) (e:Int):Prop :=
 ((¬ IsKey a\/¬ Tab L)/\g=(0,0,[])/\e=1)\/(IsKey a/\Tab L/\e=0/\((∃ x∈L,x.addr=a/\g=x.pl)\/(¬ Has L a/\g=(a,0,[]))))
theorem Get_is (hm:SMem w A n L) {a:Int} (ha:B64 a) {g:Int×Int×List Int} {e:Int} (h:GetR L a g e) :
 Calls prog 212 #[.slice A n c,.int .i64 a] w λ ee w' =>
  ∃ y:SV,ee=.returned (.tuple #[.agg #[.int .i64 y.addr,.int .i64 y.cnt,.slice y.A y.n y.c],.int .i64 e])/\y.ok w'/\y.pl=g/\Gr w w':=by
 have hlen:=hm.1;have g0:=(zr w).al (.cells #[.int .i64 0,.int .i64 0,.slice none 0 0] 91);have B0:=Blk.new w #[.int .i64 0,.int .i64 0,.slice none 0 0] 91;obtain⟨b2,hb2⟩:=yes_no (Tab L);have K2:=hid (RRight_is (c:=c) (hm.gr g0) hb2);have C1:=hid (λ W=>Root_is a W);have HA:=hid ha;by_cases hk:IsKey a
 . rw [rf_key hk,re_key hk] at C1
   generalize rt a=r at *
   cases b2 with
   | false =>
    obtain⟨_,rfl,rfl⟩:=h.resolve_right (λ h'=>absurd (hb2.2 h'.2.1) (by simp));clear hb2 h hm ha hk;go_enter func212,ntmps212;go_wp2_with fail;refine (C1.out _).mono ?_;rintro ee w0 ⟨rfl,rfl⟩;go_wp2_with fail;refine K2.out.mono ?_;rintro ee w1 ⟨rfl,h1⟩;have D0:=B0.gr h1;have G:=g0.trans h1;obtain⟨p0,z0⟩:=D0.at_ (k:=0) rfl;obtain⟨p1,z1⟩:=D0.at_ (k:=1) rfl;obtain⟨p2,z2⟩:=D0.at_ (k:=2) rfl;have HF:=hid (((D0.set 0 (.int .i64 0)).set 1 (.int .i64 0)).set 2 (.slice none 0 0));have HG:=hid (((G.st (p:=⟨w.heap.size,0,none⟩) (Nat.le_refl _) (.int .i64 0)).st (p:=⟨w.heap.size,1,none⟩) (Nat.le_refl _) (.int .i64 0)).st (p:=⟨w.heap.size,2,none⟩) (Nat.le_refl _) (.slice none 0 0));clear K2 C1 D0 G h1 B0 g0;go_wp2_with fail;have F:=HF.out;have GF:=HG.out;clear p0 z0 p1 z1 p2 z2 HF HG;generalize ((w1.setCell _ _).setCell _ _).setCell _ _=WF at F GF ⊢;have q0:WF.cell? ⟨w.heap.size,0,none⟩=some (.int .i64 0):=(F.at_ (k:=0) rfl).1;have q1:WF.cell? ⟨w.heap.size,1,none⟩=some (.int .i64 0):=(F.at_ (k:=1) rfl).1;have q2:WF.cell? ⟨w.heap.size,2,none⟩=some (.slice none 0 0):=(F.at_ (k:=2) rfl).1;exact bodyPost_ret (v:=.tuple #[.agg #[.int .i64 0,.int .i64 0,.slice none 0 0],.int .i64 1]) (by simp [results,results212,go_sem,q0,q1,q2]) rfl
     ⟨⟨0,0,none,0,0,[]⟩,rfl,ok_zero _ b64_zero,rfl,GF⟩
   | true =>
    have ht:=hb2.1 rfl;obtain⟨_,_,rfl,hcase⟩:=h.resolve_left (λ h'=>by rcases h'.1 with h1 | h1<;>first | exact h1 hk | exact h1 ht);obtain⟨v,hv⟩:=yes_no (Has L a);have HT:=hid ht;have HM:=hid hm;have CF:=λ W (g:Gr w W)=>rfind_is (c:=c) (hm.gr g) ht hk hv
    have KF:=hid CF;have HPL:=hid (has_iff ht.2 a);have HV:=hid hv;have HC:=hid hcase;clear hb2 h hm ha ht hv hcase CF;go_enter func212,ntmps212;go_wp2_with fail;refine (C1.out _).mono ?_;rintro ee w0 ⟨rfl,rfl⟩;go_wp2_with fail;refine K2.out.mono ?_;rintro ee w1 ⟨rfl,h1⟩;go_wp2_with fail;refine (KF.out _ (g0.trans h1)).mono ?_;rintro ee w2 ⟨rfl,h2⟩;have D0:=(B0.gr h1).gr h2;have G:=hid ((g0.trans h1).trans h2);obtain⟨p0,z0⟩:=D0.at_ (k:=0) rfl;obtain⟨p1,z1⟩:=D0.at_ (k:=1) rfl;obtain⟨p2,z2⟩:=D0.at_ (k:=2) rfl;have HD:=hid D0;clear K2 C1 KF D0 h1 h2 B0 g0
    cases v with
    | false =>
     have hg:g=(a,0,[]):=by
      rcases HC.out with ⟨x,hx,e,_⟩ | ⟨_,e⟩
      . exact absurd (HV.out.2 ⟨x,hx,e⟩) (by simp)
      . exact e
     have HGG:=hid hg;have HF:=hid (((HD.out.set 0 (.int .i64 a)).set 1 (.int .i64 0)).set 2 (.slice none 0 0));have HG:=hid (((G.out.st (p:=⟨w.heap.size,0,none⟩) (Nat.le_refl _) (.int .i64 a)).st (p:=⟨w.heap.size,1,none⟩) (Nat.le_refl _) (.int .i64 0)).st (p:=⟨w.heap.size,2,none⟩) (Nat.le_refl _) (.slice none 0 0));clear hg HC HV;go_wp2_with fail;have F:=HF.out;have GF:=HG.out;clear p0 z0 p1 z1 p2 z2 HF HG;generalize ((w2.setCell _ _).setCell _ _).setCell _ _=WF at F GF ⊢;have q0:WF.cell? ⟨w.heap.size,0,none⟩=some (.int .i64 a):=(F.at_ (k:=0) rfl).1;have q1:WF.cell? ⟨w.heap.size,1,none⟩=some (.int .i64 0):=(F.at_ (k:=1) rfl).1;have q2:WF.cell? ⟨w.heap.size,2,none⟩=some (.slice none 0 0):=(F.at_ (k:=2) rfl).1;exact bodyPost_ret (v:=.tuple #[.agg #[.int .i64 a,.int .i64 0,.slice none 0 0],.int .i64 0]) (by simp [results,results212,go_sem,q0,q1,q2]) rfl
      ⟨⟨a,0,none,0,0,[]⟩,rfl,ok_zero _ HA.out,HGG.out.symm,GF⟩
    | true =>
     obtain⟨x,hx,hxa⟩:=HPL.out.1 (HV.out.1 rfl);obtain⟨p,hp⟩:∃ p,plc L a=p:=⟨_,rfl⟩;rw [hp] at hx;have hpn:p<n:=by rw [<- hlen];exact (zgl hx)
     obtain⟨b,off,x',rfl,hbl,hx',hok,d0,d1,d2⟩:=(HM.out.gr G.out).at_ hpn;rw [hx] at hx';cases hx';have hg:g=x.pl:=by
      rcases HC.out with ⟨y,hy,e,rfl⟩ | ⟨hno,_⟩
      . have:y=x:=by
         obtain⟨i,hi⟩:=List.mem_iff_getElem?.1 hy;rcases Nat.lt_trichotomy i p with h3 | h3 | h3
         . exact absurd (HT.out.2.at_ h3 hi hx) (by rw [e,hxa];exact λ h=>h.irrefl)
         . subst h3;rw [hx] at hi;exact (Option.some.inj hi).symm
         . exact absurd (HT.out.2.at_ h3 hx hi) (by rw [e,hxa];exact λ h=>h.irrefl)
        rw [this]
      . exact absurd (HV.out.1 rfl) hno
     have HGG:=hid hg;have h64:x.line.length<=64:=(HT.out.2.1 x (zmo hx)).1.2.2.2.1.1;have hl:=hok.len;have CO:=hid (own_is' (a:=x.addr) (q:=x.cnt) (c:=x.c) hok.2.2.1 (by omega));have hb1x:=hid hok.1;have hb2x:=hid hok.2.1;have hlt2:=HD.out.lt;have pp0:(0:Int)<=(p:Int):=by omega
     have pp1:(p:Int)<(n:Int):=by omega
     have HPP:=hid hp;clear hg HC HV hx hok hxa;rw [HPP.out];go_wp2_with fail;refine CO.out.mono ?_;rintro ee w3 ⟨B,k,rfl,ho3,h3⟩;have D3:=HD.out.gr h3;have G3:=G.out.trans h3;clear p0 z0 p1 z1 p2 z2 d0 d1 d2;obtain⟨p0,z0⟩:=D3.at_ (k:=0) rfl;obtain⟨p1,z1⟩:=D3.at_ (k:=1) rfl;obtain⟨p2,z2⟩:=D3.at_ (k:=2) rfl;have hlt3:=D3.lt;have HF:=hid (((D3.set 0 (.int .i64 x.addr)).set 1 (.int .i64 x.cnt)).set 2 (.slice B x.n k));have HG:=hid (((G3.st (p:=⟨w.heap.size,0,none⟩) (Nat.le_refl _) (.int .i64 x.addr)).st (p:=⟨w.heap.size,1,none⟩) (Nat.le_refl _) (.int .i64 x.cnt)).st (p:=⟨w.heap.size,2,none⟩) (Nat.le_refl _) (.slice B x.n k));have HO3:=hid (((ho3.st (p:=⟨w.heap.size,0,none⟩) hlt2 (.int .i64 x.addr)).st (p:=⟨w.heap.size,1,none⟩) hlt2 (.int .i64 x.cnt)).st (p:=⟨w.heap.size,2,none⟩) hlt2 (.slice B x.n k));clear CO D3 G3 h3 ho3;go_wp2_with fail;have F:=HF.out;have GF:=HG.out;have OF:=HO3.out;clear p0 z0 p1 z1 p2 z2 HF HG HO3;generalize ((w3.setCell _ _).setCell _ _).setCell _ _=WF at F GF OF ⊢;have q0:WF.cell? ⟨w.heap.size,0,none⟩=some (.int .i64 x.addr):=(F.at_ (k:=0) rfl).1;have q1:WF.cell? ⟨w.heap.size,1,none⟩=some (.int .i64 x.cnt):=(F.at_ (k:=1) rfl).1;have q2:WF.cell? ⟨w.heap.size,2,none⟩=some (.slice B x.n k):=(F.at_ (k:=2) rfl).1;exact bodyPost_ret (v:=.tuple #[.agg #[.int .i64 x.addr,.int .i64 x.cnt,.slice B x.n k],.int .i64 0]) (by simp [results,results212,go_sem,q0,q1,q2]) rfl
      ⟨⟨x.addr,x.cnt,B,x.n,k,x.line⟩,rfl,⟨hb1x.out,hb2x.out,OF.mem,OF.le,by have:=OF.max;unfold maxLen at this;exact this⟩,HGG.out.symm,GF⟩
 . obtain⟨_,rfl,rfl⟩:=h.resolve_right (λ h'=>hk h'.1)
   rw [rf_no hk,re_no hk] at C1;have F:=hid B0;have GF:=hid g0;clear hb2 h hm ha hk K2 B0 g0;go_enter func212,ntmps212;go_wp2_with fail;refine (C1.out _).mono ?_;rintro ee w0 ⟨rfl,rfl⟩;go_wp2_with fail;have q0:=(F.out.at_ (k:=0) rfl).1;have q1:=(F.out.at_ (k:=1) rfl).1;have q2:=(F.out.at_ (k:=2) rfl).1;exact bodyPost_ret (v:=.tuple #[.agg #[.int .i64 0,.int .i64 0,.slice none 0 0],.int .i64 1]) (by simp [results,results212,go_sem]) rfl
    ⟨⟨0,0,none,0,0,[]⟩,rfl,ok_zero _ b64_zero,rfl,GF.out⟩
end
end
section
section
variable {l r L T:List SV} {x y s a b:SV}
theorem plq (h:x.pl=y.pl):x.addr=y.addr/\x.cnt=y.cnt/\x.line=y.line:=by simpa [SV.pl] using h
theorem SOk.pl (h:x.pl=y.pl) (hx:SOk x):SOk y:=by
 obtain⟨h1,h2,h3⟩:=plq h;unfold SOk at *;rw [<- h1,<- h2,<- h3];exact hx
theorem SNil.pl (h:x.pl=y.pl):SNil x↔SNil y:=by
 obtain⟨h1,h2,h3⟩:=plq h;unfold SNil;rw [h2,h3]
theorem mem_pl (h:l.map SV.pl=r.map SV.pl) (hy:y∈r):∃ x∈l,x.pl=y.pl:=by
 have:y.pl∈l.map SV.pl:=by rw [h];exact List.mem_map_of_mem hy
 exact List.mem_map.1 this
theorem len_pl (h:l.map SV.pl=r.map SV.pl):l.length=r.length:=by simpa using congrArg List.length h
theorem TOk.pl (h:l.map SV.pl=r.map SV.pl) (ht:TOk l):TOk r:=by
 refine⟨λ y hy=>?_,?_⟩
 . obtain⟨x,hx,e⟩:=mem_pl h hy
   exact⟨(ht.1 x hx).1.pl e,λ hc=>(ht.1 x hx).2 ((SNil.pl e).2 hc)⟩
 . have h1:(l.map SV.pl).Pairwise (λ u v=>Lt u.1 v.1):=List.pairwise_map.2 ht.2
   rw [h] at h1;exact (List.pairwise_map (R:=λ (u v:Int×Int×List Int)=>Lt u.1 v.1) (f:=SV.pl)).1 h1
theorem Tab.pl (h:l.map SV.pl=r.map SV.pl) (ht:Tab l):Tab r:=⟨by rw [<- len_pl h];exact ht.1,ht.2.pl h⟩
theorem has_pl (h:l.map SV.pl=r.map SV.pl) (a:Int):Has l a↔Has r a:=by
 constructor
 . rintro⟨x,hx,e⟩
   obtain⟨y,hy,e'⟩:=mem_pl h.symm hx;exact⟨y,hy,(plq e').1.trans e⟩
 . rintro⟨x,hx,e⟩
   obtain⟨y,hy,e'⟩:=mem_pl h hx;exact⟨y,hy,(plq e').1.trans e⟩
theorem tok_one (h:TOk L) (hx:x∈L) (hy:y∈L) (e:x.addr=y.addr):x=y:=by
 obtain⟨i,hi⟩:=List.mem_iff_getElem?.1 hx;obtain⟨j,hj⟩:=List.mem_iff_getElem?.1 hy;rcases Nat.lt_trichotomy i j with h3 | h3 | h3
 . exact absurd (h.at_ h3 hi hj) (by rw [e];exact λ h=>h.irrefl)
 . subst h3;rw [hi] at hj;exact Option.some.inj hj
 . exact absurd (h.at_ h3 hj hi) (by rw [e];exact λ h=>h.irrefl)
theorem has_setl (ha:SOk a):Has (setl L a) a.addr↔¬ SNil a:=by
 constructor
 . rintro⟨x,hx,e⟩
   rcases mem_setl.1 hx with ⟨_,h⟩ | ⟨rfl,h⟩
   . exact absurd e h
   . exact h
 . intro h
   exact⟨a,mem_setl.2 (.inr ⟨rfl,h⟩),rfl⟩
end
end
end Go.Proofs.YtainfijdhcehlaaGreatDoor
namespace Go.Proofs.YtainfijdhcehlaaGreatDoor.L7
open Go.ChangeShapes Go.WideShapes Go.ChangeAt Go.RowKit
def PlaceR (l:List Int) (who r e:Int):Prop :=
 ((who<0\/¬ Ln l)/\r=0/\e=1)\/(0<=who/\Ln l/\who ∉ l/\r=0/\e=4)\/(0<=who/\Ln l/\(∃ a b,l=a++who::b/\r=a.length)/\e=0)
def PushR (l:List Int) (who:Int) (first:Bool) (r:List Int) (e:Int):Prop :=
 ((who<0\/¬ Ln l)/\r=[]/\e=1)\/(0<=who/\Ln l/\who∈l/\r=[]/\e=7)\/(0<=who/\Ln l/\who ∉ l/\l.length=64/\r=[]/\e=5) \/
   (0<=who/\Ln l/\who ∉ l/\l.length<64/\r=(if first=true then who::l else l++[who])/\e=0)
def DropR (l:List Int) (who:Int) (r:List Int) (e:Int):Prop :=
 ((who<0\/¬ Ln l)/\r=[]/\e=1)\/(0<=who/\Ln l/\who ∉ l/\r=[]/\e=4)\/(0<=who/\Ln l/\(∃ a b,l=a++who::b/\r=a++b)/\e=0)
def PopR (l:List Int) (r:List Int) (x e:Int):Prop :=
 (¬ Ln l/\r=[]/\x=0/\e=1)\/(l=[]/\r=[]/\x=0/\e=4)\/(Ln l/\l=x::r/\e=0)
section
variable {w:World} {A:Option Addr} {n c:Nat} {l:List Int}
theorem Index_no (hm:IMem w A n l) (hn:n<=9223372036854775807) {x:Int} (hx:x ∉ l) :
 Calls Tryz.prog 232 #[.slice A n c,.int .i64 x] w λ e w'=>e=.returned (.int .i64 (-1))/\w'=w:=by
 have HX:=Lib.hid hx
 have HM:=Lib.hid hm
 clear hx hm
 go_enter Tryz.func232,Tryz.ntmps232
 go_wp2_with fail
 go_loop [8] (λ i=>∃ k:Nat,k<=n/\i=.int .i64 (k:Int)) (λ i=>n-(intOf i).toNat)
 case atStart=>exact⟨0,by omega,rfl⟩
 case round =>
  obtain⟨k,hk,rfl⟩:=hrel
  by_cases hlt:k<n
  . obtain⟨b,off,y,rfl,hbl,hy,hiy,cy⟩:=HM.out.at_ hlt
    have ne:(x==y)=false:=beq_eq_false_iff_ne.2 λ e=>HX.out (e▸List.mem_of_getElem? hy)
    clear hy
    go_wp2_with fail
    go_round
    case rel=>exact⟨k+1,by omega,by go_num⟩
    case measure=>simp [intOf];omega
  . obtain rfl:k=n:=by omega
    go_wp2_with fail
    go_ret
    exact⟨rfl,rfl⟩
theorem Index_at (hm:IMem w A n l) (hn:n<=9223372036854775807) {x:Int} {p:Nat} (hp:l[p]?=some x) (hf:∀ j,j<p->l[j]?≠some x) :
 Calls Tryz.prog 232 #[.slice A n c,.int .i64 x] w λ e w'=>e=.returned (.int .i64 (p:Int))/\w'=w:=by
 have hpn:p<n:=by rw [<- hm.1];exact (List.getElem?_eq_some_iff.1 hp).1
 have HP:=Lib.hid hp
 have HF:=Lib.hid hf
 have HM:=Lib.hid hm
 clear hp hf hm
 go_enter Tryz.func232,Tryz.ntmps232
 go_wp2_with fail
 go_loop [8] (λ i=>∃ k:Nat,k<=p/\i=.int .i64 (k:Int)) (λ i=>n-(intOf i).toNat)
 case atStart=>exact⟨0,by omega,rfl⟩
 case round =>
  obtain⟨k,hk,rfl⟩:=hrel
  have hkn:k<n:=by omega
  obtain⟨b,off,y,rfl,hbl,hy,hiy,cy⟩:=HM.out.at_ hkn
  by_cases hlt:k<p
  . have ne:(x==y)=false:=beq_eq_false_iff_ne.2 λ e=>HF.out k hlt (e▸hy)
    clear hy
    go_wp2_with fail
    go_round
    case rel=>exact⟨k+1,by omega,by go_num⟩
    case measure=>simp [intOf];omega
  . obtain rfl:k=p:=by omega
    rw [HP.out] at hy
    cases hy
    go_wp2_with fail
    go_ret
    exact⟨rfl,rfl⟩
end
section
variable {w:World} {A:Option Addr} {n c:Nat} {l:List Int}
theorem join_two {g:Nat} {B:Option Addr} {m d:Nat} {r:List Int} (hg0:w.cell? ⟨g,0,none⟩=some (.slice A n c)) (hg1:w.cell? ⟨g,1,none⟩=some (.slice B m d))
 (hA:IMem w A n l) (hB:IMem w B m r) (hn:n<=1000000) (hm:m<=1000000) :
 Calls Tryz.prog 225 #[.slice (some ⟨g,0,none⟩) 2 2] w λ e w'=>∃ C k,e=.returned (.slice C (n+m) k)/\IOwn w.heap.size w' C (n+m) k (l++r)/\Gr w w':=by
 obtain⟨i0,hi0,hz0,hz1,hz2⟩:=info_parts infoInt
 have HZ:=Lib.hid hz0
 have HZ1:=Lib.hid hz1
 have HZ2:=Lib.hid hz2
 have HI0:=Lib.hid hi0
 have HA:=Lib.hid hA
 have HB:=Lib.hid hB
 have hlt:=World.block_lt_of_cell? w _ hg0
 have hlt':g<w.heap.size:=hlt
 clear hz0 hz1 hz2 hi0 hA hB hlt
 go_enter Tryz.func225,Tryz.ntmps225
 go_wp2_with fail
 go_loopw [3,8] (λ L i wr=>Hid (Gr w wr)/\((i=.int .i64 0/\∃ C k,L=.slice C 0 k/\Hid (IOwn w.heap.size wr C 0 k []))\/(i=.int .i64 1/\∃ C k,L=.slice C n k/\Hid (IOwn w.heap.size wr C n k l))\/(i=.int .i64 2/\∃ C k,L=.slice C (n+m) k/\Hid (IOwn w.heap.size wr C (n+m) k (l++r))))) (λ _ i _=>2-(intOf i).toNat)
 case atStart=>exact⟨Lib.hid (Gr.refl w),.inl ⟨rfl,none,0,rfl,Lib.hid OMem.nil_⟩⟩
 case round =>
  obtain⟨HG,h⟩:=hrel
  rcases h with ⟨rfl,C,k,rfl,HL⟩ | ⟨rfl,C,k,rfl,HL⟩ | ⟨rfl,C,k,rfl,HL⟩
  . have q0:=(HG.out.cell (p:=⟨g,0,none⟩) hlt').trans hg0
    go_wp2_with (at_builtin;refine Mark.stop ?_)
    refine Mark.go ?_
    refine wpList_append_omem _ (Value.int .i64) B64 rfl (.tmp 12) (.tmp 13) 23 rfl (λ _=>rfl) w.heap.size 3 i0 (.int .i64 0) 8 Tryz.underlying23 HI0.out HZ.out HZ1.out HZ2.out rfl C 0 k [] rfl HL.out A n c l rfl (HA.out.gr HG.out) (by unfold maxLen;omega) (by omega) HG.out.size ?_
    intro C2 k2 w2 own2 gb2
    simp only [Nat.zero_add,List.nil_append] at own2
    have G2:=Lib.hid (HG.out.gb gb2 (λ k hk=>(HL.out.lt k hk).1))
    simp only [Nat.zero_add]
    go_wp2_with fail
    go_roundw
    case rel=>exact⟨G2,.inr (.inl ⟨rfl,C2,k2,rfl,Lib.hid own2⟩)⟩
    case measure=>simp [intOf]
  . have q0:=(HG.out.cell (p:=⟨g,1,none⟩) hlt').trans hg1
    go_wp2_with (at_builtin;refine Mark.stop ?_)
    refine Mark.go ?_
    refine wpList_append_omem _ (Value.int .i64) B64 rfl (.tmp 12) (.tmp 13) 23 rfl (λ _=>rfl) w.heap.size 3 i0 (.int .i64 0) 8 Tryz.underlying23 HI0.out HZ.out HZ1.out HZ2.out rfl C n k l rfl HL.out B m d r rfl (HB.out.gr HG.out) (by unfold maxLen;omega) (by omega) HG.out.size ?_
    intro C2 k2 w2 own2 gb2
    have G2:=Lib.hid (HG.out.gb gb2 (λ k hk=>(HL.out.lt k hk).1))
    go_wp2_with fail
    go_roundw
    case rel=>exact⟨G2,.inr (.inr ⟨rfl,C2,k2,rfl,Lib.hid own2⟩)⟩
    case measure=>simp [intOf]
  . go_wp2_with fail
    go_ret
    exact⟨C,k,rfl,HL.out,HG.out⟩
theorem Place_is (hm:IMem w A n l) (hc:n<=c) (hn:n<=9223372036854775807) {who r e:Int} (h:PlaceR l who r e) :
 Calls Tryz.prog 224 #[.slice A n c,.int .i64 who] w λ en w'=>en=.returned (.tuple #[.int .i64 r,.int .i64 e])/\w'=w:=by
 rcases h with ⟨h,rfl,rfl⟩ | ⟨h0,hl,hx,rfl,rfl⟩ | ⟨h0,hl,⟨a,b,hab,rfl⟩,rfl⟩
 . by_cases h0:who<0
   . clear h
     go_enter Tryz.func224,Tryz.ntmps224
     go_wp2_with fail
     go_ret2
     exact⟨rfl,rfl⟩
   . have k1:=Lib.hid (Right_is (v:=false) hm hc hn (by simpa using h.resolve_left h0))
     clear h hm
     go_enter Tryz.func224,Tryz.ntmps224
     go_wp2_with fail
     refine k1.out.mono ?_
     rintro e w1 ⟨rfl,rfl⟩
     go_wp2_with fail
     go_ret2
     exact⟨rfl,rfl⟩
 . have k1:=Lib.hid (Right_is (v:=true) hm hc hn (by simpa using hl))
   have k2:=Lib.hid (Index_no (c:=c) hm hn hx)
   have h1:¬ who<0:=by omega
   clear hl hx hm
   go_enter Tryz.func224,Tryz.ntmps224
   go_wp2_with fail
   refine k1.out.mono ?_
   rintro e w1 ⟨rfl,rfl⟩
   go_wp2_with fail
   refine k2.out.mono ?_
   rintro e w1 ⟨rfl,rfl⟩
   go_wp2_with fail
   go_ret2
   exact⟨rfl,rfl⟩
 . have k1:=Lib.hid (Right_is (v:=true) hm hc hn (by simpa using hl))
   obtain⟨p1,p2⟩:=at_of hab hl.2
   have k2:=Lib.hid (Index_at (c:=c) hm hn p1 p2)
   have h1:¬ who<0:=by omega
   generalize a.length=p at *
   clear hl p1 p2 hab hm
   have h2:¬ (p:Int)<0:=by omega
   go_enter Tryz.func224,Tryz.ntmps224
   go_wp2_with fail
   refine k1.out.mono ?_
   rintro e w1 ⟨rfl,rfl⟩
   go_wp2_with fail
   refine k2.out.mono ?_
   rintro e w1 ⟨rfl,rfl⟩
   go_wp2_with fail
   go_ret2
   exact⟨rfl,rfl⟩
end
section
variable {w:World} {A:Option Addr} {n c:Nat} {l:List Int}
theorem Drop_is (hm:IMem w A n l) (hc:n<=c) (hn:n<=9223372036854775807) {who:Int} {r:List Int} {e:Int} (h:DropR l who r e) :
 Calls Tryz.prog 228 #[.slice A n c,.int .i64 who] w λ en w'=>∃ C k,en=.returned (.tuple #[.slice C r.length k,.int .i64 e])/\IOwn w.heap.size w' C r.length k r/\Gr w w':=by
 rcases h with ⟨h,rfl,rfl⟩ | ⟨h0,hl,hx,rfl,rfl⟩ | ⟨h0,hl,⟨a,b,hab,rfl⟩,rfl⟩
 . have k1:=Lib.hid (Place_is hm hc hn (who:=who) (.inl ⟨h,rfl,rfl⟩))
   clear h hm
   go_enter Tryz.func228,Tryz.ntmps228
   go_wp2_with fail
   refine k1.out.mono ?_
   rintro e w1 ⟨rfl,rfl⟩
   go_wp2_with fail
   go_ret2
   exact⟨none,0,rfl,OMem.nil_,Gr.refl _⟩
 . have k1:=Lib.hid (Place_is hm hc hn (who:=who) (.inr (.inl ⟨h0,hl,hx,rfl,rfl⟩)))
   clear hl hx hm
   go_enter Tryz.func228,Tryz.ntmps228
   go_wp2_with fail
   refine k1.out.mono ?_
   rintro e w1 ⟨rfl,rfl⟩
   go_wp2_with fail
   go_ret2
   exact⟨none,0,rfl,OMem.nil_,Gr.refl _⟩
 . have k1:=Lib.hid (Place_is hm hc hn (who:=who) (.inr (.inr ⟨h0,hl,⟨a,b,hab,rfl⟩,rfl⟩)))
   have hlen:a.length+1+b.length=n:=by rw [<- hm.1,hab];simp;omega
   have hn64:n<=64:=by rw [<- hm.1];exact hl.1
   obtain⟨b0,off,rfl,hbl,hcs⟩:=hm.2.2 (by omega)
   have ma:=Lib.hid (hm.take_ a.length (by omega))
   have mb:=Lib.hid (hm.drop_ rfl (a.length+1) (by omega))
   rw [show l.take a.length=a by rw [hab];simp] at ma
   rw [show l.drop (a.length+1)=b by rw [hab];simp,show n-(a.length+1)=b.length by omega] at mb
   clear hab hl hm hcs
   generalize hp:a.length=p at *
   generalize hq:b.length=q at *
   have z1:(p:Int)<=(c:Int):=by omega
   have z2:(0:Int)<=(p:Int):=by omega
   obtain⟨p1,hp1⟩:∃ p1,p1=p+1:=⟨_,rfl⟩
   rw [<- hp1] at mb
   have hw1:IntKind.i64.wrap ((p:Int)+1)=(p1:Int):=by rw [wrap_id (by omega) (by omega)];omega
   have z3:(p1:Int)<=(n:Int):=by omega
   have z4:(n:Int)<=(c:Int):=by omega
   have z5:(0:Int)<=(p1:Int):=by omega
   obtain⟨A2,HA⟩:∃ A2:Option Addr,(c=p1/\A2=some ⟨b0,off,none⟩)\/(¬ c=p1/\A2=some ⟨b0,off+p1,none⟩):=by
    by_cases h:c=p1
    . exact⟨_,.inl ⟨h,rfl⟩⟩
    . exact⟨_,.inr ⟨h,rfl⟩⟩
   obtain⟨c2,HC⟩:∃ c2,c-p1=c2:=⟨_,rfl⟩
   have HQ:n-p1=q:=by omega
   have mb2:IMem w A2 q b:=by
    rcases HA with ⟨h,rfl⟩ | ⟨h,rfl⟩
    . obtain rfl:q=0:=by omega
      obtain rfl:b=[]:=List.eq_nil_of_length_eq_zero (by omega)
      exact EMem.nil_
    . exact mb.out
   have MB:=Lib.hid mb2
   have p64:p<=64:=by omega
   have q64:q<=64:=by omega
   have gX:Gr w ((w.alloc (.cells #[.slice (some ⟨b0,off,none⟩) p c,.slice A2 q c2] 23)).drew):=((Gr.refl w).al _).dr
   have kj:=Lib.hid (join_two (w:=(w.alloc (.cells #[.slice (some ⟨b0,off,none⟩) p c,.slice A2 q c2] 23)).drew) (g:=w.heap.size) (A:=some ⟨b0,off,none⟩) (n:=p) (c:=c) (l:=a) (B:=A2) (m:=q) (d:=c2) (r:=b) (by simp) (by simp) (ma.out.gr gX) (MB.out.gr gX) (by omega) (by omega))
   have HL:=Lib.hid (show (a++b).length=p+q by rw [List.length_append,hp,hq])
   generalize a++b=R at *
   clear mb2 hlen hn64 hp hq hp1 mb ma MB
   rcases HA with ⟨rfl,rfl⟩ | ⟨h,rfl⟩
   all_goals (
    go_enter Tryz.func228,Tryz.ntmps228
    go_wp2_with fail
    refine k1.out.mono ?_
    rintro e w1 ⟨rfl,rfl⟩
    go_wp2_with fail
    go_region_held3 (λ _=>True) (exact trivial) (first | (go_at_call 225;with_reducible refine kj.out.mono ?_;rintro ee w9 ⟨C,k,rfl,own9,hb9⟩))
    go_wp2_with fail
    go_ret2
    refine⟨C,k,by rw [HL.out];rfl,?_,gX.trans hb9⟩
    rw [HL.out]
    exact own9.low gX.size)
theorem Pop_is (hm:IMem w A n l) (hc:n<=c) (hn:n<=9223372036854775807) {r:List Int} {x e:Int} (h:PopR l r x e) :
 Calls Tryz.prog 218 #[.slice A n c] w λ en w'=>∃ C k,en=.returned (.tuple #[.slice C r.length k,.int .i64 x,.int .i64 e])/\IOwn w.heap.size w' C r.length k r/\Gr w w':=by
 have hlen:=hm.1
 rcases h with ⟨h,rfl,rfl,rfl⟩ | ⟨rfl,rfl,rfl,rfl⟩ | ⟨hl,rfl,rfl⟩
 . have h0:¬ n=0:=by
    rintro rfl
    obtain rfl:l=[]:=List.eq_nil_of_length_eq_zero hlen
    exact h Ln.nil
   obtain⟨b0,off,y,rfl,hbl,hy,hiy,cy⟩:=hm.at_ (show 0<n by omega)
   rw [Nat.add_zero] at cy
   have k1:=Lib.hid (Drop_is (c:=c) hm hc hn (who:=y) (.inl ⟨.inr h,rfl,rfl⟩))
   have t0:((n:Int)==0)=false:=beq_eq_false_iff_ne.2 (by omega)
   clear h hm hy hlen
   go_enter Tryz.func218,Tryz.ntmps218
   go_wp2_with fail
   refine k1.out.mono ?_
   rintro e w1 ⟨C,k,rfl,own1,hb1⟩
   go_wp2_with fail
   go_ret3
   exact⟨none,0,rfl,OMem.nil_,hb1⟩
 . obtain rfl:n=0:=by simpa using hlen.symm
   clear hm
   go_enter Tryz.func218,Tryz.ntmps218
   go_wp2_with fail
   go_ret3
   exact⟨none,0,rfl,OMem.nil_,Gr.refl _⟩
 . have h0:¬ n=0:=by rintro rfl;simp at hlen
   obtain⟨b0,off,y,rfl,hbl,hy,hiy,cy⟩:=hm.at_ (show 0<n by omega)
   obtain rfl:x=y:=by simpa using hy
   rw [Nat.add_zero] at cy
   have k1:=Lib.hid (Drop_is (c:=c) hm hc hn (who:=x) (.inr (.inr ⟨(good_cons.1 hl.2).1,hl,⟨[],r,rfl,rfl⟩,rfl⟩)))
   have t0:((n:Int)==0)=false:=beq_eq_false_iff_ne.2 (by omega)
   clear hl hm hy hlen
   simp only [List.nil_append] at k1
   go_enter Tryz.func218,Tryz.ntmps218
   go_wp2_with fail
   refine k1.out.mono ?_
   rintro e w1 ⟨C,k,rfl,own1,hb1⟩
   go_wp2_with fail
   go_ret3
   exact⟨C,k,rfl,own1,hb1⟩
theorem Push_is (hm:IMem w A n l) (hc:n<=c) (hn:n<=9223372036854775807) {who:Int} {first:Bool} (hw:B64 who) {r:List Int} {e:Int} (h:PushR l who first r e) :
 Calls Tryz.prog 215 #[.slice A n c,.int .i64 who,.bool first] w λ en w'=>∃ C k,en=.returned (.tuple #[.slice C r.length k,.int .i64 e])/\IOwn w.heap.size w' C r.length k r/\Gr w w':=by
 have hlen:=hm.1
 rcases h with ⟨h,rfl,rfl⟩ | ⟨h0,hl,hx,rfl,rfl⟩ | ⟨h0,hl,hx,h64,rfl,rfl⟩ | ⟨h0,hl,hx,h64,rfl,rfl⟩
 . have k1:=Lib.hid (Place_is hm hc hn (who:=who) (.inl ⟨h,rfl,rfl⟩))
   clear h hm
   go_enter Tryz.func215,Tryz.ntmps215
   go_wp2_with fail
   refine k1.out.mono ?_
   rintro e w1 ⟨rfl,rfl⟩
   go_wp2_with fail
   go_ret2
   exact⟨none,0,rfl,OMem.nil_,Gr.refl _⟩
 . obtain⟨a,b,hab⟩:=split_at hx
   have k1:=Lib.hid (Place_is hm hc hn (who:=who) (.inr (.inr ⟨h0,hl,⟨a,b,hab,rfl⟩,rfl⟩)))
   clear hm hab hx hl
   go_enter Tryz.func215,Tryz.ntmps215
   go_wp2_with fail
   refine k1.out.mono ?_
   rintro e w1 ⟨rfl,rfl⟩
   go_wp2_with fail
   go_ret2
   exact⟨none,0,rfl,OMem.nil_,Gr.refl _⟩
 . have k1:=Lib.hid (Place_is hm hc hn (who:=who) (.inr (.inl ⟨h0,hl,hx,rfl,rfl⟩)))
   obtain rfl:n=64:=by omega
   clear hm hx hl
   go_enter Tryz.func215,Tryz.ntmps215
   go_wp2_with fail
   refine k1.out.mono ?_
   rintro e w1 ⟨rfl,rfl⟩
   go_wp2_with fail
   go_ret2
   exact⟨none,0,rfl,OMem.nil_,Gr.refl _⟩
 . have k1:=Lib.hid (Place_is hm hc hn (who:=who) (.inr (.inl ⟨h0,hl,hx,rfl,rfl⟩)))
   have t0:((n:Int)==64)=false:=beq_eq_false_iff_ne.2 (by omega)
   have n64:n<64:=by omega
   have one:=emem_one (enc:=Value.int .i64) w who hw 3
   have HM:=Lib.hid hm
   cases first
   . have gX:=((Gr.refl w).al (.cells #[.int .i64 who] 3)).al (.cells #[.slice A n c,.slice (some ⟨w.heap.size,0,none⟩) 1 1] 23)
     have g1:=(Gr.refl (w.alloc (.cells #[.int .i64 who] 3))).al (.cells #[.slice A n c,.slice (some ⟨w.heap.size,0,none⟩) 1 1] 23)
     have kj:=Lib.hid (join_two (w:=(w.alloc (.cells #[.int .i64 who] 3)).alloc (.cells #[.slice A n c,.slice (some ⟨w.heap.size,0,none⟩) 1 1] 23)) (g:=w.heap.size+1) (A:=A) (n:=n) (c:=c) (l:=l) (B:=some ⟨w.heap.size,0,none⟩) (m:=1) (d:=1) (r:=[who]) (by simp) (by simp) (HM.out.gr gX) (one.gr g1) (by omega) (by omega))
     have HL:=Lib.hid (show (l++[who]).length=n+1 by simp [hlen])
     rw [if_neg (by decide)]
     generalize l++[who]=R at *
     clear hm hx hl one h64 hlen
     go_enter Tryz.func215,Tryz.ntmps215
     go_wp2_with fail
     refine k1.out.mono ?_
     rintro e w1 ⟨rfl,rfl⟩
     go_wp2_with fail
     refine kj.out.mono ?_
     rintro e w1 ⟨C,k,rfl,own1,hb1⟩
     go_wp2_with fail
     go_ret2
     refine⟨C,k,by rw [HL.out];rfl,?_,gX.trans hb1⟩
     rw [HL.out]
     exact own1.low gX.size
   . have gX:=((Gr.refl w).al (.cells #[.int .i64 who] 3)).al (.cells #[.slice (some ⟨w.heap.size,0,none⟩) 1 1,.slice A n c] 23)
     have g1:=(Gr.refl (w.alloc (.cells #[.int .i64 who] 3))).al (.cells #[.slice (some ⟨w.heap.size,0,none⟩) 1 1,.slice A n c] 23)
     have kj:=Lib.hid (join_two (w:=(w.alloc (.cells #[.int .i64 who] 3)).alloc (.cells #[.slice (some ⟨w.heap.size,0,none⟩) 1 1,.slice A n c] 23)) (g:=w.heap.size+1) (A:=some ⟨w.heap.size,0,none⟩) (n:=1) (c:=1) (l:=[who]) (B:=A) (m:=n) (d:=c) (r:=l) (by simp) (by simp) (one.gr g1) (HM.out.gr gX) (by omega) (by omega))
     have HL:=Lib.hid (show (who::l).length=1+n by simp [hlen];omega)
     rw [if_pos rfl]
     rw [show [who]++l=who::l from rfl] at kj
     generalize who::l=R at *
     clear hm hx hl one h64 hlen
     go_enter Tryz.func215,Tryz.ntmps215
     go_wp2_with fail
     refine k1.out.mono ?_
     rintro e w1 ⟨rfl,rfl⟩
     go_wp2_with fail
     refine kj.out.mono ?_
     rintro e w1 ⟨C,k,rfl,own1,hb1⟩
     go_wp2_with fail
     go_ret2
     refine⟨C,k,by rw [HL.out];rfl,?_,gX.trans hb1⟩
     rw [HL.out]
     exact own1.low gX.size
end
section
variable {w:World} {A:Option Addr} {n c:Nat} {l:List Int}
end
end Go.Proofs.YtainfijdhcehlaaGreatDoor.L7
namespace Go.Proofs.YtainfijdhcehlaaGreatDoor
open Lib (hid)
open Go.Proofs.Tryz
open Go.ChangeAt Go.ChangeShapes Go.Joins Go.RowKit Go.WideShapes
section
def sp (a q:Int) (l:List Int):SV:=⟨a,q,none,0,0,l⟩
theorem sp_pl (a q:Int) (l:List Int):(sp a q l).pl=(a,q,l):=rfl
def gt (L:List SV) (a:Int):Int×List Int:=match L.find? (λ x=>decide (x.addr=a)) with
 | some x=>(x.cnt,x.line)
 | none=>(0,[])
section
variable {L T R:List SV} {x y s:SV} {a b q:Int} {l:List Int}
theorem gt_mem (h:TOk L) (hx:x∈L):gt L x.addr=(x.cnt,x.line):=by
 unfold gt
 cases hf:L.find? (λ y=>decide (y.addr=x.addr)) with
 | none =>
  rw [List.find?_eq_none] at hf;exact absurd (by simp) (hf x hx)
 | some y =>
  have h1:=List.find?_some hf;have h2:=List.mem_of_find?_eq_some hf;rw [decide_eq_true_eq] at h1;rw [tok_one h h2 hx h1]
theorem gt_no (h:¬ Has L a):gt L a=(0,[]):=by
 unfold gt
 cases hf:L.find? (λ y=>decide (y.addr=a)) with
 | none=>rfl
 | some y =>
  have h1:=List.find?_some hf;rw [decide_eq_true_eq] at h1;exact absurd ⟨y,List.mem_of_find?_eq_some hf,h1⟩ h
theorem gt_has (h:TOk L):Has L a↔gt L a≠(0,[]):=by
 constructor
 . rintro⟨x,hx,rfl⟩
   rw [gt_mem h hx];intro e;rw [Prod.mk.injEq] at e;exact (h.1 x hx).2 e
 . intro hn
   exact Classical.byContradiction λ hc=>hn (gt_no hc)
theorem gt_ok (h:TOk L) (ha:IsKey a):SOk (sp a (gt L a).1 (gt L a).2):=by
 by_cases hh:Has L a
 . obtain⟨x,hx,rfl⟩:=hh
   rw [gt_mem h hx];exact (h.1 x hx).1
 . rw [gt_no hh]
   exact⟨ha,Int.le_refl _,(by decide:(0:Int)<=2147483647),L7.Ln.nil,.inl rfl⟩
theorem gt_pl (hl:TOk L) (h:L.map SV.pl=T.map SV.pl) (a:Int):gt L a=gt T a:=by
 have ht:TOk T:=hl.pl h;by_cases hh:Has L a
 . obtain⟨x,hx,rfl⟩:=hh
   obtain⟨y,hy,e⟩:=mem_pl h.symm hx;obtain⟨e1,e2,e3⟩:=plq e;rw [gt_mem hl hx,<- e1,gt_mem ht hy,e2,e3]
 . rw [gt_no hh,gt_no (λ hc=>hh ((has_pl h a).2 hc))]
theorem gt_set (ht:TOk L) (hs:SOk s):gt (setl L s) s.addr=(s.cnt,s.line):=by
 by_cases hn:SNil s
 . rw [gt_no (λ hc=>(has_setl hs).1 hc hn),hn.1,hn.2]
 . exact gt_mem (setl_ok ht hs) (mem_setl.2 (.inr ⟨rfl,hn⟩))
theorem gt_other (ht:TOk L) (hs:SOk s) (hb:b≠s.addr):gt (setl L s) b=gt L b:=by
 by_cases hh:Has L b
 . obtain⟨x,hx,rfl⟩:=hh
   rw [gt_mem ht hx,gt_mem (setl_ok ht hs) (mem_setl.2 (.inl ⟨hx,hb⟩))]
 . rw [gt_no hh,gt_no]
   rintro⟨x,hx,e⟩;rcases mem_setl.1 hx with ⟨h1,_⟩ | ⟨rfl,_⟩
   . exact hh ⟨x,h1,e⟩
   . exact hb e.symm
theorem tok_parts (h:TOk L) (a:Int):L=front L a++(L.filter (λ x=>decide (x.addr=a))++back L a):=by
 refine tok_ext h ⟨λ x hx=>?_,?_⟩ λ x=>?_
 . unfold front back at hx
   simp only [List.mem_append,List.mem_filter] at hx;rcases hx with ⟨h1,_⟩ | ⟨h1,_⟩ | ⟨h1,_⟩<;>exact h.1 x h1
 . unfold front back
   rw [List.pairwise_append,List.pairwise_append];refine⟨h.2.sublist List.filter_sublist,⟨h.2.sublist List.filter_sublist,h.2.sublist List.filter_sublist,λ u hu v hv=>?_⟩,λ u hu v hv=>?_⟩
   . rw [List.mem_filter,decide_eq_true_eq] at hu hv
     rw [hu.2];exact hv.2
   . simp only [List.mem_append,List.mem_filter,decide_eq_true_eq] at hu hv
     rcases hv with ⟨_,hv⟩ | ⟨_,hv⟩
     . rw [hv];exact hu.2
     . exact hu.2.trans hv
 . unfold front back
   simp only [List.mem_append,List.mem_filter,decide_eq_true_eq];constructor
   . intro hx
     rcases Lt.tri x.addr a with h1 | h1 | h1
     . exact .inl ⟨hx,h1⟩
     . exact .inr (.inl ⟨hx,h1⟩)
     . exact .inr (.inr ⟨hx,h1⟩)
   . rintro (⟨hx,_⟩ | ⟨hx,_⟩ | ⟨hx,_⟩)<;>exact hx
theorem setl_len (h:TOk L) (hs:Has L s.addr\/SNil s):(setl L s).length<=L.length:=by
 have e:=congrArg List.length (tok_parts h s.addr);rw [List.length_append,List.length_append] at e;unfold setl;rw [List.length_append,List.length_append];rcases hs with ⟨x,hx,hxa⟩ | hn
 . have h1:0<(L.filter (λ x=>decide (x.addr=s.addr))).length:=List.length_pos_of_mem (List.mem_filter.2 ⟨hx,by simpa using hxa⟩)
   split<;>simp<;>omega
 . rw [if_pos hn]
   simp;omega
theorem setl_more (h:TOk L):(setl L s).length<=L.length+1:=by
 have e:=congrArg List.length (tok_parts h s.addr);rw [List.length_append,List.length_append] at e;unfold setl;rw [List.length_append,List.length_append]
 split<;>simp<;>omega
def psh (first:Bool) (l:List Int) (who:Int):List Int:=if first=true then who::l else l++[who]
theorem psh_len {first:Bool} {who:Int}:(psh first l who).length=l.length+1:=by unfold psh;split<;>simp
theorem psh_ok {first:Bool} {who:Int} (hl:L7.Ln l) (h0:0<=who) (hn:who ∉ l) (h64:l.length<64):L7.Ln (psh first l who):=by
 refine⟨by rw [psh_len];omega,?_⟩;unfold psh
 split
 . exact L7.good_cons.2 ⟨h0,hn,hl.2⟩
 . exact L7.good_app.2 ⟨hl.2,L7.good_one.2 h0,λ x hx h=>by rw [List.mem_singleton] at h;subst h;exact hn hx⟩
theorem setR_pl {s':SV} (h:s.pl=s'.pl) {Q:List (Int×Int×List Int)} {e:Int} (hs:SetR L s Q e):SetR L s' Q e:=by
 obtain⟨h1,h2,h3⟩:=plq h;have hok:SOk s↔SOk s':=⟨λ k=>k.pl h,λ k=>k.pl h.symm⟩;have hn:SNil s↔SNil s':=SNil.pl h;have hm:(setl L s).map SV.pl=(setl L s').map SV.pl:=by
  unfold setl;rw [h1];by_cases c:SNil s
  . rw [if_pos c,if_pos (hn.1 c)]
  . rw [if_neg c,if_neg (λ k=>c (hn.2 k))]
    simp [h]
 have hl:(setl L s).length=(setl L s').length:=len_pl hm;unfold SetR at *;rw [<- hok,<- hl,<- hm];exact hs
def AcqR (L:List SV) (a who:Int) (first:Bool) (Q:List (Int×Int×List Int)) (is:Bool) (e:Int):Prop :=
 ((¬ Tab L\/¬ IsKey a\/who<0)/\Q=[]/\is=false/\e=1) \/
 (Tab L/\IsKey a/\0<=who/\(
   (who∈(gt L a).2/\Q=[]/\is=false/\e=7) \/
   (who ∉ (gt L a).2/\0<(gt L a).1/\Q=(setl L (sp a ((gt L a).1-1) (gt L a).2)).map SV.pl/\is=true/\e=0) \/
   (who ∉ (gt L a).2/\(gt L a).1=0/\(gt L a).2.length=64/\Q=[]/\is=false/\e=5) \/
   (who ∉ (gt L a).2/\(gt L a).1=0/\(gt L a).2.length<64/\64<(setl L (sp a 0 (psh first (gt L a).2 who))).length/\Q=[]/\is=false/\e=5) \/
   (who ∉ (gt L a).2/\(gt L a).1=0/\(gt L a).2.length<64/\(setl L (sp a 0 (psh first (gt L a).2 who))).length<=64/\Q=(setl L (sp a 0 (psh first (gt L a).2 who))).map SV.pl/\is=false/\e=0)))
def RelR (L:List SV) (a:Int) (Q:List (Int×Int×List Int)) (x e:Int):Prop :=
 ((¬ Tab L\/¬ IsKey a)/\Q=[]/\x=0/\e=1) \/
 (Tab L/\IsKey a/\(
   (∃ r,(gt L a).2=x::r/\Q=(setl L (sp a 0 r)).map SV.pl/\e=0) \/
   ((gt L a).2=[]/\(gt L a).1=2147483647/\Q=[]/\x=0/\e=10) \/
   ((gt L a).2=[]/\(gt L a).1<2147483647/\64<(setl L (sp a ((gt L a).1+1) [])).length/\Q=[]/\x=0/\e=5) \/
   ((gt L a).2=[]/\(gt L a).1<2147483647/\(setl L (sp a ((gt L a).1+1) [])).length<=64/\Q=(setl L (sp a ((gt L a).1+1) [])).map SV.pl/\x=-1/\e=0)))
theorem gt_cnt (h:TOk L) (ha:IsKey a):0<=(gt L a).1/\(gt L a).1<=2147483647/\L7.Ln (gt L a).2/\((gt L a).1=0\/(gt L a).2=[]):=(gt_ok h ha).2
theorem AcqR.any (L:List SV) (a who:Int) (first:Bool):∃ Q is e,AcqR L a who first Q is e:=by
 by_cases h:Tab L/\IsKey a/\0<=who
 . obtain⟨h1,h2,h3⟩:=h
   obtain⟨k1,k2,k3,k4⟩:=gt_cnt h1.2 h2;by_cases hm:who∈(gt L a).2
   . exact⟨_,_,_,.inr ⟨h1,h2,h3,.inl ⟨hm,rfl,rfl,rfl⟩⟩⟩
   . by_cases hc:0<(gt L a).1
     . exact⟨_,_,_,.inr ⟨h1,h2,h3,.inr (.inl ⟨hm,hc,rfl,rfl,rfl⟩)⟩⟩
     . have hc0:(gt L a).1=0:=by omega
       by_cases hl:(gt L a).2.length=64
       . exact⟨_,_,_,.inr ⟨h1,h2,h3,.inr (.inr (.inl ⟨hm,hc0,hl,rfl,rfl,rfl⟩))⟩⟩
       . have hl':(gt L a).2.length<64:=by have:=k3.1;omega
         by_cases hs:64<(setl L (sp a 0 (psh first (gt L a).2 who))).length
         . exact⟨_,_,_,.inr ⟨h1,h2,h3,.inr (.inr (.inr (.inl ⟨hm,hc0,hl',hs,rfl,rfl,rfl⟩)))⟩⟩
         . exact⟨_,_,_,.inr ⟨h1,h2,h3,.inr (.inr (.inr (.inr ⟨hm,hc0,hl',by omega,rfl,rfl,rfl⟩)))⟩⟩
 . refine⟨_,_,_,.inl ⟨?_,rfl,rfl,rfl⟩⟩
   by_cases h1:Tab L
   . by_cases h2:IsKey a
     . exact .inr (.inr (by have:¬ 0<=who:=λ h3=>h ⟨h1,h2,h3⟩;omega))
     . exact .inr (.inl h2)
   . exact .inl h1
theorem RelR.any (L:List SV) (a:Int):∃ Q x e,RelR L a Q x e:=by
 by_cases h:Tab L/\IsKey a
 . obtain⟨h1,h2⟩:=h
   obtain⟨k1,k2,k3,k4⟩:=gt_cnt h1.2 h2
   cases hl:(gt L a).2 with
   | cons y r=>exact⟨_,_,_,.inr ⟨h1,h2,.inl ⟨r,hl,rfl,rfl⟩⟩⟩
   | nil =>
    by_cases hc:(gt L a).1=2147483647
    . exact⟨_,_,_,.inr ⟨h1,h2,.inr (.inl ⟨hl,hc,rfl,rfl,rfl⟩)⟩⟩
    . have hc':(gt L a).1<2147483647:=by omega
      by_cases hs:64<(setl L (sp a ((gt L a).1+1) [])).length
      . exact⟨_,_,_,.inr ⟨h1,h2,.inr (.inr (.inl ⟨hl,hc',hs,rfl,rfl,rfl⟩))⟩⟩
      . exact⟨_,_,_,.inr ⟨h1,h2,.inr (.inr (.inr ⟨hl,hc',by omega,rfl,rfl,rfl⟩))⟩⟩
 . refine⟨_,_,_,.inl ⟨?_,rfl,rfl,rfl⟩⟩
   by_cases h1:Tab L
   . exact .inr λ h2=>h ⟨h1,h2⟩
   . exact .inl h1
end
end
section
namespace P16
structure Wd where
 L:Bool
 K:Bool
 S:Bool
 n:Int
inductive V where
 | out
 | load (aw st:Bool)
 | want (aw st:Bool) (old:Wd)
 | draw
 | turn (t:Int)
 | sema (t:Int)
 | serve (t:Int) (told:Bool)
 | wok (parked:Bool)
 | hand (st:Bool) (old:Wd)
 | trying
 | give (old:Wd)
 | see
 | draws
 | turns (t:Int)
 | grant (t:Int)
 | serves (t:Int)
structure Mx where
 w:Wd
 nx:Int
 sv:Int
 c:Int
 l:List Int
def isQ:V->Bool
 | .draw | .turn _ | .sema _ | .serve _ _ | .wok _=>true
 | _=>false
def isH:V->Bool
 | .hand _ _=>true
 | _=>false
def isG:V->Bool
 | .draws | .turns _ | .grant _ | .serve _ true | .wok false=>true
 | _=>false
def isA:V->Bool
 | .load true _ | .want true _ _=>true
 | _=>false
def tk:V->Option Int
 | .turn t | .sema t | .serve t _ | .turns t | .grant t | .serves t=>some t
 | _=>none
def isT (x:V):Bool:=(tk x).isSome
def inT:V->Bool
 | .sema _ | .serve _ _ | .grant _ | .serves _=>true
 | _=>false
def inL:V->Bool
 | .serve _ false | .wok true=>true
 | _=>false
def wakes (w:Wd):Prop:=w.L=false/\w.K=false/\w.S=false/\1<=w.n
def b1 (x:Bool):Int:=if x then 1 else 0
theorem b1_cases (x:Bool):b1 x=0\/b1 x=1:=by cases x<;>simp [b1]
def cnt (p:V->Bool) (v:Nat->V):Nat->Int
 | 0=>0
 | N+1=>cnt p v N+b1 (p (v N))
def upd (v:Nat->V) (i:Nat) (x:V):Nat->V:=λ j=>if j=i then x else v j
section
variable {p:V->Bool} {v:Nat->V} {i j N:Nat} {x:V}
theorem upd_at:upd v i x i=x:=by simp [upd]
theorem upd_off (h:j≠i):upd v i x j=v j:=by simp [upd,h]
theorem cnt_far (h:N<=i):cnt p (upd v i x) N=cnt p v N:=by
 induction N with
 | zero=>rfl
 | succ N ih =>
  have:N≠i:=by omega
  simp only [cnt];rw [ih (by omega),upd_off this]
theorem cnt_upd (h:i<N):cnt p (upd v i x) N=cnt p v N-b1 (p (v i))+b1 (p x):=by
 induction N with
 | zero=>omega
 | succ N ih =>
  simp only [cnt];by_cases e:N=i
  . subst e
    rw [cnt_far (Nat.le_refl _),upd_at];omega
  . rw [ih (by omega),upd_off e]
    omega
theorem cnt_nonneg:0<=cnt p v N:=by
 induction N with
 | zero=>simp [cnt]
 | succ N ih=>simp only [cnt];rcases b1_cases (p (v N)) with h | h<;>omega
theorem cnt_le:cnt p v N<=N:=by
 induction N with
 | zero=>simp [cnt]
 | succ N ih=>simp only [cnt];rcases b1_cases (p (v N)) with h | h<;>omega
theorem cnt_pos (h:i<N) (hp:p (v i)=true):1<=cnt p v N:=by
 have e:=cnt_upd (p:=p) (v:=v) (x:=v i) h
 induction N with
 | zero=>omega
 | succ N ih =>
  simp only [cnt];by_cases e:N=i
  . subst e
    rw [hp];have:=cnt_nonneg (p:=p) (v:=v) (N:=N);simp only [b1,if_true];omega
  . have:=ih (by omega) (cnt_upd (by omega))
    rcases b1_cases (p (v N)) with h | h<;>omega
end
structure InvW (N:Nat) (w:Wd) (c:Int) (v:Nat->V):Prop where
 n0:0<=w.n
 c0:0<=c
 free:w.S=false->cnt isH v N=0/\cnt isG v N+c+cnt isA v N=b1 w.K/\w.n+(cnt isG v N+c)=cnt isQ v N
 starve:w.S=true->w.K=false/\cnt isA v N=0/\w.n=cnt isQ v N+cnt isH v N/\(w.L=true->cnt isG v N+c=0/\cnt isH v N=0)/\(w.L=false->cnt isG v N+c+cnt isH v N=1)
structure InvT (N:Nat) (nx sv:Int) (v:Nat->V):Prop where
 nb:0<=nx/\nx<4294967296
 sb:0<=sv/\sv<4294967296
 t1:∀ i t,i<N->tk (v i)=some t->(0<=t/\t<4294967296)/\(t-sv) % 4294967296<cnt isT v N
 t2:∀ i j t,i<N->j<N->i≠j->tk (v i)=some t->tk (v j)≠some t
 t3:(nx-sv) % 4294967296=cnt isT v N
 t4:∀ i,i<N->inT (v i)=true->tk (v i)=some sv
structure InvL (N:Nat) (c:Int) (l:List Int) (v:Nat->V):Prop where
 nd:l.Nodup
 lm:∀ x,x∈l↔∃ i,i<N/\x=(i:Int)/\inL (v i)=true
 le:0<c->l=[]
structure InvO (N:Nat) (w:Wd) (v:Nat->V):Prop where
 ol:∀ i aw st,i<N->v i=.load aw st->st=true->aw=true
 ow:∀ i aw st old,i<N->v i=.want aw st old->(st=true->aw=true)/\(aw=true->old.K=true)/\0<=old.n/\old.n<=N
 oh:∀ i st old,i<N->v i=.hand st old->old.L=false/\old.K=false/\old.S=true/\1<=old.n/\old.n<=w.n
def InvR (N:Nat) (w:Wd) (v:Nat->V):Prop:=wakes w->∃ i,i<N/\(v i=.see\/∃ old,v i=.give old/\wakes old)
structure Inv (N:Nat) (m:Mx) (v:Nat->V):Prop where
 W:InvW N m.w m.c v
 T:InvT N m.nx m.sv v
 L:InvL N m.c m.l v
 O:InvO N m.w v
 R:InvR N m.w v
section
variable {N i:Nat} {v:Nat->V} {x:V} {w w':Wd} {c nx sv:Int} {l:List Int}
theorem InvT.same (h:InvT N nx sv v) (hi:i<N) (ht:tk x=tk (v i)) (hn:inT x=inT (v i)):InvT N nx sv (upd v i x):=by
 have hc:cnt isT (upd v i x) N=cnt isT v N:=by
  rw [cnt_upd hi];unfold isT;rw [ht];omega
 have ha:∀ j,tk (upd v i x j)=tk (v j):=λ j=>by
  by_cases e:j=i
  . subst e;rw [upd_at,ht]
  . rw [upd_off e]
 have hb:∀ j,inT (upd v i x j)=inT (v j):=λ j=>by
  by_cases e:j=i
  . subst e;rw [upd_at,hn]
  . rw [upd_off e]
 refine⟨h.nb,h.sb,λ j t hj=>?_,λ j k t hj hk hne=>?_,?_,λ j hj=>?_⟩
 . rw [ha,hc];exact h.t1 j t hj
 . rw [ha,ha];exact h.t2 j k t hj hk hne
 . rw [hc];exact h.t3
 . rw [ha,hb];exact h.t4 j hj
theorem InvL.same (h:InvL N c l v) (hi:i<N) (hl:inL x=inL (v i)):InvL N c l (upd v i x):=by
 have ha:∀ j,inL (upd v i x j)=inL (v j):=λ j=>by
  by_cases e:j=i
  . subst e;rw [upd_at,hl]
  . rw [upd_off e]
 refine⟨h.nd,λ y=>?_,h.le⟩;rw [h.lm];constructor
 . rintro⟨j,hj,e,hx⟩;exact⟨j,hj,e,by rw [ha];exact hx⟩
 . rintro⟨j,hj,e,hx⟩;exact⟨j,hj,e,by rw [ha] at hx;exact hx⟩
theorem InvT.draw (h:InvT N nx sv v) (hN:N<=8) (hi:i<N) (h0:tk (v i)=none) (hx:tk x=some nx) (hn:inT x=false):InvT N ((nx+1) % 4294967296) sv (upd v i x):=by
 have hcle:cnt isT v N<N:=by
  have e:=cnt_upd (p:=isT) (v:=v) (x:=x) hi;have h1:b1 (isT (v i))=0:=by unfold isT;rw [h0];rfl
  have h2:b1 (isT x)=1:=by unfold isT;rw [hx];rfl
  have:=cnt_le (p:=isT) (v:=upd v i x) (N:=N);omega
 have hc:cnt isT (upd v i x) N=cnt isT v N+1:=by
  rw [cnt_upd hi];have h1:b1 (isT (v i))=0:=by unfold isT;rw [h0];rfl
  have h2:b1 (isT x)=1:=by unfold isT;rw [hx];rfl
  omega
 obtain⟨n0,n1⟩:=h.nb;obtain⟨s0,s1⟩:=h.sb;have t3:=h.t3;have hfar:∀ j t,j<N->tk (v j)=some t->t≠nx:=λ j t hj ht e=>by
  have:=(h.t1 j t hj ht).2;subst e;omega
 refine⟨by omega,h.sb,λ j t hj ht=>?_,λ j k t hj hk hne ht=>?_,?_,λ j hj hin=>?_⟩
 . rw [hc]
   by_cases e:j=i
   . subst e
     rw [upd_at,hx] at ht;cases ht;exact⟨h.nb,by omega⟩
   . rw [upd_off e] at ht
     have:=h.t1 j t hj ht;exact⟨this.1,by omega⟩
 . by_cases e:j=i
   . subst e
     rw [upd_at,hx] at ht;cases ht;rw [upd_off (λ q=>hne q.symm)];intro q;exact hfar k nx hk q rfl
   . rw [upd_off e] at ht
     by_cases e':k=i
     . subst e'
       rw [upd_at,hx];intro q;cases q;exact hfar j nx hj ht rfl
     . rw [upd_off e']
       exact h.t2 j k t hj hk hne ht
 . rw [hc];omega
 . by_cases e:j=i
   . subst e;rw [upd_at,hn] at hin;cases hin
   . rw [upd_off e] at hin ⊢
     exact h.t4 j hj hin
theorem InvT.serve (h:InvT N nx sv v) (hN:N<=8) (hi:i<N) (h0:inT (v i)=true) (hx:tk x=none) (hn:inT x=false):InvT N nx ((sv+1) % 4294967296) (upd v i x):=by
 have hti:=h.t4 i hi h0;have hc:cnt isT (upd v i x) N=cnt isT v N-1:=by
  rw [cnt_upd hi];have h1:b1 (isT (v i))=1:=by unfold isT;rw [hti];rfl
  have h2:b1 (isT x)=0:=by unfold isT;rw [hx];rfl
  omega
 have hle:=cnt_le (p:=isT) (v:=v) (N:=N);have hpos:=cnt_pos (p:=isT) (v:=v) hi (by unfold isT;rw [hti];rfl);obtain⟨n0,n1⟩:=h.nb;obtain⟨s0,s1⟩:=h.sb;have t3:=h.t3;refine⟨h.nb,by omega,λ j t hj ht=>?_,λ j k t hj hk hne ht=>?_,?_,λ j hj hin=>?_⟩
 . rw [hc]
   by_cases e:j=i
   . subst e;rw [upd_at,hx] at ht;cases ht
   . rw [upd_off e] at ht
     have h1:=h.t1 j t hj ht;have h2:t≠sv:=λ q=>h.t2 i j sv hi hj (λ q=>e q.symm) hti (by rw [<- q];exact ht)
     exact⟨h1.1,by omega⟩
 . by_cases e:j=i
   . subst e;rw [upd_at,hx] at ht;cases ht
   . rw [upd_off e] at ht
     by_cases e':k=i
     . subst e';rw [upd_at,hx];intro q;cases q
     . rw [upd_off e'];exact h.t2 j k t hj hk hne ht
 . rw [hc];omega
 . by_cases e:j=i
   . subst e;rw [upd_at,hn] at hin;cases hin
   . rw [upd_off e] at hin ⊢
     exact absurd (h.t4 j hj hin) (h.t2 i j sv hi hj (λ q=>e q.symm) hti)
theorem InvT.turn (h:InvT N nx sv v) (hi:i<N) (h0:tk (v i)=some sv) (hx:tk x=some sv):InvT N nx sv (upd v i x):=by
 have hc:cnt isT (upd v i x) N=cnt isT v N:=by
  rw [cnt_upd hi];unfold isT;rw [hx,h0];omega
 have ha:∀ j,tk (upd v i x j)=tk (v j):=λ j=>by
  by_cases e:j=i
  . subst e;rw [upd_at,hx,h0]
  . rw [upd_off e]
 refine⟨h.nb,h.sb,λ j t hj=>?_,λ j k t hj hk hne=>?_,?_,λ j hj hin=>?_⟩
 . rw [ha,hc];exact h.t1 j t hj
 . rw [ha,ha];exact h.t2 j k t hj hk hne
 . rw [hc];exact h.t3
 . rw [ha]
   by_cases e:j=i
   . subst e;exact h0
   . rw [upd_off e] at hin;exact h.t4 j hj hin
end
end P16
end
section
namespace P16
def good (x:V):Prop:=x=.see\/∃ old,x=.give old/\wakes old
section
variable {N i:Nat} {v:Nat->V} {x:V} {m:Mx} {w w':Wd} {aw st told:Bool} {old:Wd} {t:Int}
theorem InvR.off (h:¬ wakes w'):InvR N w' v:=λ q=>absurd q h
theorem InvR.keep (h:InvR N w v) (hi:i<N) (hw:wakes w'->wakes w) (hg:wakes w'->good (v i)->good x):InvR N w' (upd v i x):=λ q=>by
 obtain⟨j,hj,hgd⟩:=h (hw q);by_cases e:j=i
 . subst e
   exact⟨j,hj,by rw [upd_at];exact hg q hgd⟩
 . exact⟨j,hj,by rw [upd_off e];exact hgd⟩
theorem InvR.got (hi:i<N) (hx:wakes w'->good x):InvR N w' (upd v i x):=λ q=>⟨i,hi,by rw [upd_at];exact hx q⟩
theorem InvO.upd (h:InvO N w v) (hi:i<N) (hw:w.n<=w'.n\/∀ j st old,j<N->j≠i->v j≠.hand st old)
 (h0:∀ aw st,x=.load aw st->st=true->aw=true)
 (h1:∀ aw st old,x=.want aw st old->(st=true->aw=true)/\(aw=true->old.K=true)/\0<=old.n/\old.n<=N)
 (h2:∀ st old,x=.hand st old->old.L=false/\old.K=false/\old.S=true/\1<=old.n/\old.n<=w'.n):InvO N w' (upd v i x):=by
 refine⟨λ j aw st hj e=>?_,λ j aw st old hj e=>?_,λ j st old hj e=>?_⟩
 . by_cases q:j=i
   . subst q;rw [upd_at] at e;exact h0 aw st e
   . rw [upd_off q] at e;exact h.ol j aw st hj e
 . by_cases q:j=i
   . subst q;rw [upd_at] at e;exact h1 aw st old e
   . rw [upd_off q] at e;exact h.ow j aw st old hj e
 . by_cases q:j=i
   . subst q;rw [upd_at] at e;exact h2 st old e
   . rw [upd_off q] at e
     obtain⟨a,b,c,d,f⟩:=h.oh j st old hj e;rcases hw with hw | hw
     . exact⟨a,b,c,d,by omega⟩
     . exact absurd e (hw j st old hj q)
theorem Inv.awake (h:Inv N m v) (hi:i<N) (ha:isA (v i)=true):m.w.K=true/\m.w.S=false/\cnt isA v N=1/\cnt isG v N+m.c=0:=by
 have:=cnt_pos hi ha;have hg:=cnt_nonneg (p:=isG) (v:=v) (N:=N);have c0:=h.W.c0;cases hS:m.w.S
 . have e:=(h.W.free hS).2.1
   cases hK:m.w.K
   . rw [hK] at e;simp [b1] at e;omega
   . rw [hK] at e;simp [b1] at e;exact⟨rfl,rfl,by omega,by omega⟩
 . have e:=(h.W.starve hS).2.1;omega
theorem Inv.got (h:Inv N m v) (hi:i<N) (hv:v i=.want aw st old) (hL:m.w.L=false) (hS:m.w.S=false) :
 Inv N { m with w:={ m.w with L:=true,K:=m.w.K&&!aw } } (upd v i .out):=by
 have hW:=h.W;refine⟨⟨hW.n0,hW.c0,λ _=>?_,λ q=>?_⟩,h.T.same hi (by rw [hv];rfl) (by rw [hv];rfl),h.L.same hi (by rw [hv];rfl),h.O.upd hi (.inl (Int.le_refl _)) (λ _ _ e=>by cases e) (λ _ _ _ e=>by cases e) (λ _ _ e=>by cases e),InvR.off (λ q=>by cases q.1)⟩
 . dsimp only
   obtain⟨a,b,c⟩:=hW.free hS;cases aw
   . have eQ:=cnt_upd (p:=isQ) (v:=v) (x:=V.out) hi
     have eH:=cnt_upd (p:=isH) (v:=v) (x:=V.out) hi;have eG:=cnt_upd (p:=isG) (v:=v) (x:=V.out) hi;have eA:=cnt_upd (p:=isA) (v:=v) (x:=V.out) hi;simp only [hv,isQ,isH,isG,isA,b1,Bool.false_eq_true,if_true,if_false,Int.sub_zero,Int.add_zero] at eQ eH eG eA;exact⟨by omega,by simp only [Bool.not_false,Bool.and_true];omega,by omega⟩
   . have hk:=h.awake hi (by rw [hv];rfl)
     have eQ:=cnt_upd (p:=isQ) (v:=v) (x:=V.out) hi;have eH:=cnt_upd (p:=isH) (v:=v) (x:=V.out) hi;have eG:=cnt_upd (p:=isG) (v:=v) (x:=V.out) hi;have eA:=cnt_upd (p:=isA) (v:=v) (x:=V.out) hi;simp only [hv,isQ,isH,isG,isA,b1,Bool.false_eq_true,if_true,if_false,Int.sub_zero,Int.add_zero] at eQ eH eG eA;exact⟨by omega,by simp only [Bool.not_true,Bool.and_false,b1,Bool.false_eq_true,if_false];omega,by omega⟩
 . have q:m.w.S=true:=q
   rw [hS] at q;cases q
end
end P16
end
section
namespace P16
section
variable {N i j:Nat} {v:Nat->V} {x:V} {m:Mx} {w w':Wd} {aw st told S':Bool} {old:Wd} {t:Int} {l':List Int}
theorem Inv.tickets (h:Inv N m v) (hi:i<N) (hQ:isQ x=isQ (v i)) (hH:isH x=isH (v i)) (hG:isG x=isG (v i)) (hA:isA x=isA (v i)) (hl:inL x=inL (v i)) {nx sv:Int} (hT:InvT N nx sv (upd v i x))
 (h0:∀ aw st,x≠.load aw st) (h1:∀ aw st old,x≠.want aw st old) (h2:∀ st old,x≠.hand st old) (hg:¬ good (v i)) :
 Inv N { m with nx:=nx,sv:=sv } (upd v i x):=by
 have eQ:=cnt_upd (p:=isQ) (v:=v) (x:=x) hi;have eH:=cnt_upd (p:=isH) (v:=v) (x:=x) hi;have eG:=cnt_upd (p:=isG) (v:=v) (x:=x) hi;have eA:=cnt_upd (p:=isA) (v:=v) (x:=x) hi;rw [hQ] at eQ;rw [hH] at eH;rw [hG] at eG;rw [hA] at eA;have hW:=h.W;refine⟨⟨hW.n0,hW.c0,λ hS=>?_,λ hS=>?_⟩,hT,h.L.same hi hl,h.O.upd hi (.inl (Int.le_refl _)) (λ aw st e=>absurd e (h0 aw st)) (λ aw st old e=>absurd e (h1 aw st old)) (λ st old e=>absurd e (h2 st old)),h.R.keep hi id (λ _ q=>absurd q hg)⟩
 . dsimp only at hS ⊢
   obtain⟨a,b,c⟩:=hW.free hS;exact⟨by omega,by omega,by omega⟩
 . dsimp only at hS ⊢
   obtain⟨a,b,c,d,e⟩:=hW.starve hS;exact⟨a,by omega,by omega,λ q=>⟨by have:=(d q).1;omega,by have:=(d q).2;omega⟩,λ q=>by have:=e q;omega⟩
theorem ng {x:V} (h0:x≠.see) (h1:∀ old,x≠.give old):¬ good x:=by
 rintro (q | ⟨old,q,_⟩)
 . exact h0 q
 . exact h1 old q
theorem Inv.draws (h:Inv N m v) (hN:N<=8) (hi:i<N) (hv:v i=.draws):Inv N { m with nx:=(m.nx+1) % 4294967296,sv:=m.sv } (upd v i (.turns m.nx)) :=
 h.tickets hi (by rw [hv];rfl) (by rw [hv];rfl) (by rw [hv];rfl) (by rw [hv];rfl) (by rw [hv];rfl) (h.T.draw hN hi (by rw [hv];rfl) rfl rfl) (λ _ _ e=>by cases e) (λ _ _ _ e=>by cases e) (λ _ _ e=>by cases e) (ng (by rw [hv];intro q;cases q) (by rw [hv];intro _ q;cases q))
theorem Inv.sema (h:Inv N m v) (hN:N<=8) (hi:i<N) (hv:v i=.turn m.sv):Inv N m (upd v i (.sema m.sv)) :=
 h.tickets hi (by rw [hv];rfl) (by rw [hv];rfl) (by rw [hv];rfl) (by rw [hv];rfl) (by rw [hv];rfl) (h.T.turn hi (by rw [hv];rfl) rfl) (λ _ _ e=>by cases e) (λ _ _ _ e=>by cases e) (λ _ _ e=>by cases e) (ng (by rw [hv];intro q;cases q) (by rw [hv];intro _ q;cases q))
theorem Inv.serves (h:Inv N m v) (hN:N<=8) (hi:i<N) (hv:v i=.serves t):Inv N { m with nx:=m.nx,sv:=(m.sv+1) % 4294967296 } (upd v i (.out)) :=
 h.tickets hi (by rw [hv];rfl) (by rw [hv];rfl) (by rw [hv];rfl) (by rw [hv];rfl) (by rw [hv];rfl) (h.T.serve hN hi (by rw [hv];rfl) rfl rfl) (λ _ _ e=>by cases e) (λ _ _ _ e=>by cases e) (λ _ _ e=>by cases e) (ng (by rw [hv];intro q;cases q) (by rw [hv];intro _ q;cases q))
end
end P16
end
namespace P16
def wd (o:Int):Wd:=⟨decide (o % 2=1),decide (o / 2 % 2=1),decide (o / 4 % 2=1),o / 8⟩
def un (w:Wd):Int:=8*w.n+4*b1 w.S+2*b1 w.K+b1 w.L
def OkW (o:Int):Prop:=0<=o/\o<2147483648
theorem OkW.n {o:Int} (h:OkW o):0<=(wd o).n/\(wd o).n<268435456:=by unfold OkW at h;unfold wd;dsimp only;omega
theorem okW_un {w:Wd} (h0:0<=w.n) (h1:w.n<268435456):OkW (un w):=by
 unfold OkW un;rcases b1_cases w.S with a | a<;>rcases b1_cases w.K with b | b<;>rcases b1_cases w.L with c | c<;>rw [a,b,c]<;>omega
structure Cl where
 gst:Int
 permit:Bool
 act:Int
 pc:Int
 worked:Int
 ticket:Int
 first:Bool
 told:Bool
 since:Int
 st:Bool
 aw:Bool
 rounds:Int
 old:Int
structure Cm where
 word:Int
 nx:Int
 sv:Int
 c:Int
 l:List Int
structure Mw where
 now:Int
 progs:List (List (Int×Int))
 cl:List Cl
 cm:Nat->Cm
 stop:Int
def first (gst:Int) (permit:Bool) (at_:Int) (len:Nat):Cl :=
 { gst:=if at_=len then 2 else gst,permit:=if at_=len then false else permit,act:=at_,pc:=0,worked:=0,ticket:=0,first:=false,told:=false,since:=-1,st:=false,aw:=false,rounds:=0,old:=0 }
def over (c:Cl) (len:Nat):Cl:=first c.gst c.permit (c.act+1) len
def runs (l:List Cl):Nat:=(l.filter λ c=>decide (c.gst=0)).length
structure Out where
 c:Cl
 m:Cm
 rdy:Option Int
 ev:Option Int
inductive Res where
 | bad
 | fault
 | ok (o:Out)
def go (c:Cl) (m:Cm) (ev:Option Int:=none):Res:=.ok ⟨c,m,none,ev⟩
def wants (c:Cl):Option Int :=
 let o:=wd c.old
 if c.aw=true/\o.K=false then none
 else if (o.L=true\/o.S=true)/\268435456<=o.n+1 then none
 else some (un { L:=o.L||!o.S,K:=o.K&&!c.aw,S:=o.S||(c.st&&o.L),n:=if o.L||o.S then o.n+1 else o.n })
def late (s now:Int):Bool:=decide (s≠-1/\1000000<max 0 (now-s))
def draw (c:Cl) (m:Cm) (pc:Int):Res :=
 if (m.nx-m.sv) % 4294967296=4294967295 then .bad else go { c with ticket:=m.nx,pc:=pc } { m with nx:=(m.nx+1) % 4294967296 }
def turn (c:Cl) (m:Cm) (pc:Int):Res:=go { c with pc:=if c.ticket=m.sv then pc else c.pc } m
def round (c:Cl) (m:Cm):Res :=
 let o:=wd c.old
 let sets:=c.aw=false/\o.K=false/\0<o.n/\m.word=c.old
 go { c with aw:=if sets then true else c.aw,rounds:=c.rounds+1,pc:=1 } { m with word:=if sets then un { wd m.word with K:=true } else m.word }
def want (now:Int) (run len:Nat) (c:Cl) (m:Cm):Res :=
 let o:=wd c.old
 if o.L=true/\o.S=false/\c.rounds<4/\1<run then round c m
 else match wants c with
  | none=>.bad
  | some n =>
   if m.word≠c.old then go { c with pc:=1 } m
   else if o.L=false/\o.S=false then go (over c len) { m with word:=n } (some 0)
   else go { c with since:=if c.since=-1 then now else c.since,first:=!decide (c.since=-1),pc:=3 } { m with word:=n }
def ask (who:Int) (c:Cl) (m:Cm):Res :=
 if who∈m.l then .bad
 else if 0<m.c then go { c with told:=true,pc:=6 } { m with c:=m.c-1 }
 else if 64<=m.l.length then .bad
 else go { c with told:=false,pc:=6 } { m with l:=if c.first then who::m.l else m.l++[who] }
def rest (c:Cl) (m:Cm):Res :=
 if (m.nx-m.sv) % 4294967296=0 then .bad
 else
  let m':={ m with sv:=(m.sv+1) % 4294967296 }
  if c.told=true then go { c with pc:=7 } m'
  else go { c with pc:=7,gst:=if c.permit=true then 0 else 1,permit:=false } m'
def woken (now:Int) (c:Cl) (m:Cm):Res :=
 let c:={ c with st:=c.st||late c.since now,old:=m.word }
 if (wd m.word).S=true then go { c with pc:=8 } m else go { c with aw:=true,rounds:=0,pc:=2 } m
def hands (c:Cl):Option Int :=
 let o:=wd c.old
 if o.L=true\/o.K=true\/o.n=0 then none else some (if c.st=false\/o.n=1 then -11 else -7)
def handed (len:Nat) (c:Cl) (m:Cm):Res :=
 match hands c with
 | none=>.bad
 | some d=>if 0<=m.word+d/\m.word+d<2147483648 then go (over c len) { m with word:=m.word+d } (some 0) else .bad
def lock (now:Int) (run len:Nat) (who:Int) (c:Cl) (m:Cm):Res :=
 if c.pc=0 then (if m.word=0 then go (over c len) { m with word:=1 } (some 0) else go { c with pc:=1 } m)
 else if c.pc=1 then go { c with old:=m.word,pc:=2 } m
 else if c.pc=2 then want now run len c m
 else if c.pc=3 then draw c m 4
 else if c.pc=4 then turn c m 5
 else if c.pc=5 then ask who c m
 else if c.pc=6 then rest c m
 else if c.pc=7 then woken now c m
 else handed len c m
def try_ (len:Nat) (c:Cl) (m:Cm):Res :=
 if c.pc=9 then (if m.word≠c.old then go (over c len) m (some 2) else go (over c len) { m with word:=un { wd m.word with L:=true } } (some 1))
 else if (wd m.word).L=true\/(wd m.word).S=true then go (over c len) m (some 2)
 else go { c with old:=m.word,pc:=9 } m
def unlock (len:Nat) (c:Cl) (m:Cm):Res :=
 if (wd m.word).L=false then .fault
 else
  let left:=m.word-1
  let m':={ m with word:=left }
  if left=0 then go (over c len) m' (some 3)
  else if (wd left).S=true then go { c with pc:=12 } m' (some 3)
  else go { c with old:=left,pc:=10 } m' (some 3)
def let_ (len:Nat) (c:Cl) (m:Cm):Res :=
 let o:=wd c.old
 if ¬ (o.L=false/\o.K=false/\o.S=false/\o.n≠0) then go (over c len) m
 else if m.word=c.old then go { c with pc:=12 } { m with word:=un { L:=false,K:=true,S:=false,n:=o.n-1 } }
 else go { c with pc:=11 } m
def grant (c:Cl) (m:Cm):Res :=
 match m.l with
 | y::rest=>.ok ⟨{ c with pc:=15 },{ m with l:=rest },some y,none⟩
 | []=>if m.c=2147483647 then .bad else go { c with pc:=15 } { m with c:=m.c+1 }
def give (len:Nat) (c:Cl) (m:Cm):Res :=
 if c.pc=0 then unlock len c m
 else if c.pc=10 then let_ len c m
 else if c.pc=11 then go { c with old:=m.word,pc:=10 } m
 else if c.pc=12 then draw c m 13
 else if c.pc=13 then turn c m 14
 else if c.pc=14 then grant c m
 else if (m.nx-m.sv) % 4294967296=0 then .bad
 else go (over c len) { m with sv:=(m.sv+1) % 4294967296 }
def touch (now:Int) (run len:Nat) (who k:Int) (c:Cl) (m:Cm):Res :=
 if k=0 then lock now run len who c m else if k=1 then try_ len c m else give len c m
def work (n:Int) (len:Nat) (c:Cl):Cl:=if n=0\/c.worked+1=n then over { c with worked:=c.worked+1 } len else { c with worked:=c.worked+1 }
def told (c:Cl):Option Cl :=
 if c.gst=2\/(c.gst=0/\c.permit=true) then none
 else if c.gst=0 then some { c with permit:=true } else some { c with gst:=0 }
def stp (w:Mw) (who:Nat):Mw×Option (Int×Int×Int) :=
 match w.cl[who]?,w.progs[who]? with
 | some c,some p =>
  if w.stop≠0\/c.gst≠0 then (w,none)
  else match p[c.act.toNat]? with
   | none=>(w,none)
   | some (k,n) =>
    if k=3 then ({ w with cl:=w.cl.set who (work n p.length c) },none)
    else match touch w.now (runs w.cl) p.length who k c (w.cm n.toNat) with
     | .bad=>({ w with stop:=12 },none)
     | .fault=>({ w with stop:=11 },some (who,4,n))
     | .ok o =>
      let cl:=w.cl.set who o.c
      let cm:=λ j=>if j=n.toNat then o.m else w.cm j
      match o.rdy with
      | none=>({ w with cl:=cl,cm:=cm },o.ev.map λ e=>(who,e,n))
      | some y =>
       match (cl[y.toNat]?).bind told with
       | none=>({ w with stop:=12 },none)
       | some d=>({ w with cl:=cl.set y.toNat d,cm:=cm },o.ev.map λ e=>(who,e,n))
 | _,_=>(w,none)
def tick (w:Mw) (d:Int):Mw:=if w.stop≠0 then w else { w with now:=w.now+d }
end P16
section
namespace P16
open P12 (PV PMem)
instance:Inhabited Cl:=⟨⟨0,false,0,0,0,0,false,false,0,false,false,0,0⟩⟩
abbrev clV (c:Cl):List Value :=
 [.int .i64 c.gst,.bool c.permit,.int .i64 c.act,.int .i64 c.pc,.int .i64 c.worked,.int .i64 c.ticket,.bool c.first,.bool c.told,.int .i64 c.since,.bool c.st,.bool c.aw,.int .i64 c.rounds,.int .i64 c.old]
structure CB (c:Cl):Prop where
 gst:B64 c.gst
 act:B64 c.act
 pc:B64 c.pc
 worked:B64 c.worked
 ticket:B64 c.ticket
 since:B64 c.since
 rounds:B64 c.rounds
 old:B64 c.old
abbrev T3:=Int×Int×Int
abbrev t3V (x:T3):List Value:=[.int .i64 x.1,.int .i64 x.2.1,.int .i64 x.2.2]
def TB3 (x:T3):Prop:=B64 x.1/\B64 x.2.1/\B64 x.2.2
abbrev CMem:=RMem clV 13 CB
abbrev T3Mem:=RMem t3V 3 TB3
section
variable {w w':World} {A:Option Addr} {n k:Nat}
theorem CMem.cells {l:List Cl} (h:CMem w A n l) (hk:k<n) :
 ∃ b off x,A=some ⟨b,off,none⟩/\b<w.heap.size/\l[k]?=some x/\CB x /\
  w.cell? ⟨b,off+k*13,none⟩=some (.int .i64 x.gst)/\w.cell? ⟨b,off+k*13+1,none⟩=some (.bool x.permit)/\w.cell? ⟨b,off+k*13+2,none⟩=some (.int .i64 x.act) /\
  w.cell? ⟨b,off+k*13+3,none⟩=some (.int .i64 x.pc)/\w.cell? ⟨b,off+k*13+4,none⟩=some (.int .i64 x.worked)/\w.cell? ⟨b,off+k*13+5,none⟩=some (.int .i64 x.ticket) /\
  w.cell? ⟨b,off+k*13+6,none⟩=some (.bool x.first)/\w.cell? ⟨b,off+k*13+7,none⟩=some (.bool x.told)/\w.cell? ⟨b,off+k*13+8,none⟩=some (.int .i64 x.since) /\
  w.cell? ⟨b,off+k*13+9,none⟩=some (.bool x.st)/\w.cell? ⟨b,off+k*13+10,none⟩=some (.bool x.aw)/\w.cell? ⟨b,off+k*13+11,none⟩=some (.int .i64 x.rounds) /\
  w.cell? ⟨b,off+k*13+12,none⟩=some (.int .i64 x.old):=by
 obtain⟨b,off,x,h1,h2,h3,h4,h5⟩:=h.at_ hk;exact⟨b,off,x,h1,h2,h3,h4,h5 0 _ rfl,h5 1 _ rfl,h5 2 _ rfl,h5 3 _ rfl,h5 4 _ rfl,h5 5 _ rfl,h5 6 _ rfl,h5 7 _ rfl,h5 8 _ rfl,h5 9 _ rfl,h5 10 _ rfl,h5 11 _ rfl,h5 12 _ rfl⟩
theorem T3Mem.cells {l:List T3} (h:T3Mem w A n l) (hk:k<n) :
 ∃ b off x,A=some ⟨b,off,none⟩/\b<w.heap.size/\l[k]?=some x/\TB3 x /\
  w.cell? ⟨b,off+k*3,none⟩=some (.int .i64 x.1)/\w.cell? ⟨b,off+k*3+1,none⟩=some (.int .i64 x.2.1)/\w.cell? ⟨b,off+k*3+2,none⟩=some (.int .i64 x.2.2):=by
 obtain⟨b,off,x,h1,h2,h3,h4,h5⟩:=h.at_ hk;exact⟨b,off,x,h1,h2,h3,h4,h5 0 _ rfl,h5 1 _ rfl,h5 2 _ rfl⟩
end
structure Sl where
 A:Option Addr
 n:Nat
 c:Nat
def Sl.ok (s:Sl):Prop:=s.n<=s.c/\s.c<=9223372036854775807
theorem Sl.ok.lt {s:Sl} (h:s.ok):s.n<=9223372036854775807:=by unfold Sl.ok at h;omega
structure WR where
 now:Int
 p:Sl
 c:Sl
 m:Sl
 t:Sl
 stop:Int
abbrev WR.a (r:WR):Array Value:=#[.int .i64 r.now,.slice r.p.A r.p.n r.p.c,.slice r.c.A r.c.n r.c.c,.slice r.m.A r.m.n r.m.c,.slice r.t.A r.t.n r.t.c,.int .i64 r.stop]
abbrev WR.v (r:WR):Value:=.agg r.a
abbrev Sp:=Int×Int×List Int
structure Wv where
 now:Int
 progs:List (List (Int×Int))
 cl:List Cl
 mx:List T3
 tb:List Sp
 stop:Int
structure WIs (W:World) (r:WR) (ω:Wv):Prop where
 now:r.now=ω.now
 stop:r.stop=ω.stop
 bn:B64 ω.now
 bs:B64 ω.stop
 p:∃ R,PMem W r.p.A r.p.n R/\P12.pl R=ω.progs
 c:CMem W r.c.A r.c.n ω.cl
 m:T3Mem W r.m.A r.m.n ω.mx
 t:∃ T,SMem W r.t.A r.t.n T/\T.map SV.pl=ω.tb
 op:r.p.ok
 oc:r.c.ok
 om:r.m.ok
 ot:r.t.ok
theorem WIs.gr {W W':World} {r:WR} {ω:Wv} (h:WIs W r ω) (g:Gr W W'):WIs W' r ω :=
 ⟨h.now,h.stop,h.bn,h.bs,h.p.imp λ _ q=>⟨q.1.gr g,q.2⟩,h.c.gr g,h.m.gr g,h.t.imp λ _ q=>⟨q.1.gr g,q.2⟩,h.op,h.oc,h.om,h.ot⟩
theorem WIs.lens {W:World} {r:WR} {ω:Wv} (h:WIs W r ω):ω.progs.length=r.p.n/\ω.cl.length=r.c.n/\ω.mx.length=r.m.n/\ω.tb.length=r.t.n:=by
 obtain⟨R,hR,e⟩:=h.p;obtain⟨T,hT,e'⟩:=h.t;refine⟨?_,h.c.len,h.m.len,?_⟩
 . rw [<- e];unfold P12.pl;rw [List.length_map];exact hR.len
 . rw [<- e',List.length_map];exact hT.1
section
variable {H:Type} {enc:TypeId×Value->H} {W:World} {sp:Nat->Bool}
variable {m:Nat} {cs:List Value} {y:DataW H×List MemPlace}
theorem array6 {α:Type} {cs:Array α} (h:cs.size=6):∃ c0 c1 c2 c3 c4 c5,cs=#[c0,c1,c2,c3,c4,c5]:=by
 obtain⟨l⟩:=cs
 match l,h with
 | [c0,c1,c2,c3,c4,c5],_=>exact⟨c0,c1,c2,c3,c4,c5,rfl⟩
end
end P16
end
namespace P16
abbrev Ac:=Int×Int
def OkA (a:Ac):Prop:=(a.1=0\/a.1=1\/a.1=2\/a.1=3)/\0<=a.2/\(a.1≠3->a.2<4)
def OkPc (k pc:Int):Prop:=pc=0\/(k=0/\1<=pc/\pc<=8)\/(k=1/\pc=9)\/(k=2/\10<=pc/\pc<=15)
structure CInv (p:List Ac) (c:Cl):Prop where
 a0:0<=c.act
 a1:c.act<=p.length
 pm:c.permit=false
 g:c.gst=0\/c.gst=1\/c.gst=2
 dn:c.gst=2↔c.act=p.length
 pk:c.gst=1->c.pc=7
 pcs:∀ k n,p[c.act.toNat]?=some (k,n)->OkPc k c.pc
 fin:c.act=p.length->c.pc=0
 tb:0<=c.ticket/\c.ticket<4294967296
 sc:c.since=-1\/(0<=c.since/\c.since<=4611686018427387904)
 rd:0<=c.rounds/\c.rounds<=4
 ol:OkW c.old
 fr:c.pc=0->c.aw=false/\c.st=false
 wk:c.worked=0\/(0<c.worked/\∃ n,p[c.act.toNat]?=some (3,n)/\c.worked<n)
 tr:c.pc=9->(wd c.old).L=false/\(wd c.old).S=false
def vw (k n:Int) (c:Cl) (m:Nat):V :=
 if n≠m then .out
 else if k=0 then
  (if c.pc=1 then .load c.aw c.st else if c.pc=2 then .want c.aw c.st (wd c.old) else if c.pc=3 then .draw else if c.pc=4 then .turn c.ticket else if c.pc=5 then .sema c.ticket
    else if c.pc=6 then .serve c.ticket c.told else if c.pc=7 then .wok (decide (c.gst=1)) else if c.pc=8 then .hand c.st (wd c.old) else .out)
 else if k=1 then (if c.pc=9 then .trying else .out)
 else if k=2 then
  (if c.pc=10 then .give (wd c.old) else if c.pc=11 then .see else if c.pc=12 then .draws else if c.pc=13 then .turns c.ticket else if c.pc=14 then .grant c.ticket else if c.pc=15 then .serves c.ticket else .out)
 else .out
def vwp (p:List Ac) (c:Cl) (m:Nat):V :=
 match p[c.act.toNat]? with
 | some a=>vw a.1 a.2 c m
 | none=>.out
def mx (m:Cm):Mx:=⟨wd m.word,m.nx,m.sv,m.c,m.l⟩
end P16
namespace P16
def view (w:Mw) (m:Nat) (i:Nat):V :=
 match w.cl[i]?,w.progs[i]? with
 | some c,some p=>vwp p c m
 | _,_=>.out
structure WInv (w:Mw):Prop where
 len:w.cl.length=w.progs.length
 l8:w.progs.length<=8
 pr:∀ p,p∈w.progs->∀ a,a∈p->OkA a
 ci:∀ (i:Nat) c p,w.cl[i]?=some c->w.progs[i]?=some p->CInv p c
 ow:∀ m,m<4->OkW (w.cm m).word
 iv:∀ m,m<4->Inv w.progs.length (mx (w.cm m)) (view w m)
 st:w.stop=0\/w.stop=11
 tm:0<=w.now/\w.now<=4611686018427387904
end P16
section
namespace P16
section
variable {l:List (List Ac)} {p:List Ac} {w:Mw} {who:Nat}
def cK (k:Int) (p:List Ac):Nat:=(p.filter λ a=>decide (a.1=k)).length
end
end P16
end
namespace P16
theorem WInv.tick {w:Mw} {d:Int} (h:WInv w) (h0:0<=d) (h1:w.now+d<=4611686018427387904):WInv (tick w d):=by
 unfold P16.tick
 split
 . exact h
 . have:=h.tm
   exact⟨h.len,h.l8,h.pr,h.ci,h.ow,h.iv,h.st,⟨by show 0<=w.now+d;omega,h1⟩⟩
def cAt (a k:Nat) (len:Nat):Cl:={ first 0 false a len with worked:=k }
def W1 (p:List Ac) (a k:Nat) (hd:Option Nat) (now:Int):Mw :=
 ⟨now,[p],[cAt a k p.length],λ m=>⟨if hd=some m then 1 else 0,0,0,0,[]⟩,0⟩
end P16
namespace P3
abbrev fl (a b c:Bool) (n:Int):Value:=.agg #[.bool a,.bool b,.bool c,.int .i64 n]
def b1 (a:Bool):Int:=if a then 1 else 0
def bitI (a:Bool) (b:Int):Int:=if a then b else 0
def pw (a b c:Bool) (n:Int):Int:=8*n+4*b1 c+2*b1 b+b1 a
theorem fbit_ok (is:Bool) (b:Int) (w:World):Calls prog 234 #[.bool is,.int .i64 b] w λ e w'=>e=.returned (.int .i64 (bitI is b))/\w'=w:=by
 cases is
 . go_enter func234,ntmps234
   go_wp2;go_ret;exact⟨rfl,rfl⟩
 . go_enter func234,ntmps234
   go_wp2;go_ret;exact⟨rfl,rfl⟩
theorem i64_small {x:Nat} (h:x<2 ^ 63):IntKind.i64.wrap (x:Int)=x:=by
 rw [IntKind.wrap_i64];omega
theorem ofInt_i64 (a:Nat) (ha:a<2 ^ 63):(BitVec.ofInt 64 (a:Int)).toNat=a:=by
 rw [BitVec.toNat_ofInt];omega
theorem i64_or (i x y:Nat) (hx:x % 2 ^ i=0) (hy:y<2 ^ i) (h:x+y<2 ^ 63):bits .or .i64 (x:Int) (y:Int)=((x+y:Nat):Int):=by
 show IntKind.i64.wrap ((BitVec.ofInt 64 (x:Int) ||| BitVec.ofInt 64 (y:Int)).toNat:Int)=_;rw [BitVec.toNat_or,ofInt_i64 x (by omega),ofInt_i64 y (by omega),nat_join i x y hx hy,i64_small h]
theorem i64_bit (i x:Nat) (hi:2 ^ i<2 ^ 63) (h:x<2 ^ 63):bits .and .i64 (x:Int) ((2 ^ i:Nat):Int)=((x / 2 ^ i % 2*2 ^ i:Nat):Int):=by
 have hl:x &&& 2 ^ i<2 ^ 63:=Nat.lt_of_le_of_lt Nat.and_le_left h;show IntKind.i64.wrap ((BitVec.ofInt 64 (x:Int) &&& BitVec.ofInt 64 ((2 ^ i:Nat):Int)).toNat:Int)=_;rw [BitVec.toNat_and,ofInt_i64 x h,ofInt_i64 _ hi,i64_small hl,nat_bit]
theorem i64_mask31 (n:Int):bits .and .i64 n 2147483647=n % 2147483648:=by
 have hm:(BitVec.ofInt 64 2147483647).toNat=2 ^ 31-1:=by decide
 have key:(BitVec.ofInt 64 n &&& BitVec.ofInt 64 2147483647).toNat=(n % ((2 ^ 64:Nat):Int)).toNat % 2 ^ 31:=by
  rw [BitVec.toNat_and,BitVec.toNat_ofInt,hm,Nat.and_two_pow_sub_one_eq_mod]
 show IntKind.i64.wrap ((BitVec.ofInt 64 n &&& BitVec.ofInt 64 2147483647).toNat:Nat)=n % 2147483648;rw [key,IntKind.wrap_i64];omega
theorem b1_le (a:Bool):0<=b1 a/\b1 a<=1:=by cases a<;>decide
theorem pw_nat (a b c:Bool) (n:Int) (h:0<=n/\n<268435456):∃ x:Nat,pw a b c n=(x:Int)/\x<2147483648:=by
 have h1:=b1_le a;have h2:=b1_le b;have h3:=b1_le c;refine⟨(pw a b c n).toNat,?_,?_⟩<;>unfold pw<;>omega
theorem and1 (a b c:Bool) (n:Int) (h:0<=n/\n<268435456):(bits .and .i64 (pw a b c n) 1 != 0)=a:=by
 obtain⟨x,hx,hl⟩:=pw_nat a b c n h;have e:=i64_bit 0 x (by decide) (by omega);simp only [Nat.pow_zero,Nat.div_one,Nat.mul_one] at e;rw [hx];rw [show (1:Int)=((1:Nat):Int) from rfl,e];have h2:pw a b c n=x:=hx;unfold pw at h2;cases a<;>cases b<;>cases c<;>simp [b1] at h2<;>simp<;>omega
theorem and2 (a b c:Bool) (n:Int) (h:0<=n/\n<268435456):(bits .and .i64 (pw a b c n) 2 != 0)=b:=by
 obtain⟨x,hx,hl⟩:=pw_nat a b c n h;have e:=i64_bit 1 x (by decide) (by omega);simp only [Nat.pow_one] at e;rw [hx];rw [show (2:Int)=((2:Nat):Int) from rfl,e];have h2:pw a b c n=x:=hx;unfold pw at h2;cases a<;>cases b<;>cases c<;>simp [b1] at h2<;>simp<;>omega
theorem and4 (a b c:Bool) (n:Int) (h:0<=n/\n<268435456):(bits .and .i64 (pw a b c n) 4 != 0)=c:=by
 obtain⟨x,hx,hl⟩:=pw_nat a b c n h;have e:=i64_bit 2 x (by decide) (by omega);rw [show (2:Nat) ^ 2=4 from rfl] at e;rw [hx];rw [show (4:Int)=((4:Nat):Int) from rfl,e];have h2:pw a b c n=x:=hx;unfold pw at h2;cases a<;>cases b<;>cases c<;>simp [b1] at h2<;>simp<;>omega
theorem div8 (a b c:Bool) (n:Int) (h:0<=n/\n<268435456):wrap64 ((pw a b c n).tdiv 8)=n:=by
 have h1:=b1_le a;have h2:=b1_le b;have h3:=b1_le c;have h0:0<=pw a b c n:=by unfold pw;omega
 rw [Int.tdiv_eq_ediv_of_nonneg h0];unfold wrap64 pw;omega
theorem ors (a b c:Bool) (n:Int):bits .or .i64 (bits .or .i64 (bits .or .i64 (bits .and .i64 (wrap64 (n*8)) 2147483647) (bitI c 4)) (bitI b 2)) (bitI a 1)=pw a b c (n % 268435456):=by
 rw [i64_mask31];obtain⟨x,hx⟩:∃ x:Nat,n % 268435456=(x:Int):=⟨(n % 268435456).toNat,by omega⟩;have hl:x<268435456:=by omega
 have e:wrap64 (n*8) % 2147483648=((8*x:Nat):Int):=by unfold wrap64;omega
 rw [e,hx];have e3:bitI c 4=((if c=true then 4 else 0:Nat):Int):=by cases c<;>rfl
 have e2:bitI b 2=((if b=true then 2 else 0:Nat):Int):=by cases b<;>rfl
 have e1:bitI a 1=((if a=true then 1 else 0:Nat):Int):=by cases a<;>rfl
 rw [e3,e2,e1,i64_or 3 (8*x) _ (by omega) (by cases c<;>decide) (by cases c<;>simp<;>omega)];rw [i64_or 2 _ _ (by cases c<;>simp<;>omega) (by cases b<;>decide) (by cases b<;>cases c<;>simp<;>omega)];rw [i64_or 1 _ _ (by cases c<;>cases b<;>simp<;>omega) (by cases a<;>decide) (by cases a<;>cases b<;>cases c<;>simp<;>omega)];unfold pw;cases a<;>cases b<;>cases c<;>simp [b1]<;>omega
theorem fl_eq {a b c a' b' c':Bool} {n n':Int} (h1:a=a') (h2:b=b') (h3:c=c') (h4:n=n'):fl a b c n=fl a' b' c' n':=by rw [h1,h2,h3,h4]
theorem split_ok (a b c:Bool) (n:Int) (h:0<=n/\n<268435456) (w:World):Calls prog 38 #[.int .i64 (pw a b c n)] w λ e w'=>e=.returned (fl a b c n)/\Gr w w':=by
 have h1:=hid (and1 a b c n h);have h2:=hid (and2 a b c n h);have h3:=hid (and4 a b c n h);have h4:=hid (div8 a b c n h);generalize pw a b c n=v at *;go_enter func38,ntmps38;go_wp2;refine bodyPost_ret (v:=fl (bits .and .i64 v 1 != 0) (bits .and .i64 v 2 != 0) (bits .and .i64 v 4 != 0) (wrap64 (v.tdiv 8))) (by simp [results,results38,go_sem]) rfl ⟨?_,(zr _).al _⟩;exact congrArg _ (fl_eq h1.out h2.out h3.out h4.out)
theorem join_ok (a b c:Bool) (n:Int) (w:World):Calls prog 227 #[fl a b c n] w λ e w'=>e=.returned (.int .i64 (pw a b c (n % 268435456)))/\Gr w w':=by
 have h:=hid (ors a b c n);go_enter func227,ntmps227;go_wp2_with fail
 go_quiet ((go_at_call 234;exact Calls.quiet_of_same (fbit_ok _ _ _)))
 go_wp2_with fail;go_ret;exact⟨congrArg _ (congrArg _ h.out),((zr _).al _).drN _⟩
def FlAt (w:World) (k:Nat) (a b c:Bool) (n:Int):Prop :=
 w.cell? ⟨k,0,none⟩=some (.bool a)/\w.cell? ⟨k,1,none⟩=some (.bool b)/\w.cell? ⟨k,2,none⟩=some (.bool c)/\w.cell? ⟨k,3,none⟩=some (.int .i64 n)/\k<w.heap.size
theorem FlAt.new (w:World) (a b c:Bool) (n:Int) (t:TypeId):FlAt (w.alloc (.cells #[.bool a,.bool b,.bool c,.int .i64 n] t)) w.heap.size a b c n :=
 ⟨by simp,by simp,by simp,by simp,by simp⟩
theorem FlAt.gr {w w':World} {k:Nat} {a b c:Bool} {n:Int} (h:FlAt w k a b c n) (g:Gr w w'):FlAt w' k a b c n:=by
 obtain⟨h0,h1,h2,h3,h4⟩:=h;exact⟨(g.cell (p:=⟨k,0,none⟩) h4).trans h0,(g.cell (p:=⟨k,1,none⟩) h4).trans h1,(g.cell (p:=⟨k,2,none⟩) h4).trans h2,(g.cell (p:=⟨k,3,none⟩) h4).trans h3,zlt h4 g.size⟩
def Fz (w:World) (k:Nat):Prop:=w.frozen? ⟨k,0,none⟩=false/\w.frozen? ⟨k,1,none⟩=false/\w.frozen? ⟨k,2,none⟩=false/\w.frozen? ⟨k,3,none⟩=false/\k<w.heap.size
theorem Fz.new (w:World) (C:Array Value) (t:TypeId):Fz (w.alloc (.cells C t)) w.heap.size :=
 ⟨by simp [go_sem],by simp [go_sem],by simp [go_sem],by simp [go_sem],by simp⟩
theorem Fz.gr {w w':World} {k:Nat} (h:Fz w k) (g:Gr w w'):Fz w' k:=by
 obtain⟨h0,h1,h2,h3,h4⟩:=h;exact⟨(g.frozen (p:=⟨k,0,none⟩) h4).trans h0,(g.frozen (p:=⟨k,1,none⟩) h4).trans h1,(g.frozen (p:=⟨k,2,none⟩) h4).trans h2,(g.frozen (p:=⟨k,3,none⟩) h4).trans h3,zlt h4 g.size⟩
theorem Pack_ok (a b c:Bool) (n:Int) (h:0<=n/\n<268435456) (w:World):Calls prog 217 #[fl a b c n] w λ e w'=>e=.returned (.tuple #[.int .i64 (pw a b c n),.int .i64 0])/\Gr w w':=by
 have hm:n % 268435456=n:=by omega
 have c1:=λ w=>hid (hm▸join_ok a b c n w)
 have c2:=λ w=>hid (split_ok a b c n h w)
 clear hm h;generalize pw a b c n=v at *;go_enter func217,ntmps217;go_wp2_with fail;refine (c1 _).out.mono ?_;rintro e w1 ⟨rfl,hb1⟩;have F:=(FlAt.new w a b c n _).gr hb1;have G:=((zr w).al _).trans hb1;clear hb1;obtain⟨K,hK⟩:∃ k,w.heap.size=k:=⟨_,rfl⟩;rw [hK] at F;simp only [hK];clear hK;go_wp2_with fail
 go_region_held3 (λ w'=>w'.cell? ⟨K,0,none⟩=some (.bool a)/\w'.cell? ⟨K,1,none⟩=some (.bool b)/\w'.cell? ⟨K,2,none⟩=some (.bool c)/\w'.cell? ⟨K,3,none⟩=some (.int .i64 n)/\K<w'.heap.size/\Gr w w') (first | exact⟨F.1,F.2.1,F.2.2.1,F.2.2.2.1,F.2.2.2.2,G.dr⟩ | (go_split_ands;exact⟨(hb2.cell (p:=⟨K,0,none⟩) (by assumption)).trans (by assumption),(hb2.cell (p:=⟨K,1,none⟩) (by assumption)).trans (by assumption),(hb2.cell (p:=⟨K,2,none⟩) (by assumption)).trans (by assumption),(hb2.cell (p:=⟨K,3,none⟩) (by assumption)).trans (by assumption),zlt (by assumption) hb2.size,Gr.trans (by assumption) hb2⟩))
  (first | (go_at_call 38;refine (c2 _).out.mono ?_;rintro ee w2 ⟨rfl,hb2⟩))
 rename_i hH;obtain⟨q0,q1,q2,q3,q4,q5⟩:=hH;go_wp2_with fail;go_ret2;exact⟨rfl,q5⟩
theorem Pack_no (a b c:Bool) (n:Int) (h:¬ (0<=n/\n<268435456)) (w:World):Calls prog 217 #[fl a b c n] w λ e w'=>e=.returned (.tuple #[.int .i64 0,.int .i64 1])/\Gr w w':=by
 obtain⟨m,hm⟩:∃ m,n % 268435456=m:=⟨_,rfl⟩;have hmn:(m==n)=false:=beq_eq_false_iff_ne.2 (by omega);have c1:=λ w=>hid (hm▸join_ok a b c n w)
 have c2:=λ w=>hid (split_ok a b c m (by omega) w)
 clear hm h;generalize pw a b c m=v at *;go_enter func217,ntmps217;go_wp2_with fail;refine (c1 _).out.mono ?_;rintro e w1 ⟨rfl,hb1⟩;have F:=(FlAt.new w a b c n _).gr hb1;have G:=((zr w).al _).trans hb1;clear hb1;obtain⟨K,hK⟩:∃ k,w.heap.size=k:=⟨_,rfl⟩;rw [hK] at F;simp only [hK];clear hK;go_wp2_with fail
 go_region_held3 (λ w'=>w'.cell? ⟨K,0,none⟩=some (.bool a)/\w'.cell? ⟨K,1,none⟩=some (.bool b)/\w'.cell? ⟨K,2,none⟩=some (.bool c)/\w'.cell? ⟨K,3,none⟩=some (.int .i64 n)/\K<w'.heap.size/\Gr w w') (first | exact⟨F.1,F.2.1,F.2.2.1,F.2.2.2.1,F.2.2.2.2,G.dr⟩ | (go_split_ands;exact⟨(hb2.cell (p:=⟨K,0,none⟩) (by assumption)).trans (by assumption),(hb2.cell (p:=⟨K,1,none⟩) (by assumption)).trans (by assumption),(hb2.cell (p:=⟨K,2,none⟩) (by assumption)).trans (by assumption),(hb2.cell (p:=⟨K,3,none⟩) (by assumption)).trans (by assumption),zlt (by assumption) hb2.size,Gr.trans (by assumption) hb2⟩))
  (first | (go_at_call 38;refine (c2 _).out.mono ?_;rintro ee w2 ⟨rfl,hb2⟩))
 rename_i hH;obtain⟨q0,q1,q2,q3,q4,q5⟩:=hH;go_wp2_with fail;go_ret2;exact⟨rfl,q5⟩
theorem Unpack_ok (a b c:Bool) (n:Int) (h:0<=n/\n<268435456) (w:World):Calls prog 17 #[.int .i64 (pw a b c n)] w λ e w'=>e=.returned (.tuple #[fl a b c n,.int .i64 0])/\Gr w w':=by
 have c2:=λ w=>hid (split_ok a b c n h w)
 obtain⟨x,hx,hl⟩:=pw_nat a b c n h;have h0:¬ pw a b c n<0:=by omega
 have h1:¬ 2147483647<pw a b c n:=by omega
 clear hx hl x;generalize pw a b c n=v at *;go_enter func17,ntmps17;go_wp2_with fail;refine (c2 _).out.mono ?_;rintro e w1 ⟨rfl,hb1⟩;obtain⟨q0,q1,q2,q3,q4⟩:=(FlAt.new w false false false 0 _).gr hb1;obtain⟨z0,z1,z2,z3,z4⟩:=(Fz.new w _ _).gr hb1;have G:=((zr w).al _).trans hb1;clear hb1;go_wp2_with fail;exact bodyPost_ret (v:=.tuple #[fl a b c n,.int .i64 0]) (by simp [results,results17,go_sem,q0,q1,q2,q3]) rfl ⟨rfl,(((G.st (Nat.le_refl _) _).st (Nat.le_refl _) _).st (Nat.le_refl _) _).st (Nat.le_refl _) _⟩
theorem Unpack_no (v:Int) (h:¬ (0<=v/\v<2147483648)) (w:World):Calls prog 17 #[.int .i64 v] w λ e w'=>e=.returned (.tuple #[fl false false false 0,.int .i64 1])/\Gr w w':=by
 by_cases h0:v<0
 . clear h
   go_enter func17,ntmps17;go_wp2_with fail;exact bodyPost_ret (v:=.tuple #[fl false false false 0,.int .i64 1]) (by simp [results,results17,go_sem]) rfl ⟨rfl,(zr w).al _⟩
 . have h1:2147483647<v:=by omega
   clear h;go_enter func17,ntmps17;go_wp2_with fail;exact bodyPost_ret (v:=.tuple #[fl false false false 0,.int .i64 1]) (by simp [results,results17,go_sem]) rfl ⟨rfl,(zr w).al _⟩
theorem Waits_is (a b c:Bool) (n d m:Int) (r s:Int) (h:0<=n/\n<268435456) (hm:wrap64 (n+d)=m) (hp:∀ w,Calls prog 217 #[fl a b c m] w λ e w'=>e=.returned (.tuple #[.int .i64 r,.int .i64 s])/\Gr w w') (r' s':Int) (hrs:(s=0/\r'=r/\s'=0)\/(s=1/\r'=0/\s'=10)) (w:World):Calls prog 200 #[.int .i64 (pw a b c n),.int .i64 d] w λ e w'=>e=.returned (.tuple #[.int .i64 r',.int .i64 s'])/\Gr w w':=by
 have c1:=λ w=>hid (Unpack_ok a b c n h w)
 have c2:=λ w=>hid (hp w)
 have HM:=hid hm;clear h hp hm;generalize pw a b c n=v at *;go_enter func200,ntmps200;go_wp2_with fail;refine (c1 _).out.mono ?_;rintro e w1 ⟨rfl,hb1⟩;go_wp2_with fail;rw [HM.out];refine (c2 _).out.mono ?_;rintro e w2 ⟨rfl,hb2⟩;rcases hrs with ⟨rfl,rfl,rfl⟩ | ⟨rfl,rfl,rfl⟩
 . go_wp2_with fail
   go_ret2;exact⟨rfl,(hb1.al _).trans hb2⟩
 . go_wp2_with fail
   go_ret2;exact⟨rfl,(hb1.al _).trans hb2⟩
theorem Waits_ok (a b c:Bool) (n d m:Int) (h:0<=n/\n<268435456) (hm:wrap64 (n+d)=m) (hr:0<=m/\m<268435456) (w:World):Calls prog 200 #[.int .i64 (pw a b c n),.int .i64 d] w λ e w'=>e=.returned (.tuple #[.int .i64 (pw a b c m),.int .i64 0])/\Gr w w' :=
 Waits_is a b c n d m (pw a b c m) 0 h hm (λ w=>Pack_ok a b c m hr w) _ _ (.inl ⟨rfl,rfl,rfl⟩) w
theorem Waits_no (a b c:Bool) (n d m:Int) (h:0<=n/\n<268435456) (hm:wrap64 (n+d)=m) (hr:¬ (0<=m/\m<268435456)) (w:World):Calls prog 200 #[.int .i64 (pw a b c n),.int .i64 d] w λ e w'=>e=.returned (.tuple #[.int .i64 0,.int .i64 10])/\Gr w w' :=
 Waits_is a b c n d m 0 1 h hm (λ w=>Pack_no a b c m hr w) _ _ (.inr ⟨rfl,rfl,rfl⟩) w
theorem pw_of {v:Int} (h:0<=v/\v<2147483648):∃ a b c n,v=pw a b c n/\0<=n/\n<268435456:=by
 refine⟨decide (v % 2=1),decide (v / 2 % 2=1),decide (v / 4 % 2=1),v / 8,?_,by omega,by omega⟩;unfold pw b1;by_cases h1:v % 2=1<;>by_cases h2:v / 2 % 2=1<;>by_cases h3:v / 4 % 2=1<;>simp [h1,h2,h3]<;>omega
end P3
section
namespace P3
theorem i64_or_low (m y z:Nat) (hy:y<8) (hz:z<8) (hm:m<2 ^ 59):bits .or .i64 ((8*m+y:Nat):Int) (z:Int)=((8*m+(y ||| z):Nat):Int):=by
 have hyz:y ||| z<8:=Nat.or_lt_two_pow (n:=3) hy hz
 show IntKind.i64.wrap ((BitVec.ofInt 64 ((8*m+y:Nat):Int) ||| BitVec.ofInt 64 (z:Int)).toNat:Int)=_;rw [BitVec.toNat_or,ofInt_i64 _ (by omega),ofInt_i64 _ (by omega),<- nat_join 3 (8*m) y (by omega) hy,Nat.or_assoc,nat_join 3 (8*m) (y ||| z) (by omega) hyz,i64_small (by omega)]
theorem bv_andNot (X Y:BitVec 64):(X &&& ~~~Y)+(X &&& Y)=X:=by
 have h:(X &&& ~~~Y) &&& (X &&& Y)=0#64:=by
  ext i hi
  simp;cases X[i]<;>cases Y[i]<;>decide
 rw [BitVec.add_eq_or_of_and_eq_zero _ _ h]
 ext i hi
 simp;cases X[i]<;>cases Y[i]<;>rfl
theorem i64_andNot (x z:Nat) (hx:x<2 ^ 63) (hz:z<2 ^ 63):bits .andNot .i64 (x:Int) (z:Int)=((x-(x &&& z):Nat):Int):=by
 have e:=congrArg BitVec.toNat (bv_andNot (BitVec.ofInt 64 (x:Int)) (BitVec.ofInt 64 (z:Int)));have l:(BitVec.ofInt 64 (x:Int) &&& ~~~BitVec.ofInt 64 (z:Int)).toNat<=x:=by
  rw [BitVec.toNat_and,ofInt_i64 x hx];exact Nat.and_le_left
 have l2:x &&& z<=x:=Nat.and_le_left;rw [BitVec.toNat_add,BitVec.toNat_and (BitVec.ofInt 64 (x:Int)) (BitVec.ofInt 64 (z:Int)),ofInt_i64 x hx,ofInt_i64 z hz] at e;show IntKind.i64.wrap ((BitVec.ofInt 64 (x:Int) &&& ~~~BitVec.ofInt 64 (z:Int)).toNat:Int)=_;generalize (BitVec.ofInt 64 (x:Int) &&& ~~~BitVec.ofInt 64 (z:Int)).toNat=q at *;rw [Nat.mod_eq_of_lt (by omega)] at e;rw [i64_small (by omega)];omega
section
variable {a b c:Bool} {n:Int}
theorem low_of (a b c:Bool) (n:Int) (h:0<=n/\n<536870912):∃ m y:Nat,pw a b c n=((8*m+y:Nat):Int)/\(m:Int)=n/\y=(if c then 4 else 0)+(if b then 2 else 0)+(if a then 1 else 0)/\y<8:=by
 refine⟨n.toNat,(if c then 4 else 0)+(if b then 2 else 0)+(if a then 1 else 0),?_,by omega,rfl,by cases a<;>cases b<;>cases c<;>decide⟩;unfold pw;cases a<;>cases b<;>cases c<;>simp [b1]<;>omega
theorem or_1 (h:0<=n/\n<536870912):bits .or .i64 (pw a b c n) 1=pw true b c n:=by
 obtain⟨m,y,e,hm,hy,hl⟩:=low_of a b c n h;rw [e,show (1:Int)=((1:Nat):Int) from rfl,i64_or_low m y 1 hl (by decide) (by omega)];unfold pw;subst hy;cases a<;>cases b<;>cases c<;>simp [b1]<;>omega
theorem or_4 (h:0<=n/\n<536870912):bits .or .i64 (pw a b c n) 4=pw a b true n:=by
 obtain⟨m,y,e,hm,hy,hl⟩:=low_of a b c n h;rw [e,show (4:Int)=((4:Nat):Int) from rfl,i64_or_low m y 4 hl (by decide) (by omega)];unfold pw;subst hy;cases a<;>cases b<;>cases c<;>simp [b1]<;>omega
theorem or_2 (h:0<=n/\n<536870912):bits .or .i64 (pw a b c n) 2=pw a true c n:=by
 obtain⟨m,y,e,hm,hy,hl⟩:=low_of a b c n h;rw [e,show (2:Int)=((2:Nat):Int) from rfl,i64_or_low m y 2 hl (by decide) (by omega)];unfold pw;subst hy;cases a<;>cases b<;>cases c<;>simp [b1]<;>omega
def lowI (a b c:Bool):Int:=4*b1 c+2*b1 b+b1 a
theorem and7 (h:0<=n/\n<536870912):bits .and .i64 (pw a b c n) 7=lowI a b c:=by
 obtain⟨m,y,e,hm,hy,hl⟩:=low_of a b c n h;rw [e,show (7:Int)=((7:Nat):Int) from rfl];show IntKind.i64.wrap ((BitVec.ofInt 64 ((8*m+y:Nat):Int) &&& BitVec.ofInt 64 ((7:Nat):Int)).toNat:Int)=_;rw [BitVec.toNat_and,ofInt_i64 _ (by omega),ofInt_i64 7 (by decide),show (7:Nat)=2 ^ 3-1 from rfl,Nat.and_two_pow_sub_one_eq_mod,i64_small (by omega)];have h8:(8*m+y) % 2 ^ 3=y:=by omega
 rw [h8];subst hy;cases a<;>cases b<;>cases c<;>rfl
theorem not_2 (h:0<=n/\n<536870912):bits .andNot .i64 (pw a b c n) 2=pw a false c n:=by
 obtain⟨m,y,e,hm,hy,hl⟩:=low_of a b c n h;rw [e,show (2:Int)=((2:Nat):Int) from rfl,i64_andNot _ 2 (by omega) (by decide),nat_bit1];unfold pw;subst hy;cases a<;>cases b<;>cases c<;>simp [b1]<;>omega
end
end P3
end
section
namespace P15
open P3 (fl pw lowI)
def Glob (w : World) : Prop := w.var? prog "deadbolt/give.states" = some #[.int .i64 0, .int .i64 3, .int .i64 1, .int .i64 3, .int .i64 2, .int .i64 3, .int .i64 2, .int .i64 3]
theorem Glob.gr {w w':World} (h:Glob w) (g:Gr w w'):Glob w' :=
 Joins.var_stays (by kernel_rfl : prog.globalNamed "deadbolt/give.states" = some 0) h g (Nat.le_refl _)
def st (a b c:Bool):Int:=if a then 3 else if c then 2 else if b then 1 else 0
theorem Glob.at_ {w:World} (h:Glob w) (a b c:Bool):w.cell? ⟨0,(lowI a b c).toNat,none⟩=some (.int .i64 (st a b c)):=by
 have hn : prog.globalNamed "deadbolt/give.states" = some 0 := by kernel_rfl
 have hc:=World.var?_cell hn h;cases a<;>cases b<;>cases c
 . exact hc 0
 . exact hc 4
 . exact hc 2
 . exact hc 6
 . exact hc 1
 . exact hc 5
 . exact hc 3
 . exact hc 7
theorem low_in (a b c:Bool):0<=lowI a b c/\lowI a b c<8:=by cases a<;>cases b<;>cases c<;>decide
section
variable {a b c:Bool} {n v:Int} {w:World}
theorem state_of (hg:Glob w) (hv:bits .and .i64 v 7=lowI a b c) :
 Calls prog 199 #[.int .i64 v] w λ e w'=>e=.returned (.int .i64 (st a b c))/\w'=w:=by
 have h0:=hg.at_ a b c;obtain⟨h1,h2⟩:=low_in a b c;generalize lowI a b c=k at *;go_enter func199,ntmps199;go_wp2_with fail;go_ret;exact⟨rfl,rfl⟩
end
end P15
end
section
namespace P16
open P12 (PV PMem)
def FromB (B:Nat) (W W':World):Prop:=W.heap.size<=W'.heap.size/\∀ k,B<=k->k<W.heap.size->W'.heap[k]?=W.heap[k]?
section
variable {B B':Nat} {W W' W'':World}
theorem FromB.refl:FromB B W W:=⟨Nat.le_refl _,λ _ _ _=>rfl⟩
theorem FromB.trans (h:FromB B W W') (k:FromB B W' W''):FromB B W W'' :=
 ⟨Nat.le_trans h.1 k.1,λ j h1 h2=>(k.2 j h1 (zlt h2 h.1)).trans (h.2 j h1 h2)⟩
theorem FromB.up (h:FromB B W W') (hb:B<=B'):FromB B' W W':=⟨h.1,λ k h1 h2=>h.2 k (Nat.le_trans hb h1) h2⟩
theorem FromB.gr (g:Gr W W'):FromB B W W':=⟨g.size,λ k _ h=>g.block k h⟩
theorem FromB.st {p:Addr} (hp:p.block<B) (u:Value):FromB B W (W.setCell p u) :=
 ⟨by simp [World.setCell],λ k h1 _=>Below.heap_setCell W p u k (by omega)⟩
def WNew (B:Nat) (W:World) (r:WR) (ω:Wv):Prop:=∀ W',FromB B W W'->WIs W' r ω
variable {r:WR} {ω:Wv}
theorem WNew.is (h:WNew B W r ω):WIs W r ω:=h W FromB.refl
theorem WNew.to (h:WNew B W r ω) (g:FromB B W W'):WNew B W' r ω:=λ _ k=>h _ (g.trans k)
theorem WNew.gr (h:WNew B W r ω) (g:Gr W W'):WNew B W' r ω:=h.to (FromB.gr g)
theorem WNew.low (h:WNew B W r ω) (hb:B'<=B):WNew B' W r ω:=λ _ k=>h _ (k.up hb)
def ENew (B:Nat) (W:World) (A:Option Addr) (n:Nat) (l:List T3):Prop:=∀ W',FromB B W W'->T3Mem W' A n l
variable {A:Option Addr} {n:Nat} {l:List T3}
theorem ENew.is (h:ENew B W A n l):T3Mem W A n l:=h W FromB.refl
theorem ENew.to (h:ENew B W A n l) (g:FromB B W W'):ENew B W' A n l:=λ _ k=>h _ (g.trans k)
theorem ENew.gr (h:ENew B W A n l) (g:Gr W W'):ENew B W' A n l:=h.to (FromB.gr g)
theorem ENew.low (h:ENew B W A n l) (hb:B'<=B):ENew B' W A n l:=λ _ k=>h _ (k.up hb)
theorem ENew.nil:ENew B W none 0 []:=λ _ _=>RMem.nil_
theorem FromB.put6 {b:Nat} (hb:b<B) (x0 x1 x2 x3 x4 x5:Value):FromB B W ((((((W.setCell ⟨b,0,none⟩ x0).setCell ⟨b,1,none⟩ x1).setCell ⟨b,2,none⟩ x2).setCell ⟨b,3,none⟩ x3).setCell ⟨b,4,none⟩ x4).setCell ⟨b,5,none⟩ x5) :=
 ((((((FromB.st (p:=⟨b,0,none⟩) hb x0).trans (FromB.st (p:=⟨b,1,none⟩) hb x1)).trans (FromB.st (p:=⟨b,2,none⟩) hb x2)).trans (FromB.st (p:=⟨b,3,none⟩) hb x3)).trans (FromB.st (p:=⟨b,4,none⟩) hb x4)).trans (FromB.st (p:=⟨b,5,none⟩) hb x5))
end
def svs (tb:List Sp):List SV:=tb.map λ s=>⟨s.1,s.2.1,none,0,0,s.2.2⟩
theorem svs_pl (tb:List Sp):(svs tb).map SV.pl=tb:=by
 unfold svs;rw [List.map_map];exact (List.map_congr_left λ x _=>rfl).trans (List.map_id _)
def TabA (tb:List Sp):Prop:=Tab (svs tb)/\∀ s∈tb,∃ m:Nat,m<4/\s.1=8*(m:Int)
def gtA (tb:List Sp) (m:Nat):Int×List Int:=gt (svs tb) (8*(m:Int))
def mxAt (l:List T3) (m:Nat):T3:=(l[m]?).getD (0,0,0)
def mw (ω:Wv):Mw:=⟨ω.now,ω.progs,ω.cl,λ m=>⟨(mxAt ω.mx m).1,(mxAt ω.mx m).2.1,(mxAt ω.mx m).2.2,(gtA ω.tb m).1,(gtA ω.tb m).2⟩,ω.stop⟩
def zeroW:Wv:=⟨0,[],[],[],[],0⟩
def newW (l:List (List Ac)):Wv:=⟨0,l,l.map λ p=>first 0 false 0 p.length,[(0,0,0),(0,0,0),(0,0,0),(0,0,0)],[],0⟩
structure CRight (p:List Ac) (c:Cl):Prop where
 a0:0<=c.act
 a1:c.act<=p.length
 dn:c.act=p.length↔c.gst=2
 tk:0<=c.ticket/\c.ticket<4294967296
 sc:c.since=-1\/(0<=c.since/\c.since<=4611686018427387904)
 rd:0<=c.rounds/\c.rounds<=4
 ol:OkW c.old
 fin:c.act=p.length->c.pc=0/\c.worked=0
 at_:∀ k n,p[c.act.toNat]?=some (k,n)->OkPc k c.pc/\(c.worked=0\/(k=3/\0<c.worked/\c.worked<n))
structure RightW (ω:Wv):Prop where
 now:0<=ω.now/\ω.now<=4611686018427387904
 progs:P12.rightB ω.progs=true
 len:ω.cl.length=ω.progs.length
 m4:ω.mx.length=4
 tab:TabA ω.tb
 ids:∀ s∈ω.tb,∀ x∈s.2.2,x<(ω.cl.length:Int)
 gors:∀ c∈ω.cl,(c.gst=0\/c.gst=1\/c.gst=2)/\(c.permit=true->c.gst=0)
 cls:∀ (i:Nat) c p,ω.cl[i]?=some c->ω.progs[i]?=some p->CRight p c
 mxs:∀ x∈ω.mx,OkW x.1/\(0<=x.2.1/\x.2.1<4294967296)/\(0<=x.2.2/\x.2.2<4294967296)
 stop:ω.stop=0\/ω.stop=11\/ω.stop=12
def Still (ω:Wv) (who:Int):Prop:=ω.stop≠0\/who<0\/(ω.cl.length:Int)<=who\/∃ c,ω.cl[who.toNat]?=some c/\c.gst≠0
def NewM (l:List (List Ac)) (ψ:Wv) (x:Int):Prop:=(P12.rightB l=true/\ψ=newW l/\x=0)\/(P12.rightB l=false/\ψ=zeroW/\x=1)
def StepM (ω:Wv) (who:Int) (ψ:Wv) (ev:List T3) (x:Int):Prop :=
 (¬ RightW ω/\ψ=zeroW/\ev=[]/\x=1) \/
 (RightW ω/\Still ω who/\ψ=ω/\ev=[]/\x=0) \/
 (RightW ω/\¬ Still ω who/\ψ.mx.length=4/\TabA ψ.tb/\mw ψ=(stp (mw ω) who.toNat).1/\ev=(stp (mw ω) who.toNat).2.toList/\x=0)
def Tim (d:Int):Prop:=0<=d/\d<=4611686018427387904
def TickM (ω:Wv) (d:Int) (ψ:Wv) (x:Int):Prop :=
 (¬ (RightW ω/\Tim d)/\ψ=zeroW/\x=1) \/
 (RightW ω/\Tim d/\ω.stop≠0/\ψ=ω/\x=0) \/
 (RightW ω/\Tim d/\ω.stop=0/\ω.now+d<=4611686018427387904/\ψ={ ω with now:=ω.now+d }/\x=0) \/
 (RightW ω/\Tim d/\ω.stop=0/\4611686018427387904<ω.now+d/\ψ=zeroW/\x=10)
structure Mach:Prop where
 new:∀ (W:World) (A:Option Addr) (n c:Nat) (R:List PV),P15.Glob W->PMem W A n R->n<=9223372036854775807 ->
  Calls prog 12 #[.slice A n c] W λ e W'=>(∃ (s:WR) (ψ:Wv) (x:Int),e=.returned (.tuple #[s.v,.int .i64 x])/\NewM (P12.pl R) ψ x/\WNew W.heap.size W' s ψ)/\Gr W W'
 step:∀ (W:World) (r:WR) (ω:Wv) (who:Int),P15.Glob W->WIs W r ω->B64 who ->
  Calls prog 20 #[r.v,.int .i64 who] W λ e W'=>(∃ (s:WR) (ψ:Wv) (A:Option Addr) (n c:Nat) (ev:List T3) (x:Int),e=.returned (.tuple #[s.v,.slice A n c,.int .i64 x])/\StepM ω who ψ ev x/\WNew W.heap.size W' s ψ/\ENew W.heap.size W' A n ev/\n<=c/\c<=9223372036854775807)/\Gr W W'
 tick:∀ (W:World) (r:WR) (ω:Wv) (d:Int),P15.Glob W->WIs W r ω->B64 d ->
  Calls prog 21 #[r.v,.int .i64 d] W λ e W'=>(∃ (s:WR) (ψ:Wv) (x:Int),e=.returned (.tuple #[s.v,.int .i64 x])/\TickM ω d ψ x/\WNew W.heap.size W' s ψ)/\Gr W W'
theorem right_facts {l:List (List Ac)} (h:P12.rightB l=true):l.length<=8/\∀ p∈l,p.length<=64/\∀ a∈p,P12.okA a=true:=by
 unfold P12.rightB at h;simp only [Bool.and_eq_true,decide_eq_true_eq,List.all_eq_true] at h;exact⟨h.1,λ p hp=>h.2 p hp⟩
theorem mxAt_get {l:List T3} {m:Nat} {x:T3} (h:l[m]?=some x):mxAt l m=x:=by unfold mxAt;rw [h];rfl
end P16
end
end Go.Proofs.YtainfijdhcehlaaGreatDoor
