/-
  A part of the proof.
-/
import Derived.Test.YtainfijdhcehlaaGreatDoorQB1
import Derived.Test.YtainfijdhcehlaaGreatDoorQB7
import Derived.Deep.QuietTactic
set_option linter.unusedVariables false
set_option linter.unusedSimpArgs false
set_option maxRecDepth 100000
set_option maxHeartbeats 8000000
namespace Go.Proofs.YtainfijdhcehlaaGreatDoor
open Lib (hid)
section
open Go.ChangeShapes Go.WideShapes Go.ChangeAt Go.RowKit
section
variable {w:World} {A:Option Addr} {n c:Nat} {L:List SV} {s:SV}
theorem Set_no (hm:SMem w A n L) (hsok:s.ok w) (h:¬ SOk s\/¬ Tab L) :
 Calls Tryz.prog 213 #[.slice A n c,.agg #[.int .i64 s.addr,.int .i64 s.cnt,.slice s.A s.n s.c]] w λ e w'=>e=.returned (.tuple #[.slice none 0 0,.int .i64 1])/\Gr w w':=by
 have g0:=(((Gr.refl w).al (.cells #[.int .i64 s.addr,.int .i64 s.cnt,.slice s.A s.n s.c] 91)).al (.cells #[.slice none 0 0] 26)).al (.cells #[.int .i64 0] 27)
 have B4:=(Blk.new (w.alloc (.cells #[.int .i64 s.addr,.int .i64 s.cnt,.slice s.A s.n s.c] 91)) #[.slice none 0 0] 26).al (.cells #[.int .i64 0] 27)
 have B5:=Blk.new ((w.alloc (.cells #[.int .i64 s.addr,.int .i64 s.cnt,.slice s.A s.n s.c] 91)).alloc (.cells #[.slice none 0 0] 26)) #[.int .i64 0] 27
 simp only [World.size_alloc] at B4 B5
 obtain⟨b1,hb1⟩:=yes_no (SOk s)
 obtain⟨b2,hb2⟩:=yes_no (Tab L)
 have C1:=hid (rsound_is (hsok.gr g0) hb1)
 have C2:=λ W (g:Gr w W)=>RRight_is (c:=c) (hm.gr g) hb2
 have K2:=hid C2
 have hbb:b1=false\/(b1=true/\b2=false):=by
  cases b1
  . exact .inl rfl
  . right
    refine⟨rfl,?_⟩
    cases b2
    . rfl
    . rcases h with h | h
      . exact absurd (hb1.1 rfl) h
      . exact absurd (hb2.1 rfl) h
 clear C2 hb1 hb2 h hm hsok
 rcases hbb with rfl | ⟨rfl,rfl⟩
 . go_enter Tryz.func213,Tryz.ntmps213
   go_wp2_with fail
   with_reducible refine C1.out.mono ?_
   rintro e w1 ⟨rfl,h1⟩
   have D4:=B4.gr h1
   have D5:=B5.gr h1
   have G:=g0.trans h1
   obtain⟨p4,z4⟩:=D4.at_ (k:=0) rfl
   obtain⟨p5,z5⟩:=D5.at_ (k:=0) rfl
   have HF4:=hid ((D4.set 0 (.slice none 0 0)).st (p:=⟨w.heap.size+1+1,0,none⟩) (by show w.heap.size+1+1≠w.heap.size+1;omega) (.int .i64 1))
   have HF5:=hid ((D5.st (p:=⟨w.heap.size+1,0,none⟩) (by show w.heap.size+1≠w.heap.size+1+1;omega) (.slice none 0 0)).set 0 (.int .i64 1))
   have HGF:=hid ((G.st (p:=⟨w.heap.size+1,0,none⟩) (by show w.heap.size<=w.heap.size+1;omega) (.slice none 0 0)).st (p:=⟨w.heap.size+1+1,0,none⟩) (by show w.heap.size<=w.heap.size+1+1;omega) (.int .i64 1))
   clear C1 K2 h1 D4 D5 G B4 B5 g0
   go_wp2_with fail
   have F4:=HF4.out
   have F5:=HF5.out
   have GF:=HGF.out
   clear p4 z4 p5 z5 HF4 HF5 HGF
   generalize (w1.setCell _ _).setCell _ _=WF at F4 F5 GF ⊢
   have q4:WF.cell? ⟨w.heap.size+1,0,none⟩=some (.slice none 0 0):=(F4.at_ (k:=0) rfl).1
   have q5:WF.cell? ⟨w.heap.size+1+1,0,none⟩=some (.int .i64 1):=(F5.at_ (k:=0) rfl).1
   exact bodyPost_ret (v:=.tuple #[.slice none 0 0,.int .i64 1]) (by simp [results,Tryz.results213,go_sem,q4,q5]) rfl ⟨rfl,GF⟩
 . go_enter Tryz.func213,Tryz.ntmps213
   go_wp2_with fail
   with_reducible refine C1.out.mono ?_
   rintro e w0 ⟨rfl,h0⟩
   go_wp2_with fail
   with_reducible refine (K2.out _ (g0.trans h0)).mono ?_
   rintro e w1 ⟨rfl,h1'⟩
   have h1:=h0.trans h1'
   have D4:=B4.gr h1
   have D5:=B5.gr h1
   have G:=g0.trans h1
   obtain⟨p4,z4⟩:=D4.at_ (k:=0) rfl
   obtain⟨p5,z5⟩:=D5.at_ (k:=0) rfl
   have HF4:=hid ((D4.set 0 (.slice none 0 0)).st (p:=⟨w.heap.size+1+1,0,none⟩) (by show w.heap.size+1+1≠w.heap.size+1;omega) (.int .i64 1))
   have HF5:=hid ((D5.st (p:=⟨w.heap.size+1,0,none⟩) (by show w.heap.size+1≠w.heap.size+1+1;omega) (.slice none 0 0)).set 0 (.int .i64 1))
   have HGF:=hid ((G.st (p:=⟨w.heap.size+1,0,none⟩) (by show w.heap.size<=w.heap.size+1;omega) (.slice none 0 0)).st (p:=⟨w.heap.size+1+1,0,none⟩) (by show w.heap.size<=w.heap.size+1+1;omega) (.int .i64 1))
   clear C1 K2 h1 h1' h0 D4 D5 G B4 B5 g0
   go_wp2_with fail
   have F4:=HF4.out
   have F5:=HF5.out
   have GF:=HGF.out
   clear p4 z4 p5 z5 HF4 HF5 HGF
   generalize (w1.setCell _ _).setCell _ _=WF at F4 F5 GF ⊢
   have q4:WF.cell? ⟨w.heap.size+1,0,none⟩=some (.slice none 0 0):=(F4.at_ (k:=0) rfl).1
   have q5:WF.cell? ⟨w.heap.size+1+1,0,none⟩=some (.int .i64 1):=(F5.at_ (k:=0) rfl).1
   exact bodyPost_ret (v:=.tuple #[.slice none 0 0,.int .i64 1]) (by simp [results,Tryz.results213,go_sem,q4,q5]) rfl ⟨rfl,GF⟩
theorem Set_isO (hm:SMem w A n L) (hnc:n<=c) (hcm:c<=9223372036854775807) (hsok:s.ok w) {R:List (Int×Int×List Int)} {e:Int} (h:SetR L s R e) :
 Calls Tryz.prog 213 #[.slice A n c,.agg #[.int .i64 s.addr,.int .i64 s.cnt,.slice s.A s.n s.c]] w λ ee w' =>
  ∃ B m T,ee=.returned (.tuple #[.slice B T.length m,.int .i64 e])/\SMem w' B T.length T/\T.length<=m/\m<=9223372036854775807/\T.map SV.pl=R/\Gr w w'/\SOwn w' w.heap.size (.slice B T.length m) T:=by
 rcases h with ⟨h,rfl,rfl⟩ | ⟨hs,ht,h⟩
 . refine (Set_no (c:=c) hm hsok h).mono ?_
   rintro ee w' ⟨rfl,hg⟩
   exact⟨none,0,[],rfl,SMem.nil_,Nat.le_refl _,by omega,rfl,hg,SOwn.nil _ _⟩
 . refine (Set_yes hm hnc hcm hsok ht hs).mono ?_
   rintro ee w' (⟨h64,rfl,hg⟩ | ⟨h64,B,m,T,rfl,h1,h2,h3,h4,hg,ho⟩)
   . obtain⟨_,rfl,rfl⟩:=h.resolve_right (λ h'=>by omega)
     exact⟨none,0,[],rfl,SMem.nil_,Nat.le_refl _,by omega,rfl,hg,SOwn.nil _ _⟩
   . obtain⟨_,rfl,rfl⟩:=h.resolve_left (λ h'=>by omega)
     exact⟨B,m,T,rfl,h1,h2,h3,h4,hg,ho⟩
theorem b64_zero:B64 0:=⟨by decide,by decide⟩
theorem ok_zero (w:World) {a:Int} (ha:B64 a):SV.ok w ⟨a,0,none,0,0,[]⟩:=⟨ha,b64_zero,EMem.nil_,Nat.le_refl _,Nat.zero_le _⟩
def GetR (L:List SV) (a:Int) (g:Int×Int×List Int) (e:Int):Prop :=
 ((¬ IsKey a\/¬ Tab L)/\g=(0,0,[])/\e=1)\/(IsKey a/\Tab L/\e=0/\((∃ x∈L,x.addr=a/\g=x.pl)\/(¬ Has L a/\g=(a,0,[]))))
theorem Get_is (hm:SMem w A n L) {a:Int} (ha:B64 a) {g:Int×Int×List Int} {e:Int} (h:GetR L a g e) :
 Calls Tryz.prog 212 #[.slice A n c,.int .i64 a] w λ ee w' =>
  ∃ y:SV,ee=.returned (.tuple #[.agg #[.int .i64 y.addr,.int .i64 y.cnt,.slice y.A y.n y.c],.int .i64 e])/\y.ok w'/\y.pl=g/\Gr w w':=by
 have hlen:=hm.1
 have g0:=(Gr.refl w).al (.cells #[.int .i64 0,.int .i64 0,.slice none 0 0] 91)
 have B0:=Blk.new w #[.int .i64 0,.int .i64 0,.slice none 0 0] 91
 obtain⟨b2,hb2⟩:=yes_no (Tab L)
 have K2:=hid (RRight_is (c:=c) (hm.gr g0) hb2)
 have C1:=hid (λ W=>Root_is a W)
 have HA:=hid ha
 by_cases hk:IsKey a
 . rw [rf_key hk,re_key hk] at C1
   generalize rt a=r at *
   cases b2 with
   | false =>
    obtain⟨_,rfl,rfl⟩:=h.resolve_right (λ h'=>absurd (hb2.2 h'.2.1) (by simp))
    clear hb2 h hm ha hk
    go_enter Tryz.func212,Tryz.ntmps212
    go_wp2_with fail
    with_reducible refine (C1.out _).mono ?_
    rintro ee w0 ⟨rfl,rfl⟩
    go_wp2_with fail
    with_reducible refine K2.out.mono ?_
    rintro ee w1 ⟨rfl,h1⟩
    have D0:=B0.gr h1
    have G:=g0.trans h1
    obtain⟨p0,z0⟩:=D0.at_ (k:=0) rfl
    obtain⟨p1,z1⟩:=D0.at_ (k:=1) rfl
    obtain⟨p2,z2⟩:=D0.at_ (k:=2) rfl
    have HF:=hid (((D0.set 0 (.int .i64 0)).set 1 (.int .i64 0)).set 2 (.slice none 0 0))
    have HG:=hid (((G.st (p:=⟨w.heap.size,0,none⟩) (Nat.le_refl _) (.int .i64 0)).st (p:=⟨w.heap.size,1,none⟩) (Nat.le_refl _) (.int .i64 0)).st (p:=⟨w.heap.size,2,none⟩) (Nat.le_refl _) (.slice none 0 0))
    clear K2 C1 D0 G h1 B0 g0
    go_wp2_with fail
    have F:=HF.out
    have GF:=HG.out
    clear p0 z0 p1 z1 p2 z2 HF HG
    generalize ((w1.setCell _ _).setCell _ _).setCell _ _=WF at F GF ⊢
    have q0:WF.cell? ⟨w.heap.size,0,none⟩=some (.int .i64 0):=(F.at_ (k:=0) rfl).1
    have q1:WF.cell? ⟨w.heap.size,1,none⟩=some (.int .i64 0):=(F.at_ (k:=1) rfl).1
    have q2:WF.cell? ⟨w.heap.size,2,none⟩=some (.slice none 0 0):=(F.at_ (k:=2) rfl).1
    exact bodyPost_ret (v:=.tuple #[.agg #[.int .i64 0,.int .i64 0,.slice none 0 0],.int .i64 1]) (by simp [results,Tryz.results212,go_sem,q0,q1,q2]) rfl
     ⟨⟨0,0,none,0,0,[]⟩,rfl,ok_zero _ b64_zero,rfl,GF⟩
   | true =>
    have ht:=hb2.1 rfl
    obtain⟨_,_,rfl,hcase⟩:=h.resolve_left (λ h'=>by rcases h'.1 with h1 | h1<;>first | exact h1 hk | exact h1 ht)
    obtain⟨v,hv⟩:=yes_no (Has L a)
    have HT:=hid ht
    have HM:=hid hm
    have CF:=λ W (g:Gr w W)=>rfind_is (c:=c) (hm.gr g) ht hk hv
    have KF:=hid CF
    have HPL:=hid (has_iff ht.2 a)
    have HV:=hid hv
    have HC:=hid hcase
    clear hb2 h hm ha ht hv hcase CF
    go_enter Tryz.func212,Tryz.ntmps212
    go_wp2_with fail
    with_reducible refine (C1.out _).mono ?_
    rintro ee w0 ⟨rfl,rfl⟩
    go_wp2_with fail
    with_reducible refine K2.out.mono ?_
    rintro ee w1 ⟨rfl,h1⟩
    go_wp2_with fail
    with_reducible refine (KF.out _ (g0.trans h1)).mono ?_
    rintro ee w2 ⟨rfl,h2⟩
    have D0:=(B0.gr h1).gr h2
    have G:=hid ((g0.trans h1).trans h2)
    obtain⟨p0,z0⟩:=D0.at_ (k:=0) rfl
    obtain⟨p1,z1⟩:=D0.at_ (k:=1) rfl
    obtain⟨p2,z2⟩:=D0.at_ (k:=2) rfl
    have HD:=hid D0
    clear K2 C1 KF D0 h1 h2 B0 g0
    cases v with
    | false =>
     have hg:g=(a,0,[]):=by
      rcases HC.out with ⟨x,hx,e,_⟩ | ⟨_,e⟩
      . exact absurd (HV.out.2 ⟨x,hx,e⟩) (by simp)
      . exact e
     have HGG:=hid hg
     have HF:=hid (((HD.out.set 0 (.int .i64 a)).set 1 (.int .i64 0)).set 2 (.slice none 0 0))
     have HG:=hid (((G.out.st (p:=⟨w.heap.size,0,none⟩) (Nat.le_refl _) (.int .i64 a)).st (p:=⟨w.heap.size,1,none⟩) (Nat.le_refl _) (.int .i64 0)).st (p:=⟨w.heap.size,2,none⟩) (Nat.le_refl _) (.slice none 0 0))
     clear hg HC HV
     go_wp2_with fail
     have F:=HF.out
     have GF:=HG.out
     clear p0 z0 p1 z1 p2 z2 HF HG
     generalize ((w2.setCell _ _).setCell _ _).setCell _ _=WF at F GF ⊢
     have q0:WF.cell? ⟨w.heap.size,0,none⟩=some (.int .i64 a):=(F.at_ (k:=0) rfl).1
     have q1:WF.cell? ⟨w.heap.size,1,none⟩=some (.int .i64 0):=(F.at_ (k:=1) rfl).1
     have q2:WF.cell? ⟨w.heap.size,2,none⟩=some (.slice none 0 0):=(F.at_ (k:=2) rfl).1
     exact bodyPost_ret (v:=.tuple #[.agg #[.int .i64 a,.int .i64 0,.slice none 0 0],.int .i64 0]) (by simp [results,Tryz.results212,go_sem,q0,q1,q2]) rfl
      ⟨⟨a,0,none,0,0,[]⟩,rfl,ok_zero _ HA.out,HGG.out.symm,GF⟩
    | true =>
     obtain⟨x,hx,hxa⟩:=HPL.out.1 (HV.out.1 rfl)
     obtain⟨p,hp⟩:∃ p,plc L a=p:=⟨_,rfl⟩
     rw [hp] at hx
     have hpn:p<n:=by rw [<- hlen];exact (List.getElem?_eq_some_iff.1 hx).1
     obtain⟨b,off,x',rfl,hbl,hx',hok,d0,d1,d2⟩:=(HM.out.gr G.out).at_ hpn
     rw [hx] at hx'
     cases hx'
     have hg:g=x.pl:=by
      rcases HC.out with ⟨y,hy,e,rfl⟩ | ⟨hno,_⟩
      . have:y=x:=by
         obtain⟨i,hi⟩:=List.mem_iff_getElem?.1 hy
         rcases Nat.lt_trichotomy i p with h3 | h3 | h3
         . exact absurd (HT.out.2.at_ h3 hi hx) (by rw [e,hxa];exact λ h=>h.irrefl)
         . subst h3;rw [hx] at hi;exact (Option.some.inj hi).symm
         . exact absurd (HT.out.2.at_ h3 hx hi) (by rw [e,hxa];exact λ h=>h.irrefl)
        rw [this]
      . exact absurd (HV.out.1 rfl) hno
     have HGG:=hid hg
     have h64:x.line.length<=64:=(HT.out.2.1 x (List.mem_of_getElem? hx)).1.2.2.2.1.1
     have hl:=hok.len
     have CO:=hid (own_is' (a:=x.addr) (q:=x.cnt) (c:=x.c) hok.2.2.1 (by omega))
     have hb1x:=hid hok.1
     have hb2x:=hid hok.2.1
     have hlt2:=HD.out.lt
     have pp0:(0:Int)<=(p:Int):=by omega
     have pp1:(p:Int)<(n:Int):=by omega
     have HPP:=hid hp
     clear hg HC HV hx hok hxa
     rw [HPP.out]
     go_wp2_with fail
     with_reducible refine CO.out.mono ?_
     rintro ee w3 ⟨B,k,rfl,ho3,h3⟩
     have D3:=HD.out.gr h3
     have G3:=G.out.trans h3
     clear p0 z0 p1 z1 p2 z2 d0 d1 d2
     obtain⟨p0,z0⟩:=D3.at_ (k:=0) rfl
     obtain⟨p1,z1⟩:=D3.at_ (k:=1) rfl
     obtain⟨p2,z2⟩:=D3.at_ (k:=2) rfl
     have hlt3:=D3.lt
     have HF:=hid (((D3.set 0 (.int .i64 x.addr)).set 1 (.int .i64 x.cnt)).set 2 (.slice B x.n k))
     have HG:=hid (((G3.st (p:=⟨w.heap.size,0,none⟩) (Nat.le_refl _) (.int .i64 x.addr)).st (p:=⟨w.heap.size,1,none⟩) (Nat.le_refl _) (.int .i64 x.cnt)).st (p:=⟨w.heap.size,2,none⟩) (Nat.le_refl _) (.slice B x.n k))
     have HO3:=hid (((ho3.st (p:=⟨w.heap.size,0,none⟩) hlt2 (.int .i64 x.addr)).st (p:=⟨w.heap.size,1,none⟩) hlt2 (.int .i64 x.cnt)).st (p:=⟨w.heap.size,2,none⟩) hlt2 (.slice B x.n k))
     clear CO D3 G3 h3 ho3
     go_wp2_with fail
     have F:=HF.out
     have GF:=HG.out
     have OF:=HO3.out
     clear p0 z0 p1 z1 p2 z2 HF HG HO3
     generalize ((w3.setCell _ _).setCell _ _).setCell _ _=WF at F GF OF ⊢
     have q0:WF.cell? ⟨w.heap.size,0,none⟩=some (.int .i64 x.addr):=(F.at_ (k:=0) rfl).1
     have q1:WF.cell? ⟨w.heap.size,1,none⟩=some (.int .i64 x.cnt):=(F.at_ (k:=1) rfl).1
     have q2:WF.cell? ⟨w.heap.size,2,none⟩=some (.slice B x.n k):=(F.at_ (k:=2) rfl).1
     exact bodyPost_ret (v:=.tuple #[.agg #[.int .i64 x.addr,.int .i64 x.cnt,.slice B x.n k],.int .i64 0]) (by simp [results,Tryz.results212,go_sem,q0,q1,q2]) rfl
      ⟨⟨x.addr,x.cnt,B,x.n,k,x.line⟩,rfl,⟨hb1x.out,hb2x.out,OF.mem,OF.le,by have:=OF.max;unfold maxLen at this;exact this⟩,HGG.out.symm,GF⟩
 . obtain⟨_,rfl,rfl⟩:=h.resolve_right (λ h'=>hk h'.1)
   rw [rf_no hk,re_no hk] at C1
   have F:=hid B0
   have GF:=hid g0
   clear hb2 h hm ha hk K2 B0 g0
   go_enter Tryz.func212,Tryz.ntmps212
   go_wp2_with fail
   with_reducible refine (C1.out _).mono ?_
   rintro ee w0 ⟨rfl,rfl⟩
   go_wp2_with fail
   have q0:=(F.out.at_ (k:=0) rfl).1
   have q1:=(F.out.at_ (k:=1) rfl).1
   have q2:=(F.out.at_ (k:=2) rfl).1
   exact bodyPost_ret (v:=.tuple #[.agg #[.int .i64 0,.int .i64 0,.slice none 0 0],.int .i64 1]) (by simp [results,Tryz.results212,go_sem]) rfl
    ⟨⟨0,0,none,0,0,[]⟩,rfl,ok_zero _ b64_zero,rfl,GF.out⟩
end
end
section
open Go.ChangeShapes Go.WideShapes Go.ChangeAt Go.RowKit
section
variable {l r L T:List SV} {x y s a b:SV}
theorem plq (h:x.pl=y.pl):x.addr=y.addr/\x.cnt=y.cnt/\x.line=y.line:=by simpa [SV.pl] using h
theorem SOk.pl (h:x.pl=y.pl) (hx:SOk x):SOk y:=by
 obtain⟨h1,h2,h3⟩:=plq h
 unfold SOk at *
 rw [<- h1,<- h2,<- h3]
 exact hx
theorem SNil.pl (h:x.pl=y.pl):SNil x↔SNil y:=by
 obtain⟨h1,h2,h3⟩:=plq h
 unfold SNil
 rw [h2,h3]
theorem mem_pl (h:l.map SV.pl=r.map SV.pl) (hy:y∈r):∃ x∈l,x.pl=y.pl:=by
 have:y.pl∈l.map SV.pl:=by rw [h];exact List.mem_map_of_mem hy
 exact List.mem_map.1 this
theorem len_pl (h:l.map SV.pl=r.map SV.pl):l.length=r.length:=by simpa using congrArg List.length h
theorem TOk.pl (h:l.map SV.pl=r.map SV.pl) (ht:TOk l):TOk r:=by
 refine⟨λ y hy=>?_,?_⟩
 . obtain⟨x,hx,e⟩:=mem_pl h hy
   exact⟨(ht.1 x hx).1.pl e,λ hc=>(ht.1 x hx).2 ((SNil.pl e).2 hc)⟩
 . have h1:(l.map SV.pl).Pairwise (λ u v=>Lt u.1 v.1):=List.pairwise_map.2 ht.2
   rw [h] at h1
   exact (List.pairwise_map (R:=λ (u v:Int×Int×List Int)=>Lt u.1 v.1) (f:=SV.pl)).1 h1
theorem Tab.pl (h:l.map SV.pl=r.map SV.pl) (ht:Tab l):Tab r:=⟨by rw [<- len_pl h];exact ht.1,ht.2.pl h⟩
theorem has_pl (h:l.map SV.pl=r.map SV.pl) (a:Int):Has l a↔Has r a:=by
 constructor
 . rintro⟨x,hx,e⟩
   obtain⟨y,hy,e'⟩:=mem_pl h.symm hx
   exact⟨y,hy,(plq e').1.trans e⟩
 . rintro⟨x,hx,e⟩
   obtain⟨y,hy,e'⟩:=mem_pl h hx
   exact⟨y,hy,(plq e').1.trans e⟩
theorem tok_one (h:TOk L) (hx:x∈L) (hy:y∈L) (e:x.addr=y.addr):x=y:=by
 obtain⟨i,hi⟩:=List.mem_iff_getElem?.1 hx
 obtain⟨j,hj⟩:=List.mem_iff_getElem?.1 hy
 rcases Nat.lt_trichotomy i j with h3 | h3 | h3
 . exact absurd (h.at_ h3 hi hj) (by rw [e];exact λ h=>h.irrefl)
 . subst h3;rw [hi] at hj;exact Option.some.inj hj
 . exact absurd (h.at_ h3 hj hi) (by rw [e];exact λ h=>h.irrefl)
theorem has_setl (ha:SOk a):Has (setl L a) a.addr↔¬ SNil a:=by
 constructor
 . rintro⟨x,hx,e⟩
   rcases mem_setl.1 hx with ⟨_,h⟩ | ⟨rfl,h⟩
   . exact absurd e h
   . exact h
 . intro h
   exact⟨a,mem_setl.2 (.inr ⟨rfl,h⟩),rfl⟩
end
end
end Go.Proofs.YtainfijdhcehlaaGreatDoor
namespace Go.Proofs.YtainfijdhcehlaaGreatDoor.L7
open Go.ChangeShapes Go.WideShapes Go.ChangeAt Go.RowKit
def PlaceR (l:List Int) (who r e:Int):Prop :=
 ((who<0\/¬ Ln l)/\r=0/\e=1)\/(0<=who/\Ln l/\who ∉ l/\r=0/\e=4)\/(0<=who/\Ln l/\(∃ a b,l=a++who::b/\r=a.length)/\e=0)
def PushR (l:List Int) (who:Int) (first:Bool) (r:List Int) (e:Int):Prop :=
 ((who<0\/¬ Ln l)/\r=[]/\e=1)\/(0<=who/\Ln l/\who∈l/\r=[]/\e=7)\/(0<=who/\Ln l/\who ∉ l/\l.length=64/\r=[]/\e=5) \/
   (0<=who/\Ln l/\who ∉ l/\l.length<64/\r=(if first=true then who::l else l++[who])/\e=0)
def DropR (l:List Int) (who:Int) (r:List Int) (e:Int):Prop :=
 ((who<0\/¬ Ln l)/\r=[]/\e=1)\/(0<=who/\Ln l/\who ∉ l/\r=[]/\e=4)\/(0<=who/\Ln l/\(∃ a b,l=a++who::b/\r=a++b)/\e=0)
def PopR (l:List Int) (r:List Int) (x e:Int):Prop :=
 (¬ Ln l/\r=[]/\x=0/\e=1)\/(l=[]/\r=[]/\x=0/\e=4)\/(Ln l/\l=x::r/\e=0)
section
variable {w:World} {A:Option Addr} {n c:Nat} {l:List Int}
theorem Index_no (hm:IMem w A n l) (hn:n<=9223372036854775807) {x:Int} (hx:x ∉ l) :
 Calls Tryz.prog 232 #[.slice A n c,.int .i64 x] w λ e w'=>e=.returned (.int .i64 (-1))/\w'=w:=by
 have HX:=Lib.hid hx
 have HM:=Lib.hid hm
 clear hx hm
 go_enter Tryz.func232,Tryz.ntmps232
 go_wp2_with fail
 go_loop [8] (λ i=>∃ k:Nat,k<=n/\i=.int .i64 (k:Int)) (λ i=>n-(intOf i).toNat)
 case atStart=>exact⟨0,by omega,rfl⟩
 case round =>
  obtain⟨k,hk,rfl⟩:=hrel
  by_cases hlt:k<n
  . obtain⟨b,off,y,rfl,hbl,hy,hiy,cy⟩:=HM.out.at_ hlt
    have ne:(x==y)=false:=beq_eq_false_iff_ne.2 λ e=>HX.out (e▸List.mem_of_getElem? hy)
    clear hy
    go_wp2_with fail
    go_round
    case rel=>exact⟨k+1,by omega,by go_num⟩
    case measure=>simp [intOf];omega
  . obtain rfl:k=n:=by omega
    go_wp2_with fail
    go_ret
    exact⟨rfl,rfl⟩
theorem Index_at (hm:IMem w A n l) (hn:n<=9223372036854775807) {x:Int} {p:Nat} (hp:l[p]?=some x) (hf:∀ j,j<p->l[j]?≠some x) :
 Calls Tryz.prog 232 #[.slice A n c,.int .i64 x] w λ e w'=>e=.returned (.int .i64 (p:Int))/\w'=w:=by
 have hpn:p<n:=by rw [<- hm.1];exact (List.getElem?_eq_some_iff.1 hp).1
 have HP:=Lib.hid hp
 have HF:=Lib.hid hf
 have HM:=Lib.hid hm
 clear hp hf hm
 go_enter Tryz.func232,Tryz.ntmps232
 go_wp2_with fail
 go_loop [8] (λ i=>∃ k:Nat,k<=p/\i=.int .i64 (k:Int)) (λ i=>n-(intOf i).toNat)
 case atStart=>exact⟨0,by omega,rfl⟩
 case round =>
  obtain⟨k,hk,rfl⟩:=hrel
  have hkn:k<n:=by omega
  obtain⟨b,off,y,rfl,hbl,hy,hiy,cy⟩:=HM.out.at_ hkn
  by_cases hlt:k<p
  . have ne:(x==y)=false:=beq_eq_false_iff_ne.2 λ e=>HF.out k hlt (e▸hy)
    clear hy
    go_wp2_with fail
    go_round
    case rel=>exact⟨k+1,by omega,by go_num⟩
    case measure=>simp [intOf];omega
  . obtain rfl:k=p:=by omega
    rw [HP.out] at hy
    cases hy
    go_wp2_with fail
    go_ret
    exact⟨rfl,rfl⟩
end
section
variable {w:World} {A:Option Addr} {n c:Nat} {l:List Int}
theorem join_two {g:Nat} {B:Option Addr} {m d:Nat} {r:List Int} (hg0:w.cell? ⟨g,0,none⟩=some (.slice A n c)) (hg1:w.cell? ⟨g,1,none⟩=some (.slice B m d))
 (hA:IMem w A n l) (hB:IMem w B m r) (hn:n<=1000000) (hm:m<=1000000) :
 Calls Tryz.prog 225 #[.slice (some ⟨g,0,none⟩) 2 2] w λ e w'=>∃ C k,e=.returned (.slice C (n+m) k)/\IOwn w.heap.size w' C (n+m) k (l++r)/\Gr w w':=by
 obtain⟨i0,hi0,hz0,hz1,hz2⟩:=info_parts infoInt
 have HZ:=Lib.hid hz0
 have HZ1:=Lib.hid hz1
 have HZ2:=Lib.hid hz2
 have HI0:=Lib.hid hi0
 have HA:=Lib.hid hA
 have HB:=Lib.hid hB
 have hlt:=World.block_lt_of_cell? w _ hg0
 have hlt':g<w.heap.size:=hlt
 clear hz0 hz1 hz2 hi0 hA hB hlt
 go_enter Tryz.func225,Tryz.ntmps225
 go_wp2_with fail
 go_loopw [3,8] (λ L i wr=>Hid (Gr w wr)/\((i=.int .i64 0/\∃ C k,L=.slice C 0 k/\Hid (IOwn w.heap.size wr C 0 k []))\/(i=.int .i64 1/\∃ C k,L=.slice C n k/\Hid (IOwn w.heap.size wr C n k l))\/(i=.int .i64 2/\∃ C k,L=.slice C (n+m) k/\Hid (IOwn w.heap.size wr C (n+m) k (l++r))))) (λ _ i _=>2-(intOf i).toNat)
 case atStart=>exact⟨Lib.hid (Gr.refl w),.inl ⟨rfl,none,0,rfl,Lib.hid OMem.nil_⟩⟩
 case round =>
  obtain⟨HG,h⟩:=hrel
  rcases h with ⟨rfl,C,k,rfl,HL⟩ | ⟨rfl,C,k,rfl,HL⟩ | ⟨rfl,C,k,rfl,HL⟩
  . have q0:=(HG.out.cell (p:=⟨g,0,none⟩) hlt').trans hg0
    go_wp2_with (at_builtin;refine Mark.stop ?_)
    refine Mark.go ?_
    refine wpList_append_omem _ (Value.int .i64) B64 rfl (.tmp 12) (.tmp 13) 23 rfl (λ _=>rfl) w.heap.size 3 i0 (.int .i64 0) 8 Tryz.underlying23 HI0.out HZ.out HZ1.out HZ2.out rfl C 0 k [] rfl HL.out A n c l rfl (HA.out.gr HG.out) (by unfold maxLen;omega) (by omega) HG.out.size ?_
    intro C2 k2 w2 own2 gb2
    simp only [Nat.zero_add,List.nil_append] at own2
    have G2:=Lib.hid (HG.out.gb gb2 (λ k hk=>(HL.out.lt k hk).1))
    simp only [Nat.zero_add]
    go_wp2_with fail
    go_roundw
    case rel=>exact⟨G2,.inr (.inl ⟨rfl,C2,k2,rfl,Lib.hid own2⟩)⟩
    case measure=>simp [intOf]
  . have q0:=(HG.out.cell (p:=⟨g,1,none⟩) hlt').trans hg1
    go_wp2_with (at_builtin;refine Mark.stop ?_)
    refine Mark.go ?_
    refine wpList_append_omem _ (Value.int .i64) B64 rfl (.tmp 12) (.tmp 13) 23 rfl (λ _=>rfl) w.heap.size 3 i0 (.int .i64 0) 8 Tryz.underlying23 HI0.out HZ.out HZ1.out HZ2.out rfl C n k l rfl HL.out B m d r rfl (HB.out.gr HG.out) (by unfold maxLen;omega) (by omega) HG.out.size ?_
    intro C2 k2 w2 own2 gb2
    have G2:=Lib.hid (HG.out.gb gb2 (λ k hk=>(HL.out.lt k hk).1))
    go_wp2_with fail
    go_roundw
    case rel=>exact⟨G2,.inr (.inr ⟨rfl,C2,k2,rfl,Lib.hid own2⟩)⟩
    case measure=>simp [intOf]
  . go_wp2_with fail
    go_ret
    exact⟨C,k,rfl,HL.out,HG.out⟩
theorem Place_is (hm:IMem w A n l) (hc:n<=c) (hn:n<=9223372036854775807) {who r e:Int} (h:PlaceR l who r e) :
 Calls Tryz.prog 224 #[.slice A n c,.int .i64 who] w λ en w'=>en=.returned (.tuple #[.int .i64 r,.int .i64 e])/\w'=w:=by
 rcases h with ⟨h,rfl,rfl⟩ | ⟨h0,hl,hx,rfl,rfl⟩ | ⟨h0,hl,⟨a,b,hab,rfl⟩,rfl⟩
 . by_cases h0:who<0
   . clear h
     go_enter Tryz.func224,Tryz.ntmps224
     go_wp2_with fail
     go_ret2
     exact⟨rfl,rfl⟩
   . have k1:=Lib.hid (Right_is (v:=false) hm hc hn (by simpa using h.resolve_left h0))
     clear h hm
     go_enter Tryz.func224,Tryz.ntmps224
     go_wp2_with fail
     refine k1.out.mono ?_
     rintro e w1 ⟨rfl,rfl⟩
     go_wp2_with fail
     go_ret2
     exact⟨rfl,rfl⟩
 . have k1:=Lib.hid (Right_is (v:=true) hm hc hn (by simpa using hl))
   have k2:=Lib.hid (Index_no (c:=c) hm hn hx)
   have h1:¬ who<0:=by omega
   clear hl hx hm
   go_enter Tryz.func224,Tryz.ntmps224
   go_wp2_with fail
   refine k1.out.mono ?_
   rintro e w1 ⟨rfl,rfl⟩
   go_wp2_with fail
   refine k2.out.mono ?_
   rintro e w1 ⟨rfl,rfl⟩
   go_wp2_with fail
   go_ret2
   exact⟨rfl,rfl⟩
 . have k1:=Lib.hid (Right_is (v:=true) hm hc hn (by simpa using hl))
   obtain⟨p1,p2⟩:=at_of hab hl.2
   have k2:=Lib.hid (Index_at (c:=c) hm hn p1 p2)
   have h1:¬ who<0:=by omega
   generalize a.length=p at *
   clear hl p1 p2 hab hm
   have h2:¬ (p:Int)<0:=by omega
   go_enter Tryz.func224,Tryz.ntmps224
   go_wp2_with fail
   refine k1.out.mono ?_
   rintro e w1 ⟨rfl,rfl⟩
   go_wp2_with fail
   refine k2.out.mono ?_
   rintro e w1 ⟨rfl,rfl⟩
   go_wp2_with fail
   go_ret2
   exact⟨rfl,rfl⟩
end
section
variable {w:World} {A:Option Addr} {n c:Nat} {l:List Int}
theorem Drop_is (hm:IMem w A n l) (hc:n<=c) (hn:n<=9223372036854775807) {who:Int} {r:List Int} {e:Int} (h:DropR l who r e) :
 Calls Tryz.prog 228 #[.slice A n c,.int .i64 who] w λ en w'=>∃ C k,en=.returned (.tuple #[.slice C r.length k,.int .i64 e])/\IOwn w.heap.size w' C r.length k r/\Gr w w':=by
 rcases h with ⟨h,rfl,rfl⟩ | ⟨h0,hl,hx,rfl,rfl⟩ | ⟨h0,hl,⟨a,b,hab,rfl⟩,rfl⟩
 . have k1:=Lib.hid (Place_is hm hc hn (who:=who) (.inl ⟨h,rfl,rfl⟩))
   clear h hm
   go_enter Tryz.func228,Tryz.ntmps228
   go_wp2_with fail
   refine k1.out.mono ?_
   rintro e w1 ⟨rfl,rfl⟩
   go_wp2_with fail
   go_ret2
   exact⟨none,0,rfl,OMem.nil_,Gr.refl _⟩
 . have k1:=Lib.hid (Place_is hm hc hn (who:=who) (.inr (.inl ⟨h0,hl,hx,rfl,rfl⟩)))
   clear hl hx hm
   go_enter Tryz.func228,Tryz.ntmps228
   go_wp2_with fail
   refine k1.out.mono ?_
   rintro e w1 ⟨rfl,rfl⟩
   go_wp2_with fail
   go_ret2
   exact⟨none,0,rfl,OMem.nil_,Gr.refl _⟩
 . have k1:=Lib.hid (Place_is hm hc hn (who:=who) (.inr (.inr ⟨h0,hl,⟨a,b,hab,rfl⟩,rfl⟩)))
   have hlen:a.length+1+b.length=n:=by rw [<- hm.1,hab];simp;omega
   have hn64:n<=64:=by rw [<- hm.1];exact hl.1
   obtain⟨b0,off,rfl,hbl,hcs⟩:=hm.2.2 (by omega)
   have ma:=Lib.hid (hm.take_ a.length (by omega))
   have mb:=Lib.hid (hm.drop_ rfl (a.length+1) (by omega))
   rw [show l.take a.length=a by rw [hab];simp] at ma
   rw [show l.drop (a.length+1)=b by rw [hab];simp,show n-(a.length+1)=b.length by omega] at mb
   clear hab hl hm hcs
   generalize hp:a.length=p at *
   generalize hq:b.length=q at *
   have z1:(p:Int)<=(c:Int):=by omega
   have z2:(0:Int)<=(p:Int):=by omega
   obtain⟨p1,hp1⟩:∃ p1,p1=p+1:=⟨_,rfl⟩
   rw [<- hp1] at mb
   have hw1:IntKind.i64.wrap ((p:Int)+1)=(p1:Int):=by rw [wrap_id (by omega) (by omega)];omega
   have z3:(p1:Int)<=(n:Int):=by omega
   have z4:(n:Int)<=(c:Int):=by omega
   have z5:(0:Int)<=(p1:Int):=by omega
   obtain⟨A2,HA⟩:∃ A2:Option Addr,(c=p1/\A2=some ⟨b0,off,none⟩)\/(¬ c=p1/\A2=some ⟨b0,off+p1,none⟩):=by
    by_cases h:c=p1
    . exact⟨_,.inl ⟨h,rfl⟩⟩
    . exact⟨_,.inr ⟨h,rfl⟩⟩
   obtain⟨c2,HC⟩:∃ c2,c-p1=c2:=⟨_,rfl⟩
   have HQ:n-p1=q:=by omega
   have mb2:IMem w A2 q b:=by
    rcases HA with ⟨h,rfl⟩ | ⟨h,rfl⟩
    . obtain rfl:q=0:=by omega
      obtain rfl:b=[]:=List.eq_nil_of_length_eq_zero (by omega)
      exact EMem.nil_
    . exact mb.out
   have MB:=Lib.hid mb2
   have p64:p<=64:=by omega
   have q64:q<=64:=by omega
   have gX:Gr w ((w.alloc (.cells #[.slice (some ⟨b0,off,none⟩) p c,.slice A2 q c2] 23)).drew):=((Gr.refl w).al _).dr
   have kj:=Lib.hid (join_two (w:=(w.alloc (.cells #[.slice (some ⟨b0,off,none⟩) p c,.slice A2 q c2] 23)).drew) (g:=w.heap.size) (A:=some ⟨b0,off,none⟩) (n:=p) (c:=c) (l:=a) (B:=A2) (m:=q) (d:=c2) (r:=b) (by simp) (by simp) (ma.out.gr gX) (MB.out.gr gX) (by omega) (by omega))
   have HL:=Lib.hid (show (a++b).length=p+q by rw [List.length_append,hp,hq])
   generalize a++b=R at *
   clear mb2 hlen hn64 hp hq hp1 mb ma MB
   rcases HA with ⟨rfl,rfl⟩ | ⟨h,rfl⟩
   all_goals (
    go_enter Tryz.func228,Tryz.ntmps228
    go_wp2_with fail
    refine k1.out.mono ?_
    rintro e w1 ⟨rfl,rfl⟩
    go_wp2_with fail
    go_region_held3 (λ _=>True) (exact trivial) (first | (go_at_call 225;with_reducible refine kj.out.mono ?_;rintro ee w9 ⟨C,k,rfl,own9,hb9⟩))
    go_wp2_with fail
    go_ret2
    refine⟨C,k,by rw [HL.out];rfl,?_,gX.trans hb9⟩
    rw [HL.out]
    exact own9.low gX.size)
theorem Pop_is (hm:IMem w A n l) (hc:n<=c) (hn:n<=9223372036854775807) {r:List Int} {x e:Int} (h:PopR l r x e) :
 Calls Tryz.prog 218 #[.slice A n c] w λ en w'=>∃ C k,en=.returned (.tuple #[.slice C r.length k,.int .i64 x,.int .i64 e])/\IOwn w.heap.size w' C r.length k r/\Gr w w':=by
 have hlen:=hm.1
 rcases h with ⟨h,rfl,rfl,rfl⟩ | ⟨rfl,rfl,rfl,rfl⟩ | ⟨hl,rfl,rfl⟩
 . have h0:¬ n=0:=by
    rintro rfl
    obtain rfl:l=[]:=List.eq_nil_of_length_eq_zero hlen
    exact h Ln.nil
   obtain⟨b0,off,y,rfl,hbl,hy,hiy,cy⟩:=hm.at_ (show 0<n by omega)
   rw [Nat.add_zero] at cy
   have k1:=Lib.hid (Drop_is (c:=c) hm hc hn (who:=y) (.inl ⟨.inr h,rfl,rfl⟩))
   have t0:((n:Int)==0)=false:=beq_eq_false_iff_ne.2 (by omega)
   clear h hm hy hlen
   go_enter Tryz.func218,Tryz.ntmps218
   go_wp2_with fail
   refine k1.out.mono ?_
   rintro e w1 ⟨C,k,rfl,own1,hb1⟩
   go_wp2_with fail
   go_ret3
   exact⟨none,0,rfl,OMem.nil_,hb1⟩
 . obtain rfl:n=0:=by simpa using hlen.symm
   clear hm
   go_enter Tryz.func218,Tryz.ntmps218
   go_wp2_with fail
   go_ret3
   exact⟨none,0,rfl,OMem.nil_,Gr.refl _⟩
 . have h0:¬ n=0:=by rintro rfl;simp at hlen
   obtain⟨b0,off,y,rfl,hbl,hy,hiy,cy⟩:=hm.at_ (show 0<n by omega)
   obtain rfl:x=y:=by simpa using hy
   rw [Nat.add_zero] at cy
   have k1:=Lib.hid (Drop_is (c:=c) hm hc hn (who:=x) (.inr (.inr ⟨(good_cons.1 hl.2).1,hl,⟨[],r,rfl,rfl⟩,rfl⟩)))
   have t0:((n:Int)==0)=false:=beq_eq_false_iff_ne.2 (by omega)
   clear hl hm hy hlen
   simp only [List.nil_append] at k1
   go_enter Tryz.func218,Tryz.ntmps218
   go_wp2_with fail
   refine k1.out.mono ?_
   rintro e w1 ⟨C,k,rfl,own1,hb1⟩
   go_wp2_with fail
   go_ret3
   exact⟨C,k,rfl,own1,hb1⟩
theorem Push_is (hm:IMem w A n l) (hc:n<=c) (hn:n<=9223372036854775807) {who:Int} {first:Bool} (hw:B64 who) {r:List Int} {e:Int} (h:PushR l who first r e) :
 Calls Tryz.prog 215 #[.slice A n c,.int .i64 who,.bool first] w λ en w'=>∃ C k,en=.returned (.tuple #[.slice C r.length k,.int .i64 e])/\IOwn w.heap.size w' C r.length k r/\Gr w w':=by
 have hlen:=hm.1
 rcases h with ⟨h,rfl,rfl⟩ | ⟨h0,hl,hx,rfl,rfl⟩ | ⟨h0,hl,hx,h64,rfl,rfl⟩ | ⟨h0,hl,hx,h64,rfl,rfl⟩
 . have k1:=Lib.hid (Place_is hm hc hn (who:=who) (.inl ⟨h,rfl,rfl⟩))
   clear h hm
   go_enter Tryz.func215,Tryz.ntmps215
   go_wp2_with fail
   refine k1.out.mono ?_
   rintro e w1 ⟨rfl,rfl⟩
   go_wp2_with fail
   go_ret2
   exact⟨none,0,rfl,OMem.nil_,Gr.refl _⟩
 . obtain⟨a,b,hab⟩:=split_at hx
   have k1:=Lib.hid (Place_is hm hc hn (who:=who) (.inr (.inr ⟨h0,hl,⟨a,b,hab,rfl⟩,rfl⟩)))
   clear hm hab hx hl
   go_enter Tryz.func215,Tryz.ntmps215
   go_wp2_with fail
   refine k1.out.mono ?_
   rintro e w1 ⟨rfl,rfl⟩
   go_wp2_with fail
   go_ret2
   exact⟨none,0,rfl,OMem.nil_,Gr.refl _⟩
 . have k1:=Lib.hid (Place_is hm hc hn (who:=who) (.inr (.inl ⟨h0,hl,hx,rfl,rfl⟩)))
   obtain rfl:n=64:=by omega
   clear hm hx hl
   go_enter Tryz.func215,Tryz.ntmps215
   go_wp2_with fail
   refine k1.out.mono ?_
   rintro e w1 ⟨rfl,rfl⟩
   go_wp2_with fail
   go_ret2
   exact⟨none,0,rfl,OMem.nil_,Gr.refl _⟩
 . have k1:=Lib.hid (Place_is hm hc hn (who:=who) (.inr (.inl ⟨h0,hl,hx,rfl,rfl⟩)))
   have t0:((n:Int)==64)=false:=beq_eq_false_iff_ne.2 (by omega)
   have n64:n<64:=by omega
   have one:=emem_one (enc:=Value.int .i64) w who hw 3
   have HM:=Lib.hid hm
   cases first
   . have gX:=((Gr.refl w).al (.cells #[.int .i64 who] 3)).al (.cells #[.slice A n c,.slice (some ⟨w.heap.size,0,none⟩) 1 1] 23)
     have g1:=(Gr.refl (w.alloc (.cells #[.int .i64 who] 3))).al (.cells #[.slice A n c,.slice (some ⟨w.heap.size,0,none⟩) 1 1] 23)
     have kj:=Lib.hid (join_two (w:=(w.alloc (.cells #[.int .i64 who] 3)).alloc (.cells #[.slice A n c,.slice (some ⟨w.heap.size,0,none⟩) 1 1] 23)) (g:=w.heap.size+1) (A:=A) (n:=n) (c:=c) (l:=l) (B:=some ⟨w.heap.size,0,none⟩) (m:=1) (d:=1) (r:=[who]) (by simp) (by simp) (HM.out.gr gX) (one.gr g1) (by omega) (by omega))
     have HL:=Lib.hid (show (l++[who]).length=n+1 by simp [hlen])
     rw [if_neg (by decide)]
     generalize l++[who]=R at *
     clear hm hx hl one h64 hlen
     go_enter Tryz.func215,Tryz.ntmps215
     go_wp2_with fail
     refine k1.out.mono ?_
     rintro e w1 ⟨rfl,rfl⟩
     go_wp2_with fail
     refine kj.out.mono ?_
     rintro e w1 ⟨C,k,rfl,own1,hb1⟩
     go_wp2_with fail
     go_ret2
     refine⟨C,k,by rw [HL.out];rfl,?_,gX.trans hb1⟩
     rw [HL.out]
     exact own1.low gX.size
   . have gX:=((Gr.refl w).al (.cells #[.int .i64 who] 3)).al (.cells #[.slice (some ⟨w.heap.size,0,none⟩) 1 1,.slice A n c] 23)
     have g1:=(Gr.refl (w.alloc (.cells #[.int .i64 who] 3))).al (.cells #[.slice (some ⟨w.heap.size,0,none⟩) 1 1,.slice A n c] 23)
     have kj:=Lib.hid (join_two (w:=(w.alloc (.cells #[.int .i64 who] 3)).alloc (.cells #[.slice (some ⟨w.heap.size,0,none⟩) 1 1,.slice A n c] 23)) (g:=w.heap.size+1) (A:=some ⟨w.heap.size,0,none⟩) (n:=1) (c:=1) (l:=[who]) (B:=A) (m:=n) (d:=c) (r:=l) (by simp) (by simp) (one.gr g1) (HM.out.gr gX) (by omega) (by omega))
     have HL:=Lib.hid (show (who::l).length=1+n by simp [hlen];omega)
     rw [if_pos rfl]
     rw [show [who]++l=who::l from rfl] at kj
     generalize who::l=R at *
     clear hm hx hl one h64 hlen
     go_enter Tryz.func215,Tryz.ntmps215
     go_wp2_with fail
     refine k1.out.mono ?_
     rintro e w1 ⟨rfl,rfl⟩
     go_wp2_with fail
     refine kj.out.mono ?_
     rintro e w1 ⟨C,k,rfl,own1,hb1⟩
     go_wp2_with fail
     go_ret2
     refine⟨C,k,by rw [HL.out];rfl,?_,gX.trans hb1⟩
     rw [HL.out]
     exact own1.low gX.size
end
section
variable {w:World} {A:Option Addr} {n c:Nat} {l:List Int}
end
end Go.Proofs.YtainfijdhcehlaaGreatDoor.L7
namespace Go.Proofs.YtainfijdhcehlaaGreatDoor
open Lib (hid)
section
open Go.ChangeShapes Go.WideShapes Go.ChangeAt Go.RowKit
def sp (a q:Int) (l:List Int):SV:=⟨a,q,none,0,0,l⟩
theorem sp_pl (a q:Int) (l:List Int):(sp a q l).pl=(a,q,l):=rfl
def gt (L:List SV) (a:Int):Int×List Int:=match L.find? (λ x=>decide (x.addr=a)) with
 | some x=>(x.cnt,x.line)
 | none=>(0,[])
section
variable {L T R:List SV} {x y s:SV} {a b q:Int} {l:List Int}
theorem gt_mem (h:TOk L) (hx:x∈L):gt L x.addr=(x.cnt,x.line):=by
 unfold gt
 cases hf:L.find? (λ y=>decide (y.addr=x.addr)) with
 | none =>
  rw [List.find?_eq_none] at hf
  exact absurd (by simp) (hf x hx)
 | some y =>
  have h1:=List.find?_some hf
  have h2:=List.mem_of_find?_eq_some hf
  rw [decide_eq_true_eq] at h1
  rw [tok_one h h2 hx h1]
theorem gt_no (h:¬ Has L a):gt L a=(0,[]):=by
 unfold gt
 cases hf:L.find? (λ y=>decide (y.addr=a)) with
 | none=>rfl
 | some y =>
  have h1:=List.find?_some hf
  rw [decide_eq_true_eq] at h1
  exact absurd ⟨y,List.mem_of_find?_eq_some hf,h1⟩ h
theorem gt_has (h:TOk L):Has L a↔gt L a≠(0,[]):=by
 constructor
 . rintro⟨x,hx,rfl⟩
   rw [gt_mem h hx]
   intro e
   rw [Prod.mk.injEq] at e
   exact (h.1 x hx).2 e
 . intro hn
   exact Classical.byContradiction λ hc=>hn (gt_no hc)
theorem gt_ok (h:TOk L) (ha:IsKey a):SOk (sp a (gt L a).1 (gt L a).2):=by
 by_cases hh:Has L a
 . obtain⟨x,hx,rfl⟩:=hh
   rw [gt_mem h hx]
   exact (h.1 x hx).1
 . rw [gt_no hh]
   exact⟨ha,Int.le_refl _,(by decide:(0:Int)<=2147483647),L7.Ln.nil,.inl rfl⟩
theorem gt_pl (hl:TOk L) (h:L.map SV.pl=T.map SV.pl) (a:Int):gt L a=gt T a:=by
 have ht:TOk T:=hl.pl h
 by_cases hh:Has L a
 . obtain⟨x,hx,rfl⟩:=hh
   obtain⟨y,hy,e⟩:=mem_pl h.symm hx
   obtain⟨e1,e2,e3⟩:=plq e
   rw [gt_mem hl hx,<- e1,gt_mem ht hy,e2,e3]
 . rw [gt_no hh,gt_no (λ hc=>hh ((has_pl h a).2 hc))]
theorem gt_set (ht:TOk L) (hs:SOk s):gt (setl L s) s.addr=(s.cnt,s.line):=by
 by_cases hn:SNil s
 . rw [gt_no (λ hc=>(has_setl hs).1 hc hn),hn.1,hn.2]
 . exact gt_mem (setl_ok ht hs) (mem_setl.2 (.inr ⟨rfl,hn⟩))
theorem gt_other (ht:TOk L) (hs:SOk s) (hb:b≠s.addr):gt (setl L s) b=gt L b:=by
 by_cases hh:Has L b
 . obtain⟨x,hx,rfl⟩:=hh
   rw [gt_mem ht hx,gt_mem (setl_ok ht hs) (mem_setl.2 (.inl ⟨hx,hb⟩))]
 . rw [gt_no hh,gt_no]
   rintro⟨x,hx,e⟩
   rcases mem_setl.1 hx with ⟨h1,_⟩ | ⟨rfl,_⟩
   . exact hh ⟨x,h1,e⟩
   . exact hb e.symm
theorem tok_parts (h:TOk L) (a:Int):L=front L a++(L.filter (λ x=>decide (x.addr=a))++back L a):=by
 refine tok_ext h ⟨λ x hx=>?_,?_⟩ λ x=>?_
 . unfold front back at hx
   simp only [List.mem_append,List.mem_filter] at hx
   rcases hx with ⟨h1,_⟩ | ⟨h1,_⟩ | ⟨h1,_⟩<;>exact h.1 x h1
 . unfold front back
   rw [List.pairwise_append,List.pairwise_append]
   refine⟨h.2.sublist List.filter_sublist,⟨h.2.sublist List.filter_sublist,h.2.sublist List.filter_sublist,λ u hu v hv=>?_⟩,λ u hu v hv=>?_⟩
   . rw [List.mem_filter,decide_eq_true_eq] at hu hv
     rw [hu.2];exact hv.2
   . simp only [List.mem_append,List.mem_filter,decide_eq_true_eq] at hu hv
     rcases hv with ⟨_,hv⟩ | ⟨_,hv⟩
     . rw [hv];exact hu.2
     . exact hu.2.trans hv
 . unfold front back
   simp only [List.mem_append,List.mem_filter,decide_eq_true_eq]
   constructor
   . intro hx
     rcases Lt.tri x.addr a with h1 | h1 | h1
     . exact .inl ⟨hx,h1⟩
     . exact .inr (.inl ⟨hx,h1⟩)
     . exact .inr (.inr ⟨hx,h1⟩)
   . rintro (⟨hx,_⟩ | ⟨hx,_⟩ | ⟨hx,_⟩)<;>exact hx
theorem setl_len (h:TOk L) (hs:Has L s.addr\/SNil s):(setl L s).length<=L.length:=by
 have e:=congrArg List.length (tok_parts h s.addr)
 rw [List.length_append,List.length_append] at e
 unfold setl
 rw [List.length_append,List.length_append]
 rcases hs with ⟨x,hx,hxa⟩ | hn
 . have h1:0<(L.filter (λ x=>decide (x.addr=s.addr))).length:=List.length_pos_of_mem (List.mem_filter.2 ⟨hx,by simpa using hxa⟩)
   split<;>simp<;>omega
 . rw [if_pos hn]
   simp;omega
theorem setl_more (h:TOk L):(setl L s).length<=L.length+1:=by
 have e:=congrArg List.length (tok_parts h s.addr)
 rw [List.length_append,List.length_append] at e
 unfold setl
 rw [List.length_append,List.length_append]
 split<;>simp<;>omega
def psh (first:Bool) (l:List Int) (who:Int):List Int:=if first=true then who::l else l++[who]
theorem psh_len {first:Bool} {who:Int}:(psh first l who).length=l.length+1:=by unfold psh;split<;>simp
theorem psh_ok {first:Bool} {who:Int} (hl:L7.Ln l) (h0:0<=who) (hn:who ∉ l) (h64:l.length<64):L7.Ln (psh first l who):=by
 refine⟨by rw [psh_len];omega,?_⟩
 unfold psh
 split
 . exact L7.good_cons.2 ⟨h0,hn,hl.2⟩
 . exact L7.good_app.2 ⟨hl.2,L7.good_one.2 h0,λ x hx h=>by rw [List.mem_singleton] at h;subst h;exact hn hx⟩
theorem setR_pl {s':SV} (h:s.pl=s'.pl) {Q:List (Int×Int×List Int)} {e:Int} (hs:SetR L s Q e):SetR L s' Q e:=by
 obtain⟨h1,h2,h3⟩:=plq h
 have hok:SOk s↔SOk s':=⟨λ k=>k.pl h,λ k=>k.pl h.symm⟩
 have hn:SNil s↔SNil s':=SNil.pl h
 have hm:(setl L s).map SV.pl=(setl L s').map SV.pl:=by
  unfold setl
  rw [h1]
  by_cases c:SNil s
  . rw [if_pos c,if_pos (hn.1 c)]
  . rw [if_neg c,if_neg (λ k=>c (hn.2 k))]
    simp [h]
 have hl:(setl L s).length=(setl L s').length:=len_pl hm
 unfold SetR at *
 rw [<- hok,<- hl,<- hm]
 exact hs
def AcqR (L:List SV) (a who:Int) (first:Bool) (Q:List (Int×Int×List Int)) (is:Bool) (e:Int):Prop :=
 ((¬ Tab L\/¬ IsKey a\/who<0)/\Q=[]/\is=false/\e=1) \/
 (Tab L/\IsKey a/\0<=who/\(
   (who∈(gt L a).2/\Q=[]/\is=false/\e=7) \/
   (who ∉ (gt L a).2/\0<(gt L a).1/\Q=(setl L (sp a ((gt L a).1-1) (gt L a).2)).map SV.pl/\is=true/\e=0) \/
   (who ∉ (gt L a).2/\(gt L a).1=0/\(gt L a).2.length=64/\Q=[]/\is=false/\e=5) \/
   (who ∉ (gt L a).2/\(gt L a).1=0/\(gt L a).2.length<64/\64<(setl L (sp a 0 (psh first (gt L a).2 who))).length/\Q=[]/\is=false/\e=5) \/
   (who ∉ (gt L a).2/\(gt L a).1=0/\(gt L a).2.length<64/\(setl L (sp a 0 (psh first (gt L a).2 who))).length<=64/\Q=(setl L (sp a 0 (psh first (gt L a).2 who))).map SV.pl/\is=false/\e=0)))
def RelR (L:List SV) (a:Int) (Q:List (Int×Int×List Int)) (x e:Int):Prop :=
 ((¬ Tab L\/¬ IsKey a)/\Q=[]/\x=0/\e=1) \/
 (Tab L/\IsKey a/\(
   (∃ r,(gt L a).2=x::r/\Q=(setl L (sp a 0 r)).map SV.pl/\e=0) \/
   ((gt L a).2=[]/\(gt L a).1=2147483647/\Q=[]/\x=0/\e=10) \/
   ((gt L a).2=[]/\(gt L a).1<2147483647/\64<(setl L (sp a ((gt L a).1+1) [])).length/\Q=[]/\x=0/\e=5) \/
   ((gt L a).2=[]/\(gt L a).1<2147483647/\(setl L (sp a ((gt L a).1+1) [])).length<=64/\Q=(setl L (sp a ((gt L a).1+1) [])).map SV.pl/\x=-1/\e=0)))
theorem gt_cnt (h:TOk L) (ha:IsKey a):0<=(gt L a).1/\(gt L a).1<=2147483647/\L7.Ln (gt L a).2/\((gt L a).1=0\/(gt L a).2=[]):=(gt_ok h ha).2
theorem AcqR.any (L:List SV) (a who:Int) (first:Bool):∃ Q is e,AcqR L a who first Q is e:=by
 by_cases h:Tab L/\IsKey a/\0<=who
 . obtain⟨h1,h2,h3⟩:=h
   obtain⟨k1,k2,k3,k4⟩:=gt_cnt h1.2 h2
   by_cases hm:who∈(gt L a).2
   . exact⟨_,_,_,.inr ⟨h1,h2,h3,.inl ⟨hm,rfl,rfl,rfl⟩⟩⟩
   . by_cases hc:0<(gt L a).1
     . exact⟨_,_,_,.inr ⟨h1,h2,h3,.inr (.inl ⟨hm,hc,rfl,rfl,rfl⟩)⟩⟩
     . have hc0:(gt L a).1=0:=by omega
       by_cases hl:(gt L a).2.length=64
       . exact⟨_,_,_,.inr ⟨h1,h2,h3,.inr (.inr (.inl ⟨hm,hc0,hl,rfl,rfl,rfl⟩))⟩⟩
       . have hl':(gt L a).2.length<64:=by have:=k3.1;omega
         by_cases hs:64<(setl L (sp a 0 (psh first (gt L a).2 who))).length
         . exact⟨_,_,_,.inr ⟨h1,h2,h3,.inr (.inr (.inr (.inl ⟨hm,hc0,hl',hs,rfl,rfl,rfl⟩)))⟩⟩
         . exact⟨_,_,_,.inr ⟨h1,h2,h3,.inr (.inr (.inr (.inr ⟨hm,hc0,hl',by omega,rfl,rfl,rfl⟩)))⟩⟩
 . refine⟨_,_,_,.inl ⟨?_,rfl,rfl,rfl⟩⟩
   by_cases h1:Tab L
   . by_cases h2:IsKey a
     . exact .inr (.inr (by have:¬ 0<=who:=λ h3=>h ⟨h1,h2,h3⟩;omega))
     . exact .inr (.inl h2)
   . exact .inl h1
theorem RelR.any (L:List SV) (a:Int):∃ Q x e,RelR L a Q x e:=by
 by_cases h:Tab L/\IsKey a
 . obtain⟨h1,h2⟩:=h
   obtain⟨k1,k2,k3,k4⟩:=gt_cnt h1.2 h2
   cases hl:(gt L a).2 with
   | cons y r=>exact⟨_,_,_,.inr ⟨h1,h2,.inl ⟨r,hl,rfl,rfl⟩⟩⟩
   | nil =>
    by_cases hc:(gt L a).1=2147483647
    . exact⟨_,_,_,.inr ⟨h1,h2,.inr (.inl ⟨hl,hc,rfl,rfl,rfl⟩)⟩⟩
    . have hc':(gt L a).1<2147483647:=by omega
      by_cases hs:64<(setl L (sp a ((gt L a).1+1) [])).length
      . exact⟨_,_,_,.inr ⟨h1,h2,.inr (.inr (.inl ⟨hl,hc',hs,rfl,rfl,rfl⟩))⟩⟩
      . exact⟨_,_,_,.inr ⟨h1,h2,.inr (.inr (.inr ⟨hl,hc',by omega,rfl,rfl,rfl⟩))⟩⟩
 . refine⟨_,_,_,.inl ⟨?_,rfl,rfl,rfl⟩⟩
   by_cases h1:Tab L
   . exact .inr λ h2=>h ⟨h1,h2⟩
   . exact .inl h1
end
end
end Go.Proofs.YtainfijdhcehlaaGreatDoor
