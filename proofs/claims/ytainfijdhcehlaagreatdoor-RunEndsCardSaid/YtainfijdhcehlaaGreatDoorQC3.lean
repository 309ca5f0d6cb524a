/-
  A part of the proof.
-/
import Derived.Test.YtainfijdhcehlaaGreatDoorQC2
import Derived.RangeFuncNested
import Derived.RangeFuncBound
import Derived.RangeFuncCalls
import Derived.RangeFuncLeaves
import Derived.TacticsInMore
import Derived.LoopNIn
import Derived.LoopIn
set_option linter.unusedVariables false
set_option linter.unusedSimpArgs false
set_option maxRecDepth 100000
set_option maxHeartbeats 8000000
namespace Go.Proofs.YtainfijdhcehlaaGreatDoor
open Lib (hid)
open Go.Proofs.Tryz
open Go.ChangeAt Go.ChangeShapes Go.RowKit Go.Shelf Go.WideShapes
section
section
variable {w0 W:World} {r:Int} {A:Option Addr} {n c tb kb sb:Nat} {x v:Int} {l:List Nd} {t:T}
theorem NMem.place (hm:NMem w0 A n l):∃ b off,n=0\/A=some ⟨b,off,none⟩:=by
 by_cases h:n=0
 . exact⟨0,0,.inl h⟩
 . obtain⟨b,off,e,_⟩:=hm.2.2 (by omega)
   exact⟨b,off,.inr e⟩
theorem NMem.links {b off:Nat} (hm:NMem W A n l) (hA:n=0\/A=some ⟨b,off,none⟩):∀ i nd,l[i]?=some nd->W.cell? ⟨b,off+i*3+1,none⟩=some (.int .i64 nd.left)/\W.cell? ⟨b,off+i*3+2,none⟩=some (.int .i64 nd.right):=by
 intro i nd hx;have hi:=(zgl hx);rcases hA with rfl | rfl
 . have:=hm.1;omega
 . exact (hm.cells hx).2
theorem find_any {b off:Nat} (hm:NMem w0 A n l) (hA:n=0\/A=some ⟨b,off,none⟩):Further 246 #[.pointer (some ⟨kb,0,none⟩),.pointer (some ⟨sb,0,none⟩)] (FW w0 r A n c tb kb sb x) (fdir x) (fupd x) b off l:=by
 rcases hA with rfl | rfl
 . intro s W i nd hW hx
   have hi:=(zgl hx);have:=hm.1;omega
 . exact find_further hm
theorem next_any {b off:Nat} (hm:NMem w0 A n l) (hA:n=0\/A=some ⟨b,off,none⟩):Further 238 #[.pointer (some ⟨kb,0,none⟩),.pointer (some ⟨sb,0,none⟩)] (FW w0 r A n c tb kb sb x) (ndir x) (nupd x) b off l:=by
 rcases hA with rfl | rfl
 . intro s W i nd hW hx
   have hi:=(zgl hx);have:=hm.1;omega
 . exact next_further hm
theorem find_way (hm:NMem w0 A n l) (hg:Good l r t) (hW:FW w0 r A n c tb kb sb x 0 W) :
 ∃ (pb po:Nat) (v d:Int),Calls prog 237 #[.pointer (some ⟨tb,0,none⟩),.func (.func 246) #[] #[.pointer (some ⟨kb,0,none⟩),.pointer (some ⟨sb,0,none⟩)]] W
  (λ e w'=>e=.returned (.pointer (some ⟨pb,po,none⟩))/\w'.cell? ⟨pb,po,none⟩=some (.int .i64 v)/\FW w0 r A n c tb kb sb x d w')/\((x ∉ t.inord/\v=-1)\/(x∈t.inord/\0<=v/\d=dpt t x)):=by
 obtain⟨b,off,hA⟩:=hm.place;have hS:=hg.2.1;have h64:=hg.2.2.1;have hR:=@run_find x b off t _ _ tb 0 0 hg.2.2.2.1 (by omega) (by omega);have hL:∀ W',FW w0 r A n c tb kb sb x (run (fdir x) (fupd x) b off t tb 0 0).2.2 W'->∃ v,Lay l (run (fdir x) (fupd x) b off t tb 0 0).2.1 v/\W'.cell? ⟨(run (fdir x) (fupd x) b off t tb 0 0).1.1,(run (fdir x) (fupd x) b off t tb 0 0).1.2,none⟩=some (.int .i64 v) :=
  λ W' h=>run_lay ((hm.gr h.gr).links hA) hg.1 ((fw_keeps hm).root _ _ h)
 have hF:=follow_is (enters_of func246 (by kernel_rfl) rfl) (fw_keeps hm) (find_any hm hA) hA hg.1 hW;by_cases hx:x∈t.inord
 . obtain⟨h1,h2⟩:=hR.2 hx
   generalize (run (fdir x) (fupd x) b off t tb 0 0)=R0 at *;obtain⟨⟨pb,po⟩,S,d⟩:=R0;dsimp only at *
   cases S with
   | nil=>exact absurd rfl h1
   | node i k L R =>
    refine⟨pb,po,(i:Int),d,hF.mono ?_,.inr ⟨hx,by omega,by omega⟩⟩;rintro e w' ⟨rfl,hI⟩;obtain⟨v,hv,hc⟩:=hL w' hI;obtain rfl:v=(i:Int):=hv.1;exact⟨rfl,hc,hI⟩
 . have h1:=hR.1 hx
   generalize (run (fdir x) (fupd x) b off t tb 0 0)=R0 at *;obtain⟨⟨pb,po⟩,S,d⟩:=R0;dsimp only at *;subst h1;refine⟨pb,po,-1,d,hF.mono ?_,.inl ⟨hx,rfl⟩⟩;rintro e w' ⟨rfl,hI⟩;obtain⟨v,hv,hc⟩:=hL w' hI;obtain rfl:v=-1:=hv;exact⟨rfl,hc,hI⟩
theorem next_way (hm:NMem w0 A n l) (hg:Good l r t) (hW:FW w0 r A n c tb kb sb x (-1) W) :
 ∃ (pb po:Nat),Calls prog 237 #[.pointer (some ⟨tb,0,none⟩),.func (.func 238) #[] #[.pointer (some ⟨kb,0,none⟩),.pointer (some ⟨sb,0,none⟩)]] W
  (λ e w'=>e=.returned (.pointer (some ⟨pb,po,none⟩))/\FW w0 r A n c tb kb sb x (nx t x (-1)) w'):=by
 obtain⟨b,off,hA⟩:=hm.place;have hF:=follow_is (enters_of func238 (by kernel_rfl) rfl) (fw_keeps hm) (next_any hm hA) hA hg.1 hW;rw [run_next] at hF;exact⟨_,_,hF⟩
def FindR (l:List Nd) (r x d e:Int):Prop:=(¬ IsKey x/\d=0/\e=1)\/(IsKey x/\(¬ ∃ t,Good l r t)/\d=0/\e=1)\/(IsKey x/\∃ t,Good l r t/\((x ∉ t.inord/\d=0/\e=4)\/(x∈t.inord/\d=dpt t x/\e=0)))
theorem Find_is (hm:NMem w0 A n l) {d e:Int} (h:FindR l r x d e) :
 Calls prog 243 #[.agg #[.int .i64 r,.slice A n c],.int .i64 x] w0 λ ee w'=>ee=.returned (.tuple #[.int .i64 d,.int .i64 e])/\Gr w0 w':=by
 have g0:=((zr w0).al (.cells #[.int .i64 r,.slice A n c] 281)).al (.cells #[.int .i64 x] 3);have hP:=λ W=>Pri_is x W
 obtain⟨p,hp⟩:∃ p,prf x=p:=⟨_,rfl⟩;rw [hp] at hP;have KP:=hid hP;have hpr:=pri_range x;rcases h with ⟨h1,rfl,rfl⟩ | ⟨h1,h2,rfl,rfl⟩ | ⟨h1,t,hg,hcase⟩
 . have hp0:p<0:=by rw [<- hp,prf_no h1];decide
   clear hP hp;go_enter func243,ntmps243;go_wp2_with fail;refine (KP.out _).mono ?_;rintro e w1 ⟨rfl,rfl⟩;go_wp2_with fail;go_ret2;exact⟨rfl,g0⟩
 . have hp0:¬ p<0:=by rw [<- hp,prf_key h1];omega
   have hC:=hid (Right_is (c:=c) (hm.gr g0) (v:=false) (r:=r) ⟨λ h=>(by cases h),λ h=>absurd h h2⟩);clear hP hp h2;go_enter func243,ntmps243;go_wp2_with fail;refine (KP.out _).mono ?_;rintro e w1 ⟨rfl,rfl⟩;go_wp2_with fail;refine hC.out.mono ?_;rintro e w1 ⟨rfl,hb1⟩;go_wp2_with fail;go_ret2;exact⟨rfl,g0.trans hb1⟩
 . have hp0:¬ p<0:=by rw [<- hp,prf_key h1];omega
   have hC:=hid (Right_is (c:=c) (hm.gr g0) (v:=true) (r:=r) ⟨λ _=>⟨t,hg⟩,λ _=>rfl⟩);have B0:=(Blk.new w0 #[.int .i64 r,.slice A n c] 281).al (.cells #[.int .i64 x] 3);have B1:=Blk.new (w0.alloc (.cells #[.int .i64 r,.slice A n c] 281)) #[.int .i64 x] 3;have HM:=hid hm;have HG:=hid hg;have HC:=hid hcase;have hsz:w0.heap.size+2=((w0.alloc (.cells #[.int .i64 r,.slice A n c] 281)).alloc (.cells #[.int .i64 x] 3)).heap.size:=by simp
   simp only [zsA] at B1;clear hP hp hm hg hcase;go_enter func243,ntmps243;go_wp2_with fail;refine (KP.out _).mono ?_;rintro e w1 ⟨rfl,rfl⟩;go_wp2_with fail;refine hC.out.mono ?_;rintro e w2 ⟨rfl,hb1⟩;have hFW:FW w0 r A n c w0.heap.size (w0.heap.size+1) w2.heap.size x 0 (w2.alloc (.cells #[.int .i64 0] 3)):=by
    have:=hb1.size;exact⟨(g0.trans hb1).al _,(B0.gr hb1).al _,(B1.gr hb1).al _,Blk.new _ _ _,by omega,by omega,by omega⟩
   obtain⟨pb,po,v,d',hway,hv⟩:=find_way HM.out HG.out hFW;have KW:=hid hway;have HV:=hid hv;clear hway hv hsz;go_wp2_with fail;refine KW.out.mono ?_;rintro e w3 ⟨rfl,hc,hF⟩;have f0:=(hF.b2.at_ (k:=0) rfl).1;have GF:=hid hF.gr;clear hF KW hFW;have hcase:=HC.out;rcases HV.out with ⟨m,rfl⟩ | ⟨m,m2,m3⟩
   . rcases hcase with ⟨_,rfl,rfl⟩ | ⟨m',_,_⟩
     . clear HC HV
       go_wp2_with fail;go_ret2;exact⟨rfl,GF.out⟩
     . exact absurd m' m
   . rcases hcase with ⟨m',_,_⟩ | ⟨_,e1,rfl⟩
     . exact absurd m m'
     . rw [<- m3] at e1
       subst e1;have ne:(v==-1)=false:=beq_eq_false_iff_ne.2 (by omega);clear m3 HC HV;go_wp2_with fail;go_ret2;exact⟨rfl,GF.out⟩
end
end
section
section
variable {w:World} {r:Int} {A:Option Addr} {n c:Nat} {x:Int} {l:List Nd} {t:T}
def GotT (w:World) (n:Nat) (K:List Int->Prop) (e:Ending) (w':World):Prop :=
 ∃ r g l t,e=.returned (.tuple #[.agg #[.int .i64 r,.slice (some ⟨g,0,none⟩) n n],.int .i64 0])/\NMem w' (some ⟨g,0,none⟩) n l/\Good l r t/\K t.inord/\Gr w w'/\w.heap.size<=g
def PutE (l:List Nd) (r x e:Int):Prop:=(((¬ IsKey x)\/¬ ∃ t,Good l r t)/\e=1)\/(IsKey x/\∃ t,Good l r t/\((x∈t.inord/\e=7)\/(x ∉ t.inord/\l.length=64/\e=5)))
theorem PutE.find {e:Int} (h:PutE l r x e):∃ d f,FindR l r x d f/\((f=1/\e=1)\/(f=0/\e=7)\/(f=4/\l.length=64/\e=5)):=by
 rcases h with ⟨h,rfl⟩ | ⟨h1,t,hg,⟨h2,rfl⟩ | ⟨h2,h3,rfl⟩⟩
 . refine⟨0,1,?_,.inl ⟨rfl,rfl⟩⟩
   by_cases hk:IsKey x
   . exact .inr (.inl ⟨hk,h.resolve_left (λ h'=>h' hk),rfl,rfl⟩)
   . exact .inl ⟨hk,rfl,rfl⟩
 . exact⟨_,0,.inr (.inr ⟨h1,t,hg,.inr ⟨h2,rfl,rfl⟩⟩),.inr (.inl ⟨rfl,rfl⟩)⟩
 . exact⟨_,4,.inr (.inr ⟨h1,t,hg,.inl ⟨h2,rfl,rfl⟩⟩),.inr (.inr ⟨rfl,h3,rfl⟩)⟩
theorem Put_no (hm:NMem w A n l) {e:Int} (h:PutE l r x e) :
 Calls prog 240 #[.agg #[.int .i64 r,.slice A n c],.int .i64 x] w λ ee w'=>ee=.returned (.tuple #[.agg #[.int .i64 0,.slice none 0 0],.int .i64 e])/\Gr w w':=by
 have g0:=((zr w).al (.cells #[.int .i64 r,.slice A n c] 281)).al (.cells #[.int .i64 0,.slice none 0 0] 281);have B0:=(Blk.new w #[.int .i64 r,.slice A n c] 281).al (.cells #[.int .i64 0,.slice none 0 0] 281);have B1:=Blk.new (w.alloc (.cells #[.int .i64 r,.slice A n c] 281)) #[.int .i64 0,.slice none 0 0] 281;simp only [zsA] at B1;obtain⟨d,f,hf,hcase⟩:=h.find;have hlen:=hm.1;have hC:=hid (Find_is (c:=c) (hm.gr g0) hf);clear hm hf h;go_enter func240,ntmps240;go_wp2_with fail;refine hC.out.mono ?_;rintro ee w3 ⟨rfl,hb3⟩;have BB:=B0.gr hb3;have BR:=B1.gr hb3;have G3:=hid (g0.trans hb3);have f1:=(BB.at_ (k:=1) rfl).1;obtain⟨p0,z0⟩:=BR.at_ (k:=0) rfl;obtain⟨p1,z1⟩:=BR.at_ (k:=1) rfl;have HBR:=hid ((BR.set 0 (.int .i64 0)).set 1 (.slice none 0 0));have HGW:=hid (((g0.trans hb3).st (p:=⟨w.heap.size+1,0,none⟩) (by show w.heap.size<=w.heap.size+1;omega) (.int .i64 0)).st (p:=⟨w.heap.size+1,1,none⟩) (by show w.heap.size<=w.heap.size+1;omega) (.slice none 0 0));clear hC B0 B1 BB BR hb3 g0;rcases hcase with ⟨rfl,rfl⟩ | ⟨rfl,rfl⟩ | ⟨rfl,h64,rfl⟩
 . go_wp2_with fail
   have BF:=HBR.out;have GW:=HGW.out;clear p0 z0 p1 z1 f1 HBR HGW;generalize (w3.setCell _ _).setCell _ _=WF at BF GW ⊢;have q0:WF.cell? ⟨w.heap.size+1,0,none⟩=some (.int .i64 0):=(BF.at_ (k:=0) rfl).1;have q1:WF.cell? ⟨w.heap.size+1,1,none⟩=some (.slice none 0 0):=(BF.at_ (k:=1) rfl).1;exact bodyPost_ret (v:=.tuple #[.agg #[.int .i64 0,.slice none 0 0],.int .i64 1]) (by simp [results,results240,go_sem,q0,q1]) rfl ⟨rfl,GW⟩
 . go_wp2_with fail
   have BF:=HBR.out;have GW:=HGW.out;clear p0 z0 p1 z1 f1 HBR HGW;generalize (w3.setCell _ _).setCell _ _=WF at BF GW ⊢;have q0:WF.cell? ⟨w.heap.size+1,0,none⟩=some (.int .i64 0):=(BF.at_ (k:=0) rfl).1;have q1:WF.cell? ⟨w.heap.size+1,1,none⟩=some (.slice none 0 0):=(BF.at_ (k:=1) rfl).1;exact bodyPost_ret (v:=.tuple #[.agg #[.int .i64 0,.slice none 0 0],.int .i64 7]) (by simp [results,results240,go_sem,q0,q1]) rfl ⟨rfl,GW⟩
 . obtain rfl:n=64:=by omega
   go_wp2_with fail;have BF:=HBR.out;have GW:=HGW.out;clear p0 z0 p1 z1 f1 HBR HGW;generalize (w3.setCell _ _).setCell _ _=WF at BF GW ⊢;have q0:WF.cell? ⟨w.heap.size+1,0,none⟩=some (.int .i64 0):=(BF.at_ (k:=0) rfl).1;have q1:WF.cell? ⟨w.heap.size+1,1,none⟩=some (.slice none 0 0):=(BF.at_ (k:=1) rfl).1;exact bodyPost_ret (v:=.tuple #[.agg #[.int .i64 0,.slice none 0 0],.int .i64 5]) (by simp [results,results240,go_sem,q0,q1]) rfl ⟨rfl,GW⟩
theorem Put_ok (hm:NMem w A n l) (hg:Good l r t) (hx:IsKey x) (hn:x ∉ t.inord) (h64:l.length≠64) :
 Calls prog 240 #[.agg #[.int .i64 r,.slice A n c],.int .i64 x] w (GotT w (n+1) (λ K=>∀ y,y∈K↔y=x\/y∈t.inord)):=by
 have g0:=((zr w).al (.cells #[.int .i64 r,.slice A n c] 281)).al (.cells #[.int .i64 0,.slice none 0 0] 281);have B0:=(Blk.new w #[.int .i64 r,.slice A n c] 281).al (.cells #[.int .i64 0,.slice none 0 0] 281);have B1:=Blk.new (w.alloc (.cells #[.int .i64 r,.slice A n c] 281)) #[.int .i64 0,.slice none 0 0] 281;simp only [zsA] at B1;have hlen:=hm.1;have hle:=hg.2.2.1;have hn64:n<=63:=by omega
 have hne:((n:Int)==64)=false:=beq_eq_false_iff_ne.2 (by omega);have hC:=hid (Find_is (c:=c) (hm.gr g0) (x:=x) (r:=r) (d:=0) (e:=4) (.inr (.inr ⟨hx,t,hg,.inl ⟨hn,rfl,rfl⟩⟩)));have hxB:B64 x:=by unfold IsKey at hx;unfold B64;omega
 have HLn:=hid (show (l.map Nd.key++[x]).Nodup from by
  refine List.nodup_append.2 ⟨hg.perm.nodup_iff.2 hg.2.2.2.1.rising.nodup,by simp,λ a ha b hb e=>?_⟩;rw [List.mem_singleton] at hb;subst hb e;exact hn ((hg.keys a).1 ha))
 have HLk:=hid (show ∀ y∈l.map Nd.key++[x],IsKey y from λ y hy=>by
  rcases List.mem_append.1 hy with h | h
  . exact hg.isKey ((hg.keys y).1 h)
  . rw [List.mem_singleton] at h;subst h;exact hx)
 have HLm:=hid (show ∀ y,y∈srt (l.map Nd.key++[x])↔y=x\/y∈t.inord from λ y=>by
  rw [(srt_perm _).mem_iff,List.mem_append,List.mem_singleton,hg.keys];exact Or.comm)
 have HM:=hid hm;obtain⟨i0,hi0,hz0,hz1,hz2⟩:=info_parts infoInt;have HZ:=hid hz0;have HZ1:=hid hz1;have HZ2:=hid hz2;have HI0:=hid hi0;clear hz0 hz1 hz2 hi0 hm hg hx hn h64 hle;go_enter func240,ntmps240;go_wp2_with fail;refine hC.out.mono ?_;rintro ee w3 ⟨rfl,hb3⟩;have BB:=B0.gr hb3;have HBR:=hid (B1.gr hb3);have G3:=hid (g0.trans hb3);have f0:=(BB.at_ (k:=0) rfl).1;have f1:=(BB.at_ (k:=1) rfl).1;have kC:=hid (keysFn_is (r:=r) (c:=c) (HM.out.gr G3.out) (by omega));clear hC B0 B1 BB hb3 g0;go_wp2_with fail;refine kC.out.mono ?_;rintro e w4 ⟨C,k,rfl,own4,hb4⟩;have O4:=hid own4;have G4:=hid hb4;clear kC own4 hb4 f0 f1;go_wp2_with (at_builtin;refine Mark.stop ?_);refine Mark.go ?_;refine wpList_append_omem _ (Value.int .i64) B64 rfl (.tmp 30) (.tmp 32) 23 rfl (λ _=>rfl) w3.heap.size 3 i0 (.int .i64 0) 8 underlying23 HI0.out HZ.out HZ1.out HZ2.out rfl C n k _ rfl (O4.out.gr ((zr _).al _)) _ 1 1 [x] rfl (emem_one _ x hxB _) (by unfold maxLen;omega) (by omega) (G4.out.al _).size ?_;intro C5 k5 w5 own5 gb5;have G5:=hid ((G4.out.al (.cells #[.int .i64 x] 3)).gb gb5 (λ k hk=>(O4.out.lt k hk).1));have gC:=hid (grow_is own5 (by omega) HLn.out HLk.out (Nat.le_refl _) G5.out);clear gb5 own5;go_wp2_with fail;refine gC.out.mono ?_;rintro e w6 ⟨r',g,l',t',rfl,hm6,hg6,hi6,hb6,hge⟩;have BR:=HBR.out.gr hb6;obtain⟨p0,z0⟩:=BR.at_ (k:=0) rfl;obtain⟨p1,z1⟩:=BR.at_ (k:=1) rfl;have hlt:=HBR.out.lt;have BF:=(BR.set 0 (.int .i64 r')).set 1 (.slice (some ⟨g,0,none⟩) (n+1) (n+1));have GW:=((G3.out.trans hb6).st (p:=⟨w.heap.size+1,0,none⟩) (by show w.heap.size<=w.heap.size+1;omega) (.int .i64 r')).st (p:=⟨w.heap.size+1,1,none⟩) (by show w.heap.size<=w.heap.size+1;omega) (.slice (some ⟨g,0,none⟩) (n+1) (n+1));have NM:NMem ((w6.setCell ⟨w.heap.size+1,0,none⟩ (.int .i64 r')).setCell ⟨w.heap.size+1,1,none⟩ (.slice (some ⟨g,0,none⟩) (n+1) (n+1))) (some ⟨g,0,none⟩) (n+1) l' :=
  hm6.stays (by simp [World.setCell]) λ k hk _=>by
   simp only [Option.map_some,Option.some.injEq] at hk;subst hk;have:w.heap.size+1≠g:=by omega
   simp [World.setCell,Array.getElem?_modify,this]
 rw [hi6.symm] at HLm;have HF:=hid (And.intro BF (And.intro GW (And.intro NM hg6)));have HGE:=hid (show w.heap.size<=g from by have:=G3.out.size;omega);clear gC BR BF GW NM hm6 hg6 hi6 hb6 hge hlt;go_wp2_with fail;obtain⟨BF,GW,NM,hg6⟩:=HF.out;clear p0 z0 p1 z1 HBR HF;generalize (w6.setCell _ _).setCell _ _=WF at BF GW NM ⊢;have q0:WF.cell? ⟨w.heap.size+1,0,none⟩=some (.int .i64 r'):=(BF.at_ (k:=0) rfl).1;have q1:WF.cell? ⟨w.heap.size+1,1,none⟩=some (.slice (some ⟨g,0,none⟩) (n+1) (n+1)):=(BF.at_ (k:=1) rfl).1;exact bodyPost_ret (v:=.tuple #[.agg #[.int .i64 r',.slice (some ⟨g,0,none⟩) (n+1) (n+1)],.int .i64 0]) (by simp [results,results240,go_sem,q0,q1]) rfl ⟨r',g,l',t',rfl,NM,hg6,HLm.out,GW,HGE.out⟩
end
end
section
def NextR (l:List Nd) (r x d e:Int):Prop:=(¬ IsKey x/\d=0/\e=1)\/(IsKey x/\(¬ ∃ t,Good l r t)/\d=0/\e=1) \/
 (IsKey x/\∃ t,Good l r t/\((t.inord.find? (λ k=>decide (x<=k))=none/\d=0/\e=4)\/(t.inord.find? (λ k=>decide (x<=k))=some d/\e=0)))
section
variable {w0 W:World} {r:Int} {A:Option Addr} {n c tb kb sb:Nat} {x v:Int} {l:List Nd} {t:T}
theorem Next_is (hm:NMem w0 A n l) {d e:Int} (h:NextR l r x d e) :
 Calls prog 229 #[.agg #[.int .i64 r,.slice A n c],.int .i64 x] w0 λ ee w'=>ee=.returned (.tuple #[.int .i64 d,.int .i64 e])/\Gr w0 w':=by
 have g0:=((zr w0).al (.cells #[.int .i64 r,.slice A n c] 281)).al (.cells #[.int .i64 x] 3);have hP:=λ W=>Pri_is x W
 obtain⟨p,hp⟩:∃ p,prf x=p:=⟨_,rfl⟩;rw [hp] at hP;have KP:=hid hP;have hpr:=pri_range x;rcases h with ⟨h1,rfl,rfl⟩ | ⟨h1,h2,rfl,rfl⟩ | ⟨h1,t,hg,hcase⟩
 . have hp0:p<0:=by rw [<- hp,prf_no h1];decide
   clear hP hp;go_enter func229,ntmps229;go_wp2_with fail;refine (KP.out _).mono ?_;rintro e w1 ⟨rfl,rfl⟩;go_wp2_with fail;go_ret2;exact⟨rfl,g0⟩
 . have hp0:¬ p<0:=by rw [<- hp,prf_key h1];omega
   have hC:=hid (Right_is (c:=c) (hm.gr g0) (v:=false) (r:=r) ⟨λ h=>(by cases h),λ h=>absurd h h2⟩);clear hP hp h2;go_enter func229,ntmps229;go_wp2_with fail;refine (KP.out _).mono ?_;rintro e w1 ⟨rfl,rfl⟩;go_wp2_with fail;refine hC.out.mono ?_;rintro e w1 ⟨rfl,hb1⟩;go_wp2_with fail;go_ret2;exact⟨rfl,g0.trans hb1⟩
 . have hp0:¬ p<0:=by rw [<- hp,prf_key h1];omega
   have hC:=hid (Right_is (c:=c) (hm.gr g0) (v:=true) (r:=r) ⟨λ _=>⟨t,hg⟩,λ _=>rfl⟩);have B0:=(Blk.new w0 #[.int .i64 r,.slice A n c] 281).al (.cells #[.int .i64 x] 3);have B1:=Blk.new (w0.alloc (.cells #[.int .i64 r,.slice A n c] 281)) #[.int .i64 x] 3;have HM:=hid hm;have HG:=hid hg;have HC:=hid hcase;have hsz:w0.heap.size+2=((w0.alloc (.cells #[.int .i64 r,.slice A n c] 281)).alloc (.cells #[.int .i64 x] 3)).heap.size:=by simp
   simp only [zsA] at B1;clear hP hp hm hg hcase;go_enter func229,ntmps229;go_wp2_with fail;refine (KP.out _).mono ?_;rintro e w1 ⟨rfl,rfl⟩;go_wp2_with fail;refine hC.out.mono ?_;rintro e w2 ⟨rfl,hb1⟩;have hFW:FW w0 r A n c w0.heap.size (w0.heap.size+1) w2.heap.size x (-1) (w2.alloc (.cells #[.int .i64 (-1)] 3)):=by
    have:=hb1.size;exact⟨(g0.trans hb1).al _,(B0.gr hb1).al _,(B1.gr hb1).al _,Blk.new _ _ _,by omega,by omega,by omega⟩
   obtain⟨pb,po,hway⟩:=next_way HM.out HG.out hFW;rw [nx_find HG.out.2.2.2.1] at hway;have KW:=hid hway;clear hway hsz;rcases HC.out with ⟨m,rfl,rfl⟩ | ⟨m,rfl⟩
   . rw [m] at KW
     clear HC m;go_wp2_with fail;refine KW.out.mono ?_;rintro e w3 ⟨rfl,hF⟩;have f0:w3.cell? ⟨w2.heap.size,0,none⟩=some (.int .i64 (-1)):=(hF.b2.at_ (k:=0) rfl).1;have GF:=hid hF.gr;clear hF KW hFW;go_wp2_with fail;go_ret2;exact⟨rfl,GF.out⟩
   . rw [m] at KW
     have hd:¬ d<0:=by
      have:=(HG.out.isKey (List.mem_of_find?_eq_some m)).1;omega
     clear HC m;go_wp2_with fail;refine KW.out.mono ?_;rintro e w3 ⟨rfl,hF⟩;have f0:w3.cell? ⟨w2.heap.size,0,none⟩=some (.int .i64 d):=(hF.b2.at_ (k:=0) rfl).1;have GF:=hid hF.gr;clear hF KW hFW;go_wp2_with fail;go_ret2;exact⟨rfl,GF.out⟩
end
end
section
theorem good_nil:Good [] (-1) .nil:=⟨rfl,rfl,by simp,trivial,trivial⟩
def Holds (base:Nat) (w:World) (tb:Nat) (K:List Int):Prop :=
 ∃ r A n c l t,Blk w tb #[.int .i64 r,.slice A n c] 281/\NMem w A n l/\Good l r t/\t.inord=K/\∀ k,A.map (·.block)=some k->base<k/\k≠tb
theorem Holds.gr {base:Nat} {w w':World} {tb:Nat} {K:List Int} (h:Holds base w tb K) (g:Gr w w'):Holds base w' tb K:=by
 obtain⟨r,A,n,c,l,t,h1,h2,h3,h4,h5⟩:=h;exact⟨r,A,n,c,l,t,h1.gr g,h2.gr g,h3,h4,h5⟩
theorem und_new {L:List SV} {k:Nat} {x:SV} (h:TOk L) (hx:L[k]?=some x):x.addr ∉ und (L.take k) (rt x.addr):=λ hm=>by
 obtain⟨y,hy,e,_⟩:=mem_und.1 hm;obtain⟨j,hj⟩:=List.mem_iff_getElem?.1 hy;rw [List.getElem?_take] at hj
 split at hj
 . have:=h.at_ (by assumption) hj hx
   rw [e] at this;exact this.irrefl
 . cases hj
section
variable {w:World} {A:Option Addr} {n c:Nat} {L:List SV}
theorem grown_is (hm:SMem w A n L) (ht:Tab L) (r:Int) :
 Calls prog 230 #[.slice A n c,.int .i64 r] w λ e w' =>
  ∃ r' A' n' c' l t,e=.returned (.agg #[.int .i64 r',.slice A' n' c'])/\NMem w' A' n' l/\Good l r' t/\t.inord=und L r/\Gr w w':=by
 have hlen:=hm.1;have HM:=hid hm;have HT:=hid ht;have hn:n<=64:=by have:=ht.1;omega
 have g0:=(zr w).al (.cells #[.int .i64 0,.slice none 0 0] 281);have B0:=Blk.new w #[.int .i64 0,.slice none 0 0] 281;clear hm ht;go_enter func230,ntmps230;go_wp2_with fail;refine (New_is _).mono ?_;rintro e w1 ⟨rfl,hb1⟩;have G1:=g0.trans hb1;have BR:=B0.gr hb1;have BT:=Blk.new w1 #[.int .i64 (-1),.slice none 0 0] 281;have HH:=hid (show Holds w.heap.size (w1.alloc (.cells #[.int .i64 (-1),.slice none 0 0] 281)) w1.heap.size (und (L.take 0) r) from ⟨-1,none,0,0,[],.nil,BT,NMem.nil_,good_nil,by simp [und,T.inord],λ k hk=>by cases hk⟩);have HG:=hid (G1.al (.cells #[.int .i64 (-1),.slice none 0 0] 281));have HR:=hid (BR.al (.cells #[.int .i64 (-1),.slice none 0 0] 281));have hlt:=BR.lt;have hw:=G1.size;clear g0 B0 hb1 G1 BR BT;obtain⟨tb,htb⟩:∃ tb,w1.heap.size=tb:=⟨_,rfl⟩;have hge:w.heap.size<tb:=by omega
 go_wp2_with fail;rw [htb] at HH;clear htb hlt hw
 go_loopw [13] (λ i wr=>∃ k:Nat,k<=n/\i=.int .i64 (k:Int)/\Hid (Holds w.heap.size wr tb (und (L.take k) r))/\Hid (Gr w wr)/\Hid (Blk wr w.heap.size #[.int .i64 0,.slice none 0 0] 281)) (λ i _=>n-(intOf i).toNat)
 case atStart=>exact⟨0,Nat.zero_le _,rfl,HH,HG,HR⟩
 case round =>
  clear HH HG HR;obtain⟨k,hk,rfl,HH,HG,HR⟩:=hrel;by_cases hlt:k<n
  . obtain⟨b,off,x,rfl,hbl,hx,hok,d0,d1,d2⟩:=(HM.out.gr HG.out).at_ hlt
    have HX:=hid hx;have k0:(0:Int)<=(k:Int):=by omega
    have k1:(k:Int)<(n:Int):=by omega
    have hkey:=Tab.key HT.out.2 (zmo hx);have C1:=hid (λ W=>Root_is x.addr W);rw [rf_key hkey,re_key hkey] at C1;have hak:=hid hkey;have g1:=hid ((zr wr).al (.cells #[.int .i64 x.addr,.int .i64 x.cnt,.slice x.A x.n x.c] 91));have BX:=Blk.new wr #[.int .i64 x.addr,.int .i64 x.cnt,.slice x.A x.n x.c] 91;have HBX:=hid BX;clear hx hok hkey;go_wp2_with fail;refine (C1.out _).mono ?_;rintro e w2 ⟨rfl,rfl⟩;by_cases hr:rt x.addr=r
    . subst hr
      obtain⟨r0,A0,n0,c0,l0,t0,HB0,HN0,HG0,HI0,HA0⟩:=HH.out.gr g1.out;have hu:Hid (und (L.take (k+1)) (rt x.addr)=und (L.take k) (rt x.addr)++[x.addr]):=hid (by rw [take_snoc HX.out,und_snoc_hit rfl]);have hnew:x.addr ∉ t0.inord:=by rw [HI0];exact und_new HT.out.2 HX.out
      have h64:l0.length≠64:=by
       have e1:t0.inord.length=l0.length:=by rw [T.inord_len,HG0.2.1]
       have e2:=und_len (L.take k) (rt x.addr);rw [<- HI0,List.length_take] at e2;omega
      have hC:=hid (Put_ok (c:=c0) HN0 HG0 hak.out hnew h64);have HI:=hid HI0;have HBB:=hid HB0;have G2:=hid (HG.out.trans g1.out);have R2:=hid (HR.out.gr g1.out);have f0:=(HB0.at_ (k:=0) rfl).1;have f1:=(HB0.at_ (k:=1) rfl).1;have htl:=HB0.lt;have s1:=hnew;clear C1 HB0 HN0 HG0 HI0 HA0 hnew h64 s1 HH;have bx0:=(BX.at_ (k:=0) rfl).1;clear BX;go_wp2_with fail;refine hC.out.mono ?_;rintro e w3 ⟨r3,g3,l3,t3,rfl,hm3,hg3,hk3,hb3,hge3⟩;have BT3:=HBB.out.gr hb3;obtain⟨p0,z0⟩:=BT3.at_ (k:=0) rfl;obtain⟨p1,z1⟩:=BT3.at_ (k:=1) rfl;have hne3:g3≠tb:=by omega
      have hi3:t3.inord=und (L.take (k+1)) (rt x.addr):=by
       refine rising_ext hg3.2.2.2.1.rising (und_rising (HT.out.2.take _) _) λ y=>?_
       rw [hk3 y,hu.out,List.mem_append,List.mem_singleton,HI.out];exact⟨λ h=>h.symm,λ h=>h.symm⟩
      have H3:=hid (show Holds w.heap.size ((w3.setCell ⟨tb,0,none⟩ (.int .i64 r3)).setCell ⟨tb,1,none⟩ (.slice (some ⟨g3,0,none⟩) (n0+1) (n0+1))) tb (und (L.take (k+1)) (rt x.addr)) from
       ⟨r3,some ⟨g3,0,none⟩,n0+1,n0+1,l3,t3,(BT3.set 0 (.int .i64 r3)).set 1 (.slice (some ⟨g3,0,none⟩) (n0+1) (n0+1)),hm3.stays (by simp [World.setCell]) (λ k hk _=>by
         cases hk;exact (Below.heap_setCell _ ⟨tb,1,none⟩ _ g3 hne3).trans (Below.heap_setCell _ ⟨tb,0,none⟩ _ g3 hne3)),hg3,hi3,λ k hk=>by cases hk;exact⟨show w.heap.size<g3 by omega,hne3⟩⟩)
      have G3:=hid (((G2.out.trans hb3).st (p:=⟨tb,0,none⟩) (by show w.heap.size<=tb;omega) (.int .i64 r3)).st (p:=⟨tb,1,none⟩) (by show w.heap.size<=tb;omega) (.slice (some ⟨g3,0,none⟩) (n0+1) (n0+1)));have R3:=hid (((R2.out.gr hb3).st (p:=⟨tb,0,none⟩) (by show tb≠w.heap.size;omega) (.int .i64 r3)).st (p:=⟨tb,1,none⟩) (by show tb≠w.heap.size;omega) (.slice (some ⟨g3,0,none⟩) (n0+1) (n0+1)));clear hm3 hg3 hk3 hb3 hge3 BT3 hi3 hC HBB G2 R2 f0 f1 bx0;go_wp2_with fail;go_roundw
      case rel=>exact⟨k+1,by omega,by go_num,H3,G3,R3⟩
      case measure=>simp [intOf];omega
    . have hne:(rt x.addr==r)=false:=beq_eq_false_iff_ne.2 hr
      have hu:Hid (und (L.take (k+1)) r=und (L.take k) r):=hid (by rw [take_snoc HX.out,und_snoc_miss hr]);have H2:=hid (HH.out.gr g1.out);have G2:=hid (HG.out.trans g1.out);have R2:=hid (HR.out.gr g1.out);clear BX C1;go_wp2_with fail;go_roundw
      case rel=>exact⟨k+1,by omega,by go_num,hid (by rw [hu.out];exact H2.out),G2,R2⟩
      case measure=>simp [intOf];omega
  . obtain rfl:k=n:=by omega
    obtain⟨r0,A0,n0,c0,l0,t0,HB0,HN0,HG0,HI0,HA0⟩:=HH.out;rw [<- hlen,List.take_length] at HI0;have f0:=(HB0.at_ (k:=0) rfl).1;have f1:=(HB0.at_ (k:=1) rfl).1;have BR:=HR.out;obtain⟨p0,z0⟩:=BR.at_ (k:=0) rfl;obtain⟨p1,z1⟩:=BR.at_ (k:=1) rfl;have HBF:=hid ((BR.set 0 (.int .i64 r0)).set 1 (.slice A0 n0 c0));have HGF:=hid ((HG.out.st (p:=⟨w.heap.size,0,none⟩) (Nat.le_refl _) (.int .i64 r0)).st (p:=⟨w.heap.size,1,none⟩) (Nat.le_refl _) (.slice A0 n0 c0));have HNF:=hid (show NMem ((wr.setCell ⟨w.heap.size,0,none⟩ (.int .i64 r0)).setCell ⟨w.heap.size,1,none⟩ (.slice A0 n0 c0)) A0 n0 l0 from HN0.stays (by simp [World.setCell]) (λ k hk _=>by
     have hne:=(HA0 k hk).1;exact (Below.heap_setCell _ ⟨w.heap.size,1,none⟩ _ k (by show k≠w.heap.size;omega)).trans (Below.heap_setCell _ ⟨w.heap.size,0,none⟩ _ k (by show k≠w.heap.size;omega))))
    have HGG:=hid HG0;have HII:=hid HI0;clear HN0 HG0 HI0 BR HH HG HB0 HR HA0;go_wp2_with fail;have BF:=HBF.out;have GF:=HGF.out;have NF:=HNF.out;clear f0 f1 p0 z0 p1 z1 HBF HGF HNF;generalize (wr.setCell _ _).setCell _ _=WF at BF GF NF ⊢;have q0:WF.cell? ⟨w.heap.size,0,none⟩=some (.int .i64 r0):=(BF.at_ (k:=0) rfl).1;have q1:WF.cell? ⟨w.heap.size,1,none⟩=some (.slice A0 n0 c0):=(BF.at_ (k:=1) rfl).1;exact bodyPost_ret (v:=.agg #[.int .i64 r0,.slice A0 n0 c0]) (by simp [results,results230,go_sem,q0,q1]) rfl ⟨r0,A0,n0,c0,l0,t0,rfl,NF,HGG.out,HII.out,GF⟩
theorem find_at {L:List SV} {a d:Int} {k:Nat} {x:SV} (h:TOk L) (hf:(und L (rt a)).find? (λ q=>decide (a<=q))=some d) (hx:L[k]?=some x) (hd:x.addr=d) (hk:∀ j y,j<k->L[j]?=some y->y.addr≠d/\rt y.addr<=rt a) :
 plc L a=k/\(d=a↔Has L a):=by
 have h1:=List.find?_some hf;rw [decide_eq_true_eq] at h1;have hdm:=List.mem_of_find?_eq_some hf;obtain⟨z,hz,hz1,hz2⟩:=mem_und.1 hdm;have hfirst:∀ q,q∈und L (rt a)->a<=q->d<=q:=by
  have hr:=und_rising h (rt a);intro q hq haq;obtain⟨u,v,huv,hnone⟩:=List.find?_eq_some_iff_append.1 hf |>.2;rw [huv] at hq hr;rcases List.mem_append.1 hq with hq | hq
  . have:=hnone q hq
    simp at this;omega
  . rcases List.mem_cons.1 hq with e | hq
    . omega
    . unfold Rising at hr
      rw [List.pairwise_append] at hr;have:=(List.pairwise_cons.1 hr.2.1).1 q hq;omega
 have hp:plc L a=k:=plc_at h hx (λ hc=>by rw [hd] at hc;unfold Lt at hc;omega) λ p y hp hy=>by
  obtain⟨e1,e2⟩:=hk p y (by omega) hy;have e3:=h.at_ (show p<k by omega) hy hx;unfold Lt at e3 ⊢;rw [hd] at e3;by_cases hq:rt y.addr=rt a
  . have:y.addr∈und L (rt a):=mem_und.2 ⟨y,zmo hy,rfl,hq⟩
    have:=hfirst y.addr this;omega
  . omega
 refine⟨hp,?_⟩;rw [has_iff h,hp];constructor
 . intro e;exact⟨x,hx,hd.trans e⟩
 . rintro⟨y,hy,e⟩
   rw [hx] at hy;cases hy;exact hd.symm.trans e
theorem find_far {L:List SV} {a:Int} {k:Nat} {x:SV} (h:TOk L) (hx:L[k]?=some x) (hr:rt a<rt x.addr) (hk:∀ j y,j<k->L[j]?=some y->rt y.addr<=rt a)
 (hn:∀ d,(und L (rt a)).find? (λ q=>decide (a<=q))=some d->∀ j y,j<k->L[j]?=some y->y.addr≠d):plc L a=k/\¬ Has L a:=by
 have hnone:∀ j y,j<k->L[j]?=some y->Lt y.addr a:=by
  intro j y hj hy;have h1:=hk j y hj hy;unfold Lt;by_cases hq:rt y.addr=rt a
  . refine .inr ⟨hq,?_⟩
    apply Classical.byContradiction;intro hc;have hm:y.addr∈und L (rt a):=mem_und.2 ⟨y,zmo hy,rfl,hq⟩
    cases hf:(und L (rt a)).find? (λ q=>decide (a<=q)) with
    | none =>
     have:=List.find?_eq_none.1 hf y.addr hm;simp at this;omega
    | some d =>
     have hdm:=List.mem_of_find?_eq_some hf;obtain⟨z,hz,hz1,hz2⟩:=mem_und.1 hdm;obtain⟨i,hi⟩:=List.mem_iff_getElem?.1 hz;have hik:i<k:=by
      rcases Nat.lt_trichotomy i k with g | g | g
      . exact g
      . subst g;rw [hx] at hi;cases hi;rw [hz1] at hr;omega
      . have:=h.at_ g hx hi
        unfold Lt at this;rw [hz1] at this;omega
     exact hn d hf i z hik hi hz1
  . omega
 have hp:plc L a=k:=plc_at h hx (λ hc=>by unfold Lt at hc;omega) λ p y hp hy=>hnone p y (by omega) hy
 refine⟨hp,λ hh=>?_⟩;obtain⟨y,hy,e⟩:=(has_iff h a).1 hh;rw [hp,hx] at hy;cases hy;rw [e] at hr;omega
theorem find_end {L:List SV} {a:Int} (h:TOk L) (hk:∀ y∈L,rt y.addr<=rt a)
 (hn:∀ d,(und L (rt a)).find? (λ q=>decide (a<=q))=some d->∀ y∈L,y.addr≠d):plc L a=L.length/\¬ Has L a:=by
 have hnone:∀ y∈L,Lt y.addr a:=by
  intro y hy;have h1:=hk y hy;unfold Lt;by_cases hq:rt y.addr=rt a
  . refine .inr ⟨hq,?_⟩
    apply Classical.byContradiction;intro hc;have hm:y.addr∈und L (rt a):=mem_und.2 ⟨y,hy,rfl,hq⟩
    cases hf:(und L (rt a)).find? (λ q=>decide (a<=q)) with
    | none =>
     have:=List.find?_eq_none.1 hf y.addr hm;simp at this;omega
    | some d =>
     have hdm:=List.mem_of_find?_eq_some hf;obtain⟨z,hz,hz1,hz2⟩:=mem_und.1 hdm;exact hn d hf z hz hz1
  . omega
 refine⟨plc_end h hnone,?_⟩;rintro⟨y,hy,rfl⟩;exact (hnone y hy).irrefl
end
end
section
section
variable {w:World} {A:Option Addr} {n c:Nat} {L:List SV}
theorem rfind_is (hm:SMem w A n L) (ht:Tab L) {a:Int} (ha:IsKey a) {v:Bool} (hv:v=true↔Has L a) :
 Calls prog 221 #[.slice A n c,.int .i64 a] w λ e w'=>e=.returned (.tuple #[.int .i64 (plc L a:Int),.bool v])/\Gr w w':=by
 have hlen:=hm.1;have HM:=hid hm;have HT:=hid ht;have HV:=hid hv;have HA:=hid ha;have hn:n<=64:=by have:=ht.1;omega
 have C1:=hid (λ W=>Root_is a W);rw [rf_key ha,re_key ha] at C1;have CG:=hid (grown_is (c:=c) hm ht (rt a));clear hm ht hv ha;go_enter func221,ntmps221;go_wp2_with fail;refine (C1.out _).mono ?_;rintro e w1 ⟨rfl,hw1⟩;obtain rfl:w=w1:=hw1.symm;go_wp2_with fail;refine CG.out.mono ?_;rintro e w2 ⟨r',A',n',c',l,t,rfl,hN,hG,hI,hb2⟩;obtain⟨d,e,hR,hE⟩:∃ d e,NextR l r' a d e/\((e=0/\(und L (rt a)).find? (λ q=>decide (a<=q))=some d)\/(e=4/\(und L (rt a)).find? (λ q=>decide (a<=q))=none)):=by
  rw [<- hI]
  cases hf:t.inord.find? (λ q=>decide (a<=q)) with
  | some d=>exact⟨d,0,.inr (.inr ⟨HA.out,t,hG,.inr ⟨hf,rfl⟩⟩),.inl ⟨rfl,rfl⟩⟩
  | none=>exact⟨0,4,.inr (.inr ⟨HA.out,t,hG,.inl ⟨hf,rfl,rfl⟩⟩),.inr ⟨rfl,rfl⟩⟩
 have CN:=hid (Next_is (c:=c') hN hR);have HE:=hid hE;have G2:=hid hb2;clear hN hG hI hR hE hb2 CG C1;go_wp2_with fail;refine CN.out.mono ?_;rintro ee w3 ⟨rfl,hb3⟩;have G3:=hid (G2.out.trans hb3);clear hb3 CN;go_wp2_with fail
 go_loopw [29] (λ i wr=>∃ k:Nat,k<=n/\i=.int .i64 (k:Int)/\Hid (∀ j y,j<k->L[j]?=some y->rt y.addr<=rt a/\(e=0->y.addr≠d))/\Hid (Gr w wr)) (λ i _=>n-(intOf i).toNat)
 case atStart=>exact⟨0,Nat.zero_le _,rfl,hid (λ j y hj=>absurd hj (by omega)),G3⟩
 case round =>
  clear G3 G2;obtain⟨k,hk,rfl,HP,HG⟩:=hrel;by_cases hlt:k<n
  . obtain⟨b,off,x,rfl,hbl,hx,hok,d0,d1,d2⟩:=(HM.out.gr HG.out).at_ hlt
    have HX:=hid hx;have k0:(0:Int)<=(k:Int):=by omega
    have k1:(k:Int)<(n:Int):=by omega
    have hkey:=Tab.key HT.out.2 (zmo hx);have C1:=hid (λ W=>Root_is x.addr W);rw [rf_key hkey,re_key hkey] at C1;have G1:=hid (HG.out.al (.cells #[.int .i64 x.addr,.int .i64 x.cnt,.slice x.A x.n x.c] 91));clear hx hok hkey;by_cases hhit:e=0/\x.addr=d
    . obtain⟨rfl,hxd⟩:=hhit
      have hf:=(HE.out.resolve_right (λ h=>absurd h.1 (by decide))).2;obtain⟨hp,hh⟩:=find_at HT.out.2 hf HX.out hxd (λ j y hj hy=>⟨(HP.out j y hj hy).2 rfl,(HP.out j y hj hy).1⟩);have hvd:v=(d==a):=by
       rw [Bool.eq_iff_iff,HV.out,<- hh,beq_iff_eq]
      have HPL:=hid hp;subst hxd;clear hp hh hf C1 HV;subst hvd;go_wp2_with fail;go_ret2;exact⟨by rw [HPL.out];first | done | rfl,G1.out⟩
    . have hP1:∀ y,y=x->(e=0->y.addr≠d):=λ y hy he hc=>hhit ⟨he,hy▸hc⟩
      by_cases hfar:rt a<rt x.addr
      . obtain⟨hp,hh⟩:=find_far HT.out.2 HX.out hfar (λ j y hj hy=>(HP.out j y hj hy).1) (λ d' hd' j y hj hy=>by
         rcases HE.out with ⟨he,h⟩ | ⟨he,h⟩
         . rw [h] at hd';cases hd';exact (HP.out j y hj hy).2 he
         . rw [h] at hd';cases hd')
        have HPL:=hid hp;obtain rfl:v=false:=by
         cases v
         . rfl
         . exact absurd (HV.out.1 rfl) hh
        clear hp hh HV;generalize rt x.addr=q at *;rcases HE.out with ⟨rfl,_⟩ | ⟨rfl,_⟩
        . have hne:(x.addr==d)=false:=beq_eq_false_iff_ne.2 (hP1 x rfl rfl)
          clear hP1 hhit;go_wp2_with fail;refine (C1.out _).mono ?_;rintro ee w5 ⟨rfl,rfl⟩;go_wp2_with fail;go_ret2;exact⟨by rw [HPL.out];first | done | rfl,G1.out⟩
        . clear hP1 hhit
          go_wp2_with fail;refine (C1.out _).mono ?_;rintro ee w5 ⟨rfl,rfl⟩;go_wp2_with fail;go_ret2;exact⟨by rw [HPL.out];first | done | rfl,G1.out⟩
      . have HP':Hid (∀ j y,j<k+1->L[j]?=some y->rt y.addr<=rt a/\(e=0->y.addr≠d)):=hid λ j y hj hy=>by
         by_cases hjk:j<k
         . exact HP.out j y hjk hy
         . obtain rfl:j=k:=by omega
           rw [HX.out] at hy;cases hy;exact⟨by omega,hP1 x rfl⟩
        generalize rt x.addr=q at *;rcases HE.out with ⟨rfl,_⟩ | ⟨rfl,_⟩
        . have hne:(x.addr==d)=false:=beq_eq_false_iff_ne.2 (hP1 x rfl rfl)
          clear hP1 hhit;go_wp2_with fail;refine (C1.out _).mono ?_;rintro ee w5 ⟨rfl,rfl⟩;go_wp2_with fail;go_roundw
          case rel=>exact⟨k+1,by omega,by go_num,HP',G1⟩
          case measure=>simp [intOf];omega
        . clear hP1 hhit
          go_wp2_with fail;refine (C1.out _).mono ?_;rintro ee w5 ⟨rfl,rfl⟩;go_wp2_with fail;go_roundw
          case rel=>exact⟨k+1,by omega,by go_num,HP',G1⟩
          case measure=>simp [intOf];omega
  . obtain rfl:k=n:=by omega
    obtain⟨hp,hh⟩:=find_end HT.out.2 (λ y hy=>by
     obtain⟨j,hj⟩:=List.mem_iff_getElem?.1 hy;exact (HP.out j y (by have:=(zgl hj);omega) hj).1) (λ d' hd' y hy=>by
     obtain⟨j,hj⟩:=List.mem_iff_getElem?.1 hy;rcases HE.out with ⟨he,h⟩ | ⟨he,h⟩
     . rw [h] at hd';cases hd';exact (HP.out j y (by have:=(zgl hj);omega) hj).2 he
     . rw [h] at hd';cases hd')
    obtain rfl:v=false:=by
     cases v
     . rfl
     . exact absurd (HV.out.1 rfl) hh
    have HPL:=hid (hp.trans hlen);clear hp hh HV;go_wp2_with fail;go_ret2;exact⟨by rw [HPL.out];first | done | rfl,HG.out⟩
end
end
section
structure Kp3 (B:Nat) (X Y:World):Prop where
 below:Below B X Y
 three:∀ (k:Nat) (cs:Array Value) (t:TypeId),Blk X k cs t->cs.size=3->Blk Y k cs t
theorem Kp3.t {B:Nat} {X Y Z:World} (h:Kp3 B X Y) (k:Kp3 B Y Z):Kp3 B X Z:=⟨h.below.trans k.below,λ i cs t hi hs=>k.three i cs t (h.three i cs t hi hs) hs⟩
theorem Kp3.b {B:Nat} {w:World} (hn:B<=w.heap.size) (W:World) (l:Nat) (o o':Obj) (hl:w.heap.size<=l) (h:W.heap[l]?=some o) (hc:o.isCells=false) (hw:o.isWalk=false):Kp3 B W (W.putObj l o') :=
 ⟨belowK_b hn W l o o' hl h hc hw,λ k cs t hk _=>by
   have hne:k≠l:=λ e=>by
    subst e;have h1:W.heap[k]?=some (.cells cs t (0,0)):=hk;rw [h] at h1;cases h1;cases hc
   show (W.putObj l o').heap[k]?=_;rw [World.putObj_heap_other (by omega)];exact hk⟩
abbrev SVk (w0:World):={ x:SV // x.ok w0/\x.line.length<=64 }
theorem abides_gr {β:Type} {B:Nat} {J:β->World->Prop} (h:AbidesFrom B J) {s:β} {X Y:World} (hs:J s X) (g:Gr X Y):J s Y :=
 h s X Y none hs ⟨g.os,g.tape,g.output,g.size,λ k hk _=>g.block k hk⟩ (λ r e=>by cases e)
structure Three (w0:World) (LB LS:Nat) (A:Option Addr) (p q n c:Nat) (A2:Option Addr) (s:SV) (W:World):Prop where
 gr:Gr w0 W
 b:Blk W LB #[.slice A p c,.slice (some ⟨LS,0,none⟩) 1 1,.slice A2 (n-q) (c-q)] 26
 s:Blk W LS #[.int .i64 s.addr,.int .i64 s.cnt,.slice s.A s.n s.c] 91
section
variable {w0 W W':World} {LB LS p q n c:Nat} {A A2:Option Addr} {s:SV}
theorem Three.gr' (h:Three w0 LB LS A p q n c A2 s W) (g:Gr W W'):Three w0 LB LS A p q n c A2 s W':=⟨h.gr.trans g,h.b.gr g,h.s.gr g⟩
theorem Three.kp (h:Three w0 LB LS A p q n c A2 s W) (g:Kp3 w0.heap.size W W'):Three w0 LB LS A p q n c A2 s W':=⟨Below.trans h.gr g.below,g.three _ _ _ h.b rfl,g.three _ _ _ h.s rfl⟩
end
theorem sv_one {W w0:World} {s:SV} {LS:Nat} (hg:Gr w0 W) (hb:Blk W LS #[.int .i64 s.addr,.int .i64 s.cnt,.slice s.A s.n s.c] 91) (hs:s.ok w0):SMem W (some ⟨LS,0,none⟩) 1 [s] :=
 ⟨rfl,λ x hx=>by rw [List.mem_singleton] at hx;subst hx;exact hs.gr hg,λ _=>⟨LS,0,rfl,hb.lt,λ j x hj=>by
   match j,hj with
   | 0,hj =>
    simp at hj;subst hj;exact⟨(hb.at_ (k:=0) rfl).1,(hb.at_ (k:=1) rfl).1,(hb.at_ (k:=2) rfl).1⟩⟩⟩
theorem three_parts {w0:World} {A A2:Option Addr} {n c p q LB LS:Nat} {L:List SV} {s:SV} (hm:SMem w0 A n L) (hnc:n<=c) (hs:s.ok w0) (hp:p<=n) (hq:q<=n) (hA2:(if c=q then A else A.map (·.add (q*3)))=A2)
 {xs:List (SVk w0)} (hxs:xs.map Subtype.val=L.take p++[s]++L.drop q) :
 ∃ st:Nat->Nat,st 0=0/\st 3=xs.length/\∀ k,k<3->∃ (Ak:Option Addr) (nk ck:Nat) (lk:List SV),(∀ W,Three w0 LB LS A p q n c A2 s W->W.cell? ⟨LB,k,none⟩=some (.slice Ak nk ck)/\LB<W.heap.size/\SMem W Ak nk lk)/\nk<=n+1/\st (k+1)=st k+nk /\
  ∀ j y,lk[j]?=some y->∃ x:SVk w0,xs[st k+j]?=some x/\x.1=y:=by
 have hlen:=hm.1;have hxl:xs.length=p+1+(n-q):=by
  have:=congrArg List.length hxs;simp [hlen] at this;omega
 have get:∀ (i:Nat) (y:SV),(L.take p++[s]++L.drop q)[i]?=some y->∃ x:SVk w0,xs[i]?=some x/\x.1=y:=by
  intro i y hy;rw [<- hxs,List.getElem?_map,Option.map_eq_some_iff] at hy;exact hy
 refine⟨λ k=>match k with | 0=>0 | 1=>p | 2=>p+1 | _=>xs.length,rfl,rfl,λ k hk=>?_⟩
 match k,hk with
 | 0,_ =>
  refine⟨A,p,c,L.take p,λ W h=>⟨(h.b.at_ (k:=0) rfl).1,h.b.lt,(hm.gr h.gr).take_ p hp⟩,by omega,(Nat.zero_add p).symm,λ j y hj=>get _ y ?_⟩;have:=(zgl hj);show (L.take p++[s]++L.drop q)[0+j]?=some y;rw [Nat.zero_add,List.append_assoc,List.getElem?_append_left this];exact hj
 | 1,_ =>
  refine⟨some ⟨LS,0,none⟩,1,1,[s],λ W h=>⟨(h.b.at_ (k:=1) rfl).1,h.b.lt,sv_one h.gr h.s hs⟩,by omega,rfl,λ j y hj=>get _ y ?_⟩
  match j,hj with
  | 0,hj =>
   simp at hj;subst hj;show (L.take p++[s]++L.drop q)[p+0]?=some s;rw [List.append_assoc,List.getElem?_append_right (by rw [List.length_take];omega),List.length_take,hlen,Nat.min_eq_left hp,Nat.add_zero,Nat.sub_self];rfl
 | 2,_ =>
  refine⟨A2,n-q,c-q,L.drop q,λ W h=>⟨(h.b.at_ (k:=2) rfl).1,h.b.lt,hA2▸(hm.gr h.gr).cut q c hq hnc⟩,by omega,hxl,λ j y hj=>get _ y ?_⟩;show (L.take p++[s]++L.drop q)[p+1+j]?=some y;rw [List.getElem?_append_right (by rw [List.length_append,List.length_take];simp;omega),List.length_append,List.length_take,hlen,Nat.min_eq_left hp];rw [show p+1+j-(p+[s].length)=j from by simp];exact hj
theorem inOrder1_in (w0:World) {A:Option Addr} {n c:Nat} {L:List SV} {s:SV} (hm:SMem w0 A n L) (hnc:n<=c) (hcm:c<=9223372036854775807) (ht:Tab L) (hs:SOk s) (hsok:s.ok w0)
 {v:Bool} (hv:v=true↔Has L s.addr) (q:Nat) (hq:q=if v=true then plc L s.addr+1 else plc L s.addr)
 (xs:List (SVk w0)) (hxs:xs.map Subtype.val=L.take (plc L s.addr)++[s]++L.drop q)
 (m:Nat) (hm1:1<=m) (l tb sb:Nat) (J Jx:List (SVk w0)->World->Prop) (W:World) (hW:Gr w0 W)
 (hJ:AbidesFrom W.heap.size J)
 (hY:∀ pre x W1,J pre W1->pre.length<xs.length->YieldAt Fence.wide (m-1) prog l #[.agg #[.int .i64 x.1.addr,.int .i64 x.1.cnt,.slice x.1.A x.1.n x.1.c]] W1 λ e W' =>
   (e=.returned (.bool true)/\J (pre++[x]) W'/\Kp3 w0.heap.size W1 W')\/(e=.returned (.bool false)/\Jx (pre++[x]) W'))
 (hT:Blk W tb #[.slice A n c] 26) (hS:Blk W sb #[.int .i64 s.addr,.int .i64 s.cnt,.slice s.A s.n s.c] 91) (h0:J [] W) :
 CallsIn Fence.wide m prog 231 #[.func (.yield l) #[] #[],.pointer (some ⟨tb,0,none⟩),.pointer (some ⟨sb,0,none⟩)] W λ e W'=>(∃ v,e=.returned v) /\
  ((∃ ys,ys=xs/\J ys W')\/(∃ pre,pre <+: xs/\Jx pre W')):=by
 have CF:=hid (rfind_is (c:=c) (hm.gr hW) ht hs.1 hv);have hlen:=hm.1;have hn64:n<=64:=by have:=ht.1;omega
 have hpl:=plc_le L s.addr;obtain⟨p,hp⟩:∃ p,plc L s.addr=p:=⟨_,rfl⟩;rw [hp] at hxs CF hpl hq;have HJ:=hid hJ;have HY:=hid hY;have HT:=hid hT;have HSB:=hid hS;have t0:=(hT.at_ (k:=0) rfl).1;have s0:=(hS.at_ (k:=0) rfl).1;have s1:=(hS.at_ (k:=1) rfl).1;have s2:=(hS.at_ (k:=2) rfl).1;have tl:=hT.lt;have sl:=hS.lt;clear hY hJ hT hS;refine callsIn_of_wp func231 rfl trivial ?_ rfl;simp only [ntmps231,List.size_toArray,List.length_cons,List.length_nil,Nat.reduceAdd,Nat.reduceSub,Array.replicate_succ,Array.replicate_zero,List.push_toArray,List.append_toArray,List.nil_append,List.cons_append]
 gi_wp2_with fail
 refine⟨trivial,?_⟩;refine (callsIn_wide.2 CF.out).mono ?_;rintro e w1 ⟨rfl,hb1⟩;have G1:=hid (hW.trans hb1);have HJ0:=hid (abides_gr HJ.out h0 hb1);have HT1:=HT.out.gr hb1;have HS1:=HSB.out.gr hb1;have t0':=(HT1.at_ (k:=0) rfl).1;have s0':=(HS1.at_ (k:=0) rfl).1;have s1':=(HS1.at_ (k:=1) rfl).1;have s2':=(HS1.at_ (k:=2) rfl).1;have tl':=HT1.lt;have sl':=HS1.lt;have p0:(0:Int)<=(p:Int):=by omega
 have pc:(p:Int)<=(c:Int):=by omega
 have HV:=hid hv;have HTB:=hid ht;have HSK:=hid hs;have HM:=hid hm;have HSO:=hid hsok;clear t0 s0 s1 s2 tl sl HT HSB h0 CF HT1 HS1 hv ht hs hm hsok
 cases v with
 | true =>
  simp only [if_true] at hq;subst hq;have hpn:p<n:=by
   obtain⟨y,hy,_⟩:=(has_iff HTB.out.2 s.addr).1 (HV.out.1 rfl);rw [hp] at hy;have:=(zgl hy);omega
  have pw:IntKind.i64.wrap ((p:Int)+1)=((p+1:Nat):Int):=by rw [wrap_id (by omega) (by omega)];omega
  have q0:(0:Int)<=((p+1:Nat):Int):=by omega
  have qn:((p+1:Nat):Int)<=(n:Int):=by omega
  obtain⟨q,hq⟩:∃ q,p+1=q:=⟨_,rfl⟩;rw [hq] at hxs pw q0 qn;have HQ:=hid hq;clear hq
  gi_wp2_with fail
  refine wpIn_wide.2 ?_
  go_region
  obtain⟨A2,hA2⟩:∃ A2,(if c=q then A else A.map (·.add (q*3)))=A2:=⟨_,rfl⟩;rw [hA2];have HTH:=hid (show Three w0 (w1.heap.size+1) w1.heap.size A p q n c A2 s ((w1.alloc (.cells #[.int .i64 s.addr,.int .i64 s.cnt,.slice s.A s.n s.c] 91)).alloc (.cells #[.slice A p c,.slice (some ⟨w1.heap.size,0,none⟩) 1 1,.slice A2 (n-q) (c-q)] 26)).drew from
   ⟨((G1.out.al _).al _).dr,by simpa using (Blk.new (w1.alloc (.cells #[.int .i64 s.addr,.int .i64 s.cnt,.slice s.A s.n s.c] 91)) #[.slice A p c,.slice (some ⟨w1.heap.size,0,none⟩) 1 1,.slice A2 (n-q) (c-q)] 26).gr (zr _).dr,((Blk.new w1 #[.int .i64 s.addr,.int .i64 s.cnt,.slice s.A s.n s.c] 91).al _).gr (zr _).dr⟩)
  have HJ1:=hid (abides_gr HJ.out HJ0.out (((zr w1).al (.cells #[.int .i64 s.addr,.int .i64 s.cnt,.slice s.A s.n s.c] 91)).al (.cells #[.slice A p c,.slice (some ⟨w1.heap.size,0,none⟩) 1 1,.slice A2 (n-q) (c-q)] 26)).dr);obtain⟨st,hst0,hst3,hparts⟩:=three_parts (LB:=w1.heap.size+1) (LS:=w1.heap.size) HM.out hnc HSO.out (by omega) (by have:=HQ.out;omega) hA2 hxs;have HP:=hid hparts;have HST0:=hid hst0;have HST3:=hid hst3;clear hparts hst0 hst3 hA2 hxs t0' s0' s1' s2' tl' sl' hb1 HV HTB HSK;generalize ((w1.alloc _).alloc _).drew=w2 at HTH HJ1 ⊢
  gi_wp2_with fail
  gi_loopw [32] (λ i wr=>∃ k:Nat,k<=3/\i=.int .i64 (k:Int)/\Hid (Three w0 (w1.heap.size+1) w1.heap.size A p q n c A2 s wr)/\Hid (J (xs.take (st k)) wr)) (λ i _=>3-(intOf i).toNat)
  case atStart=>exact⟨0,by omega,rfl,HTH,hid (by rw [HST0.out];exact HJ1.out)⟩
  case round =>
   clear HTH HJ1;obtain⟨k,hk,rfl,HTH,HJK⟩:=hrel;by_cases hlt:k<3
   . obtain⟨Ak,nk,ck,lk,hcell,hnk,hst,hget⟩:=HP.out k hlt
     have k0:(0:Int)<=(k:Int):=by omega
     have k1:(k:Int)<3:=by omega
     have cLB:=(hcell _ HTH.out).1;have HC:=hid hcell;have HGET:=hid hget;have HST:=hid hst;clear hcell hget hst
     gi_wp2_with fail
     rename World=>wo
     gi_loopw [38] (λ i wr=>∃ j:Nat,j<=nk/\i=.int .i64 (j:Int)/\Hid (Three w0 (w1.heap.size+1) w1.heap.size A p q n c A2 s wr)/\Hid (J (xs.take (st k+j)) wr)) (λ i _=>nk-(intOf i).toNat)
     case atStart=>exact⟨0,Nat.zero_le _,rfl,HTH,HJK⟩
     case round =>
      clear HTH HJK cLB;obtain⟨j,hj,rfl,HTH,HJK⟩:=hrel;by_cases hjn:j<nk
      . obtain⟨b,off,y,rfl,hbl,hy,hok,d0,d1,d2⟩:=(HC.out _ HTH.out).2.2.at_ hjn
        obtain⟨x,hx,rfl⟩:=HGET.out j y hy;have j0:(0:Int)<=(j:Int):=by omega
        have j1:(j:Int)<(nk:Int):=by omega
        have HX:=hid hx;have g1:=(zr wr).al (.cells #[.int .i64 x.1.addr,.int .i64 x.1.cnt,.slice x.1.A x.1.n x.1.c] 91);have HT1:=hid (HTH.out.gr' g1);obtain⟨fn,tmps,assign,body,hyy,hR⟩:=HY.out (xs.take (st k+j)) x _ (abides_gr HJ.out HJK.out g1) (by have:=(zgl hx);rw [List.length_take];omega);have HRR:=hid hR;clear hy hok hx g1 hR
        gi_wp2_with fail
        refine HRR.out.mono ?_;rintro e W3 (⟨rfl,hJ3,hk3⟩ | ⟨rfl,hJx3⟩)
        . have HT3:=hid (HT1.out.kp hk3)
          have HJ3:=hid (show J (xs.take (st k+(j+1))) W3 from by rw [<- Nat.add_assoc,take_snoc HX.out];exact hJ3);clear hJ3 hk3 hyy HRR
          gi_wp2_with fail
          go_roundw
          case rel=>exact⟨j+1,by omega,by go_num,HT3,HJ3⟩
          case measure=>simp [intOf];omega
        . have HJX:=hid hJx3
          clear hJx3 hyy HRR
          gi_wp2_with fail
          refine bodyPost_ret (results_none rfl _ _ _) rfl ?_;exact⟨⟨_,rfl⟩,.inr ⟨_,by rw [<- take_snoc HX.out];exact List.take_prefix _ _,HJX.out⟩⟩
      . obtain rfl:j=nk:=by omega
        have HJ3:=hid (show J (xs.take (st (k+1))) wr from by rw [HST.out];exact HJK.out)
        gi_wp2_with fail
        go_roundw
        case rel=>exact⟨k+1,by omega,by go_num,HTH,HJ3⟩
        case measure=>simp [intOf];omega
   . obtain rfl:k=3:=by omega
     gi_wp2_with fail
     go_end0
     exact⟨⟨_,rfl⟩,.inl ⟨_,by rw [HST3.out,List.take_length],HJK.out⟩⟩
 | false =>
  simp only [Bool.false_eq_true,if_false] at hq;have q0:(0:Int)<=(q:Int):=by omega
  have qn:(q:Int)<=(n:Int):=by omega
  obtain rfl:p=q:=hq.symm
  gi_wp2_with fail
  refine wpIn_wide.2 ?_
  go_region
  obtain⟨A2,hA2⟩:∃ A2,(if c=p then A else A.map (·.add (p*3)))=A2:=⟨_,rfl⟩;rw [hA2];have HTH:=hid (show Three w0 (w1.heap.size+1) w1.heap.size A p p n c A2 s ((w1.alloc (.cells #[.int .i64 s.addr,.int .i64 s.cnt,.slice s.A s.n s.c] 91)).alloc (.cells #[.slice A p c,.slice (some ⟨w1.heap.size,0,none⟩) 1 1,.slice A2 (n-p) (c-p)] 26)).drew from
   ⟨((G1.out.al _).al _).dr,by simpa using (Blk.new (w1.alloc (.cells #[.int .i64 s.addr,.int .i64 s.cnt,.slice s.A s.n s.c] 91)) #[.slice A p c,.slice (some ⟨w1.heap.size,0,none⟩) 1 1,.slice A2 (n-p) (c-p)] 26).gr (zr _).dr,((Blk.new w1 #[.int .i64 s.addr,.int .i64 s.cnt,.slice s.A s.n s.c] 91).al _).gr (zr _).dr⟩)
  have HJ1:=hid (abides_gr HJ.out HJ0.out (((zr w1).al (.cells #[.int .i64 s.addr,.int .i64 s.cnt,.slice s.A s.n s.c] 91)).al (.cells #[.slice A p c,.slice (some ⟨w1.heap.size,0,none⟩) 1 1,.slice A2 (n-p) (c-p)] 26)).dr);obtain⟨st,hst0,hst3,hparts⟩:=three_parts (LB:=w1.heap.size+1) (LS:=w1.heap.size) HM.out hnc HSO.out (by omega) (by omega) hA2 hxs;have HP:=hid hparts;have HST0:=hid hst0;have HST3:=hid hst3;clear hparts hst0 hst3 hA2 hxs t0' s0' s1' s2' tl' sl' hb1 HV HTB HSK;generalize ((w1.alloc _).alloc _).drew=w2 at HTH HJ1 ⊢
  gi_wp2_with fail
  gi_loopw [32] (λ i wr=>∃ k:Nat,k<=3/\i=.int .i64 (k:Int)/\Hid (Three w0 (w1.heap.size+1) w1.heap.size A p p n c A2 s wr)/\Hid (J (xs.take (st k)) wr)) (λ i _=>3-(intOf i).toNat)
  case atStart=>exact⟨0,by omega,rfl,HTH,hid (by rw [HST0.out];exact HJ1.out)⟩
  case round =>
   clear HTH HJ1;obtain⟨k,hk,rfl,HTH,HJK⟩:=hrel;by_cases hlt:k<3
   . obtain⟨Ak,nk,ck,lk,hcell,hnk,hst,hget⟩:=HP.out k hlt
     have k0:(0:Int)<=(k:Int):=by omega
     have k1:(k:Int)<3:=by omega
     have cLB:=(hcell _ HTH.out).1;have HC:=hid hcell;have HGET:=hid hget;have HST:=hid hst;clear hcell hget hst
     gi_wp2_with fail
     rename World=>wo
     gi_loopw [38] (λ i wr=>∃ j:Nat,j<=nk/\i=.int .i64 (j:Int)/\Hid (Three w0 (w1.heap.size+1) w1.heap.size A p p n c A2 s wr)/\Hid (J (xs.take (st k+j)) wr)) (λ i _=>nk-(intOf i).toNat)
     case atStart=>exact⟨0,Nat.zero_le _,rfl,HTH,HJK⟩
     case round =>
      clear HTH HJK cLB;obtain⟨j,hj,rfl,HTH,HJK⟩:=hrel;by_cases hjn:j<nk
      . obtain⟨b,off,y,rfl,hbl,hy,hok,d0,d1,d2⟩:=(HC.out _ HTH.out).2.2.at_ hjn
        obtain⟨x,hx,rfl⟩:=HGET.out j y hy;have j0:(0:Int)<=(j:Int):=by omega
        have j1:(j:Int)<(nk:Int):=by omega
        have HX:=hid hx;have g1:=(zr wr).al (.cells #[.int .i64 x.1.addr,.int .i64 x.1.cnt,.slice x.1.A x.1.n x.1.c] 91);have HT1:=hid (HTH.out.gr' g1);obtain⟨fn,tmps,assign,body,hyy,hR⟩:=HY.out (xs.take (st k+j)) x _ (abides_gr HJ.out HJK.out g1) (by have:=(zgl hx);rw [List.length_take];omega);have HRR:=hid hR;clear hy hok hx g1 hR
        gi_wp2_with fail
        refine HRR.out.mono ?_;rintro e W3 (⟨rfl,hJ3,hk3⟩ | ⟨rfl,hJx3⟩)
        . have HT3:=hid (HT1.out.kp hk3)
          have HJ3:=hid (show J (xs.take (st k+(j+1))) W3 from by rw [<- Nat.add_assoc,take_snoc HX.out];exact hJ3);clear hJ3 hk3 hyy HRR
          gi_wp2_with fail
          go_roundw
          case rel=>exact⟨j+1,by omega,by go_num,HT3,HJ3⟩
          case measure=>simp [intOf];omega
        . have HJX:=hid hJx3
          clear hJx3 hyy HRR
          gi_wp2_with fail
          refine bodyPost_ret (results_none rfl _ _ _) rfl ?_;exact⟨⟨_,rfl⟩,.inr ⟨_,by rw [<- take_snoc HX.out];exact List.take_prefix _ _,HJX.out⟩⟩
      . obtain rfl:j=nk:=by omega
        have HJ3:=hid (show J (xs.take (st (k+1))) wr from by rw [HST.out];exact HJK.out)
        gi_wp2_with fail
        go_roundw
        case rel=>exact⟨k+1,by omega,by go_num,HTH,HJ3⟩
        case measure=>simp [intOf];omega
   . obtain rfl:k=3:=by omega
     gi_wp2_with fail
     go_end0
     exact⟨⟨_,rfl⟩,.inl ⟨_,by rw [HST3.out,List.take_length],HJK.out⟩⟩
end
theorem imem_kept {W W':World} {row:Option Nat} {A:Option Addr} {n:Nat} {l:List Int} (h:IMem W A n l) (hg:W.grownBy W' row) (hr:∀ k,A.map (·.block)=some k->k<W.heap.size->row≠some k):IMem W' A n l :=
 ⟨h.1,h.2.1,λ hn=>by
   obtain⟨b,off,rfl,hb,hc⟩:=h.2.2 hn;refine⟨b,off,rfl,zlt hb hg.size,λ j x hj=>?_⟩;exact (World.cell?_of_block (a:=⟨b,off+j,none⟩) (hg.block b hb (λ e=>hr b rfl hb e.symm))).trans (hc j x hj)⟩
structure SOwn (W:World) (base:Nat) (v:Value) (R:List SV):Prop where
 row:SRow W base v R.length R
 ok:∀ x∈R,x.ok W
 off:∀ x∈R,∀ k,x.A.map (·.block)=some k->base<=k/\k<W.heap.size/\v.ownBlock≠some k
theorem SOwn.nil (W:World) (base:Nat):SOwn W base (.slice none 0 0) []:=⟨World.ownsRow_nil W base _ 3,by simp,by simp⟩
theorem SOwn.block {W:World} {base:Nat} {v:Value} {R:List SV} (h:SOwn W base v R) {g:Nat} (hg:v.ownBlock=some g):base<=g/\∃ cs,W.heap[g]?=some (.cells cs 91 (0,0)):=by
 rcases h.row.2 with ⟨rfl,_⟩ | ⟨g',cap,cur,rfl,hb,hc,_⟩
 . cases hg
 . simp only [Value.ownBlock] at hg
   cases hg;exact⟨hb,cur,hc⟩
theorem SOwn.kept {W W':World} {base:Nat} {v:Value} {R:List SV} {row:Option Nat} (h:SOwn W base v R) (hg:W.grownBy W' row)
 (hr:∀ r,row=some r->r<base\/W.heap.size<=r\/∃ o:Obj,W.heap[r]?=some o/\o.isCells=false):SOwn W' base v R:=by
 have key:∀ k,base<=k->k<W.heap.size->(∃ v,W.cell? ⟨k,0,none⟩=some v)\/True->True:=λ _ _ _ _=>trivial
 refine⟨h.row.kept hg ?_,λ x hx=>?_,λ x hx k hk=>?_⟩
 . cases hv:v.ownBlock with
   | none=>exact .inl rfl
   | some g =>
    right
    intro e;obtain⟨h1,cs,h2⟩:=h.block hv;rcases hr g e.symm with h3 | h3 | ⟨o,h3,h4⟩
    . omega
    . have:=(zal h2);omega
    . rw [h2] at h3;cases h3;cases h4
 . obtain⟨a1,a2,a3,a4⟩:=h.ok x hx
   refine⟨a1,a2,?_,a4⟩;rcases Nat.eq_zero_or_pos x.n with h0 | h0
   . exact⟨a3.1,a3.2.1,λ hn=>absurd hn (by omega)⟩
   . obtain⟨b,off,he,hb,hc⟩:=a3.2.2 h0
     refine imem_kept a3 hg λ k hk hkl e=>?_
     have hbk:b=k:=by rw [he] at hk;simpa using hk
     subst hbk;rcases hr b e with h3 | h3 | ⟨o,h3,h4⟩
     . have:=(h.off x hx b hk).1;omega
     . omega
     . have hl:0<x.line.length:=by have:=a3.1;omega
       have hcell:=hc 0 x.line[0] (zge hl);obtain⟨o',ho',hc'⟩:=cells_of_cell hcell;rw [show W.heap[b]?=some o' from ho'] at h3;cases h3;rw [h4] at hc';cases hc'
 . obtain⟨h1,h2,h3⟩:=h.off x hx k hk
   exact⟨h1,zlt h2 hg.size,h3⟩
theorem SOwn.gr {W W':World} {base:Nat} {v:Value} {R:List SV} (h:SOwn W base v R) (g:Gr W W'):SOwn W' base v R :=
 h.kept (row:=none) ⟨g.os,g.tape,g.output,g.size,λ k hk _=>g.block k hk⟩ (λ r e=>by cases e)
theorem SOwn.st {W:World} {base:Nat} {v:Value} {R:List SV} (h:SOwn W base v R) {b:Nat} (hb:b<base) (u:Value):SOwn (W.setCell ⟨b,0,none⟩ u) base v R :=
 h.kept (grownBy_setCell' W b u) (λ r e=>by cases e;exact .inl hb)
theorem SOwn.low {W:World} {base b2:Nat} {v:Value} {R:List SV} (h:SOwn W base v R) (hb:b2<=base):SOwn W b2 v R:=by
 refine⟨⟨h.row.1,?_⟩,h.ok,λ x hx k hk=>?_⟩
 . rcases h.row.2 with h1 | ⟨g,cap,cur,e,h1,h2⟩
   . exact .inl h1
   . exact .inr ⟨g,cap,cur,e,Nat.le_trans hb h1,h2⟩
 . obtain⟨h1,h2⟩:=h.off x hx k hk
   exact⟨Nat.le_trans hb h1,h2⟩
theorem SOwn.mem {W:World} {base:Nat} {v:Value} {R:List SV} (h:SOwn W base v R):∃ B m,v=.slice B R.length m/\SMem W B R.length R/\R.length<=m/\m<=9223372036854775807:=own_smem h.row h.ok
theorem SOwn.step {W W':World} {base:Nat} {v:Value} {R:List SV} {y:SV} {g cap:Nat} (h:SOwn W base v R) (hy:y.ok W) (hyo:∀ k,y.A.map (·.block)=some k->base<=k/\k<W.heap.size/\v.ownBlock≠some k)
 (hrow:SRow W' base (.slice (some ⟨g,0,none⟩) (R.length+1) cap) (R.length+1) (R++[y])) (hg:W.grownBy W' v.ownBlock) (hat:v.ownBlock=some g\/g=W.heap.size) :
 SOwn W' base (.slice (some ⟨g,0,none⟩) (R.length+1) cap) (R++[y]):=by
 have all:∀ x∈R++[y],x.ok W/\∀ k,x.A.map (·.block)=some k->base<=k/\k<W.heap.size/\v.ownBlock≠some k:=by
  intro x hx;rcases List.mem_append.1 hx with hx | hx
  . exact⟨h.ok x hx,h.off x hx⟩
  . rw [List.mem_singleton] at hx;subst hx;exact⟨hy,hyo⟩
 refine⟨by rw [List.length_append];exact hrow,λ x hx=>?_,λ x hx k hk=>?_⟩
 . obtain⟨⟨a1,a2,a3,a4⟩,ho⟩:=all x hx
   exact⟨a1,a2,imem_kept a3 hg λ k hk _=>(ho k hk).2.2,a4⟩
 . obtain⟨h1,h2,h3⟩:=(all x hx).2 k hk
   refine⟨h1,zlt h2 hg.size,λ e=>?_⟩;simp only [Value.ownBlock,Option.some.injEq] at e;rcases hat with e' | e'
   . exact h3 (by rw [e',e])
   . omega
def Appended (w:World) (base:Nat) (v:Value) (R:List SV) (y:SV) (g cap:Nat) (w':World):Prop :=
 SRow w' base (.slice (some ⟨g,0,none⟩) (R.length+1) cap) (R.length+1) (R++[y])/\w.grownBy w' v.ownBlock/\(v.ownBlock=some g\/g=w.heap.size) /\
  (w.grownBy w' none\/∃ g0 cap0,v=.slice (some ⟨g0,0,none⟩) R.length cap0/\R.length+1<=cap0)
theorem run_append_spot {w:World} {base:Nat} {v:Value} {R:List SV} {y:SV} {b c:Nat} {t:TypeId} (h:SRow w base v R.length R) (hb:Blk w b #[.int .i64 y.addr,.int .i64 y.cnt,.slice y.A y.n y.c] t) (hl:R.length<=1000000) (hbase:base<=w.heap.size) (ty:TypeId) :
 ∃ g cap w',(Builtin.append_ #[26,26] ty #[v,.slice (some ⟨b,0,none⟩) 1 c]).run prog w=.ok (.slice (some ⟨g,0,none⟩) (R.length+1) cap) w'/\Appended w base v R y g cap w':=by
 obtain⟨i0,hi0,hz0,hz1,hz2⟩:=info_parts infoSpot;obtain⟨g,cap,w',h1,h2,h3,h4,h5⟩:=run_append_fine (P:=prog) w 26 ty base 91 i0 (.agg #[.int .i64 0,.int .i64 0,.slice none 0 0]) 3 40 underlying26 hi0 hz0 hz1 hz2 rfl (by decide) v R.length (flatS R) h ⟨b,0,none⟩ 1 c
  (flatS [y]) rfl (λ j u hu=>by
    rw [add_plain,Nat.zero_add]
    match j,hu with
    | 0,hu=>simp [flatS] at hu;subst hu;exact (hb.at_ (k:=0) rfl).1
    | 1,hu=>simp [flatS] at hu;subst hu;exact (hb.at_ (k:=1) rfl).1
    | 2,hu=>simp [flatS] at hu;subst hu;exact (hb.at_ (k:=2) rfl).1) (λ u hu=>by simp [flatS] at hu;rcases hu with rfl | rfl | rfl<;>rfl) (by decide) (by unfold maxLen;omega) (by omega) hbase
 rw [<- flatS_app] at h2;exact⟨g,cap,w',h1,h2,h3,h4,h5⟩
theorem stepIn_append_spot {l m:Nat} {w:World} {base:Nat} {v:Value} {R:List SV} {y:SV} {b c:Nat} {t:TypeId} {ops:Array Oper} {o:Oper} {a:Act} {K:Act->World->Prop} {Q:Exit->Act->World->Prop} {E:Prop} (hgd:o.guard=none) (s x:Operand)
 (ho:o.op=.call { callee:=.builtin .append,args:=#[s,x],argTypes:=#[26,26] }) (hs:a.eval s=v) (hx:a.eval x=.slice (some ⟨b,0,none⟩) 1 c)
 (h:SRow w base v R.length R) (hb:Blk w b #[.int .i64 y.addr,.int .i64 y.cnt,.slice y.A y.n y.c] t) (hl:R.length<=1000000) (hbase:base<=w.heap.size)
 (hK:∀ g cap w',Appended w base v R y g cap w'->K (a.put o.dst (.slice (some ⟨g,0,none⟩) (R.length+1) cap)) w') :
 if Region.wanted o (yielded ops a.tmps)=true then Oper.wpIn (Fence.wide.inRound l) m prog o a w K Q else E:=by
 have hw:Region.wanted o (yielded ops a.tmps)=true:=by simp [Region.wanted,hgd]
 rw [if_pos hw];obtain⟨g,cap,w',h1,h2⟩:=run_append_spot h hb hl hbase o.type (c:=c);unfold Oper.wpIn;refine⟨λ _ _=>trivial,?_⟩;rw [Oper.semAt_plain _ _ _ (by rw [ho];intro c hc';cases hc')];simp [execOp,ho,resolve,invoke,builtin,hs,hx,h1,Result.andThen];exact hK g cap w' h2
theorem Appended.three {w w':World} {base:Nat} {v:Value} {R:List SV} {y:SV} {g cap:Nat} (h:Appended w base v R y g cap w') (hr:SRow w base v R.length R) (hn:R=[]->v=.slice none 0 0) {k:Nat} {cs:Array Value} {t:TypeId} (hk:Blk w k cs t) (h3:cs.size=3):Blk w' k cs t:=by
 rcases h.2.2.2 with hg | ⟨g0,cap0,rfl,hcap⟩
 . exact hk.gb hg (by simp)
 . refine hk.gb h.2.1 λ e=>?_
   simp only [Value.ownBlock,Option.some.injEq] at e;subst e;rcases hr.2 with ⟨hv,_⟩ | ⟨g',cap',cur,hv,_,hc,_,_,hsz,_⟩
   . cases hv
   . cases hv
     rw [show w.heap[g0]?=some (.cells cs t (0,0)) from hk] at hc;cases hc;have hR:R≠[]:=λ e=>by have:=hn e;cases this
     have:0<R.length:=List.length_pos_iff.2 hR;omega
section
attribute [local go_sem] Oper.semAt_some
theorem inOrder_is (A:Option Addr) (n c:Nat) (s:SV) (w:World) :
 Calls prog 223 #[.slice A n c,.agg #[.int .i64 s.addr,.int .i64 s.cnt,.slice s.A s.n s.c]] w λ e w' =>
  e=.returned (.func (.func 231) #[] #[.pointer (some ⟨w.heap.size,0,none⟩),.pointer (some ⟨w.heap.size+1,0,none⟩)]) /\
  w'=(w.alloc (.cells #[.slice A n c] 26)).alloc (.cells #[.int .i64 s.addr,.int .i64 s.cnt,.slice s.A s.n s.c] 91):=by
 have hmf:∀ W,(Instr.makeFunc (.func 231) #[] #[.pointer (some ⟨w.heap.size,0,none⟩),.pointer (some ⟨w.heap.size+1,0,none⟩)]).run prog W=.ok (.func (.func 231) #[] #[.pointer (some ⟨w.heap.size,0,none⟩),.pointer (some ⟨w.heap.size+1,0,none⟩)]) W:=λ W=>by rfl
 go_enter func223,ntmps223;go_wp2_with fail;go_ret;exact⟨rfl,rfl⟩
theorem row_of {w0:World} {l:List SV} (h:∀ x∈l,x.ok w0/\x.line.length<=64):∃ xs:List (SVk w0),xs.map Subtype.val=l:=by
 refine⟨l.attachWith (λ x=>x.ok w0/\x.line.length<=64) h,?_⟩;rw [List.attachWith_map_subtype_val]
theorem inOrder_stops (w0:World) {A:Option Addr} {n c:Nat} {L:List SV} {s:SV} (hm:SMem w0 A n L) (hnc:n<=c) (hcm:c<=9223372036854775807) (ht:Tab L) (hs:SOk s) (hsok:s.ok w0)
 {v:Bool} (hv:v=true↔Has L s.addr) (q:Nat) (hq:q=if v=true then plc L s.addr+1 else plc L s.addr)
 (xs:List (SVk w0)) (hxs:xs.map Subtype.val=L.take (plc L s.addr)++[s]++L.drop q)
 (m:Nat) (hm1:1<=m) (tb sb:Nat) (W:World) (hW:Gr w0 W)
 (hT:Blk W tb #[.slice A n c] 26) (hS:Blk W sb #[.int .i64 s.addr,.int .i64 s.cnt,.slice s.A s.n s.c] 91) :
 SeqStopsK Fence.wide m prog 231 #[.pointer (some ⟨tb,0,none⟩),.pointer (some ⟨sb,0,none⟩)] (λ x:SVk w0=>#[Value.agg #[.int .i64 x.1.addr,.int .i64 x.1.cnt,.slice x.1.A x.1.n x.1.c]])
  (Kp3 w0.heap.size) (λ ys=>ys=xs) (λ pre=>pre <+: xs) xs.length W:=λ l J Jx W' hW' hJ _ hY h0 =>
 inOrder1_in w0 hm hnc hcm ht hs hsok hv q hq xs hxs m hm1 l tb sb J Jx W' (hW.trans hW') hJ hY (hT.gr hW') (hS.gr hW') h0
def SetR (L:List SV) (s:SV) (R:List (Int×Int×List Int)) (e:Int):Prop :=
 ((¬ SOk s\/¬ Tab L)/\R=[]/\e=1)\/(SOk s/\Tab L/\((64<(setl L s).length/\R=[]/\e=5)\/((setl L s).length<=64/\R=(setl L s).map SV.pl/\e=0)))
def ful {w0:World} (pre:List (SVk w0)):List SV:=(pre.map Subtype.val).filter λ x=>decide (¬ SNil x)
theorem ful_hit {w0:World} {pre:List (SVk w0)} {x:SVk w0} (h:¬ SNil x.1):ful (pre++[x])=ful pre++[x.1]:=by simp [ful,List.filter_append,h]
theorem ful_miss {w0:World} {pre:List (SVk w0)} {x:SVk w0} (h:SNil x.1):ful (pre++[x])=ful pre:=by simp [ful,List.filter_append,h]
theorem ful_all {w0:World} {L:List SV} {s:SV} {q:Nat} {xs:List (SVk w0)} (ht:Tab L) {v:Bool} (hv:v=true↔Has L s.addr) (hq:q=if v=true then plc L s.addr+1 else plc L s.addr)
 (hxs:xs.map Subtype.val=L.take (plc L s.addr)++[s]++L.drop q):ful xs=setl L s:=by
 unfold ful;have hb:L.drop q=back L s.addr:=back_drop ht.2 s.addr (by
  cases v with
  | true=>exact .inl ⟨hv.1 rfl,by simpa using hq⟩
  | false=>exact .inr ⟨λ h=>absurd (hv.2 h) (by simp),by simpa using hq⟩)
 rw [hxs,front_take ht.2,hb,List.filter_append,List.filter_append];unfold setl;have hf:∀ l:List SV,(∀ x∈l,x∈L)->l.filter (λ x=>decide (¬ SNil x))=l:=λ l h=>List.filter_eq_self.2 λ x hx=>by simpa using (ht.2.1 x (h x hx)).2
 have e1:=hf (front L s.addr) (λ x hx=>by unfold front at hx;exact (List.mem_filter.1 hx).1);have e2:=hf (back L s.addr) (λ x hx=>by unfold back at hx;exact (List.mem_filter.1 hx).1);have e3:[s].filter (λ x=>decide (¬ SNil x))=if SNil s then [] else [s]:=by
  by_cases hs:SNil s
  . rw [if_pos hs];simp [hs]
  . rw [if_neg hs];simp [hs]
 rw [e1,e2,e3]
structure SetI (w:World) (b4 b5 b6:Nat) {w0:World} (pre:List (SVk w0)) (W:World):Prop where
 gr:Gr w W
 r4:Blk W b4 #[.slice none 0 0] 26
 r5:Blk W b5 #[.int .i64 0] 27
 row:∃ v R,Blk W b6 #[v] 26/\SOwn W (b6+1) v R/\R.map SV.pl=(ful pre).map SV.pl/\R.length<=64/\(R=[]->v=.slice none 0 0)
theorem blk_kept {W W':World} {b:Nat} {cs:Array Value} {t:TypeId} {row:Option Nat} (h:Blk W b cs t) (hg:W.grownBy W' row) (hr:∀ r,row=some r->∃ o:Obj,W.heap[r]?=some o/\o.isCells=false):Blk W' b cs t :=
 h.gb hg λ e=>by
  obtain⟨o,h1,h2⟩:=hr b e;rw [show W.heap[b]?=_ from h] at h1;cases h1;cases h2
theorem SetI.own {w:World} {b4 b5 b6 B:Nat} {w0:World} (hB:w.heap.size<=B):OwnFrom B (λ (pre:List (SVk w0)) W=>SetI w b4 b5 b6 pre W):=λ pre W W' row h hg hr=>by
 obtain⟨v,R,h1,h2,h3,h4,h5⟩:=h.row;exact⟨h.gr.gb hg (λ k e=>Nat.le_trans hB (hr k e).1),blk_kept h.r4 hg (λ r e=>(hr r e).2),blk_kept h.r5 hg (λ r e=>(hr r e).2),v,R,blk_kept h1 hg (λ r e=>(hr r e).2),h2.kept hg (λ r e=>.inr (.inr (hr r e).2)),h3,h4,h5⟩
theorem SetI.gr' {w:World} {b4 b5 b6:Nat} {w0:World} {pre:List (SVk w0)} {W W':World} (h:SetI w b4 b5 b6 pre W) (g:Gr W W'):SetI w b4 b5 b6 pre W':=by
 obtain⟨v,R,h1,h2,h3,h4,h5⟩:=h.row;exact⟨h.gr.trans g,h.r4.gr g,h.r5.gr g,v,R,h1.gr g,h2.gr g,h3,h4,h5⟩
theorem SetI.miss {w:World} {b4 b5 b6:Nat} {w0:World} {pre:List (SVk w0)} {x:SVk w0} {W:World} (h:SetI w b4 b5 b6 pre W) (hx:SNil x.1):SetI w b4 b5 b6 (pre++[x]) W:=by
 refine⟨h.gr,h.r4,h.r5,?_⟩;rw [ful_miss hx];exact h.row
structure SetX (w:World) (b4 b5:Nat) {w0:World} (pre:List (SVk w0)) (W:World):Prop where
 gr:Gr w W
 r4:Blk W b4 #[.slice none 0 0] 26
 r5:Blk W b5 #[.int .i64 5] 27
 many:64<(ful pre).length
theorem SetX.own {w:World} {b4 b5 B:Nat} {w0:World} (c:Code) (hB:w.heap.size<=B):OwnFrom B (λ (pre:List (SVk w0)) W=>c=.ret/\SetX w b4 b5 pre W):=λ pre W W' row h hg hr =>
 ⟨h.1,h.2.gr.gb hg (λ k e=>Nat.le_trans hB (hr k e).1),blk_kept h.2.r4 hg (λ r e=>(hr r e).2),blk_kept h.2.r5 hg (λ r e=>(hr r e).2),h.2.many⟩
theorem keeps_gr {W W':World} (g:Gr W W'):KeepsOthers W W':=⟨g.size,λ k o hk _=>(g.block k (zal hk)).trans hk⟩
theorem kp_gr {B:Nat} {W W':World} (hB:B<=W.heap.size) (g:Gr W W'):Kp3 B W W':=⟨Below.mono g hB,λ k cs t hk _=>hk.gr g⟩
theorem kp_set {B:Nat} {W:World} {b:Nat} {cs:Array Value} {t:TypeId} (hB:B<=b) (hb:Blk W b cs t) (h3:cs.size≠3) (u:Value):Kp3 B W (W.setCell ⟨b,0,none⟩ u) :=
 ⟨(Below.refl B W).setCell (p:=⟨b,0,none⟩) hB u,λ k cs' t' hk hs=>hk.st (p:=⟨b,0,none⟩) (λ e=>by
   have e:b=k:=e;subst e;have hk':W.heap[b]?=some (.cells cs' t' (0,0)):=hk;rw [show W.heap[b]?=_ from hb] at hk';cases hk';exact h3 hs) u⟩
section
variable {w:World} {A:Option Addr} {n c:Nat} {L:List SV} {s:SV}
theorem Set_yes (hm:SMem w A n L) (hnc:n<=c) (hcm:c<=9223372036854775807) (hsok:s.ok w) (ht:Tab L) (hs:SOk s) :
 Calls prog 213 #[.slice A n c,.agg #[.int .i64 s.addr,.int .i64 s.cnt,.slice s.A s.n s.c]] w λ e w' =>
  (64<(setl L s).length/\e=.returned (.tuple #[.slice none 0 0,.int .i64 5])/\Gr w w') \/
  ((setl L s).length<=64/\∃ B m T,e=.returned (.tuple #[.slice B T.length m,.int .i64 0])/\SMem w' B T.length T/\T.length<=m/\m<=9223372036854775807/\T.map SV.pl=(setl L s).map SV.pl/\Gr w w'/\SOwn w' w.heap.size (.slice B T.length m) T):=by
 have g0:=(((zr w).al (.cells #[.int .i64 s.addr,.int .i64 s.cnt,.slice s.A s.n s.c] 91)).al (.cells #[.slice none 0 0] 26)).al (.cells #[.int .i64 0] 27);have C1:=hid (rsound_is (hsok.gr g0) (v:=true) ⟨λ _=>hs,λ _=>rfl⟩);have C2:=λ W (g:Gr w W)=>RRight_is (c:=c) (hm.gr g) (v:=true) ⟨λ _=>ht,λ _=>rfl⟩
 have K2:=hid C2;clear C2;refine (callsIn_wide (n:=6)).1 ?_;refine callsIn_of_wp_marks func213 rfl trivial ?_ rfl;simp only [ntmps213,List.size_toArray,List.length_cons,List.length_nil,Nat.reduceAdd,Nat.reduceSub,Array.replicate_succ,Array.replicate_zero,List.push_toArray,List.append_toArray,List.nil_append,List.cons_append]
 gi_wp2_with fail
 refine⟨trivial,?_⟩;refine (callsIn_wide.2 C1.out).mono ?_;rintro e w1 ⟨rfl,hb1⟩
 gi_wp2_with fail
 refine⟨trivial,?_⟩;refine (callsIn_wide.2 (K2.out _ (g0.trans hb1))).mono ?_;rintro e w2 ⟨rfl,hb2⟩;have BS:=(((Blk.new w #[.int .i64 s.addr,.int .i64 s.cnt,.slice s.A s.n s.c] 91).al (.cells #[.slice none 0 0] 26)).al (.cells #[.int .i64 0] 27)).gr (hb1.trans hb2);have B4:=((Blk.new (w.alloc (.cells #[.int .i64 s.addr,.int .i64 s.cnt,.slice s.A s.n s.c] 91)) #[.slice none 0 0] 26).al (.cells #[.int .i64 0] 27)).gr (hb1.trans hb2);have B5:=(Blk.new ((w.alloc (.cells #[.int .i64 s.addr,.int .i64 s.cnt,.slice s.A s.n s.c] 91)).alloc (.cells #[.slice none 0 0] 26)) #[.int .i64 0] 27).gr (hb1.trans hb2);simp only [zsA] at B4 B5;have G2:=(g0.trans hb1).trans hb2;have B6:=Blk.new w2 #[.slice none 0 0] 26;have f0:=(BS.at_ (k:=0) rfl).1;have f1:=(BS.at_ (k:=1) rfl).1;have f2:=(BS.at_ (k:=2) rfl).1;have fl:=BS.lt;have fl5:=B5.lt;clear C1 K2 hb1 hb2
 gi_wp2_with fail
 refine⟨trivial,?_⟩;refine (callsIn_wide.2 (inOrder_is A n c s _)).mono ?_;rintro e w3 ⟨rfl,hw3⟩;have gW:Gr (w2.alloc (.cells #[.slice none 0 0] 26)) w3:=by rw [hw3];exact ((zr _).al _).al _
 have G3:=hid ((G2.al (.cells #[.slice none 0 0] 26)).trans gW);have HB4:=hid ((B4.al (.cells #[.slice none 0 0] 26)).gr gW);have HB5:=hid ((B5.al (.cells #[.slice none 0 0] 26)).gr gW);have HB6:=hid (B6.gr gW);have HT:=hid (show Blk w3 (w2.heap.size+1) #[.slice A n c] 26 from by
  rw [hw3];simpa using (Blk.new (w2.alloc (.cells #[.slice none 0 0] 26)) #[.slice A n c] 26).al (.cells #[.int .i64 s.addr,.int .i64 s.cnt,.slice s.A s.n s.c] 91))
 have HS:=hid (show Blk w3 (w2.heap.size+1+1) #[.int .i64 s.addr,.int .i64 s.cnt,.slice s.A s.n s.c] 91 from by
  rw [hw3];simpa using Blk.new ((w2.alloc (.cells #[.slice none 0 0] 26)).alloc (.cells #[.slice A n c] 26)) #[.int .i64 s.addr,.int .i64 s.cnt,.slice s.A s.n s.c] 91)
 have hw3s:w3.heap.size=w2.heap.size+3:=by rw [hw3];simp
 clear hw3 gW f0 f1 f2 BS B4 B5 B6 G2 g0
 gi_wp2_with fail
 obtain⟨v,hv⟩:=yes_no (Has L s.addr);obtain⟨q,hq⟩:∃ q,q=if v=true then plc L s.addr+1 else plc L s.addr:=⟨_,rfl⟩
 obtain⟨xs,hxs⟩:∃ xs:List (SVk w),xs.map Subtype.val=L.take (plc L s.addr)++[s]++L.drop q:=row_of λ x hx=>by
  have hL:∀ y∈L,y.ok w/\y.line.length<=64:=λ y hy=>⟨hm.2.1 y hy,(ht.2.1 y hy).1.2.2.2.1.1⟩
  rcases List.mem_append.1 hx with hx | hx
  . rcases List.mem_append.1 hx with hx | hx
    . exact hL x (List.mem_of_mem_take hx)
    . rw [List.mem_singleton] at hx;subst hx;exact⟨hsok,hs.2.2.2.1.1⟩
  . exact hL x (List.mem_of_mem_drop hx)
 have hful:=hid (ful_all ht hv hq hxs);have hstops:=inOrder_stops w hm hnc hcm ht hs hsok hv q hq xs hxs (6-1) (by omega) (w2.heap.size+1) (w2.heap.size+1+1) w3 G3.out HT.out HS.out;clear hm hnc hcm hsok ht hs hv hq hxs HT HS;obtain⟨b5,hb5⟩:∃ b,w.heap.size+1+1=b:=⟨_,rfl⟩;obtain⟨b4,hb4⟩:∃ b,w.heap.size+1=b:=⟨_,rfl⟩;obtain⟨b6,hb6⟩:∃ b,w2.heap.size=b:=⟨_,rfl⟩;rw [hb5] at HB5;rw [hb4] at HB4;rw [hb6] at HB6 hstops;rw [hb5,hb4,hb6];have h45:w.heap.size<b4/\b4<b5/\b5<b6/\b6<w3.heap.size:=by omega
 clear hb4 hb5 hb6 fl fl5 hw3s;refine wpIn_rangeFunc_ownH rfl (by omega) (gf:=231) (lb:=#[.pointer (some ⟨b6+1,0,none⟩),.pointer (some ⟨b6+1+1,0,none⟩)]) rfl trivial (enters_of func231 (by kernel_rfl) rfl)
  hstops (λ h k=>h.t k) (Kp3.b G3.out.size) (zr _) (λ _=>rfl)
  (λ pre W=>SetI w b4 b5 b6 pre W) (λ c pre W=>c=.ret/\SetX w b4 b5 pre W) (SetI.own G3.out.size) (λ c=>SetX.own c G3.out.size)
  ⟨G3.out,HB4.out,HB5.out,.slice none 0 0,[],HB6.out,SOwn.nil _ _,rfl,by simp,λ _=>rfl⟩
  (λ x a' W=>∃ Bx,b6<Bx/\Blk W Bx #[.int .i64 x.1.addr,.int .i64 x.1.cnt,.slice x.1.A x.1.n x.1.c] 91/\a'={ tmps:=#[.slice A n c,.agg #[.int .i64 s.addr,.int .i64 s.cnt,.slice s.A s.n s.c],undef,.pointer (some ⟨w.heap.size,0,none⟩),.pointer (some ⟨b4,0,none⟩),.pointer (some ⟨b5,0,none⟩),.pointer (some ⟨b6,0,none⟩),.pointer (some ⟨Bx,0,none⟩),.agg #[.int .i64 s.addr,.int .i64 s.cnt,.slice s.A s.n s.c],.bool true,.bool false,.bool false,.slice A n c,.bool true,.bool false,.bool false,.slice A n c,.agg #[.int .i64 s.addr,.int .i64 s.cnt,.slice s.A s.n s.c],.func (.func 231) #[] #[.pointer (some ⟨b6+1,0,none⟩),.pointer (some ⟨b6+1+1,0,none⟩)],.agg #[.int .i64 x.1.addr,.int .i64 x.1.cnt,.slice x.1.A x.1.n x.1.c],undef,undef,undef,undef,undef,undef,undef,undef,undef,undef,undef],defers:=[] })
  (λ x a' _ X Y row hs hg hr=>by
    obtain⟨Bx,h1,h2,h3⟩:=hs;exact⟨Bx,h1,blk_kept h2 hg (λ r e=>(hr r e).2),h3⟩)
  ?assign ?body ?done ?stop
 case assign =>
  rintro l pre x W K hI hK;have hlt6:b6<W.heap.size:=by
   obtain⟨v,R,h1,_⟩:=hI.row;exact h1.lt
  have ha:=(zr W).al (.cells #[.int .i64 x.1.addr,.int .i64 x.1.cnt,.slice x.1.A x.1.n x.1.c] 91);have HK:=hid (hK _ _ ((keeps_gr ha).from _) (kp_gr hI.gr.size ha) (hI.gr' ha) ⟨W.heap.size,hlt6,Blk.new W _ _,rfl⟩);clear hK
  gi_wp2_with fail
  exact HK.out
 case body =>
  rintro l pre x a' W hl ⟨r,hr⟩ hI ⟨Bx,hBx,bX,rfl⟩ hlt;have hxok:=x.2.1.gr hI.gr;have hx64:=x.2.2;obtain⟨e,he⟩:=yes_no (SNil x.1);have CE:=hid (empty_is (w:=W) hxok he W);have HE:=hid he;have c0:=(bX.at_ (k:=0) rfl).1;have c1:=(bX.at_ (k:=1) rfl).1;have c2:=(bX.at_ (k:=2) rfl).1;have HI:=hid hI;have HBX:=hid bX;have HOK:=hid hxok;clear he hI bX hxok hr hl hlt
  gi_wp2_with fail
  refine⟨trivial,?_⟩;refine (CallsIn.inRound l (callsIn_wide.2 CE.out)).mono ?_;rintro ee W1 ⟨rfl,g1⟩;have HI1:=hid (HI.out.gr' g1);have HBX1:=hid (HBX.out.gr g1);have HG1:=hid g1;clear g1 c0 c1 c2 CE
  cases e with
  | true =>
   have hxn:SNil x.1:=HE.out.1 rfl
   gi_wp2_with fail
   exact⟨(keeps_gr HG1.out).from _,kp_gr HI.out.gr.size HG1.out,HI1.out.miss hxn⟩
  | false =>
   have hxn:¬ SNil x.1:=λ h=>absurd (HE.out.2 h) (by simp)
   obtain⟨v0,R,h6,hown,hpl,h64,hnil⟩:=HI1.out.row;obtain⟨B0,m0,rfl,hmem,hle,hmx⟩:=hown.mem;obtain⟨N,hN⟩:∃ N,R.length=N:=⟨_,rfl⟩;rw [hN] at h6 hnil h64;have c6:=(h6.at_ (k:=0) rfl).1;have hR4:=hid HI1.out.r4;have hR5:=hid HI1.out.r5;by_cases hfull:N=64
   . subst hfull
     obtain⟨c4,z4⟩:=HI1.out.r4.at_ (k:=0) rfl;obtain⟨c5,z5⟩:=HI1.out.r5.at_ (k:=0) rfl;have hX:=hid (show SetX w b4 b5 (pre++[x]) ((W1.setCell ⟨b4,0,none⟩ (.slice none 0 0)).setCell ⟨b5,0,none⟩ (.int .i64 5)) from
      ⟨(HI1.out.gr.st (p:=⟨b4,0,none⟩) (by show w.heap.size<=b4;omega) _).st (p:=⟨b5,0,none⟩) (by show w.heap.size<=b5;omega) _,(hR4.out.set 0 (.slice none 0 0)).st (p:=⟨b5,0,none⟩) (by show b5≠b4;omega) _,(hR5.out.st (p:=⟨b4,0,none⟩) (by show b4≠b5;omega) _).set 0 (.int .i64 5),by
        rw [ful_hit hxn,List.length_append];have:=congrArg List.length hpl;simp [hN] at this;simp;omega⟩)
     have hK:=hid (((keeps_gr HG1.out).trans ((KeepsOthers.setCell W1 ⟨b4,0,none⟩ (.slice none 0 0)).trans (KeepsOthers.setCell _ ⟨b5,0,none⟩ (.int .i64 5)))).from w3.heap.size);clear hown hmem hle hmx hpl h6
     gi_wp2_with fail
     exact⟨hK.out,rfl,hX.out⟩
   . have hne:((N:Int)==64)=false:=beq_eq_false_iff_ne.2 (by omega)
     have h6l:=h6.lt;have hoN:SOwn W1 (b6+1) (.slice B0 N m0) R:=hN▸hown;have fin:∀ (B9:Option Addr) (k9 g cap:Nat) (W9 W4:World),SV.ok W9 ⟨x.1.addr,x.1.cnt,B9,x.1.n,k9,x.1.line⟩->(∀ j,B9.map (·.block)=some j->W1.heap.size<=j/\j<W9.heap.size)->Gr W1.drew W9 ->
      Appended (W9.alloc (.cells #[.int .i64 x.1.addr,.int .i64 x.1.cnt,.slice B9 x.1.n k9] 91)) (b6+1) (.slice B0 N m0) R ⟨x.1.addr,x.1.cnt,B9,x.1.n,k9,x.1.line⟩ g cap W4 ->
      KeepsFrom w3.heap.size W (W4.setCell ⟨b6,0,none⟩ (.slice (some ⟨g,0,none⟩) (N+1) cap))/\Kp3 w.heap.size W (W4.setCell ⟨b6,0,none⟩ (.slice (some ⟨g,0,none⟩) (N+1) cap)) /\
       SetI w b4 b5 b6 (pre++[x]) (W4.setCell ⟨b6,0,none⟩ (.slice (some ⟨g,0,none⟩) (N+1) cap)):=by
      intro B9 k9 g cap W9 W4 hok hoff hb9 hA;rw [show N+1=R.length+1 from by omega];have hg1:=(zr W9).al (.cells #[.int .i64 x.1.addr,.int .i64 x.1.cnt,.slice B9 x.1.n k9] 91);have gA:Gr W1 (W9.alloc (.cells #[.int .i64 x.1.addr,.int .i64 x.1.cnt,.slice B9 x.1.n k9] 91)):=((zr W1).dr.trans hb9).trans hg1;have hyo:∀ j,B9.map (·.block)=some j->b6+1<=j/\j<(W9.alloc (.cells #[.int .i64 x.1.addr,.int .i64 x.1.cnt,.slice B9 x.1.n k9] 91)).heap.size/\(Value.slice B0 N m0).ownBlock≠some j:=λ j hj=>by
       obtain⟨h1,h2⟩:=hoff j hj;refine⟨by omega,zlt h2 hg1.size,λ e=>?_⟩;obtain⟨_,cs,hc⟩:=hoN.block e;have:=(zal hc);omega
      have hy:=hok.gr hg1;clear hok hoff hg1 hb9;generalize W9.alloc (.cells #[.int .i64 x.1.addr,.int .i64 x.1.cnt,.slice B9 x.1.n k9] 91)=WA at *;have hoA:=hoN.gr gA;have hgrow:=hA.2.1;have hblk:∀ k,(Value.slice B0 N m0).ownBlock=some k->b6+1<=k:=λ k e=>(hoN.block e).1
      have kA:KeepsOthers WA W4:=KeepsOthers.of_grownBy hgrow λ k o ek hk=>by
       obtain⟨_,cs,hc⟩:=hoA.block ek;rw [hc] at hk;cases hk;rfl
      have h4:Blk W4 b6 #[.slice B0 N m0] 26:=(h6.gr gA).gb hgrow (λ e=>by have:=hblk _ e;omega);have hws:w.heap.size<=WA.heap.size:=(HI1.out.gr.trans gA).size;refine⟨(((keeps_gr HG1.out).trans (keeps_gr gA)).trans (kA.trans (KeepsOthers.setCell _ _ _))).from _,?_,?_⟩
      . refine ((kp_gr HI.out.gr.size (HG1.out.trans gA)).t ⟨(Below.refl _ WA).grown hgrow hws (λ k e=>by have:=hblk k e;omega),λ k cs t hk h3=>hA.three hoA.row (λ e=>hnil e) hk h3⟩).t (kp_set (by omega) h4 (by simp) _)
      . refine⟨((HI1.out.gr.trans gA).gb hgrow (λ k e=>by have:=hblk k e;omega)).st (p:=⟨b6,0,none⟩) (by show w.heap.size<=b6;omega) _,((hR4.out.gr gA).gb hgrow (λ e=>by have:=hblk _ e;omega)).st (p:=⟨b6,0,none⟩) (by show b6≠b4;omega) _,
         ((hR5.out.gr gA).gb hgrow (λ e=>by have:=hblk _ e;omega)).st (p:=⟨b6,0,none⟩) (by show b6≠b5;omega) _,.slice (some ⟨g,0,none⟩) (R.length+1) cap,R++[⟨x.1.addr,x.1.cnt,B9,x.1.n,k9,x.1.line⟩],?_,?_,?_,?_,?_⟩
        . exact h4.set 0 _
        . exact (hoA.step hy hyo hA.1 hgrow hA.2.2.1).st (by omega) _
        . rw [ful_hit hxn,List.map_append,List.map_append,hpl];rfl
        . rw [List.length_append];simp;omega
        . intro e;simp at e
     have FIN:=hid fin;have CO:Hid (∀ W',Gr W1 W'->Calls prog 222 #[.agg #[.int .i64 x.1.addr,.int .i64 x.1.cnt,.slice x.1.A x.1.n x.1.c]] W' λ e w'=>∃ B k,e=.returned (.agg #[.int .i64 x.1.addr,.int .i64 x.1.cnt,.slice B x.1.n k]) /\
      SV.ok w' ⟨x.1.addr,x.1.cnt,B,x.1.n,k,x.1.line⟩/\(∀ j,B.map (·.block)=some j->W'.heap.size<=j/\j<w'.heap.size)/\Gr W' w'):=hid λ W' g=>by
      have hx':=(HOK.out.gr HG1.out).gr g;have hl:=hx'.len;refine (own_is' (a:=x.1.addr) (q:=x.1.cnt) (c:=x.1.c) hx'.2.2.1 (by omega)).mono ?_;rintro e w' ⟨B,k,rfl,ho,hg⟩;exact⟨B,k,rfl,⟨hx'.1,hx'.2.1,ho.mem,ho.le,by have:=ho.max;unfold maxLen at this;omega⟩,ho.lt,hg⟩
     have d69:Hid (∀ W',Gr W1.drew W'->W'.cell? ⟨b6,0,none⟩=some (.slice B0 N m0)/\b6<W'.heap.size):=hid λ W' g=>⟨(((h6.gr (zr W1).dr).gr g).at_ (k:=0) rfl).1,((h6.gr (zr W1).dr).gr g).lt⟩
     have row9:Hid (∀ W',Gr W1.drew W'->SRow W' (b6+1) (.slice B0 N m0) R.length R):=hid λ W' g=>(hoN.gr ((zr W1).dr.trans g)).row
     have base9:Hid (∀ W',Gr W1.drew W'->b6+1<=W'.heap.size):=hid λ W' g=>Nat.le_trans h6l ((zr W1).dr.trans g).size
     have f69:Hid (∀ W' W4 y g cap,Gr W1.drew W'->Appended W' (b6+1) (.slice B0 N m0) R y g cap W4->W4.cell? ⟨b6,0,none⟩=some (.slice B0 N m0)/\W4.frozen? ⟨b6,0,none⟩=false):=hid λ W' W4 y g cap hb hA =>
      (((h6.gr (zr W1).dr).gr hb).gb hA.2.1 (λ e=>by have:=(hoN.block e).1;omega)).at_ (k:=0) rfl
     obtain⟨e0,_⟩:=HBX1.out.at_ (k:=0) rfl;obtain⟨e1,_⟩:=HBX1.out.at_ (k:=1) rfl;obtain⟨e2,_⟩:=HBX1.out.at_ (k:=2) rfl;have hlR:R.length<=1000000:=by omega
     clear fin hown hmem hle hmx hpl hnil hoN hR4 hR5
     gi_wp2_with fail
     refine wpIn_region_any (by kernel_rfl) ?_;change wpAnyIn _ _ _ _ _ _ _ _ _ (World.drew _);refine wpAnyIn_ready (rs:=[0,1]) (by kernel_rfl) (by simp) ?_;refine AllReadyIn.cons rfl (λ K hK=>?_) ?_
     . go_simp
       refine hK _ _ ?_;clear hK K
       try simp only [pL]
       refine wpAnyIn_ready (rs:=[1]) (by kernel_rfl) (by simp) ?_;refine AllReadyIn.cons rfl (λ K hK=>?_) ?_
       . go_simp
         refine hK _ _ ?_;clear hK K
         try simp only [pL]
         refine wpAnyIn_ready (rs:=[2]) (by kernel_rfl) (by simp) ?_;refine AllReadyIn.cons rfl (λ K hK=>?_) ?_
         . go_simp
           refine⟨trivial,?_⟩;refine (CallsIn.inRound l (callsIn_wide.2 (CO.out _ (zr W1).dr))).mono ?_;rintro ee W9 ⟨B9,k9,rfl,hok9,hoff9,hb9⟩;obtain⟨d6,e6⟩:=d69.out W9 hb9;have g9:=hid hb9;have k9h:=hid hok9;have o9:=hid hoff9;clear hb9 hok9 hoff9;refine hK _ _ ?_;clear hK K
           try simp only [pL]
           refine wpAnyIn_ready (rs:=[3]) (by kernel_rfl) (by simp) ?_;refine AllReadyIn.cons rfl (λ K hK=>?_) ?_
           . go_simp
             refine hK _ _ ?_;clear hK K
             try simp only [pL]
             refine wpAnyIn_ready (rs:=[4]) (by kernel_rfl) (by simp) ?_;refine AllReadyIn.cons rfl (λ K hK=>?_) ?_
             . refine stepIn_append_spot (l:=l) (y:=⟨x.1.addr,x.1.cnt,B9,x.1.n,k9,x.1.line⟩) rfl (.tmp 25) (.tmp 28) rfl rfl rfl (row9.out _ (g9.out.al _)) (Blk.new W9 _ _) hlR (base9.out _ (g9.out.al _)) ?_
               intro g cap W4 hA;obtain⟨f6,f7⟩:=f69.out _ _ _ _ _ (g9.out.al _) hA;have hAA:=hid hA;clear hA;refine hK _ _ ?_;clear hK K
               try simp only [pL]
               refine wpAnyIn_ready (rs:=[5]) (by kernel_rfl) (by simp) ?_;refine AllReadyIn.cons rfl (λ K hK=>?_) ?_
               . go_simp
                 refine hK _ _ ?_;clear hK K
                 try simp only [pL]
                 refine wpAnyIn_done (by kernel_rfl) ?_ _
                 gi_wp2_with fail
                 exact FIN.out _ _ _ _ _ _ k9h.out o9.out g9.out hAA.out
               exact AllReadyIn.nil
             exact AllReadyIn.nil
           exact AllReadyIn.nil
         exact AllReadyIn.nil
       exact AllReadyIn.nil
     refine AllReadyIn.cons rfl (λ K hK=>?_) ?_
     . go_simp
       refine hK _ _ ?_;clear hK K
       try simp only [pL]
       refine wpAnyIn_ready (rs:=[0,2]) (by kernel_rfl) (by simp) ?_;refine AllReadyIn.cons rfl (λ K hK=>?_) ?_
       . go_simp
         refine hK _ _ ?_;clear hK K
         try simp only [pL]
         refine wpAnyIn_ready (rs:=[2]) (by kernel_rfl) (by simp) ?_;refine AllReadyIn.cons rfl (λ K hK=>?_) ?_
         . go_simp
           refine⟨trivial,?_⟩;refine (CallsIn.inRound l (callsIn_wide.2 (CO.out _ (zr W1).dr))).mono ?_;rintro ee W9 ⟨B9,k9,rfl,hok9,hoff9,hb9⟩;obtain⟨d6,e6⟩:=d69.out W9 hb9;have g9:=hid hb9;have k9h:=hid hok9;have o9:=hid hoff9;clear hb9 hok9 hoff9;refine hK _ _ ?_;clear hK K
           try simp only [pL]
           refine wpAnyIn_ready (rs:=[3]) (by kernel_rfl) (by simp) ?_;refine AllReadyIn.cons rfl (λ K hK=>?_) ?_
           . go_simp
             refine hK _ _ ?_;clear hK K
             try simp only [pL]
             refine wpAnyIn_ready (rs:=[4]) (by kernel_rfl) (by simp) ?_;refine AllReadyIn.cons rfl (λ K hK=>?_) ?_
             . refine stepIn_append_spot (l:=l) (y:=⟨x.1.addr,x.1.cnt,B9,x.1.n,k9,x.1.line⟩) rfl (.tmp 25) (.tmp 28) rfl rfl rfl (row9.out _ (g9.out.al _)) (Blk.new W9 _ _) hlR (base9.out _ (g9.out.al _)) ?_
               intro g cap W4 hA;obtain⟨f6,f7⟩:=f69.out _ _ _ _ _ (g9.out.al _) hA;have hAA:=hid hA;clear hA;refine hK _ _ ?_;clear hK K
               try simp only [pL]
               refine wpAnyIn_ready (rs:=[5]) (by kernel_rfl) (by simp) ?_;refine AllReadyIn.cons rfl (λ K hK=>?_) ?_
               . go_simp
                 refine hK _ _ ?_;clear hK K
                 try simp only [pL]
                 refine wpAnyIn_done (by kernel_rfl) ?_ _
                 gi_wp2_with fail
                 exact FIN.out _ _ _ _ _ _ k9h.out o9.out g9.out hAA.out
               exact AllReadyIn.nil
             exact AllReadyIn.nil
           exact AllReadyIn.nil
         exact AllReadyIn.nil
       refine AllReadyIn.cons rfl (λ K hK=>?_) ?_
       . go_simp
         refine⟨trivial,?_⟩;refine (CallsIn.inRound l (callsIn_wide.2 (CO.out _ (zr W1).dr))).mono ?_;rintro ee W9 ⟨B9,k9,rfl,hok9,hoff9,hb9⟩;obtain⟨d6,e6⟩:=d69.out W9 hb9;have g9:=hid hb9;have k9h:=hid hok9;have o9:=hid hoff9;clear hb9 hok9 hoff9;refine hK _ _ ?_;clear hK K
         try simp only [pL]
         refine wpAnyIn_ready (rs:=[0,3]) (by kernel_rfl) (by simp) ?_;refine AllReadyIn.cons rfl (λ K hK=>?_) ?_
         . go_simp
           refine hK _ _ ?_;clear hK K
           try simp only [pL]
           refine wpAnyIn_ready (rs:=[3]) (by kernel_rfl) (by simp) ?_;refine AllReadyIn.cons rfl (λ K hK=>?_) ?_
           . go_simp
             refine hK _ _ ?_;clear hK K
             try simp only [pL]
             refine wpAnyIn_ready (rs:=[4]) (by kernel_rfl) (by simp) ?_;refine AllReadyIn.cons rfl (λ K hK=>?_) ?_
             . refine stepIn_append_spot (l:=l) (y:=⟨x.1.addr,x.1.cnt,B9,x.1.n,k9,x.1.line⟩) rfl (.tmp 25) (.tmp 28) rfl rfl rfl (row9.out _ (g9.out.al _)) (Blk.new W9 _ _) hlR (base9.out _ (g9.out.al _)) ?_
               intro g cap W4 hA;obtain⟨f6,f7⟩:=f69.out _ _ _ _ _ (g9.out.al _) hA;have hAA:=hid hA;clear hA;refine hK _ _ ?_;clear hK K
               try simp only [pL]
               refine wpAnyIn_ready (rs:=[5]) (by kernel_rfl) (by simp) ?_;refine AllReadyIn.cons rfl (λ K hK=>?_) ?_
               . go_simp
                 refine hK _ _ ?_;clear hK K
                 try simp only [pL]
                 refine wpAnyIn_done (by kernel_rfl) ?_ _
                 gi_wp2_with fail
                 exact FIN.out _ _ _ _ _ _ k9h.out o9.out g9.out hAA.out
               exact AllReadyIn.nil
             exact AllReadyIn.nil
           exact AllReadyIn.nil
         refine AllReadyIn.cons rfl (λ K hK=>?_) ?_
         . go_simp
           refine hK _ _ ?_;clear hK K
           try simp only [pL]
           refine wpAnyIn_ready (rs:=[0]) (by kernel_rfl) (by simp) ?_;refine AllReadyIn.cons rfl (λ K hK=>?_) ?_
           . go_simp
             refine hK _ _ ?_;clear hK K
             try simp only [pL]
             refine wpAnyIn_ready (rs:=[4]) (by kernel_rfl) (by simp) ?_;refine AllReadyIn.cons rfl (λ K hK=>?_) ?_
             . refine stepIn_append_spot (l:=l) (y:=⟨x.1.addr,x.1.cnt,B9,x.1.n,k9,x.1.line⟩) rfl (.tmp 25) (.tmp 28) rfl rfl rfl (row9.out _ (g9.out.al _)) (Blk.new W9 _ _) hlR (base9.out _ (g9.out.al _)) ?_
               intro g cap W4 hA;obtain⟨f6,f7⟩:=f69.out _ _ _ _ _ (g9.out.al _) hA;have hAA:=hid hA;clear hA;refine hK _ _ ?_;clear hK K
               try simp only [pL]
               refine wpAnyIn_ready (rs:=[5]) (by kernel_rfl) (by simp) ?_;refine AllReadyIn.cons rfl (λ K hK=>?_) ?_
               . go_simp
                 refine hK _ _ ?_;clear hK K
                 try simp only [pL]
                 refine wpAnyIn_done (by kernel_rfl) ?_ _
                 gi_wp2_with fail
                 exact FIN.out _ _ _ _ _ _ k9h.out o9.out g9.out hAA.out
               exact AllReadyIn.nil
             exact AllReadyIn.nil
           exact AllReadyIn.nil
         exact AllReadyIn.nil
       exact AllReadyIn.nil
     exact AllReadyIn.nil
 case done =>
  rintro D ys W hD rfl hI hK;obtain⟨v0,R,h6,hown,hpl,h64,hnil⟩:=hI.row;have hlen:R.length=(setl L s).length:=by
   have:=congrArg List.length hpl;rw [hful.out] at this;simpa using this
  obtain⟨B0,m0,rfl,hmem,hle,hmx⟩:=hown.mem;have c6:=(h6.at_ (k:=0) rfl).1;obtain⟨c4,z4⟩:=hI.r4.at_ (k:=0) rfl;obtain⟨c5,z5⟩:=hI.r5.at_ (k:=0) rfl;have n45:b4≠b5:=by omega
  obtain⟨N,hN⟩:∃ N,R.length=N:=⟨_,rfl⟩;have hDk:=hid hK;have HO:=hid hown;have HIR:=hid hI;have HLE:=hid (hN▸hle:N<=m0);have HRL:=hid hN;rw [hN] at h6 c6 hmem hle;clear hK hown hI hN
  gi_wp2_with fail
  have hK1:((W.setCell ⟨b4,0,none⟩ (.slice B0 N m0)).setCell ⟨b5,0,none⟩ (.int .i64 0)).heap[D]?=some (.deferred (some [])):=((KeepsOthers.setCell W ⟨b4,0,none⟩ (.slice B0 N m0)).trans (KeepsOthers.setCell _ ⟨b5,0,none⟩ (.int .i64 0))).same D _ hDk.out rfl;have D4:Blk ((W.setCell ⟨b4,0,none⟩ (.slice B0 N m0)).setCell ⟨b5,0,none⟩ (.int .i64 0)) b4 #[.slice B0 N m0] 26:=(HIR.out.r4.set 0 (.slice B0 N m0)).st (p:=⟨b5,0,none⟩) (by show b5≠b4;omega) _;have D5:Blk ((W.setCell ⟨b4,0,none⟩ (.slice B0 N m0)).setCell ⟨b5,0,none⟩ (.int .i64 0)) b5 #[.int .i64 0] 27:=(HIR.out.r5.st (p:=⟨b4,0,none⟩) (by show b4≠b5;omega) _).set 0 (.int .i64 0);have DO:=((HO.out.st (b:=b4) (by omega) (.slice B0 N m0)).st (b:=b5) (by omega) (.int .i64 0));have DG:=(HIR.out.gr.st (p:=⟨b4,0,none⟩) (by show w.heap.size<=b4;omega) (.slice B0 N m0)).st (p:=⟨b5,0,none⟩) (by show w.heap.size<=b5;omega) (.int .i64 0);refine⟨by simp,.inl ⟨_,_,rfl,run_takeDeferred hK1,?_⟩⟩;clear c4 z4 c5 z5 c6 h6 hmem;generalize (W.setCell ⟨b4,0,none⟩ (.slice B0 N m0)).setCell ⟨b5,0,none⟩ (.int .i64 0)=WE at *;have E4:=blk_kept D4 (grownBy_putObj' WE D (.deferred none)) (λ r e=>by cases e;exact⟨_,hK1,rfl⟩);have E5:=blk_kept D5 (grownBy_putObj' WE D (.deferred none)) (λ r e=>by cases e;exact⟨_,hK1,rfl⟩);have EO:=DO.kept (grownBy_putObj' WE D (.deferred none)) (λ r e=>by cases e;exact .inr (.inr ⟨_,hK1,rfl⟩));have EG:=DG.gb (grownBy_putObj' WE D (.deferred none)) (λ k e=>by cases e;exact Nat.le_trans G3.out.size hD);clear D4 D5 DO DG hK1;generalize WE.putObj D (.deferred none)=WF at *;obtain⟨B1,m1,e1,hmem,hle1,hmx1⟩:=EO.mem;have q4:WF.cell? ⟨b4,0,none⟩=some (.slice B0 N m0):=(E4.at_ (k:=0) rfl).1;have q5:WF.cell? ⟨b5,0,none⟩=some (.int .i64 0):=(E5.at_ (k:=0) rfl).1;have hRN:=HRL.out;cases e1;exact⟨.tuple #[.slice B0 N m0,.int .i64 0],by simp [results,results213,go_sem,q4,q5],.inr ⟨by omega,B0,m0,R,by rw [hRN],hmem,hle1,hmx1,by rw [hpl,hful.out],EG,EO.low (show w.heap.size<=b6+1 by omega)⟩⟩
 case stop =>
  rintro D cc pre W hD hpre ⟨rfl,hX⟩ hK;have hmany:64<(setl L s).length:=by
   obtain⟨rest,hr⟩:=hpre;have h1:=hX.many;rw [<- hful.out,<- hr];have:(ful pre).length<=(ful (pre++rest)).length:=by
    unfold ful;rw [List.map_append,List.filter_append,List.length_append];omega
   omega
  have HX:=hid hX;have HK:=hid hK;clear hX hK hpre
  gi_wp2_with fail
  refine⟨by simp,.inl ⟨_,_,rfl,run_takeDeferred HK.out,?_⟩⟩;have E4:=blk_kept HX.out.r4 (grownBy_putObj' W D (.deferred none)) (λ r e=>by cases e;exact⟨_,HK.out,rfl⟩);have E5:=blk_kept HX.out.r5 (grownBy_putObj' W D (.deferred none)) (λ r e=>by cases e;exact⟨_,HK.out,rfl⟩);have EG:=HX.out.gr.gb (grownBy_putObj' W D (.deferred none)) (λ k e=>by cases e;exact Nat.le_trans G3.out.size hD);generalize W.putObj D (.deferred none)=WF at *;have q4:WF.cell? ⟨b4,0,none⟩=some (.slice none 0 0):=(E4.at_ (k:=0) rfl).1;have q5:WF.cell? ⟨b5,0,none⟩=some (.int .i64 5):=(E5.at_ (k:=0) rfl).1;exact⟨.tuple #[.slice none 0 0,.int .i64 5],by simp [results,results213,go_sem,q4,q5],.inl ⟨hmany,rfl,EG⟩⟩
end
end
end Go.Proofs.YtainfijdhcehlaaGreatDoor
