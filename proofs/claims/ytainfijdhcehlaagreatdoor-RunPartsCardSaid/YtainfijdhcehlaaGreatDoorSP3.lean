/-
  A part of the proof.
-/
import Derived.Test.YtainfijdhcehlaaGreatDoorSP2
set_option linter.unusedVariables false
set_option linter.unusedSimpArgs false
set_option maxRecDepth 100000
set_option maxHeartbeats 8000000
namespace Go.Proofs.YtainfijdhcehlaaGreatDoor
open Lib (hid)
open Go.Proofs.Tryz
open Go.ChangeAt Go.ChangeShapes Go.RowKit Go.WideShapes
section
namespace P17
open P16
def Off (S:Nat->Prop) (W W':World):Prop:=W.heap.size<=W'.heap.size/\∀ k,k<W.heap.size->¬ S k->W'.heap[k]?=W.heap[k]?
def WOff (S:Nat->Prop) (W:World) (r:WR) (ω:Wv):Prop:=∀ W',Off S W W'->WIs W' r ω
section
variable {S S':Nat->Prop} {W W' W'':World} {r:WR} {ω:Wv} {B:Nat}
theorem Off.refl:Off S W W:=⟨Nat.le_refl _,λ _ _ _=>rfl⟩
theorem Off.trans (h:Off S W W') (k:Off S W' W''):Off S W W'' :=
 ⟨Nat.le_trans h.1 k.1,λ j h1 h2=>(k.2 j (zlt h1 h.1) h2).trans (h.2 j h1 h2)⟩
theorem Off.join (h:Off S W W') (k:Off S' W' W'') (hs:∀ j,j<W.heap.size->S' j->S j):Off S W W'' :=
 ⟨Nat.le_trans h.1 k.1,λ j h1 h2=>(k.2 j (zlt h1 h.1) λ q=>h2 (hs j h1 q)).trans (h.2 j h1 h2)⟩
theorem Off.mono (h:Off S W W') (hs:∀ k,k<W.heap.size->S k->S' k):Off S' W W':=⟨h.1,λ k h1 h2=>h.2 k h1 λ q=>h2 (hs k h1 q)⟩
theorem Off.gr (g:Gr W W'):Off S W W':=⟨g.size,λ k h _=>g.block k h⟩
theorem Off.st {p:Addr} (hp:S p.block) (u:Value):Off S W (W.setCell p u) :=
 ⟨by simp [World.setCell],λ k h1 h2=>Below.heap_setCell W p u k (λ e=>h2 (e▸hp))⟩
theorem off6 {b:Nat} (hb:S b) (x0 x1 x2 x3 x4 x5:Value):Off S W ((((((W.setCell ⟨b,0,none⟩ x0).setCell ⟨b,1,none⟩ x1).setCell ⟨b,2,none⟩ x2).setCell ⟨b,3,none⟩ x3).setCell ⟨b,4,none⟩ x4).setCell ⟨b,5,none⟩ x5) :=
 ((((((Off.st (p:=⟨b,0,none⟩) hb x0).trans (Off.st (p:=⟨b,1,none⟩) hb x1)).trans (Off.st (p:=⟨b,2,none⟩) hb x2)).trans (Off.st (p:=⟨b,3,none⟩) hb x3)).trans (Off.st (p:=⟨b,4,none⟩) hb x4)).trans (Off.st (p:=⟨b,5,none⟩) hb x5))
theorem Off.ch {c:Nat} (hc:S c) (cap:Nat) (buf:Array Value) (cl:Bool) (s r:Nat) (tm:Bool):Off S W (W.setChan c cap buf cl s r tm) :=
 ⟨by simp [World.setChan],λ k h1 h2=>by
   have hk:c≠k:=by rintro rfl;exact h2 hc
   simp only [World.setChan];rw [Array.getElem?_setIfInBounds_ne hk]⟩
theorem Off.gb {R:Option Nat} (hg:W.grownBy W' R) (hr:∀ k,R=some k->S k):Off S W W' :=
 ⟨hg.size,λ k h1 h2=>hg.block k h1 (λ e=>h2 (hr k e.symm))⟩
theorem Off.fromB (h:Off S W W') (hs:∀ k,S k->k<B):FromB B W W':=⟨h.1,λ k h1 h2=>h.2 k h2 λ q=>by have:=hs k q;omega⟩
theorem WOff.is (h:WOff S W r ω):WIs W r ω:=h W Off.refl
theorem WOff.to (h:WOff S W r ω) (g:Off S W W'):WOff S W' r ω:=λ _ k=>h _ (g.trans k)
theorem WOff.gr (h:WOff S W r ω) (g:Gr W W'):WOff S W' r ω:=h.to (Off.gr g)
theorem WOff.sub (h:WOff S W r ω) (hs:∀ k,k<W.heap.size->S' k->S k):WOff S' W r ω:=λ _ k=>h _ (k.mono hs)
theorem WOff.new (h:WNew B W r ω) (hs:∀ k,S k->k<B):WOff S W r ω:=λ _ k=>h _ (k.fromB hs)
theorem blk_off {b:Nat} {cs:Array Value} {t:TypeId} (h:Blk W b cs t) (g:Off S W W') (hb:¬ S b):Blk W' b cs t:=(g.2 b h.lt hb).trans h
theorem obj_off {b:Nat} {o:Obj} (h:W.heap[b]?=some o) (g:Off S W W') (hb:¬ S b):W'.heap[b]?=some o:=(g.2 b (zal h) hb).trans h
theorem own_off {base q n:Nat} {e:TypeId} {v:Value} {xs:List Value} (h:W.ownsRow base e q v n xs) (g:Off S W W') (hb:∀ k,v.ownBlock=some k->¬ S k):W'.ownsRow base e q v n xs:=by
 refine⟨h.1,?_⟩;rcases h.2 with ⟨hv,h0⟩ | ⟨g',cap,cur,hv,hbg,hg,hnc,hcm,hs,ht⟩
 . exact .inl ⟨hv,h0⟩
 . subst hv
   refine .inr ⟨g',cap,cur,rfl,hbg,obj_off hg g (hb g' rfl),hnc,hcm,hs,ht⟩
end
theorem own_low {w:World} {base b2 q n:Nat} {e:TypeId} {v:Value} {xs:List Value} (h:w.ownsRow base e q v n xs) (hb:b2<=base):w.ownsRow b2 e q v n xs:=by
 refine⟨h.1,?_⟩;rcases h.2 with ⟨hv,h0⟩ | ⟨g',cap,cur,hv,hbg,hg,hnc,hcm,hs,ht⟩
 . exact .inl ⟨hv,h0⟩
 . exact .inr ⟨g',cap,cur,hv,Nat.le_trans hb hbg,hg,hnc,hcm,hs,ht⟩
abbrev Hp:=Int×Int×T3
def hpV (x:Hp):List Value:=[.int .i64 x.1,.int .i64 x.2.1,.int .i64 x.2.2.1,.int .i64 x.2.2.2.1,.int .i64 x.2.2.2.2]
theorem hpV_len (x:Hp):(hpV x).length=5:=rfl
abbrev HOwn (w:World) (base:Nat) (v:Value) (l:List Hp):Prop:=w.ownsRow base 77 5 v l.length (l.flatMap hpV)
theorem infoHp:(prog.info? 77).map (λ i=>(i.zero,i.size,i.bytes))=some (some (.agg #[.int .i64 0,.int .i64 0,.int .i64 0,.int .i64 0,.int .i64 0]),5,40):=by kernel_rfl
theorem HOwn.nil (w:World) (base:Nat):HOwn w base (.slice none 0 0) []:=World.ownsRow_nil w base _ 5
theorem append_where {P:Program} {w:World} {base:Nat} {t ty e:TypeId} {i:TypeInfo} {z:Value} {size bytes:Nat} (ht:P.underlying t=some (.slice e)) (hi:P.info? e=some i) (hz:i.zero=some z)
 (hsize:i.size=size) (hby:i.bytes=bytes) {v:Value} {n:Nat} {xs:List Value} (hown:w.ownsRow base e size v n xs)
 {a:Addr} {m c:Nat} {news:List Value} (hl:news.length=m*size) (hnews:∀ j u,news[j]?=some u->w.cell? (a.add j)=some u) (h1:∀ u∈news,u.oneCell'=true) (hm:0<m)
 (h63:n+m<=maxLen) (hbytes:(n+m)*bytes<=140737488355328) {v':Value} {w':World} (hr:(Builtin.append_ #[t,t] ty #[v,.slice (some a) m c]).run P w=.ok v' w') :
 ∀ k,v'.ownBlock=some k->v.ownBlock=some k\/w.heap.size<=k:=by
 subst hsize;subst hby;have hsmall:n+m<=9223372036854775807:=by simp only [maxLen] at h63;omega
 rcases hown.2 with ⟨rfl,rfl⟩ | ⟨g,cap,cur,rfl,hbg,hg,hnc,hcm,hcs,htake⟩
 . have h:=run_append_nil (P:=P) w t ty e i z ht hi hz a m c news hl hnews hm (by omega) (by have hb:=hbytes;simp only [Nat.zero_add] at hb;omega)
   rw [h] at hr;cases hr;exact λ k hk=>.inr (by simp [Value.ownBlock] at hk;omega)
 . by_cases hroom:n+m<=cap
   . have hfit:n*i.size+news.length<=cur.size:=by rw [hl,hcs,<- Nat.add_mul];exact Nat.mul_le_mul_right _ hroom
     have h:=run_append_room (P:=P) w t ty e i ht hi g n cap cur hg a m c news hl hnews h1 hroom hfit;rw [h] at hr;cases hr;exact λ k hk=>.inl (by simpa [Value.ownBlock] using hk)
   . have holds:∀ j u,xs[j]?=some u->w.cell? ((⟨g,0,none⟩:Addr).add j)=some u:=hown.cells (g:=g) rfl
     have h:=run_append_grow (P:=P) w t ty e i z ht hi hz ⟨g,0,none⟩ n cap xs hown.1 holds a m c news hl hnews (by omega) (by omega) (growslice_fits (by omega) hbytes);rw [h] at hr;cases hr;exact λ k hk=>.inr (by simp [Value.ownBlock] at hk;omega)
theorem hpV_one (x:Hp):∀ u∈hpV x,u.oneCell'=true:=by
 intro u hu;simp [hpV] at hu;rcases hu with rfl | rfl | rfl | rfl | rfl<;>rfl
theorem hps_len:∀ l:List Hp,(l.flatMap hpV).length=l.length*5:=flat_len' (λ _=>rfl)
theorem run_append_hps {w:World} {base:Nat} {v:Value} {l N:List Hp} (h:HOwn w base v l) {ad:Addr} {m c:Nat} (hN:N.length=m) (hm:0<m) (hx:∀ j u,(N.flatMap hpV)[j]?=some u->w.cell? (ad.add j)=some u)
 (hl:l.length+m<=1000000) (hbase:base<=w.heap.size) (ty:TypeId) :
 ∃ v' w',(Builtin.append_ #[72,72] ty #[v,.slice (some ad) m c]).run prog w=.ok v' w'/\HOwn w' base v' (l++N)/\w.grownBy w' v.ownBlock/\∀ k,v'.ownBlock=some k->v.ownBlock=some k\/w.heap.size<=k:=by
 obtain⟨i,hi,hz,hs,hb⟩:=P13.info_parts infoHp;have hs:i.size=5:=hs;have hb:i.bytes=40:=hb;subst hN;have ho:∀ u∈N.flatMap hpV,u.oneCell'=true:=flat_one_of hpV_one N;obtain⟨v',w',hr,h2,h3,_⟩:=run_append_own (P:=prog) w base 72 ty 77 i (.agg #[.int .i64 0,.int .i64 0,.int .i64 0,.int .i64 0,.int .i64 0]) 5 40 underlying72 hi hz hs hb rfl (by decide) v _ _ h ad N.length c (N.flatMap hpV) (hps_len N) hx ho (by unfold maxLen;omega) (by omega) hbase;refine⟨v',w',hr,?_,h3,append_where underlying72 hi hz hs hb h (hps_len N) hx ho hm (by unfold maxLen;omega) (by omega) hr⟩;unfold HOwn;rw [List.length_append,List.flatMap_append];exact h2
theorem wp_append_hps {o:Oper} {a:Act} {K:Act->World->Prop} {Q:Exit->Act->World->Prop} {w:World} {base:Nat} {v:Value} {l:List Hp} {ad:Addr} {m c:Nat} (s x:Operand) (N:List Hp)
 (ho:o.op=.call { callee:=.builtin .append,args:=#[s,x],argTypes:=#[72,72] }) (hs:a.eval s=v) (hx:a.eval x=.slice (some ad) m c)
 (h:HOwn w base v l) (hN:N.length=m) (hm:0<m) (hc:∀ j u,(N.flatMap hpV)[j]?=some u->w.cell? (ad.add j)=some u) (hl:l.length+m<=1000000) (hbase:base<=w.heap.size)
 (hK:∀ v' w',HOwn w' base v' (l++N)->w.grownBy w' v.ownBlock->(∀ k,v'.ownBlock=some k->v.ownBlock=some k\/w.heap.size<=k)->K (a.put o.dst v') w'):o.wp prog a w K Q:=by
 obtain⟨v',w',h1,h2,h3,h4⟩:=run_append_hps (c:=c) h hN hm hc hl hbase o.type;unfold Oper.wp execOp;simp only [ho,resolve,invoke,builtin,Sem.run_bind,Sem.run_pure,Result.andThen_ok,List.map_toArray,List.map_cons,List.map_nil,hs,hx,h1];exact hK v' w' h2 h3 h4
theorem wpList_append_hps {ops:Array Oper} {rest:List Oper} {o:Oper} {a:Act} {Q:Exit->Act->World->Prop} {w:World} {base:Nat} {v:Value} {l:List Hp} {ad:Addr} {m c:Nat} (hgd:o.guard=none) (s x:Operand) (N:List Hp)
 (ho:o.op=.call { callee:=.builtin .append,args:=#[s,x],argTypes:=#[72,72] }) (hs:a.eval s=v) (hx:a.eval x=.slice (some ad) m c)
 (h:HOwn w base v l) (hN:N.length=m) (hm:0<m) (hc:∀ j u,(N.flatMap hpV)[j]?=some u->w.cell? (ad.add j)=some u) (hl:l.length+m<=1000000) (hbase:base<=w.heap.size)
 (hK:∀ v' w',HOwn w' base v' (l++N)->w.grownBy w' v.ownBlock->(∀ k,v'.ownBlock=some k->v.ownBlock=some k\/w.heap.size<=k)->wpList prog ops Q rest (a.put o.dst v') w'):wpList prog ops Q (o::rest) a w :=
 wpList_plain hgd λ _ hK'=>wp_append_hps s x N ho hs hx h hN hm hc hl hbase λ v' w' h1 h2 h3=>hK' _ _ (hK v' w' h1 h2 h3)
def happ (k:Nat) (now:Int) (ev:List T3):List Hp:=ev.map λ e=>((k:Int),now,e)
inductive GoW (ω:Wv):List P13.Pk->Wv->List Hp->Prop where
 | nil:GoW ω [] ω []
 | snoc {l:List P13.Pk} {χ ψ:Wv} {H:List Hp} {p:P13.Pk} {ev:List T3}:GoW ω l χ H->OneR χ p ψ ev->GoW ω (l++[p]) ψ (H++happ l.length ψ.now ev)
theorem OneR.few {ω ψ:Wv} {p:P13.Pk} {ev:List T3} (h:OneR ω p ψ ev):ev=[]\/∃ e,ev=[e]:=by
 rcases h with ⟨_,x,⟨_,_,q,_⟩ | ⟨_,_,_,q,_⟩ | ⟨_,_,_,_,_,q,_⟩⟩ | ⟨_,q,_⟩
 . exact .inl q
 . exact .inl q
 . rw [q];cases (P16.stp (mw ω) p.2.toNat).2 with
   | none=>exact .inl rfl
   | some e=>exact .inr ⟨e,rfl⟩
 . exact .inl q
theorem GoW.few {ω ψ:Wv} {l:List P13.Pk} {H:List Hp} (h:GoW ω l ψ H):H.length<=l.length:=by
 induction h with
 | nil=>exact Nat.le_refl _
 | snoc h1 h2 ih =>
  rcases h2.few with rfl | ⟨e,rfl⟩<;>simp [happ]<;>omega
end P17
end
section
namespace P17
open P16
abbrev HMem:=RMem hpV 5 (λ _:Hp=>True)
theorem run_hp_same (a b c d e:Int) (w:World):(binOp .neq 77 (.agg #[.int .i64 a,.int .i64 b,.int .i64 c,.int .i64 d,.int .i64 e]) (.agg #[.int .i64 a,.int .i64 b,.int .i64 c,.int .i64 d,.int .i64 e])).run prog w=.ok (.bool false) w:=by
 go_simp
theorem hmem_cells {w:World} {A:Option Addr} {n k:Nat} {H:List Hp} (h:HMem w A n H) (hk:k<n) :
 ∃ b off x,A=some ⟨b,off,none⟩/\b<w.heap.size/\H[k]?=some x/\w.cell? ⟨b,off+k*5,none⟩=some (.int .i64 x.1)/\w.cell? ⟨b,off+k*5+1,none⟩=some (.int .i64 x.2.1)/\w.cell? ⟨b,off+k*5+2,none⟩=some (.int .i64 x.2.2.1) /\
  w.cell? ⟨b,off+k*5+3,none⟩=some (.int .i64 x.2.2.2.1)/\w.cell? ⟨b,off+k*5+4,none⟩=some (.int .i64 x.2.2.2.2):=by
 obtain⟨b,off,x,h1,h2,h3,-,h5⟩:=h.at_ hk;exact⟨b,off,x,h1,h2,h3,h5 0 _ rfl,h5 1 _ rfl,h5 2 _ rfl,h5 3 _ rfl,h5 4 _ rfl⟩
theorem imem_cut {w:World} {A:Option Addr} {n c k:Nat} {l:List Int} (h:IMem w A n l) (hc:n<=c) (hk:k<=n):IMem w (if c-k=0 then A else A.map (·.add k)) (n-k) (l.drop k):=by
 by_cases h0:n-k=0
 . exact⟨by rw [List.length_drop,h.1],λ x hx=>h.2.1 x (List.mem_of_mem_drop hx),λ q=>by omega⟩
 . obtain⟨b,off,rfl,hb,hx⟩:=h.2.2 (by omega)
   rw [if_neg (by omega)];have e:(some (⟨b,off,none⟩:Addr)).map (·.add k)=some ⟨b,off+k,none⟩:=by rw [Option.map_some,add_plain]
   rw [e];exact h.drop_ rfl k hk
theorem rSame17_is {w:World} {A B:Option Addr} {n c d:Nat} {H:List Hp} (ha:HMem w A n H) (hb:HMem w B n H) (hn:n<=9223372036854775807) :
 Calls prog 29 #[.slice A n c,.slice B n d] w λ e w'=>e=.returned (.bool true)/\Gr w w':=by
 have t1:((n:Int) != (n:Int))=false:=by simp
 have HA:=hid ha;have HB:=hid hb;clear ha hb;go_enter func29,ntmps29;go_upto_region 4 with fail
 go_loopw [13] (λ i wr=>∃ k:Nat,k<=n/\i=.int .i64 (k:Int)/\Hid (Gr w wr)) (λ i _=>n-(intOf i).toNat)
 case atStart=>exact⟨0,Nat.zero_le _,rfl,hid (zr _)⟩
 case round =>
  obtain⟨k,hk,rfl,GW⟩:=hrel;by_cases hkn:k<n
  . have k0:(0:Int)<=(k:Int):=by omega
    have k1:(k:Int)<(n:Int):=by omega
    obtain⟨b,off,x,rfl,hb,hx,a0,a1,a2,a3,a4⟩:=hmem_cells (HA.out.gr GW.out) hkn;obtain⟨b',off',y,rfl,hb',hy,c0,c1,c2,c3,c4⟩:=hmem_cells (HB.out.gr GW.out) hkn;obtain rfl:x=y:=Option.some.inj (hx.symm.trans hy);have hne:=λ W=>run_hp_same x.1 x.2.1 x.2.2.1 x.2.2.2.1 x.2.2.2.2 W
    clear hx hy;go_wp2_with fail
    go_quiet (fail)
    go_wp2_with fail;go_roundw
    case rel=>exact⟨k+1,by omega,by go_num,hid (GW.out.drN _)⟩
    case measure=>simp [intOf];omega
  . obtain rfl:k=n:=by omega
    go_wp2_with fail;go_ret;exact⟨rfl,GW.out⟩
end P17
end
section
namespace P17
open P16
theorem z32:(0:Int)<=0/\(0:Int)<4294967296:=by decide
theorem z4:(0:Int)<=0/\(0:Int)<=4:=by decide
theorem zw:OkW 0:=by unfold OkW;decide
theorem first_right (p:List Ac):CRight p (first 0 false 0 p.length):=by
 unfold first;refine⟨Int.le_refl _,by show (0:Int)<=p.length;omega,?_,z32,.inl rfl,z4,zw,λ _=>⟨rfl,rfl⟩,λ k n _=>⟨.inl rfl,.inl rfl⟩⟩;dsimp only;by_cases h:(0:Int)=p.length<;>simp [h]
theorem new_right {l:List (List Ac)} (h:P12.rightB l=true):RightW (newW l):=by
 have hl:(newW l).cl.length=(newW l).progs.length:=by unfold newW;simp
 have h0:0<=(newW l).now/\(newW l).now<=4611686018427387904:=by show (0:Int)<=0/\(0:Int)<=4611686018427387904;decide
 refine⟨h0,h,hl,rfl,⟨Tab.nil,λ s hs=>nomatch hs⟩,λ s hs=>(nomatch hs),λ c hc=>?_,λ i c p hc hp=>?_,λ x hx=>?_,.inl rfl⟩
 . obtain⟨p,_,rfl⟩:=List.mem_map.1 hc
   unfold first;dsimp only
   split
   . exact⟨.inr (.inr rfl),λ q=>by cases q⟩
   . exact⟨.inl rfl,λ q=>by cases q⟩
 . have hc:(l.map λ p=>first 0 false 0 p.length)[i]?=some c:=hc
   have hp:l[i]?=some p:=hp;rw [List.getElem?_map,hp] at hc;cases hc;exact first_right p
 . have hx:x∈[((0:Int),(0:Int),(0:Int)),(0,0,0),(0,0,0),(0,0,0)]:=hx
   simp at hx;subst hx;exact⟨zw,z32,z32⟩
theorem one_right {p:List Ac} (hp:P12.rightB [p]=true) {χ:Wv} {a:Nat} {hd:Option Nat} {now:Int} (he:mw χ=W1 p a 0 hd now) (h4:χ.mx.length=4) (tab:TabA χ.tb) (hn:0<=now/\now<=4611686018427387904) (ha:a<p.length):RightW χ:=by
 have e1:χ.now=now:=congrArg Mw.now he;have e2:χ.progs=[p]:=congrArg Mw.progs he;have e3:χ.cl=[cAt a 0 p.length]:=congrArg Mw.cl he;have e4:χ.stop=0:=congrArg Mw.stop he;have ec:∀ m,(mw χ).cm m=⟨if hd=some m then 1 else 0,0,0,0,[]⟩:=λ m=>by rw [he];rfl
 have et:∀ s,s∈χ.tb->False:=λ s hs=>by
  obtain⟨m,_,hm⟩:=tab.2 s hs;have h1:gt (svs χ.tb) s.1≠(0,[]):=(gt_has tab.1.2).1 ⟨_,List.mem_map.2 ⟨s,hs,rfl⟩,rfl⟩;rw [hm] at h1;have a1:(gtA χ.tb m).1=0:=congrArg Cm.c (ec m);have a2:(gtA χ.tb m).2=[]:=congrArg Cm.l (ec m);exact h1 (Prod.ext a1 a2)
 refine⟨by rw [e1];exact hn,by rw [e2];exact hp,by rw [e2,e3];rfl,h4,tab,λ s hs=>(et s hs).elim,λ c hc=>?_,λ i c q hc hq=>?_,λ x hx=>?_,.inl e4⟩
 . rw [e3] at hc
   obtain rfl:=List.mem_singleton.1 hc;rw [cAt_lt ha];exact⟨.inl rfl,λ q=>by cases q⟩
 . rw [e3] at hc
   rw [e2] at hq
   cases i with
   | succ i=>simp at hc
   | zero =>
    simp at hc hq;subst hq;subst hc;rw [cAt_lt ha];refine⟨by show (0:Int)<=a;omega,by show (a:Int)<=p.length;omega,?_,z32,.inl rfl,z4,zw,λ _=>⟨rfl,rfl⟩,λ k n _=>⟨.inl rfl,.inl rfl⟩⟩;constructor
    . intro h;have h:(a:Int)=p.length:=h;omega
    . intro h;exact absurd (show (0:Int)=2 from h) (by decide)
 . obtain⟨m,hx⟩:=List.getElem?_of_mem hx
   have e:=mxAt_get hx;have a1:(mxAt χ.mx m).1=(if hd=some m then 1 else 0):=congrArg Cm.word (ec m);have a2:(mxAt χ.mx m).2.1=0:=congrArg Cm.nx (ec m);have a3:(mxAt χ.mx m).2.2=0:=congrArg Cm.sv (ec m);rw [e] at a1 a2 a3;rw [a1,a2,a3];refine⟨?_,z32,z32⟩;unfold OkW
   split<;>decide
theorem one_step {p:List Ac} (hp:P12.rightB [p]=true) {χ ψ:Wv} {a:Nat} {hd:Option Nat} {now:Int} {ev:List T3} {x:Int} (hr:RightW χ) (he:mw χ=W1 p a 0 hd now) (ha:a<p.length) (h:StepM χ 0 ψ ev x) :
 ψ.mx.length=4/\TabA ψ.tb/\mw ψ=(P16.stp (W1 p a 0 hd now) 0).1/\ev=(P16.stp (W1 p a 0 hd now) 0).2.toList:=by
 have e3:χ.cl=[cAt a 0 p.length]:=congrArg Mw.cl he;have e4:χ.stop=0:=congrArg Mw.stop he;rcases h with ⟨q,_⟩ | ⟨_,q,_⟩ | ⟨_,_,h1,h2,h3,h5,_⟩
 . exact absurd hr q
 . rcases q with q | q | q | ⟨c,q,q2⟩
   . exact absurd e4 q
   . omega
   . rw [e3] at q;simp at q
   . rw [e3] at q
     simp at q;subst q;rw [cAt_lt ha] at q2;exact absurd rfl q2
 . rw [he] at h3 h5
   exact⟨h1,h2,h3,h5⟩
end P17
end
section
namespace P17
open P16
theorem svs_sub {l r:List Sp} (hl:TabA l) (hr:TabA r) (h:∀ m,gtA l m=gtA r m):∀ x,x∈svs l->x∈svs r:=by
 intro x hx;obtain⟨s,hs,rfl⟩:=List.mem_map.1 hx;obtain⟨m,_,hm⟩:=hl.2 s hs;have h1:gt (svs l) s.1=(s.2.1,s.2.2):=gt_mem hl.1.2 hx;have h2:gt (svs l) s.1≠(0,[]):=(gt_has hl.1.2).1 ⟨_,hx,rfl⟩;have h3:gt (svs r) s.1=gt (svs l) s.1:=by rw [hm];exact (h m).symm
 obtain⟨y,hy,hya⟩:=(gt_has hr.1.2).2 (by rw [h3];exact h2);obtain⟨t,ht,rfl⟩:=List.mem_map.1 hy;have h4:=gt_mem hr.1.2 hy;have hya:t.1=s.1:=hya;have h4:gt (svs r) t.1=(t.2.1,t.2.2):=h4;rw [hya,h3,h1,Prod.mk.injEq] at h4;exact List.mem_map.2 ⟨t,ht,by rw [hya,h4.1,h4.2]⟩
theorem mx_ext {l r:List T3} (h1:l.length=4) (h2:r.length=4) (h:∀ m,mxAt l m=mxAt r m):l=r:=by
 refine List.ext_getElem? λ i=>?_
 by_cases hi:i<4
 . have e1:=zge (l:=l) (i:=i) (by omega)
   have e2:=zge (l:=r) (i:=i) (by omega);rw [e1,e2,<- mxAt_get e1,<- mxAt_get e2,h]
 . rw [List.getElem?_eq_none (by omega),List.getElem?_eq_none (by omega)]
theorem wv_ext {ω ψ:Wv} (h:mw ω=mw ψ) (h1:ω.mx.length=4) (h2:ψ.mx.length=4) (t1:TabA ω.tb) (t2:TabA ψ.tb):ω=ψ:=by
 have e1:ω.now=ψ.now:=congrArg Mw.now h;have e2:ω.progs=ψ.progs:=congrArg Mw.progs h;have e3:ω.cl=ψ.cl:=congrArg Mw.cl h;have e4:ω.stop=ψ.stop:=congrArg Mw.stop h;have ec:∀ m,(mw ω).cm m=(mw ψ).cm m:=λ m=>by rw [h]
 have e5:ω.mx=ψ.mx:=mx_ext h1 h2 λ m=>by
  have a1:(mxAt ω.mx m).1=(mxAt ψ.mx m).1:=congrArg Cm.word (ec m);have a2:(mxAt ω.mx m).2.1=(mxAt ψ.mx m).2.1:=congrArg Cm.nx (ec m);have a3:(mxAt ω.mx m).2.2=(mxAt ψ.mx m).2.2:=congrArg Cm.sv (ec m);exact Prod.ext a1 (Prod.ext a2 a3)
 have eg:∀ m,gtA ω.tb m=gtA ψ.tb m:=λ m=>by
  have a1:=congrArg Cm.c (ec m);have a2:=congrArg Cm.l (ec m);exact Prod.ext a1 a2
 have e6:svs ω.tb=svs ψ.tb:=tok_ext t1.1.2 t2.1.2 λ x=>⟨svs_sub t1 t2 eg x,svs_sub t2 t1 (λ m=>(eg m).symm) x⟩
 have e7:ω.tb=ψ.tb:=by rw [<- svs_pl ω.tb,<- svs_pl ψ.tb,e6]
 cases ω;cases ψ;simp only at e1 e2 e3 e4 e5 e7;subst e1 e2 e3 e4 e5 e7;rfl
section
variable {ω ψ χ:Wv} {p:P13.Pk} {ev:List T3} {l r:List P13.Pk} {H:List Hp}
theorem StepM.one {who:Int} {x:Int} {ψ':Wv} {ev':List T3} {x':Int} (h:StepM ω who ψ ev x) (h':StepM ω who ψ' ev' x'):ψ=ψ'/\ev=ev':=by
 rcases h with ⟨a,rfl,rfl,_⟩ | ⟨a,b,rfl,rfl,_⟩ | ⟨a,b,c1,c2,c3,c4,_⟩
 . rcases h' with ⟨_,rfl,rfl,_⟩ | ⟨a',_⟩ | ⟨a',_⟩
   . exact⟨rfl,rfl⟩
   . exact absurd a' a
   . exact absurd a' a
 . rcases h' with ⟨a',_⟩ | ⟨_,_,rfl,rfl,_⟩ | ⟨_,b',_⟩
   . exact absurd a a'
   . exact⟨rfl,rfl⟩
   . exact absurd b b'
 . rcases h' with ⟨a',_⟩ | ⟨_,b',_⟩ | ⟨_,_,d1,d2,d3,d4,_⟩
   . exact absurd a a'
   . exact absurd b' b
   . exact⟨wv_ext (c3.trans d3.symm) c1 d1 c2 d2,c4.trans d4.symm⟩
theorem TickM.one {d y y':Int} {τ τ':Wv} (h:TickM ω d τ y) (h':TickM ω d τ' y'):τ=τ'/\y=y':=by
 rcases h with ⟨a,rfl,rfl⟩ | ⟨a,b,c,rfl,rfl⟩ | ⟨a,b,c,e,rfl,rfl⟩ | ⟨a,b,c,e,rfl,rfl⟩ <;>
 rcases h' with ⟨a',rfl,rfl⟩ | ⟨a',b',c',rfl,rfl⟩ | ⟨a',b',c',e',rfl,rfl⟩ | ⟨a',b',c',e',rfl,rfl⟩ <;>
 first
  | exact⟨rfl,rfl⟩
  | exact absurd ⟨a',b'⟩ a
  | exact absurd ⟨a,b⟩ a'
  | exact absurd c' c
  | exact absurd c c'
  | omega
theorem OneR.one {ψ':Wv} {ev':List T3} (h:OneR ω p ψ ev) (h':OneR ω p ψ' ev'):ψ=ψ'/\ev=ev':=by
 rcases h with ⟨a,x,h⟩ | ⟨a,rfl,τ,y,h,k⟩
 . rcases h' with ⟨_,x',h'⟩ | ⟨a',_⟩
   . exact StepM.one h h'
   . omega
 . rcases h' with ⟨a',_⟩ | ⟨_,rfl,τ',y',h',k'⟩
   . omega
   . obtain⟨rfl,rfl⟩:=TickM.one h h'
     rcases k with ⟨k1,rfl⟩ | ⟨k1,rfl⟩<;>rcases k' with ⟨k2,rfl⟩ | ⟨k2,rfl⟩<;>first | exact⟨rfl,rfl⟩ | exact absurd k1 k2 | exact absurd k2 k1
theorem GoW.empty (h:GoW ω [] ψ H):ψ=ω/\H=[]:=by
 generalize e:([]:List P13.Pk)=l at h
 cases h with
 | nil=>exact⟨rfl,rfl⟩
 | snoc h1 h2=>simp at e
theorem GoW.last (h:GoW ω (l++[p]) ψ H):∃ χ H' ev,GoW ω l χ H'/\OneR χ p ψ ev/\H=H'++happ l.length ψ.now ev:=by
 generalize e:l++[p]=r at h
 cases h with
 | nil=>simp at e
 | snoc h1 h2 =>
  obtain⟨rfl,e2⟩:=List.append_inj' e rfl;cases e2;exact⟨_,_,_,h1,h2,rfl⟩
theorem GoW.one:∀ {l:List P13.Pk} {ψ ψ':Wv} {H H':List Hp},GoW ω l ψ H->GoW ω l ψ' H'->ψ=ψ'/\H=H':=by
 intro l ψ ψ' H H' h
 induction h generalizing ψ' H' with
 | nil=>intro h';obtain⟨rfl,rfl⟩:=GoW.empty h';exact⟨rfl,rfl⟩
 | snoc h1 h2 ih =>
  intro h';obtain⟨χ,H2,ev,k1,k2,rfl⟩:=GoW.last h';obtain⟨rfl,rfl⟩:=ih k1;obtain⟨rfl,rfl⟩:=OneR.one h2 k2;exact⟨rfl,rfl⟩
def later (k:Nat) (H:List Hp):List Hp:=H.map λ x=>(x.1+(k:Int),x.2)
theorem GoW.join {F:List Hp} (h:GoW ω l χ F) (k:GoW χ r ψ H):GoW ω (l++r) ψ (F++later l.length H):=by
 induction k with
 | nil=>simpa [later] using h
 | @snoc l' χ' ψ' H' p ev h1 h2 ih =>
  have:=ih.snoc h2;rw [List.append_assoc,List.append_assoc] at this;have e:later l.length (H'++happ l'.length ψ'.now ev)=later l.length H'++happ (l++l').length ψ'.now ev:=by
   unfold later happ;rw [List.map_append,List.map_map];congr 1;refine List.map_congr_left λ x _=>?_
   show ((l'.length:Int)+(l.length:Int),ψ'.now,x)=((((l++l').length:Nat):Int),ψ'.now,x);have:(l'.length:Int)+(l.length:Int)=(((l++l').length:Nat):Int):=by rw [List.length_append];omega
   rw [this]
  rw [e];exact this
end
theorem alive17 {ψ:Wv} {H:List Hp} (h:GoW (newW [p0]) ([0,-5,0].map P13.rd) ψ H):ψ.now=5/\H=[(0,0,0,0,0),(2,5,0,3,0)]:=by
 have e:([0,-5,0]:List Int).map P13.rd=(([]++[(0,0)])++[(1,5)])++[(0,0)]:=by decide
 rw [e] at h;obtain⟨χ2,H2,ev3,h2,k3,rfl⟩:=GoW.last h;clear h;obtain⟨χ1,H1,ev2,h1,k2,rfl⟩:=GoW.last h2;clear h2;obtain⟨χ0,H0,ev1,h0,k1,rfl⟩:=GoW.last h1;clear h1;obtain⟨rfl,rfl⟩:=GoW.empty h0;have a0:mw (newW [p0])=W1 p0 0 0 none 0:=by rw [mw_new];exact new_one
 have s1:P16.stp (W1 p0 0 0 none 0) 0=(W1 p0 1 0 (some 0) 0,some (0,0,0)):=alone_lock (p:=p0) (a:=0) (n:=0) rfl;rcases k1 with ⟨_,x1,k1⟩ | ⟨q,_⟩
 case inr=>exact absurd q (by decide)
 obtain⟨m1,t1,e1,rfl⟩:=one_step p0_right (new_right p0_right) a0 (by decide) k1;rw [s1] at e1 ⊢;have e1:mw χ1=W1 p0 1 0 (some 0) 0:=e1;have r1:RightW χ1:=one_right p0_right e1 m1 t1 (by decide) (by decide);rcases k2 with ⟨q,_⟩ | ⟨_,rfl,τ,y,k2,hy⟩
 . exact absurd q (by decide)
 have n1:χ1.now=0:=congrArg Mw.now e1;have st1:χ1.stop=0:=congrArg Mw.stop e1;obtain rfl:χ2={ χ1 with now:=χ1.now+5 }:=by
  rcases k2 with ⟨q,_⟩ | ⟨_,_,q,_⟩ | ⟨_,_,_,_,q,q2⟩ | ⟨_,_,_,q,_⟩
  . exact absurd ⟨r1,by unfold Tim;decide⟩ q
  . exact absurd st1 q
  . rcases hy with ⟨_,e⟩ | ⟨e,_⟩
    . exact e.trans q
    . exact absurd q2 e
  . rw [n1] at q
    exact absurd q (by decide)
 have e2:mw { χ1 with now:=χ1.now+5 }=W1 p0 1 0 (some 0) 5:=by
  have:mw { χ1 with now:=χ1.now+5 }={ mw χ1 with now:=χ1.now+5 }:=rfl;rw [this,e1,n1];rfl
 have r2:RightW { χ1 with now:=χ1.now+5 }:=one_right p0_right e2 m1 t1 (by decide) (by decide);rcases k3 with ⟨_,x3,k3⟩ | ⟨q,_⟩
 case inr=>exact absurd q (by decide)
 obtain⟨_,_,e3,rfl⟩:=one_step p0_right r2 e2 (by decide) k3;have s2:P16.stp (W1 p0 1 0 (some 0) 5) 0=(W1 p0 2 0 none 5,some (0,3,0)):=alone_give (p:=p0) (a:=1) (n:=0) rfl;rw [s2] at e3 ⊢;have n3:ψ.now=5:=congrArg Mw.now e3;refine⟨n3,?_⟩;rw [n3,n1];rfl
end P17
end
section
open Go.Conc Go.ChangeShapes Go.WideShapes Go.ChangeAt Go.RowKit
namespace P17
open P16
open P13 (rd pk okP rd_ok)
def GoR (ω:Wv) (L:List Int) (ψ:Wv) (H:List Hp) (x:Int):Prop :=
 (20000<L.length/\ψ=zeroW/\H=[]/\x=2)\/(L.length<=20000/\¬ RightW ω/\ψ=zeroW/\H=[]/\x=1)\/(L.length<=20000/\RightW ω/\GoW ω (L.map rd) ψ H/\x=0)
def GoQ (w:World) (ω:Wv) (L:List Int) (e:Ending) (w':World):Prop :=
 (∃ (s:WR) (ψ:Wv) (A:Option Addr) (n c:Nat) (H:List Hp) (x:Int),e=.returned (.tuple #[s.v,.slice A n c,.int .i64 x])/\GoR ω L ψ H x /\
   WOff (λ k=>k<w.heap.size\/(Value.slice A n c).ownBlock=some k) w' s ψ/\HOwn w' w.heap.size (.slice A n c) H/\H.length=n)/\Gr w w'
theorem pks_tail (v:Int) (l:List Int):(pks (v::l)).extract 1 (pks (v::l)).size=pks l:=by
 unfold pks;apply Array.ext';simp only [List.extract_toArray,List.map_cons,List.length_cons,List.size_toArray,List.length_map];simp;exact List.take_of_length_le (by simp)
theorem new2 (w:World) (o:Obj) (cs:Array Value) (t:TypeId):((w.alloc o).alloc (.cells cs t)).heap[w.heap.size+1]?=some (.cells cs t (0,0)):=by
 have:=Blk.new (w.alloc o) cs t;rwa [zsA] at this
theorem tick0 {ω τ:Wv} {y:Int} (hr:RightW ω) (h:TickM ω 0 τ y):τ=ω:=by
 rcases h with ⟨q,_⟩ | ⟨_,_,_,q,_⟩ | ⟨_,_,_,_,q,_⟩ | ⟨_,_,_,q,_,_⟩
 . exact absurd ⟨hr,by decide,by decide⟩ q
 . exact q
 . rw [q];simp
 . have:=hr.now;omega
section
variable {w:World} {r:WR} {ω:Wv} {A:Option Addr} {n c:Nat} {L:List Int}
theorem go_goes (hM:Mach) (hg:P15.Glob w) (h:WIs w r ω) (hm:IMem w A n L) (hn:n<=20000) (hr:RightW ω) :
 Calls prog 28 #[r.v,.slice A n c] w (GoQ w ω L):=by
 have hlen:=hm.1;have cR:=λ W (g:Gr w W)=>hid (P16.Right_is (W:=W) (h.gr g) (v:=true) (by simp [hr]))
 have n1:¬ (20000:Int)<(n:Int):=by omega
 have BW:=(Blk.new w r.a 29).al (.cells #[.int .i64 0,.slice none 0 0,.slice none 0 0,.slice none 0 0,.slice none 0 0,.int .i64 0] 29);have BZ:=Blk.new (w.alloc (.cells r.a 29)) #[.int .i64 0,.slice none 0 0,.slice none 0 0,.slice none 0 0,.slice none 0 0,.int .i64 0] 29;rw [zsA] at BZ;have G0:=hid (((zr w).al (.cells r.a 29)).al (.cells #[.int .i64 0,.slice none 0 0,.slice none 0 0,.slice none 0 0,.slice none 0 0,.int .i64 0] 29));have HM:=hid hm;have HW:=hid h;clear hm h;go_enter func28,ntmps28;go_upto_region 1 with fail;generalize (w.alloc (.cells r.a 29)).alloc (.cells #[.int .i64 0,.slice none 0 0,.slice none 0 0,.slice none 0 0,.slice none 0 0,.int .i64 0] 29)=V at BW BZ G0 ⊢;have ltw:=BW.lt;obtain⟨⟨b0,bz0⟩,⟨b1,bz1⟩,⟨b2,bz2⟩,⟨b3,bz3⟩,⟨b4,bz4⟩,⟨b5,bz5⟩⟩:=at6z BW;replace cR:=cR V G0.out;go_wp2_with fail;refine cR.out.mono ?_;rintro e w1 ⟨rfl,g1⟩;replace BW:=BW.gr g1;replace BZ:=hid (BZ.gr g1);have G1:=hid (G0.out.trans g1);have cT:=hid (hM.tick w1 r ω 0 (hg.gr G1.out) (HW.out.gr G1.out) (by unfold B64;decide));have z1:w.heap.size+1<w1.heap.size:=BZ.out.lt;clear b0 bz0 b1 bz1 b2 bz2 b3 bz3 b4 bz4 b5 bz5 ltw cR g1 G0;have ltw:=BW.lt;obtain⟨⟨b0,bz0⟩,⟨b1,bz1⟩,⟨b2,bz2⟩,⟨b3,bz3⟩,⟨b4,bz4⟩,⟨b5,bz5⟩⟩:=at6z BW;go_wp2_with fail;refine cT.out.mono ?_;rintro e w2 ⟨⟨s,τ,x,rfl,hT,hWn⟩,g2⟩;obtain rfl:ω=τ:=(tick0 hr hT).symm;have BN:=hid (Blk.new w2 s.a 29);have G3:=hid ((G1.out.trans g2).al (.cells s.a 29));have k2:=g2.size;have NW:=hid ((((WOff.new (S:=λ k=>k<w1.heap.size) hWn (λ k hk=>hk)).sub (S':=λ k=>k<w1.heap.size\/w2.heap.size<=k) (λ k h1 h2=>by rcases h2 with q | q<;>omega)).gr ((zr w2).al (.cells s.a 29))));replace BZ:=hid ((BZ.out.gr g2).al (.cells s.a 29));clear b0 bz0 b1 bz1 b2 bz2 b3 bz3 b4 bz4 b5 bz5 ltw cT BW hT hWn g2 G1;go_upto_region 8 with fail;generalize hV3:w2.alloc (.cells s.a 29)=W3 at BN BZ G3 NW ⊢;have k3:W3.heap.size=w2.heap.size+1:=by rw [<- hV3,zsA]
 clear hV3;generalize w2.heap.size=gN at BN NW k2 k3 ⊢;generalize w1.heap.size=B1 at NW z1 k2;have cP:=hid (picks_is (c:=c) (HM.out.gr G3.out) (show n<=100000 by omega));go_wp2_with fail;refine cP.out.mono ?_;rintro e w4 ⟨ch,rfl,g4,hch,hC⟩;have hlt4:=(zal hC);have HC:=hid hC;have G4:=hid (G3.out.trans g4);replace BN:=hid (BN.out.gr g4);replace BZ:=hid (BZ.out.gr g4);have NW4:=hid ((NW.out.gr g4).sub (S':=λ k=>k<B1\/k=gN\/k=ch\/(Value.slice none 0 0).ownBlock=some k) (λ k h1 h2=>(h2.elim .inl λ q=>.inr (q.elim (λ q=>by omega) λ q=>q.elim (λ q=>by omega) λ q=>by cases q))));have KS:=g4.size;clear cP hC g4 NW G3;go_upto_region 9 with fail;have KN:=hid (show gN<w4.heap.size by omega);have KC:=hid hlt4;have ZB:=hid (show w.heap.size+1<B1/\B1<=gN/\gN<ch from ⟨z1,k2,by omega⟩);clear z1 k2 k3 KS hch hlt4;obtain⟨K2,hK2⟩:∃ K,K=w4.heap.size:=⟨_,rfl⟩;rw [<- hK2] at KN KC;have KW0:=hid (show K2<=w4.heap.size by omega);clear hK2
 go_loopw [9,10] (λ av at_ wr=>∃ (j:Nat) (χ:Wv) (H:List Hp) (q:WR),j<=n/\at_=.int .i64 (j:Int)/\Hid (GoW ω ((L.map rd).take j) χ H)/\Hid (Blk wr gN q.a 29)/\Hid (Blk wr (w.heap.size+1) #[.int .i64 0,.slice none 0 0,.slice none 0 0,.slice none 0 0,.slice none 0 0,.int .i64 0] 29) /\
  Hid (WOff (λ k=>k<B1\/k=gN\/k=ch\/av.ownBlock=some k) wr q χ)/\Hid (HOwn wr K2 av H)/\Hid (Gr w wr)/\Hid (K2<=wr.heap.size)/\Hid (wr.heap[ch]?=some (.chan n (pks (L.drop j)) true n j false))) (λ _ i _=>n-(intOf i).toNat)
 case atStart=>exact⟨0,ω,[],s,Nat.zero_le _,rfl,hid (by rw [List.take_zero];exact .nil),BN,BZ,NW4,hid (HOwn.nil _ _),G4,KW0,HC⟩
 case round =>
  obtain⟨av0,rfl⟩:∃ x,x=u9:=⟨_,rfl⟩;obtain⟨j,χ,H,q,hj,rfl,HG,BQ,BZR,WQ,HO,GW,KW,CB⟩:=hrel;by_cases hjn:j<n
  . have j0:(0:Int)<=(j:Int):=by omega
    obtain⟨v,hv⟩:∃ v,L[j]?=some v:=⟨L[j]'(by omega),zge _⟩;have hd:L.drop j=v::L.drop (j+1):=by
     rw [List.drop_eq_getElem_cons (by omega)];congr 1;rw [zge (by omega)] at hv;exact Option.some.inj hv
    have CB1:wr.heap[ch]?=some (.chan n (pks (v::L.drop (j+1))) true n j false):=by rw [<- hd];exact CB.out
    have HTK:=hid (show (L.map rd).take (j+1)=(L.map rd).take j++[rd v] by rw [List.take_add_one,List.getElem?_map,hv];rfl);have htl:=hid (show ((L.map rd).take j).length=j by rw [List.length_take,List.length_map];omega);clear hd hv CB;go_upto_region 9 with fail;rename_i hK;refine Runs.region ?_;show Runs _ _ _ [0,1] _ _;refine Runs.get 0 (c:=ch) (z:=.agg #[.int .i64 0,.int .i64 0]) (w₁:=wr) (v:=.agg #[.int .i64 (rd v).1,.int .i64 (rd v).2]) (buf':=pks (L.drop (j+1))) CB1 (by simp [pks]) (by simp [pks,pk]) (pks_tail _ _) ?_;refine Runs.val 1 (v:=.bool true) ?_;refine Runs.of_wp (hK _ _ ?_);have CB2:=hid (heap_setChan wr ch n (pks (L.drop (j+1))) true n (j+1) false (zal CB1));have O1:Off (λ k=>k=ch) wr (wr.setChan ch n (pks (L.drop (j+1))) true n (j+1) false):=Off.ch (S:=λ k=>k=ch) rfl ..;have g1:Gr w (wr.setChan ch n (pks (L.drop (j+1))) true n (j+1) false):=below_setChan GW.out (by have:=ZB.out;omega) ..;have hrow:∀ k,av0.ownBlock=some k->K2<=k/\k<wr.heap.size:=λ k hk=>World.ownsRow.lt HO.out k hk
    have hzb:=ZB.out;have hkn:=KN.out;have hkw:=KW.out;have hkc:=KC.out;have BQ1:=blk_off BQ.out O1 (by omega);have BZ1:=blk_off BZR.out O1 (by omega);have WQ1:=WQ.out.to (O1.mono (S':=λ k=>k<B1\/k=gN\/k=ch\/av0.ownBlock=some k) λ k _ q=>.inr (.inr (.inl q)));have HO1:=own_off HO.out O1 (λ k hk q=>by have:=hrow k hk;omega);have kw1:=O1.1;clear hK CB1 O1 BQ BZR WQ HO GW KW hkc;generalize wr.setChan ch n (pks (L.drop (j+1))) true n (j+1) false=V1 at CB2 g1 BQ1 BZ1 WQ1 HO1 kw1 ⊢;have BP:=Blk.new V1 #[.int .i64 (rd v).1,.int .i64 (rd v).2] 108;have A2:=(zr V1).al (.cells #[.int .i64 (rd v).1,.int .i64 (rd v).2] 108);have CB3:=hid (obj_off CB2.out (Off.gr (S:=λ _=>False) A2) (λ h=>h));have BQ2:=BQ1.gr A2;have BZ2:=hid (BZ1.gr A2);have WQ2:=hid (WQ1.gr A2);have HO2:=hid (own_off HO1 (Off.gr (S:=λ _=>False) A2) (λ _ _ h=>h));have g2:=hid (g1.al (.cells #[.int .i64 (rd v).1,.int .i64 (rd v).2] 108));have kw2:K2<=V1.heap.size:=by omega
    have hrow2:=hid (show ∀ k,av0.ownBlock=some k->K2<=k/\k<V1.heap.size from λ k hk=>by have:=hrow k hk;omega);clear CB2 BQ1 BZ1 WQ1 HO1 g1 kw1 A2 hrow hkw;go_upto_region 11 with fail;have k2:(V1.alloc (.cells #[.int .i64 (rd v).1,.int .i64 (rd v).2] 108)).heap.size=V1.heap.size+1:=zsA _ _;generalize V1.alloc (.cells #[.int .i64 (rd v).1,.int .i64 (rd v).2] 108)=V2 at BP BQ2 BZ2 WQ2 HO2 g2 CB3 k2 ⊢;generalize V1.heap.size=gP at BP kw2 hrow2 k2 ⊢;have ltp:=BP.lt;have ltn:=BQ2.lt;obtain⟨p0,-⟩:=BP.at_ (k:=0) (v:=.int .i64 (rd v).1) rfl;obtain⟨p1,-⟩:=BP.at_ (k:=1) (v:=.int .i64 (rd v).2) rfl;obtain⟨q0,q1,q2,q3,q4,q5⟩:=at6 BQ2;have cG:=hid (goOn_is hM (p:=rd v) (hg.gr g2.out) WQ2.out.is (rd_ok v));go_wp2_with fail;refine cG.out.mono ?_;rintro e w6 ⟨⟨q',ψ,A',n',c',ev,rfl,hO,hQ,hE⟩,g6⟩;have B12:=Blk.new w6 q'.a 29;have A7:=g6.al (.cells q'.a 29);have BQ6:=hid (BQ2.gr A7);have BZ6:=hid (BZ2.out.gr A7);have CB6:=hid (obj_off CB3.out (Off.gr (S:=λ _=>False) A7) (λ h=>h));have HO6:=hid (own_off HO2.out (Off.gr (S:=λ _=>False) A7) (λ _ _ h=>h));have g7:=hid (g2.out.trans A7);have hrow3:=hrow2.out;have WQ6:Hid (WOff (λ k=>k<B1\/k=gN\/k=ch\/av0.ownBlock=some k) (w6.alloc (.cells q'.a 29)) q' ψ):=hid (by
     rcases hQ with ⟨rfl,rfl⟩ | hN
     . exact WQ2.out.gr A7
     . refine (WOff.new hN (λ k hk=>?_)).gr ((zr w6).al _)
       have hkc2:=KC.out;rcases hk with h | h | h | h
       . omega
       . omega
       . omega
       . have:=hrow3 k h;omega)
    have hnow:=hid (show q'.now=ψ.now from WQ6.out.is.now);have E6:=hid (hE.gr ((zr w6).al (.cells q'.a 29)));have hlen':=hE.is.len;have kv:=g6.size;have kw6:K2<=w6.heap.size:=by omega
    have HSM:=hid (show ∀ k,av0.ownBlock=some k->K2<=k/\k<V2.heap.size from λ k hk=>by have:=hrow3 k hk;omega);clear p0 p1 q0 q1 q2 q3 q4 q5 ltp ltn cG BP BQ2 BZ2 WQ2 HO2 g2 CB3 hrow2 hrow3 hE hQ g6 A7;go_upto_region 13 with fail;generalize w6.alloc (.cells q'.a 29)=V6 at B12 BQ6 BZ6 CB6 HO6 g7 WQ6 E6 ⊢;have kp:gP<V2.heap.size:=by omega
    clear k2;generalize V2.heap.size=B2 at E6 HSM kv kp;generalize w6.heap.size=g12 at B12 kv kw6 ⊢;have l12:=B12.lt;have HBO:=hid hO;have hn1':n'<=1:=by rw [<- hlen'];rcases hO.few with h | ⟨_,h⟩<;>rw [h]<;>simp
    clear hO
    go_loopw [9,42] (λ av i wr=>∃ m:Nat,m<=n'/\i=.int .i64 (m:Int)/\Hid (HOwn wr K2 av (H++happ j ψ.now (ev.take m)))/\Hid (Off (λ k=>av0.ownBlock=some k) V6 wr)/\Hid (Gr w wr)/\Hid (∀ k,av.ownBlock=some k->av0.ownBlock=some k\/V6.heap.size<=k)) (λ _ i _=>n'-(intOf i).toNat)
    case atStart=>exact⟨0,Nat.zero_le _,rfl,hid (by rw [List.take_zero];show HOwn _ _ _ (H++[]);rw [List.append_nil];exact HO6.out),hid Off.refl,g7,hid λ k hk=>.inl hk⟩
    case round =>
     obtain⟨m,hmn,rfl,HI,OI,GI,RI⟩:=hrel;by_cases hm:m<n'
     . have m0:(0:Int)<=(m:Int):=by omega
       have m1:(m:Int)<(n':Int):=by omega
       obtain⟨be,oe,y,rfl,hbe,hy,-,e0,e1,e2⟩:=T3Mem.cells (k:=m) (E6.out.to (OI.out.fromB (B:=B2) (λ k hk=>(HSM.out k hk).2))).is hm;have b12:=blk_off B12 OI.out (λ h=>by have:=HSM.out _ h;omega);have l0:=(b12.at_ (k:=0) (v:=.int .i64 q'.now) rfl).1;have ltg:=b12.lt;have HY:=hid hy;have hown:=HI.out;have hL:(H++happ j ψ.now (ev.take m)).length<=20001:=by
        have q1:=HG.out.few;have q2:=htl.out;have q3:ev.length<=1:=by rcases HBO.out.few with h | ⟨_,h⟩<;>rw [h]<;>simp
        rw [List.length_append];unfold happ;rw [List.length_map,List.length_take];omega
       have kI:K2<=wr.heap.size:=by have:=OI.out.1;omega
       obtain⟨HH,hHH⟩:∃ HH,H++happ j ψ.now (ev.take m)=HH:=⟨_,rfl⟩;rw [hHH] at hown hL;have HHH:=hid hHH;clear hHH HI;clear hy b12;go_wp2_with (at_builtin;refine wpList_append_hps rfl (.tmp 46) (.tmp 52) [((j:Int),q'.now,y)] rfl rfl rfl (w:=(wr.alloc (.cells #[.int .i64 y.1,.int .i64 y.2.1,.int .i64 y.2.2] 40)).alloc (.cells #[.int .i64 (j:Int),.int .i64 q'.now,.int .i64 y.1,.int .i64 y.2.1,.int .i64 y.2.2] 77)) (base:=K2) ((hown.alloc _).alloc _) rfl (by decide) (World.news_of_block (cs:=#[.int .i64 (j:Int),.int .i64 q'.now,.int .i64 y.1,.int .i64 y.2.1,.int .i64 y.2.2]) (t:=77) (fr:=(0,0)) (new2 wr _ _ _)) (by omega) ?c5 ?_)
       case c5=>first | omega | (simp only [zsA];omega)
       intro v' w7 HI2 hgrow hwh;have hR:=λ k=>hown.lt k
       replace HI2:HOwn w7 K2 v' (H++happ j ψ.now (ev.take (m+1))):=by
        have e1:H++happ j ψ.now (ev.take (m+1))=HH++[((j:Int),q'.now,y)]:=by
         rw [<- HHH.out,hnow.out,List.append_assoc,List.take_add_one,HY.out];unfold happ;rw [List.map_append];rfl
        rw [e1];exact HI2
       have O2:=(OI.out.trans (Off.gr (((zr wr).al (.cells #[.int .i64 y.1,.int .i64 y.2.1,.int .i64 y.2.2] 40)).al (.cells #[.int .i64 (j:Int),.int .i64 q'.now,.int .i64 y.1,.int .i64 y.2.1,.int .i64 y.2.2] 77)))).join (Off.gb (S:=λ k=>u9.ownBlock=some k) hgrow λ k hk=>hk) (λ k h1 h2=>(RI.out k h2).resolve_right (by omega));have G2:=((GI.out.al (.cells #[.int .i64 y.1,.int .i64 y.2.1,.int .i64 y.2.2] 40)).al (.cells #[.int .i64 (j:Int),.int .i64 q'.now,.int .i64 y.1,.int .i64 y.2.1,.int .i64 y.2.2] 77)).gb hgrow (λ k hk=>by have q1:=(hR k hk).1;have q2:=ZB.out;have q3:=KN.out;omega);have R2:∀ k,v'.ownBlock=some k->av0.ownBlock=some k\/V6.heap.size<=k:=λ k hk=>by
        rcases hwh k hk with h | h
        . exact RI.out k h
        . try simp only [zsA] at h
          have:=OI.out.1;exact .inr (by omega)
       clear hgrow hwh hown hR e0 e1 e2 l0 ltg hbe;go_wp2_with fail;go_roundw
       case rel=>exact⟨m+1,by omega,by go_num,hid HI2,hid O2,hid G2,hid R2⟩
       case measure=>simp [intOf];omega
     . have e9:ev.take m=ev:=List.take_of_length_le (by omega)
       have hmn':m=n':=by omega
       subst hmn';have hzb:=ZB.out;have hkn:=KN.out;have hkc:=KC.out;have b12:=blk_off B12 OI.out (λ h=>by have:=HSM.out _ h;omega);have bn:=blk_off BQ6.out OI.out (λ h=>by have:=HSM.out _ h;omega);have bz:=blk_off BZ6.out OI.out (λ h=>by have:=HSM.out _ h;omega);have cb:=obj_off CB6.out OI.out (λ h=>by have:=HSM.out _ h;omega);have wq:=((WQ6.out.sub (S':=λ k=>(k<B1\/k=gN\/k=ch\/av0.ownBlock=some k)\/V6.heap.size<=k) (λ k h1 h2=>h2.resolve_right (by omega))).to (OI.out.mono λ k _ h=>.inl (.inr (.inr (.inr h))))).sub (S':=λ k=>k<B1\/k=gN\/k=ch\/u9.ownBlock=some k)
        (λ k _ h=>h.elim (λ h=>.inl (.inl h)) λ h=>h.elim (λ h=>.inl (.inr (.inl h))) λ h=>h.elim (λ h=>.inl (.inr (.inr (.inl h)))) λ h=>(RI.out k h).elim (λ h=>.inl (.inr (.inr (.inr h)))) λ h=>.inr h)
       have hI:=HI.out;rw [e9] at hI;have hR:=λ k=>hI.lt k
       have sz1:=OI.out.1;have BF:=hid (put6_blk bn rfl (.int .i64 q'.now) (.slice q'.p.A q'.p.n q'.p.c) (.slice q'.c.A q'.c.n q'.c.c) (.slice q'.m.A q'.m.n q'.m.c) (.slice q'.t.A q'.t.n q'.t.c) (.int .i64 q'.stop));have ZF:=hid (blk_off bz (off6 (S:=λ k=>k=gN) rfl (.int .i64 q'.now) (.slice q'.p.A q'.p.n q'.p.c) (.slice q'.c.A q'.c.n q'.c.c) (.slice q'.m.A q'.m.n q'.m.c) (.slice q'.t.A q'.t.n q'.t.c) (.int .i64 q'.stop)) (by omega));have CF:=hid (obj_off cb (off6 (S:=λ k=>k=gN) rfl (.int .i64 q'.now) (.slice q'.p.A q'.p.n q'.p.c) (.slice q'.c.A q'.c.n q'.c.c) (.slice q'.m.A q'.m.n q'.m.c) (.slice q'.t.A q'.t.n q'.t.c) (.int .i64 q'.stop)) (by omega));have WF:=hid (wq.to (off6 (S:=λ k=>k<B1\/k=gN\/k=ch\/u9.ownBlock=some k) (.inr (.inl rfl)) (.int .i64 q'.now) (.slice q'.p.A q'.p.n q'.p.c) (.slice q'.c.A q'.c.n q'.c.c) (.slice q'.m.A q'.m.n q'.m.c) (.slice q'.t.A q'.t.n q'.t.c) (.int .i64 q'.stop)));have OF:=hid (own_off hI (off6 (S:=λ k=>k=gN) rfl (.int .i64 q'.now) (.slice q'.p.A q'.p.n q'.p.c) (.slice q'.c.A q'.c.n q'.c.c) (.slice q'.m.A q'.m.n q'.m.c) (.slice q'.t.A q'.t.n q'.t.c) (.int .i64 q'.stop)) (λ k h1 h2=>by have:=hR k h1;omega));have GF:=hid (put6_gr (x0:=.int .i64 q'.now) (x1:=.slice q'.p.A q'.p.n q'.p.c) (x2:=.slice q'.c.A q'.c.n q'.c.c) (x3:=.slice q'.m.A q'.m.n q'.m.c) (x4:=.slice q'.t.A q'.t.n q'.t.c) (x5:=.int .i64 q'.stop) (b:=gN) GI.out (by omega));have SF:=hid (show K2<=_ from Nat.le_trans (show K2<=wr.heap.size by omega) (off6 (S:=λ k=>k=gN) (W:=wr) rfl (.int .i64 q'.now) (.slice q'.p.A q'.p.n q'.p.c) (.slice q'.c.A q'.c.n q'.c.c) (.slice q'.m.A q'.m.n q'.m.c) (.slice q'.t.A q'.t.n q'.t.c) (.int .i64 q'.stop)).1);have GV:=hid (show GoW ω ((L.map rd).take (j+1)) ψ (H++happ j ψ.now ev) by have:=GoW.snoc HG.out HBO.out;rw [<- HTK.out,htl.out] at this;exact this);have ltn:=bn.lt;have lt12:=b12.lt;have hne:g12≠gN:=by omega
       obtain⟨⟨n0,nz0⟩,⟨n1,nz1⟩,⟨n2,nz2⟩,⟨n3,nz3⟩,⟨n4,nz4⟩,⟨n5,nz5⟩⟩:=at6z bn;obtain⟨⟨d0,dz0⟩,⟨d1,dz1⟩,⟨d2,dz2⟩,⟨d3,dz3⟩,⟨d4,dz4⟩,⟨d5,dz5⟩⟩:=at6z b12;clear cb wq hI hR sz1 b12 bz e9 HI WQ6 CB6 HBO;go_wp2_with fail;go_roundw
       case rel=>exact⟨j+1,ψ,H++happ j ψ.now ev,q',by omega,by go_num,GV,BF,ZF,WF,OF,GF,SF,CF⟩
       case measure=>simp [intOf];omega
  . have hjn':j=n:=by omega
    subst hjn';have hzb:=ZB.out;have hkn:=KN.out;have CB1:wr.heap[ch]?=some (.chan j #[] true j j false):=by have:=CB.out;rw [List.drop_of_length_le (by omega)] at this;exact this
    obtain⟨A9,c9,hv9⟩:=own_form HO.out;subst hv9;go_upto_region 9 with fail;rename_i hK;refine Runs.region ?_;show Runs _ _ _ [0,1] _ _;refine Runs.none 0 (c:=ch) (z:=.agg #[.int .i64 0,.int .i64 0]) (w₁:=wr) CB1 ?_;refine Runs.val 1 (v:=.bool false) ?_;refine Runs.of_wp (hK _ _ ?_);clear hK CB CB1;have bn:=BQ.out;have bz:=BZR.out;have hR:=λ k=>HO.out.lt k
    have BF:=hid (put6_blk bz rfl (.int .i64 q.now) (.slice q.p.A q.p.n q.p.c) (.slice q.c.A q.c.n q.c.c) (.slice q.m.A q.m.n q.m.c) (.slice q.t.A q.t.n q.t.c) (.int .i64 q.stop));have WF:=hid ((WQ.out.to (off6 (S:=λ k=>k<B1\/k=gN\/k=ch\/(Value.slice A9 H.length c9).ownBlock=some k) (b:=w.heap.size+1) (.inl (by omega)) (.int .i64 q.now) (.slice q.p.A q.p.n q.p.c) (.slice q.c.A q.c.n q.c.c) (.slice q.m.A q.m.n q.m.c) (.slice q.t.A q.t.n q.t.c) (.int .i64 q.stop))).sub (S':=λ k=>k<w.heap.size\/(Value.slice A9 H.length c9).ownBlock=some k) (λ k _ h=>h.elim (λ h=>.inl (by omega)) λ h=>.inr (.inr (.inr h))));have OF:=hid (own_low (own_off HO.out (off6 (S:=λ k=>k=w.heap.size+1) rfl (.int .i64 q.now) (.slice q.p.A q.p.n q.p.c) (.slice q.c.A q.c.n q.c.c) (.slice q.m.A q.m.n q.m.c) (.slice q.t.A q.t.n q.t.c) (.int .i64 q.stop)) (λ k h1 h2=>by have:=hR k h1;omega)) (show w.heap.size<=K2 by omega));have GF:=hid (put6_gr (x0:=.int .i64 q.now) (x1:=.slice q.p.A q.p.n q.p.c) (x2:=.slice q.c.A q.c.n q.c.c) (x3:=.slice q.m.A q.m.n q.m.c) (x4:=.slice q.t.A q.t.n q.t.c) (x5:=.int .i64 q.stop) (b:=w.heap.size+1) GW.out (by omega));have GV:=hid (show GoW ω (L.map rd) χ H by have:=HG.out;rwa [List.take_of_length_le (by rw [List.length_map];omega)] at this);have ltn:=bn.lt;have ltz:=bz.lt;obtain⟨q0,q1,q2,q3,q4,q5⟩:=at6 bn;obtain⟨⟨z0,zz0⟩,⟨z1,zz1⟩,⟨z2,zz2⟩,⟨z3,zz3⟩,⟨z4,zz4⟩,⟨z5,zz5⟩⟩:=at6z bz;clear bn bz HG HO WQ BQ BZR GW KW hR hzb hkn;go_wp2_with fail;clear ltn ltz q0 q1 q2 q3 q4 q5 z0 zz0 z1 zz1 z2 zz2 z3 zz3 z4 zz4 z5 zz5;generalize (((((wr.setCell ⟨w.heap.size+1,0,none⟩ (.int .i64 q.now)).setCell ⟨w.heap.size+1,1,none⟩ (.slice q.p.A q.p.n q.p.c)).setCell ⟨w.heap.size+1,2,none⟩ (.slice q.c.A q.c.n q.c.c)).setCell ⟨w.heap.size+1,3,none⟩ (.slice q.m.A q.m.n q.m.c)).setCell ⟨w.heap.size+1,4,none⟩ (.slice q.t.A q.t.n q.t.c)).setCell ⟨w.heap.size+1,5,none⟩ (.int .i64 q.stop)=Wf at BF WF OF GF ⊢;obtain⟨f0,f1,f2,f3,f4,f5⟩:=at6 BF.out;exact bodyPost_ret (v:=.tuple #[q.v,.slice A9 H.length c9,.int .i64 0]) (by simp [results,results28,go_sem,f0,f1,f2,f3,f4,f5,WR.v]) rfl
     ⟨⟨q,χ,A9,H.length,c9,H,0,rfl,.inr (.inr ⟨by omega,hr,GV.out,rfl⟩),WF.out,OF.out,rfl⟩,GF.out⟩
end
end P17
end
section
open Go.Conc Go.ChangeShapes Go.WideShapes Go.ChangeAt Go.RowKit
namespace P17
open P16
def zeroR:WR:=⟨0,⟨none,0,0⟩,⟨none,0,0⟩,⟨none,0,0⟩,⟨none,0,0⟩,0⟩
section
variable {w:World} {r:WR} {ω:Wv} {A:Option Addr} {n c:Nat} {L:List Int}
theorem zeroR_off {S:Nat->Prop} {W:World}:WOff S W zeroR zeroW:=λ W' _=>zeroW_is W'
theorem go_long (h:WIs w r ω) (hm:IMem w A n L) (hn:20000<n) :
 Calls prog 28 #[r.v,.slice A n c] w (GoQ w ω L):=by
 have hlen:=hm.1;have n1:(20000:Int)<(n:Int):=by omega
 have BZ:=Blk.new (w.alloc (.cells r.a 29)) #[.int .i64 0,.slice none 0 0,.slice none 0 0,.slice none 0 0,.slice none 0 0,.int .i64 0] 29;rw [zsA] at BZ;have G0:=hid (((zr w).al (.cells r.a 29)).al (.cells #[.int .i64 0,.slice none 0 0,.slice none 0 0,.slice none 0 0,.slice none 0 0,.int .i64 0] 29));go_enter func28,ntmps28;go_upto_region 1 with fail;generalize (w.alloc (.cells r.a 29)).alloc (.cells #[.int .i64 0,.slice none 0 0,.slice none 0 0,.slice none 0 0,.slice none 0 0,.int .i64 0] 29)=V at BZ G0 ⊢;have ltz:=BZ.lt;obtain⟨⟨z0,zz0⟩,⟨z1,zz1⟩,⟨z2,zz2⟩,⟨z3,zz3⟩,⟨z4,zz4⟩,⟨z5,zz5⟩⟩:=at6z BZ;have BF:=hid (put6_blk BZ rfl (.int .i64 0) (.slice none 0 0) (.slice none 0 0) (.slice none 0 0) (.slice none 0 0) (.int .i64 0));have GF:=hid (put6_gr (x0:=.int .i64 0) (x1:=.slice none 0 0) (x2:=.slice none 0 0) (x3:=.slice none 0 0) (x4:=.slice none 0 0) (x5:=.int .i64 0) (b:=w.heap.size+1) G0.out (by omega));go_wp2_with fail;clear z0 zz0 z1 zz1 z2 zz2 z3 zz3 z4 zz4 z5 zz5 ltz BZ;generalize (((((V.setCell ⟨w.heap.size+1,0,none⟩ (.int .i64 0)).setCell ⟨w.heap.size+1,1,none⟩ (.slice none 0 0)).setCell ⟨w.heap.size+1,2,none⟩ (.slice none 0 0)).setCell ⟨w.heap.size+1,3,none⟩ (.slice none 0 0)).setCell ⟨w.heap.size+1,4,none⟩ (.slice none 0 0)).setCell ⟨w.heap.size+1,5,none⟩ (.int .i64 0)=Wf at BF GF ⊢;obtain⟨f0,f1,f2,f3,f4,f5⟩:=at6 BF.out;exact bodyPost_ret (v:=.tuple #[zeroR.v,.slice none 0 0,.int .i64 2]) (by simp [results,results28,go_sem,f0,f1,f2,f3,f4,f5,WR.v,zeroR]) rfl
  ⟨⟨zeroR,zeroW,none,0,0,[],2,rfl,.inl ⟨by omega,rfl,rfl,rfl⟩,zeroR_off,HOwn.nil _ _,rfl⟩,GF.out⟩
theorem go_wrong (h:WIs w r ω) (hm:IMem w A n L) (hn:n<=20000) (hr:¬ RightW ω) :
 Calls prog 28 #[r.v,.slice A n c] w (GoQ w ω L):=by
 have hlen:=hm.1;have cR:=λ W (g:Gr w W)=>hid (P16.Right_is (W:=W) (h.gr g) (v:=false) (by simp [hr]))
 have n1:¬ (20000:Int)<(n:Int):=by omega
 have BW:=(Blk.new w r.a 29).al (.cells #[.int .i64 0,.slice none 0 0,.slice none 0 0,.slice none 0 0,.slice none 0 0,.int .i64 0] 29);have BZ:=Blk.new (w.alloc (.cells r.a 29)) #[.int .i64 0,.slice none 0 0,.slice none 0 0,.slice none 0 0,.slice none 0 0,.int .i64 0] 29;rw [zsA] at BZ;have G0:=hid (((zr w).al (.cells r.a 29)).al (.cells #[.int .i64 0,.slice none 0 0,.slice none 0 0,.slice none 0 0,.slice none 0 0,.int .i64 0] 29));go_enter func28,ntmps28;go_upto_region 1 with fail;generalize (w.alloc (.cells r.a 29)).alloc (.cells #[.int .i64 0,.slice none 0 0,.slice none 0 0,.slice none 0 0,.slice none 0 0,.int .i64 0] 29)=V at BW BZ G0 ⊢;have ltw:=BW.lt;obtain⟨⟨b0,bz0⟩,⟨b1,bz1⟩,⟨b2,bz2⟩,⟨b3,bz3⟩,⟨b4,bz4⟩,⟨b5,bz5⟩⟩:=at6z BW;replace cR:=cR V G0.out;go_wp2_with fail;refine cR.out.mono ?_;rintro e w1 ⟨rfl,g1⟩;replace BZ:=BZ.gr g1;have G1:=hid (G0.out.trans g1);clear b0 bz0 b1 bz1 b2 bz2 b3 bz3 b4 bz4 b5 bz5 ltw cR g1 G0 BW;have ltz:=BZ.lt;obtain⟨⟨z0,zz0⟩,⟨z1,zz1⟩,⟨z2,zz2⟩,⟨z3,zz3⟩,⟨z4,zz4⟩,⟨z5,zz5⟩⟩:=at6z BZ;have BF:=hid (put6_blk BZ rfl (.int .i64 0) (.slice none 0 0) (.slice none 0 0) (.slice none 0 0) (.slice none 0 0) (.int .i64 0));have GF:=hid (put6_gr (x0:=.int .i64 0) (x1:=.slice none 0 0) (x2:=.slice none 0 0) (x3:=.slice none 0 0) (x4:=.slice none 0 0) (x5:=.int .i64 0) (b:=w.heap.size+1) G1.out (by omega));go_wp2_with fail;clear z0 zz0 z1 zz1 z2 zz2 z3 zz3 z4 zz4 z5 zz5 ltz BZ;generalize (((((w1.setCell ⟨w.heap.size+1,0,none⟩ (.int .i64 0)).setCell ⟨w.heap.size+1,1,none⟩ (.slice none 0 0)).setCell ⟨w.heap.size+1,2,none⟩ (.slice none 0 0)).setCell ⟨w.heap.size+1,3,none⟩ (.slice none 0 0)).setCell ⟨w.heap.size+1,4,none⟩ (.slice none 0 0)).setCell ⟨w.heap.size+1,5,none⟩ (.int .i64 0)=Wf at BF GF ⊢;obtain⟨f0,f1,f2,f3,f4,f5⟩:=at6 BF.out;exact bodyPost_ret (v:=.tuple #[zeroR.v,.slice none 0 0,.int .i64 1]) (by simp [results,results28,go_sem,f0,f1,f2,f3,f4,f5,WR.v,zeroR]) rfl
  ⟨⟨zeroR,zeroW,none,0,0,[],1,rfl,.inr (.inl ⟨by omega,hr,rfl,rfl,rfl⟩),zeroR_off,HOwn.nil _ _,rfl⟩,GF.out⟩
theorem Go_is (hM:Mach) (hg:P15.Glob w) (h:WIs w r ω) (hm:IMem w A n L):Calls prog 28 #[r.v,.slice A n c] w (GoQ w ω L):=by
 by_cases hn:20000<n
 . exact go_long h hm hn
 . by_cases hr:RightW ω
   . exact go_goes hM hg h hm (by omega) hr
   . exact go_wrong h hm (by omega) hr
end
end P17
end
section
open Go.Conc Go.ChangeShapes Go.WideShapes Go.ChangeAt Go.RowKit
namespace P17
open P16
open P12 (PV PMem)
open P13 (rd)
def PlayR (l:List (List Ac)) (L:List Int) (ψ:Wv) (H:List Hp) (x:Int):Prop :=
 (20000<L.length/\ψ=zeroW/\H=[]/\x=2)\/(L.length<=20000/\P12.rightB l=false/\ψ=zeroW/\H=[]/\x=1)\/(L.length<=20000/\P12.rightB l=true/\GoW (newW l) (L.map rd) ψ H/\x=0)
def PlayQ (w:World) (l:List (List Ac)) (L:List Int) (e:Ending) (w':World):Prop :=
 (∃ (s:WR) (ψ:Wv) (A:Option Addr) (n c:Nat) (H:List Hp) (x:Int),e=.returned (.tuple #[s.v,.slice A n c,.int .i64 x])/\PlayR l L ψ H x /\
   WOff (λ k=>k<w.heap.size\/(Value.slice A n c).ownBlock=some k) w' s ψ/\HOwn w' w.heap.size (.slice A n c) H/\H.length=n)/\Gr w w'
section
variable {w:World} {A P:Option Addr} {n c m d:Nat} {L:List Int} {R:List PV}
theorem play_long (hm:IMem w A n L) (hn:20000<n):Calls prog 26 #[.slice P m d,.slice A n c] w (PlayQ w (P12.pl R) L):=by
 have hlen:=hm.1;have n1:(20000:Int)<(n:Int):=by omega
 have BZ:=Blk.new w #[.int .i64 0,.slice none 0 0,.slice none 0 0,.slice none 0 0,.slice none 0 0,.int .i64 0] 29;have G0:=hid ((zr w).al (.cells #[.int .i64 0,.slice none 0 0,.slice none 0 0,.slice none 0 0,.slice none 0 0,.int .i64 0] 29));go_enter func26,ntmps26;go_upto_region 1 with fail;generalize w.alloc (.cells #[.int .i64 0,.slice none 0 0,.slice none 0 0,.slice none 0 0,.slice none 0 0,.int .i64 0] 29)=V at BZ G0 ⊢;have ltz:=BZ.lt;obtain⟨⟨z0,zz0⟩,⟨z1,zz1⟩,⟨z2,zz2⟩,⟨z3,zz3⟩,⟨z4,zz4⟩,⟨z5,zz5⟩⟩:=at6z BZ;have BF:=hid (put6_blk BZ rfl (.int .i64 0) (.slice none 0 0) (.slice none 0 0) (.slice none 0 0) (.slice none 0 0) (.int .i64 0));have GF:=hid (put6_gr (x0:=.int .i64 0) (x1:=.slice none 0 0) (x2:=.slice none 0 0) (x3:=.slice none 0 0) (x4:=.slice none 0 0) (x5:=.int .i64 0) (b:=w.heap.size) G0.out (Nat.le_refl _));go_wp2_with fail;clear z0 zz0 z1 zz1 z2 zz2 z3 zz3 z4 zz4 z5 zz5 ltz BZ;generalize (((((V.setCell ⟨w.heap.size,0,none⟩ (.int .i64 0)).setCell ⟨w.heap.size,1,none⟩ (.slice none 0 0)).setCell ⟨w.heap.size,2,none⟩ (.slice none 0 0)).setCell ⟨w.heap.size,3,none⟩ (.slice none 0 0)).setCell ⟨w.heap.size,4,none⟩ (.slice none 0 0)).setCell ⟨w.heap.size,5,none⟩ (.int .i64 0)=Wf at BF GF ⊢;obtain⟨f0,f1,f2,f3,f4,f5⟩:=at6 BF.out;exact bodyPost_ret (v:=.tuple #[zeroR.v,.slice none 0 0,.int .i64 2]) (by simp [results,results26,go_sem,f0,f1,f2,f3,f4,f5,WR.v,zeroR]) rfl
  ⟨⟨zeroR,zeroW,none,0,0,[],2,rfl,.inl ⟨by omega,rfl,rfl,rfl⟩,zeroR_off,HOwn.nil _ _,rfl⟩,GF.out⟩
theorem play_short (hM:Mach) (hg:P15.Glob w) (hP:PMem w P m R) (hp:m<=9223372036854775807) (hm:IMem w A n L) (hn:n<=20000):Calls prog 26 #[.slice P m d,.slice A n c] w (PlayQ w (P12.pl R) L):=by
 have hlen:=hm.1;have n1:¬ (20000:Int)<(n:Int):=by omega
 have BZ:=Blk.new w #[.int .i64 0,.slice none 0 0,.slice none 0 0,.slice none 0 0,.slice none 0 0,.int .i64 0] 29;have G0:=hid ((zr w).al (.cells #[.int .i64 0,.slice none 0 0,.slice none 0 0,.slice none 0 0,.slice none 0 0,.int .i64 0] 29));have HM:=hid hm;have HP:=hid hP;clear hm hP;go_enter func26,ntmps26;go_upto_region 3 with fail;generalize w.alloc (.cells #[.int .i64 0,.slice none 0 0,.slice none 0 0,.slice none 0 0,.slice none 0 0,.int .i64 0] 29)=V at BZ G0 ⊢;have cN:=hid (hM.new V P m d R (hg.gr G0.out) (HP.out.gr G0.out) hp);go_wp2_with fail;refine cN.out.mono ?_;rintro e w2 ⟨⟨s,ω,x,rfl,hN,hW⟩,g2⟩;have BS:=Blk.new w2 s.a 29;replace BZ:=(BZ.gr g2).al (.cells s.a 29);have G3:=hid ((G0.out.trans g2).al (.cells s.a 29));have W3':=hid ((hW.is).gr ((zr w2).al (.cells s.a 29)));have k2:=g2.size;clear cN hW g2;go_upto_region 4 with fail;generalize w2.alloc (.cells s.a 29)=W3 at BS BZ G3 W3' ⊢;generalize w2.heap.size=gs at BS k2 ⊢;rcases hN with ⟨hr,rfl,rfl⟩ | ⟨hr,rfl,rfl⟩
 . have ltb:=BS.lt
   have ltz0:=BZ.lt;obtain⟨⟨b0,bz0⟩,⟨b1,bz1⟩,⟨b2,bz2⟩,⟨b3,bz3⟩,⟨b4,bz4⟩,⟨b5,bz5⟩⟩:=at6z BS;have cG:=hid (Go_is (c:=c) hM (hg.gr G3.out) W3'.out (HM.out.gr G3.out));go_wp2_with fail;refine cG.out.mono ?_;rintro e w4 ⟨⟨q,ψ,B,k,f,H,x,rfl,hR,hO,hH,hk⟩,g4⟩;replace BZ:=BZ.gr g4;have G4:=hid (G3.out.trans g4);have hrow:=λ j=>hH.lt j
   clear b0 bz0 b1 bz1 b2 bz2 b3 bz3 b4 bz4 b5 bz5 ltb cG BS g4;have BF:=hid (put6_blk BZ rfl (.int .i64 q.now) (.slice q.p.A q.p.n q.p.c) (.slice q.c.A q.c.n q.c.c) (.slice q.m.A q.m.n q.m.c) (.slice q.t.A q.t.n q.t.c) (.int .i64 q.stop));have GF:=hid (put6_gr (x0:=.int .i64 q.now) (x1:=.slice q.p.A q.p.n q.p.c) (x2:=.slice q.c.A q.c.n q.c.c) (x3:=.slice q.m.A q.m.n q.m.c) (x4:=.slice q.t.A q.t.n q.t.c) (x5:=.int .i64 q.stop) (b:=w.heap.size) G4.out (Nat.le_refl _));have WF:=hid ((hO.to (off6 (S:=λ j=>j<W3.heap.size\/(Value.slice B k f).ownBlock=some j) (b:=w.heap.size) (.inl ltz0) (.int .i64 q.now) (.slice q.p.A q.p.n q.p.c) (.slice q.c.A q.c.n q.c.c) (.slice q.m.A q.m.n q.m.c) (.slice q.t.A q.t.n q.t.c) (.int .i64 q.stop))).sub (S':=λ j=>j<w.heap.size\/(Value.slice B k f).ownBlock=some j) (λ j _ h=>h.elim (λ h=>.inl (by omega)) .inr));have OF:=hid (own_low (own_off hH (off6 (S:=λ j=>j=w.heap.size) rfl (.int .i64 q.now) (.slice q.p.A q.p.n q.p.c) (.slice q.c.A q.c.n q.c.c) (.slice q.m.A q.m.n q.m.c) (.slice q.t.A q.t.n q.t.c) (.int .i64 q.stop)) (λ j h1 h2=>by have:=hrow j h1;omega)) (show w.heap.size<=W3.heap.size by omega));have GV:PlayR (P12.pl R) L ψ H x:=by
    rcases hR with ⟨h1,_⟩ | ⟨_,h1,_⟩ | ⟨h1,_,h2,h3⟩
    . omega
    . exact absurd (new_right hr) h1
    . exact .inr (.inr ⟨h1,hr,h2,h3⟩)
   have ltz:=BZ.lt;obtain⟨⟨z0,zz0⟩,⟨z1,zz1⟩,⟨z2,zz2⟩,⟨z3,zz3⟩,⟨z4,zz4⟩,⟨z5,zz5⟩⟩:=at6z BZ;have HK:=hid hk;clear hR hO hH BZ ltz0 hrow hk;go_wp2_with fail;clear z0 zz0 z1 zz1 z2 zz2 z3 zz3 z4 zz4 z5 zz5 ltz;generalize (((((w4.setCell ⟨w.heap.size,0,none⟩ (.int .i64 q.now)).setCell ⟨w.heap.size,1,none⟩ (.slice q.p.A q.p.n q.p.c)).setCell ⟨w.heap.size,2,none⟩ (.slice q.c.A q.c.n q.c.c)).setCell ⟨w.heap.size,3,none⟩ (.slice q.m.A q.m.n q.m.c)).setCell ⟨w.heap.size,4,none⟩ (.slice q.t.A q.t.n q.t.c)).setCell ⟨w.heap.size,5,none⟩ (.int .i64 q.stop)=Wf at BF GF WF OF ⊢;obtain⟨f0,f1,f2,f3,f4,f5⟩:=at6 BF.out;exact bodyPost_ret (v:=.tuple #[q.v,.slice B k f,.int .i64 x]) (by simp [results,results26,go_sem,f0,f1,f2,f3,f4,f5,WR.v]) rfl
    ⟨⟨q,ψ,B,k,f,H,x,rfl,GV,WF.out,OF.out,HK.out⟩,GF.out⟩
 . have ltz:=BZ.lt
   obtain⟨⟨z0,zz0⟩,⟨z1,zz1⟩,⟨z2,zz2⟩,⟨z3,zz3⟩,⟨z4,zz4⟩,⟨z5,zz5⟩⟩:=at6z BZ;have BF:=hid (put6_blk BZ rfl (.int .i64 0) (.slice none 0 0) (.slice none 0 0) (.slice none 0 0) (.slice none 0 0) (.int .i64 0));have GF:=hid (put6_gr (x0:=.int .i64 0) (x1:=.slice none 0 0) (x2:=.slice none 0 0) (x3:=.slice none 0 0) (x4:=.slice none 0 0) (x5:=.int .i64 0) (b:=w.heap.size) G3.out (Nat.le_refl _));clear BS;go_wp2_with fail;clear z0 zz0 z1 zz1 z2 zz2 z3 zz3 z4 zz4 z5 zz5 ltz BZ;generalize (((((W3.setCell ⟨w.heap.size,0,none⟩ (.int .i64 0)).setCell ⟨w.heap.size,1,none⟩ (.slice none 0 0)).setCell ⟨w.heap.size,2,none⟩ (.slice none 0 0)).setCell ⟨w.heap.size,3,none⟩ (.slice none 0 0)).setCell ⟨w.heap.size,4,none⟩ (.slice none 0 0)).setCell ⟨w.heap.size,5,none⟩ (.int .i64 0)=Wf at BF GF ⊢;obtain⟨f0,f1,f2,f3,f4,f5⟩:=at6 BF.out;exact bodyPost_ret (v:=.tuple #[zeroR.v,.slice none 0 0,.int .i64 1]) (by simp [results,results26,go_sem,f0,f1,f2,f3,f4,f5,WR.v,zeroR]) rfl
    ⟨⟨zeroR,zeroW,none,0,0,[],1,rfl,.inr (.inl ⟨by omega,hr,rfl,rfl,rfl⟩),zeroR_off,HOwn.nil _ _,rfl⟩,GF.out⟩
theorem Play_is (hM:Mach) (hg:P15.Glob w) (hP:PMem w P m R) (hp:m<=9223372036854775807) (hm:IMem w A n L):Calls prog 26 #[.slice P m d,.slice A n c] w (PlayQ w (P12.pl R) L):=by
 by_cases hn:20000<n
 . exact play_long hm hn
 . exact play_short hM hg hP hp hm (by omega)
end
end P17
end
section
namespace P17
open P16
open P12 (PV PMem)
theorem imem_blk {w:World} {b:Nat} {l:List Int} {t:TypeId} (h:Blk w b (l.map λ x=>Value.int .i64 x).toArray t) (hb:∀ x∈l,B64 x):IMem w (some ⟨b,0,none⟩) l.length l :=
 ⟨rfl,hb,λ _=>⟨b,0,rfl,h.lt,λ j x hx=>by rw [Nat.zero_add];exact (h.at_ (by simp [hx])).1⟩⟩
theorem run_hp_eq (a b c d e:Int) (w:World):(binOp .eql 77 (.agg #[.int .i64 a,.int .i64 b,.int .i64 c,.int .i64 d,.int .i64 e]) (.agg #[.int .i64 a,.int .i64 b,.int .i64 c,.int .i64 d,.int .i64 e])).run prog w=.ok (.bool true) w:=by
 go_simp
section
variable {w:World}
theorem alive17_is (hM:Mach) (hg:P15.Glob w):Calls prog 27 #[] w λ e w'=>e=.returned (.bool true)/\Gr w w':=by
 have b0:=((Blk.new w #[.int .i64 0,.int .i64 0,.int .i64 2,.int .i64 0] 67).al (.cells #[.slice (some ⟨w.heap.size,0,none⟩) 2 2] 64)).al (.cells #[.int .i64 0,.int .i64 (-5),.int .i64 0] 3);have b1:=(Blk.new (w.alloc (.cells #[.int .i64 0,.int .i64 0,.int .i64 2,.int .i64 0] 67)) #[.slice (some ⟨w.heap.size,0,none⟩) 2 2] 64).al (.cells #[.int .i64 0,.int .i64 (-5),.int .i64 0] 3);have b2:=Blk.new ((w.alloc (.cells #[.int .i64 0,.int .i64 0,.int .i64 2,.int .i64 0] 67)).alloc (.cells #[.slice (some ⟨w.heap.size,0,none⟩) 2 2] 64)) #[.int .i64 0,.int .i64 (-5),.int .i64 0] 3;have g1:=(((zr w).al (.cells #[.int .i64 0,.int .i64 0,.int .i64 2,.int .i64 0] 67)).al (.cells #[.slice (some ⟨w.heap.size,0,none⟩) 2 2] 64)).al (.cells #[.int .i64 0,.int .i64 (-5),.int .i64 0] 3);have hm:=P12.mem_blk b0 (l:=p0) rfl (by simp [Inb]);have hP:=P12.pmem_one (x:=⟨some ⟨w.heap.size,0,none⟩,2,2,p0⟩) b1 ⟨hm,Nat.le_refl _,by show (2:Nat)<=9223372036854775807;decide⟩;have hI:IMem _ _ 3 [0,-5,0]:=imem_blk (l:=[0,-5,0]) b2 (by simp [B64]);rw [zsA] at hP;simp only [zsA] at hI;have cP:=hid (Play_is (c:=3) (d:=1) hM (hg.gr g1) hP (by decide) hI);have G1:=hid g1;clear b0 b1 b2 hm hP hI g1;go_enter func27,ntmps27;go_wp2_with fail;refine cP.out.mono ?_;rintro e w1 ⟨⟨s,ψ,A,n,c,H,x,rfl,hR,hW,hH,hn⟩,g2⟩;obtain⟨rfl,h5,rfl⟩:x=0/\ψ.now=5/\H=[(0,0,0,0,0),(2,5,0,3,0)]:=by
  rcases hR with ⟨q,_⟩ | ⟨_,q,_⟩ | ⟨_,_,q,q2⟩
  . exact absurd q (by decide)
  . exact absurd (show P12.rightB [p0]=false from q) (by decide)
  . obtain⟨e1,e2⟩:=alive17 q
    exact⟨q2,e1,e2⟩
 obtain rfl:2=n:=hn;have HS5:=hid (show s.now=5 from hW.is.now.trans h5);clear h5;obtain⟨g,hA,-,hO⟩:=own_orow hpV_len hH (by decide);subst hA;have f0:=(hO.at_ (i:=1) (x:=(2,5,0,3,0)) rfl (j:=0) (v:=.int .i64 2) rfl).1;have f1:=(hO.at_ (i:=1) (x:=(2,5,0,3,0)) rfl (j:=1) (v:=.int .i64 5) rfl).1;have f2:=(hO.at_ (i:=1) (x:=(2,5,0,3,0)) rfl (j:=2) (v:=.int .i64 0) rfl).1;have f3:=(hO.at_ (i:=1) (x:=(2,5,0,3,0)) rfl (j:=3) (v:=.int .i64 3) rfl).1;have f4:=(hO.at_ (i:=1) (x:=(2,5,0,3,0)) rfl (j:=4) (v:=.int .i64 0) rfl).1;have hlt:=hO.lt;have B:=Blk.new w1 s.a 29;have G3:=hid ((G1.out.trans g2).al (.cells s.a 29));have g3:=(zr w1).al (.cells s.a 29);have hne:=run_hp_eq 2 5 0 3 0;replace f0:=(g3.cell (p:=⟨g,5,none⟩) hlt).trans f0;replace f1:=(g3.cell (p:=⟨g,6,none⟩) hlt).trans f1;replace f2:=(g3.cell (p:=⟨g,7,none⟩) hlt).trans f2;replace f3:=(g3.cell (p:=⟨g,8,none⟩) hlt).trans f3;replace f4:=(g3.cell (p:=⟨g,9,none⟩) hlt).trans f4;clear hR hW hH hO hlt g2 g3 cP G1;go_upto_region 2 with fail;generalize w1.alloc (.cells s.a 29)=W at B G3 f0 f1 f2 f3 f4 ⊢;have lt:=B.lt;have p0:=(B.at_ (k:=0) (v:=.int .i64 s.now) rfl).1;rw [HS5.out] at p0;go_wp2_with fail;go_ret;exact⟨rfl,G3.out⟩
end
end P17
end
section
namespace P17
open P16
open P12 (PV PMem POwn pl fewP cutV cutV_ok pmem_one wpList_append_progs Ac)
section
theorem few17_is {w:World} {A:Option Addr} {n c:Nat} {L:List PV} (hm:PMem w A n L) (hc:n<=c) (hn:n<=9223372036854775807) :
 Calls prog 25 #[.slice A n c] w λ e w'=>(∃ B m d R,e=.returned (.slice B m d)/\R=(L.take 10).map cutV/\pl R=fewP (pl L)/\m<=10/\POwn w' w.heap.size 0 B m d R)/\Gr w w':=by
 have hlen:=hm.len;obtain⟨N,hN⟩:∃ N:Nat,(if (10:Int)<(n:Int) then (10:Int) else (n:Int))=(N:Int)/\N<=n/\N<=10/\L.take 10=L.take N:=by
  by_cases h:10<n
  . exact⟨10,by rw [if_pos (by omega)];rfl,by omega,by omega,rfl⟩
  . exact⟨n,by rw [if_neg (by omega)],by omega,by omega,by rw [List.take_of_length_le (by omega),List.take_of_length_le (by omega)]⟩
 obtain⟨hN,hNn,hN10,htk⟩:=hN;have hNm:min (n:Int) 10=(N:Int):=by rw [<- hN];split<;>omega
 have HM:=hid hm;have HTK:=hid htk;have h0:(0:Int)<=(N:Int):=by omega
 have h1:(N:Int)<=(c:Int):=by omega
 clear hm htk;go_enter func25,ntmps25;go_wp2_with fail
 go_loopw [3,12] (λ O i wr=>∃ (k:Nat) (B:Option Addr) (d:Nat),k<=N/\i=.int .i64 (k:Int)/\O=.slice B k d/\Hid (POwn wr w.heap.size 0 B k d ((L.take k).map cutV))/\Hid (Gr w wr)) (λ _ i _=>N-(intOf i).toNat)
 case atStart=>exact⟨0,none,0,Nat.zero_le _,rfl,rfl,hid POwn.nil,hid (zr _)⟩
 case round =>
  obtain⟨k,B,d,hk,rfl,rfl,HR,HG⟩:=hrel;by_cases hlt:k<N
  . obtain⟨b,off,x,rfl,hbl,hx,hok,d0⟩:=(HM.out.gr HG.out).at_ (show k<n by omega)
    have hxold:x.ok w:=HM.out.2 x (zmo hx);have HX:=hid (show (L.take (k+1)).map cutV=(L.take k).map cutV++[cutV x] from by rw [take_snoc hx,List.map_append];rfl);have k0:(0:Int)<=(k:Int):=by omega
    have k1:(k:Int)<(N:Int):=by omega
    obtain⟨q,hq⟩:∃ q,(if 70<x.n then 70 else x.n)=q:=⟨_,rfl⟩;have hqi:(if (70:Int)<(x.n:Int) then (70:Int) else (x.n:Int))=(q:Int):=by rw [<- hq];split<;>split<;>omega
    have hqm:min (x.n:Int) 70=(q:Int):=by rw [<- hqi];split<;>omega
    have q0:(0:Int)<=(q:Int):=by omega
    have q1:(q:Int)<=(x.c:Int):=by have:=hok.2.1;rw [<- hq];split<;>omega
    have hcv:cutV x=⟨x.A,q,x.c,x.l.take 70⟩:=by unfold cutV;rw [hq]
    have g1:=(zr wr).al (.cells #[.slice x.A q x.c] 64);have hcok:(cutV x).ok (wr.alloc (.cells #[.slice x.A q x.c] 64)):=(cutV_ok hok).gr g1;have HPM:=hid (pmem_one (x:=cutV x) (by rw [hcv];exact Blk.new wr #[.slice x.A q x.c] 64) hcok);have HOW:=hid (HR.out.gr g1);have hlate:=HR.out.late;have hws:=HG.out.size;have HOFF:Hid (∀ z∈[cutV x],0<z.n->∀ j,z.A.map (·.block)=some j->0<=j/\j<(wr.alloc (.cells #[.slice x.A q x.c] 64)).heap.size/\B.map (·.block)≠some j):=hid λ z hz hz0 j hj=>by
     rw [List.mem_singleton] at hz;subst hz;obtain⟨b',off',e,hb',_⟩:=(cutV_ok hxold).1.2.2 hz0;rw [e] at hj;simp at hj;refine⟨Nat.zero_le _,by rw [zsA];omega,λ e2=>?_⟩;have:=hlate _ e2;omega
    have HG2:=hid (HG.out.trans g1);have hbase:w.heap.size<=(wr.alloc (.cells #[.slice x.A q x.c] 64)).heap.size:=HG2.out.size;have HLT:=hid hlate;clear hx hok g1 hcok hcv hq hxold hlate;go_wp2_with (at_builtin;refine Mark.stop ?_);refine Mark.go ?_;refine wpList_append_progs (news:=[cutV x]) rfl (.tmp 16) (.tmp 22) rfl rfl rfl HOW.out HPM.out HOFF.out (by omega) hbase ?_;intro A' c' w3 hG;have HP3:=hG.1;rw [<- HX.out] at HP3;have HP3:=hid HP3;have HG3:=hid (HG2.out.gb hG.2 (λ j e=>HLT.out j e));clear hG;go_wp2_with fail;go_roundw
    case rel=>exact⟨k+1,A',c',by omega,by go_num,rfl,HP3,HG3⟩
    case measure=>simp [intOf];omega
  . obtain rfl:k=N:=by omega
    have HF:=hid (show pl ((L.take k).map cutV)=fewP (pl L) from by
     unfold pl fewP;rw [<- List.map_take,HTK.out,List.map_map,List.map_map];rfl)
    go_wp2_with fail;go_ret;exact⟨⟨B,k,d,_,rfl,by rw [HTK.out],HF.out,hN10,HR.out⟩,HG.out⟩
end
end P17
end
section
namespace P17
open P16
section
variable {ω ψ χ:Wv} {p:P13.Pk} {ev:List T3} {l r:List P13.Pk} {H:List Hp} {d:Int}
theorem OneR.fine (hf:Fine ω) (hp:P13.okP p) (h:OneR ω p ψ ev):Fine ψ:=by
 rcases h with ⟨_,x,h⟩ | ⟨q,_,τ,y,h,hy⟩
 . exact (StepM.fine hf h).1
 . have ht:Tim p.2:=by
    rcases hp with ⟨q',_⟩ | ⟨_,h1,h2⟩
    . omega
    . exact⟨by omega,h2⟩
   have hr:=hf.right;by_cases hn:ω.now+p.2<=4611686018427387904
   . obtain⟨f,rfl,_⟩:=TickM.fine hf ht hn h
     rcases hy with ⟨_,rfl⟩ | ⟨e,_⟩
     . exact f
     . exact absurd rfl e
   . rcases h with ⟨q,_⟩ | ⟨_,_,q,rfl,rfl⟩ | ⟨_,_,_,q,_⟩ | ⟨_,_,_,_,rfl,rfl⟩
     . exact absurd ⟨hr,ht⟩ q
     . rcases hy with ⟨_,rfl⟩ | ⟨_,rfl⟩<;>exact hf
     . exact absurd q hn
     . rcases hy with ⟨e,_⟩ | ⟨_,rfl⟩
       . omega
       . exact hf
theorem GoW.fine (hf:Fine ω) (h:GoW ω l ψ H):(∀ p∈l,P13.okP p)->Fine ψ:=by
 induction h with
 | nil=>exact λ _=>hf
 | snoc h1 h2 ih=>exact λ hp=>OneR.fine (ih λ q hq=>hp q (List.mem_append_left _ hq)) (hp _ (by simp)) h2
end
end P17
end
namespace P17
def zs (k:Nat):List Int:=List.replicate k 0
theorem zs_len (k:Nat):(zs k).length=k:=by unfold zs;simp
theorem made_zero (Q:Nat):madeCells (Value.int .i64 0).cells (Q*1)=((zs Q).map (Value.int .i64 ·)).toArray:=by
 rw [Nat.mul_one];unfold madeCells zs;apply Array.ext
 . simp
 . intro i h1 h2
   simp [Nat.mod_one,Value.cells]
end P17
section
namespace P17
open P16
theorem GoW.places {ω ψ:Wv} {l:List P13.Pk} {H:List Hp} (h:GoW ω l ψ H):∀ x∈H,0<=x.1/\x.1<(l.length:Int):=by
 induction h with
 | nil=>simp
 | @snoc l χ ψ H p ev h1 h2 ih =>
  intro x hx;rw [List.length_append,List.length_singleton];rcases List.mem_append.1 hx with q | q
  . have:=ih x q
    omega
  . unfold happ at q
    obtain⟨y,_,rfl⟩:=List.mem_map.1 q;dsimp only;omega
def Rest (W:World) (base:Nat) (A:Option Addr) (n:Nat) (l:List Hp):Prop:=l.length=n/\(n=0\/∃ g,A=some ⟨g,0,none⟩/\base<=g/\ORow hpV 5 W g 0 l)
section
variable {w w':World} {base n c:Nat} {A:Option Addr} {H:List Hp}
theorem Rest.of_own (h:HOwn w base (.slice A n c) H) (hl:H.length=n):Rest w base A n H:=by
 subst hl;rcases Nat.eq_zero_or_pos H.length with h0 | h0
 . exact⟨rfl,.inl h0⟩
 . exact⟨rfl,.inr (own_orow hpV_len h h0)⟩
theorem Rest.hmem (h:Rest w base A n H):HMem w A n H:=by
 obtain⟨hl,h0 | ⟨g,rfl,_,ho⟩⟩:=h
 . subst h0
   obtain rfl:=zen hl;exact⟨rfl,by simp,λ h=>by omega⟩
 . exact orow_rmem ho hl (by simp)
theorem hown_is (h:HOwn w base (.slice A n c) H) (hl:H.length=n):HMem w A n H:=(Rest.of_own h hl).hmem
theorem later_at {k j:Nat} {x:Hp} (hx:H[j]?=some x):(later k (H.take j)++H.drop j)[j]?=some x:=by
 have hj:=(zgl hx);have hl:(later k (H.take j)).length=j:=by unfold later;rw [List.length_map,List.length_take];omega
 rw [List.getElem?_append_right (by omega),hl,Nat.sub_self,List.getElem?_drop,Nat.add_zero];exact hx
theorem later_set {k j:Nat} {x:Hp} (hx:H[j]?=some x):(later k (H.take j)++H.drop j).set j (x.1+(k:Int),x.2)=later k (H.take (j+1))++H.drop (j+1):=by
 have hj:=(zgl hx);have he:H[j]=x:=(List.getElem?_eq_some_iff.1 hx).2;have hl:(later k (H.take j)).length=j:=by unfold later;rw [List.length_map,List.length_take];omega
 rw [List.set_append_right _ _ (by omega),hl,Nat.sub_self,List.drop_eq_getElem_cons hj,List.set_cons_zero,List.take_add_one,hx];unfold later;simp
theorem later_len {k:Nat}:(later k H).length=H.length:=by unfold later;rw [List.length_map]
theorem run_append_hm {v:Value} {N:List Hp} (h:HOwn w base v H) (hr:HMem w A n N) (hl:H.length+n<=1000000) (hbase:base<=w.heap.size) (ty:TypeId) (c:Nat) :
 ∃ v' w',(Builtin.append_ #[72,72] ty #[v,.slice A n c]).run prog w=.ok v' w'/\HOwn w' base v' (H++N)/\w.grownBy w' v.ownBlock:=by
 obtain⟨i,hi,hz,hs,hb⟩:=P13.info_parts infoHp;have hs:i.size=5:=hs;have hb:i.bytes=40:=hb;have hN:=hr.1;have e:∀ w',HOwn w' base v (H++[])=HOwn w' base v H:=λ w'=>by rw [List.append_nil]
 rcases A with _ | ad
 . have hm:n=0:=by
    rcases Nat.eq_zero_or_pos n with h0 | h0
    . exact h0
    . obtain⟨b,off,h,_⟩:=hr.2.2 h0
      cases h
   subst hm;obtain rfl:N=[]:=zen hN;exact⟨v,w,run_append_of_nil w base 72 ty 77 i 5 underlying72 hi v _ _ h c,by rw [e];exact h,World.grownBy.refl w _⟩
 . have hcells:=rmem_src hpV_len hr ad rfl
   obtain⟨v',w',hrun,h2,h3,_⟩:=run_append_own (P:=prog) w base 72 ty 77 i (.agg #[.int .i64 0,.int .i64 0,.int .i64 0,.int .i64 0,.int .i64 0]) 5 40 underlying72 hi hz hs hb rfl (by decide) v _ _ h ad n c (N.flatMap hpV) (by rw [hps_len,hN]) hcells (flat_one_of hpV_one N) (by unfold maxLen;omega) (by omega) hbase;refine⟨v',w',hrun,?_,h3⟩;unfold HOwn;rw [List.length_append,List.flatMap_append,hN];exact h2
theorem wpList_append_hmW {v:Value} {N:List Hp} {ops:Array Oper} {rest:List Oper} {o:Oper} {a:Act} {Q:Exit->Act->World->Prop} (hwd:Region.wanted o (yielded ops a.tmps)=true) (s x:Operand)
 (ho:o.op=.call { callee:=.builtin .append,args:=#[s,x],argTypes:=#[72,72] }) (hs:a.eval s=v) (hx:a.eval x=.slice A n c)
 (h:HOwn w base v H) (hr:HMem w A n N) (hl:H.length+n<=1000000) (hbase:base<=w.heap.size)
 (hK:∀ v' w',HOwn w' base v' (H++N)->w.grownBy w' v.ownBlock->wpList prog ops Q rest (a.put o.dst v') w'):wpList prog ops Q (o::rest) a w:=by
 refine BigFrame.wpList_want hwd λ K hK'=>?_
 obtain⟨v',w',h1,h2,h3⟩:=run_append_hm h hr hl hbase o.type c;unfold Oper.wp execOp;simp only [ho,resolve,invoke,builtin,Sem.run_bind,Sem.run_pure,Result.andThen_ok,List.map_toArray,List.map_cons,List.map_nil,hs,hx,h1];exact hK' _ _ (hK v' w' h2 h3)
end
theorem hown_slice {w:World} {base:Nat} {v:Value} {H:List Hp} (h:HOwn w base v H):∃ A c,v=.slice A H.length c:=by
 rcases h.2 with ⟨hv,h0⟩ | ⟨g',cap,cur,hv,_⟩
 . exact⟨none,0,by rw [hv,h0]⟩
 . exact⟨_,_,hv⟩
theorem imem_zs (w:World) (Q:Nat):IMem (w.alloc (.cells ((zs Q).map (Value.int .i64 ·)).toArray 3)) (some ⟨w.heap.size,0,none⟩) Q (zs Q):=by
 refine⟨zs_len Q,λ x hx=>?_,λ _=>⟨w.heap.size,0,rfl,by simp,λ j x hx=>?_⟩⟩
 . unfold zs at hx
   rw [(List.mem_replicate.1 hx).2];unfold B64;omega
 . rw [Nat.zero_add]
   exact ((Blk.new w _ _).at_ (by simp [hx])).1
theorem imem_zs2 {w:World} {Q s:Nat} (hs:w.heap.size=s):IMem (w.alloc (.cells ((zs Q).map (Value.int .i64 ·)).toArray 3)) (some ⟨s,0,none⟩) Q (zs Q):=hs▸imem_zs w Q
theorem make_zs (w:World) {Q:Nat} (hQ:Q<=1000000):(Instr.makeSlice 23 (.int .i64 (Q:Int)) (.int .i64 (Q:Int))).run prog w=.ok (.slice (some ⟨w.heap.size,0,none⟩) Q Q) (w.alloc (.cells ((zs Q).map (Value.int .i64 ·)).toArray 3)):=by
 obtain⟨i,hi,hz,hs,hb⟩:=P13.info_parts infoInt;have h:=run_makeN (P:=prog) 23 3 i (.int .i64 0) underlying23 hi hz Q (by rw [hb];show 8*Q<=_;omega) (by omega) w;rw [hs] at h;exact h.trans (by rw [<- made_zero])
theorem too_many:∃ (M:Array Value) (l:List Int),l.length=20001 /\
 (∀ W:World,(Instr.makeSlice 23 (.int .i64 20001) (.int .i64 20001)).run prog W=.ok (.slice (some ⟨W.heap.size,0,none⟩) 20001 20001) (W.alloc (.cells M 3))) /\
 ∀ (W:World) (s:Nat),W.heap.size=s->IMem (W.alloc (.cells M 3)) (some ⟨s,0,none⟩) 20001 l :=
 ⟨_,_,zs_len 20001,λ W=>make_zs W (Q:=20001) (by decide),λ W s h=>imem_zs2 h⟩
end P17
end
end Go.Proofs.YtainfijdhcehlaaGreatDoor
