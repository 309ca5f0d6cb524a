/-
  A part of the proof.
-/
import Derived.Test.YtainfijdhcehlaaGreatDoorQB1
import Derived.Lib.SmallJoins
import Derived.Deep.Strs
set_option linter.unusedVariables false
set_option linter.unusedSimpArgs false
set_option maxRecDepth 100000
set_option maxHeartbeats 8000000
namespace Go.Proofs.YtainfijdhcehlaaGreatDoor
open Lib (hid)
section
structure Nd where
 key:Int
 left:Int
 right:Int
instance:Inhabited Nd:=⟨⟨0,0,0⟩⟩
inductive T where
 | nil:T
 | node:Nat->Int->T->T->T
def pri (k:Int):Int:=k*2654435761 % 4294967296
def IsKey (k:Int):Prop:=0<=k/\k<=4294967295
theorem pri_back {a:Int} (ha:IsKey a):pri a*244002641 % 4294967296=a:=by
 unfold pri
 rw [Int.mul_emod,Int.emod_emod_of_dvd _ (Int.dvd_refl _),<- Int.mul_emod,Int.mul_assoc,Int.mul_emod,show ((2654435761:Int)*244002641) % 4294967296=1 from by decide,Int.mul_one,Int.emod_emod_of_dvd _ (Int.dvd_refl _)]
 unfold IsKey at ha
 exact Int.emod_eq_of_lt ha.1 (by omega)
theorem pri_inj {a b:Int} (ha:IsKey a) (hb:IsKey b) (h:pri a=pri b):a=b:=by
 rw [<- pri_back ha,<- pri_back hb,h]
theorem pri_range (k:Int):0<=pri k/\pri k<4294967296:=by unfold pri;omega
def T.size:T->Nat
 | .nil=>0
 | .node _ _ L R=>L.size+R.size+1
def T.inord:T->List Int
 | .nil=>[]
 | .node _ k L R=>L.inord++k::R.inord
def T.ids:T->List Nat
 | .nil=>[]
 | .node i _ L R=>L.ids++i::R.ids
theorem T.inord_len:∀ t:T,t.inord.length=t.size
 | .nil=>rfl
 | .node _ _ L R=>by simp [T.inord,T.size,T.inord_len L,T.inord_len R];omega
theorem T.ids_len:∀ t:T,t.ids.length=t.size
 | .nil=>rfl
 | .node _ _ L R=>by simp [T.ids,T.size,T.ids_len L,T.ids_len R];omega
def Lay (l:List Nd):T->Int->Prop
 | .nil,a=>a=-1
 | .node i k L R,a=>a=(i:Int)/\∃ nd,l[i]?=some nd/\nd.key=k/\Lay l L nd.left/\Lay l R nd.right
def Bst:T->Int->Int->Prop
 | .nil,_,_=>True
 | .node _ k L R,lo,hi=>lo<k/\k<hi/\Bst L lo k/\Bst R k hi
def Hp:T->Int->Prop
 | .nil,_=>True
 | .node _ k L R,w=>pri k<w/\Hp L (pri k)/\Hp R (pri k)
def Good (l:List Nd) (r:Int) (t:T):Prop:=Lay l t r/\t.size=l.length/\l.length<=64/\Bst t (-1) 4294967296/\Hp t 4294967296
theorem Lay.det {l:List Nd}:∀ {t u:T} {a:Int},Lay l t a->Lay l u a->t=u
 | .nil,.nil,_,_,_=>rfl
 | .nil,.node i k L R,a,h,g=>by obtain⟨h1,_⟩:=g;simp only [Lay] at h;omega
 | .node i k L R,.nil,a,h,g=>by obtain⟨h1,_⟩:=h;simp only [Lay] at g;omega
 | .node i k L R,.node j m L' R',a,h,g=>by
  obtain⟨h1,nd,h2,h3,h4,h5⟩:=h
  obtain⟨g1,nd',g2,g3,g4,g5⟩:=g
  obtain rfl:i=j:=by omega
  rw [h2] at g2
  cases g2
  rw [Lay.det h4 g4,Lay.det h5 g5,<- h3,<- g3]
theorem Lay.node_at {l:List Nd} {t:T} {i:Nat} (h:Lay l t i):∃ nd L R,l[i]?=some nd/\t=.node i nd.key L R/\Lay l L nd.left/\Lay l R nd.right:=by
 cases t with
 | nil=>simp only [Lay] at h;omega
 | node j k L R =>
  obtain⟨h1,nd,h2,h3,h4,h5⟩:=h
  obtain rfl:i=j:=by omega
  exact⟨nd,L,R,h2,by rw [h3],h4,h5⟩
theorem Lay.bad {l:List Nd} {t:T} {a:Int} (h:Lay l t a) (h1:a≠-1):0<=a/\a<(l.length:Int):=by
 cases t with
 | nil=>exact absurd h h1
 | node j k L R =>
  obtain⟨rfl,nd,h2,_⟩:=h
  have:=(List.getElem?_eq_some_iff.1 h2).1
  omega
def cnt (l:List Nd) (lo hi:Int):Nat:=l.countP λ nd=>decide (lo<nd.key)&&decide (nd.key<hi)
theorem cnt_split0 (lo k hi:Int) (h1:lo<k) (h2:k<hi):∀ l:List Nd,cnt l lo k+cnt l k hi+l.countP (λ nd=>decide (nd.key=k))<=cnt l lo hi
 | []=>by simp [cnt]
 | nd::r=>by
  have ih:=cnt_split0 lo k hi h1 h2 r
  unfold cnt at *
  simp only [List.countP_cons,Bool.and_eq_true,decide_eq_true_eq]
  repeat' split
  all_goals omega
theorem cnt_split {l:List Nd} {i:Nat} {nd:Nd} {lo hi:Int} (h:l[i]?=some nd) (h1:lo<nd.key) (h2:nd.key<hi):1+cnt l lo nd.key+cnt l nd.key hi<=cnt l lo hi:=by
 have:=cnt_split0 lo nd.key hi h1 h2 l
 have hp:0<l.countP (λ x=>decide (x.key=nd.key)):=List.countP_pos_iff.2 ⟨nd,List.mem_of_getElem? h,by simp⟩
 omega
theorem cnt_le (l:List Nd) (lo hi:Int):cnt l lo hi<=l.length:=List.countP_le_length
inductive Snd (l:List Nd):Int->Int->Int->Int->Bool->Nat->Prop
 | nil (lo hi w:Int):Snd l (-1) lo hi w true 0
 | out (a lo hi w:Int):a≠-1->(a<0\/(l.length:Int)<=a)->Snd l a lo hi w false 0
 | no (i:Nat) (nd:Nd) (lo hi w:Int):l[i]?=some nd->(nd.key<=lo\/hi<=nd.key\/(lo<nd.key/\nd.key<hi/\w<=pri nd.key))->Snd l i lo hi w false 0
 | left (i:Nat) (nd:Nd) (lo hi w:Int) (q:Nat):l[i]?=some nd->lo<nd.key->nd.key<hi->pri nd.key<w->Snd l nd.left lo nd.key (pri nd.key) false q->Snd l i lo hi w false (q+1)
 | both (i:Nat) (nd:Nd) (lo hi w:Int) (b:Bool) (q p:Nat):l[i]?=some nd->lo<nd.key->nd.key<hi->pri nd.key<w->Snd l nd.left lo nd.key (pri nd.key) true q->Snd l nd.right nd.key hi (pri nd.key) b p->Snd l i lo hi w b (q+p+1)
theorem snd_ex (l:List Nd):∀ (N:Nat) (a lo hi w:Int),w<=N->-1<=lo->hi<=4294967296->∃ b q,Snd l a lo hi w b q/\q<=cnt l lo hi /\
 (b=true->∃ t,Lay l t a/\Bst t lo hi/\Hp t w/\t.size=q)/\(b=false->∀ t,Lay l t a->Bst t lo hi->Hp t w->False):=by
 intro N
 induction N with
 | zero =>
  intro a lo hi w hw hlo hhi
  by_cases h1:a=-1
  . subst h1
    exact⟨true,0,.nil lo hi w,by omega,λ _=>⟨.nil,rfl,trivial,trivial,rfl⟩,λ h=>(by cases h)⟩
  by_cases h2:a<0\/(l.length:Int)<=a
  . exact⟨false,0,.out a lo hi w h1 h2,by omega,λ h=>(by cases h),λ _ t ht _ _=>by have:=ht.bad h1;omega⟩
  obtain⟨i,rfl⟩:∃ i:Nat,a=i:=⟨a.toNat,by omega⟩
  have hx:l[i]?=some l[i]:=List.getElem?_eq_getElem (by omega)
  generalize l[i]=nd at hx
  have hp:=pri_range nd.key
  refine⟨false,0,.no i nd lo hi w hx (by omega),by omega,λ h=>(by cases h),λ _ t ht _ hh=>?_⟩
  obtain⟨nd',L,R,e1,rfl,_⟩:=ht.node_at
  rw [hx] at e1;cases e1
  have:=hh.1
  omega
 | succ N ih =>
  intro a lo hi w hw hlo hhi
  by_cases h1:a=-1
  . subst h1
    exact⟨true,0,.nil lo hi w,by omega,λ _=>⟨.nil,rfl,trivial,trivial,rfl⟩,λ h=>(by cases h)⟩
  by_cases h2:a<0\/(l.length:Int)<=a
  . exact⟨false,0,.out a lo hi w h1 h2,by omega,λ h=>(by cases h),λ _ t ht _ _=>by have:=ht.bad h1;omega⟩
  obtain⟨i,rfl⟩:∃ i:Nat,a=i:=⟨a.toNat,by omega⟩
  have hx:l[i]?=some l[i]:=List.getElem?_eq_getElem (by omega)
  generalize l[i]=nd at hx
  have hp:=pri_range nd.key
  by_cases h3:lo<nd.key/\nd.key<hi/\pri nd.key<w
  . obtain⟨k1,k2,k3⟩:=h3
    obtain⟨b1,q1,s1,c1,t1,f1⟩:=ih nd.left lo nd.key (pri nd.key) (by omega) hlo (by omega)
    have hc:=cnt_split hx k1 k2
    cases b1 with
    | false =>
     refine⟨false,q1+1,.left i nd lo hi w q1 hx k1 k2 k3 s1,by omega,λ h=>(by cases h),λ _ t ht hb hh=>?_⟩
     obtain⟨nd',L,R,e1,rfl,hl,hr⟩:=ht.node_at
     rw [hx] at e1;cases e1
     exact f1 rfl L hl hb.2.2.1 hh.2.1
    | true =>
     obtain⟨b2,q2,s2,c2,t2,f2⟩:=ih nd.right nd.key hi (pri nd.key) (by omega) (by omega) hhi
     refine⟨b2,q1+q2+1,.both i nd lo hi w b2 q1 q2 hx k1 k2 k3 s1 s2,by omega,λ h=>?_,λ h t ht hb hh=>?_⟩
     . obtain⟨L,l1,l2,l3,l4⟩:=t1 rfl
       obtain⟨R,r1,r2,r3,r4⟩:=t2 h
       exact⟨.node i nd.key L R,⟨rfl,nd,hx,rfl,l1,r1⟩,⟨k1,k2,l2,r2⟩,⟨k3,l3,r3⟩,by simp [T.size];omega⟩
     . obtain⟨nd',L,R,e1,rfl,hl,hr⟩:=ht.node_at
       rw [hx] at e1;cases e1
       exact f2 h R hr hb.2.2.2 hh.2.2
  . refine⟨false,0,.no i nd lo hi w hx (by omega),by omega,λ h=>(by cases h),λ _ t ht hb hh=>?_⟩
    obtain⟨nd',L,R,e1,rfl,_⟩:=ht.node_at
    rw [hx] at e1;cases e1
    exact h3 ⟨hb.1,hb.2.1,hh.1⟩
theorem right_ex {l:List Nd} {r:Int} (hn:l.length<=64):∃ b q,Snd l r (-1) 4294967296 4294967296 b q/\q<=64/\((b=true/\q=l.length)↔∃ t,Good l r t):=by
 obtain⟨b,q,s,c,t,f⟩:=snd_ex l 4294967296 r (-1) 4294967296 4294967296 (by omega) (by omega) (by omega)
 have:=cnt_le l (-1) 4294967296
 refine⟨b,q,s,by omega,λ ⟨hb,hq⟩=>?_,λ ⟨u,hu⟩=>?_⟩
 . obtain⟨u,u1,u2,u3,u4⟩:=t hb
   exact⟨u,u1,by omega,hn,u2,u3⟩
 . cases b with
   | false=>exact (f rfl u hu.1 hu.2.2.2.1 hu.2.2.2.2).elim
   | true =>
    obtain⟨v,v1,v2,v3,v4⟩:=t rfl
    rw [Lay.det hu.1 v1] at hu
    exact⟨rfl,by have:=hu.2.1;omega⟩
theorem Bst.mem:∀ {t:T} {lo hi x:Int},Bst t lo hi->x∈t.inord->lo<x/\x<hi
 | .nil,_,_,_,_,h=>by simp [T.inord] at h
 | .node i k L R,lo,hi,x,b,h=>by
  obtain⟨b1,b2,b3,b4⟩:=b
  simp only [T.inord,List.mem_append,List.mem_cons] at h
  rcases h with h | rfl | h
  . have:=Bst.mem b3 h;omega
  . omega
  . have:=Bst.mem b4 h;omega
def Rising (l:List Int):Prop:=l.Pairwise (·<·)
theorem Bst.rising:∀ {t:T} {lo hi:Int},Bst t lo hi->Rising t.inord
 | .nil,_,_,_=>List.Pairwise.nil
 | .node i k L R,lo,hi,b=>by
  obtain⟨b1,b2,b3,b4⟩:=b
  unfold Rising
  simp only [T.inord,List.pairwise_append,List.pairwise_cons]
  refine⟨Bst.rising b3,⟨λ y hy=>(Bst.mem b4 hy).1,Bst.rising b4⟩,λ x hx y hy=>?_⟩
  have:=(Bst.mem b3 hx).2
  rcases List.mem_cons.1 hy with rfl | hy
  . exact this
  . have:=(Bst.mem b4 hy).1;omega
theorem bst_of:∀ {t:T} {lo hi:Int},Rising t.inord->(∀ x∈t.inord,lo<x/\x<hi)->Bst t lo hi
 | .nil,_,_,_,_=>trivial
 | .node i k L R,lo,hi,s,h=>by
  unfold Rising at s
  simp only [T.inord,List.pairwise_append,List.pairwise_cons] at s
  obtain⟨s1,⟨s2,s3⟩,s4⟩:=s
  have hk:=h k (by simp [T.inord])
  refine⟨hk.1,hk.2,bst_of s1 λ x hx=>⟨(h x (by simp [T.inord,hx])).1,s4 x hx k (by simp)⟩,bst_of s3 λ x hx=>⟨s2 x hx,(h x (by simp [T.inord,hx])).2⟩⟩
theorem Rising.nodup {l:List Int} (h:Rising l):l.Nodup:=List.Pairwise.imp (λ h=>by omega) h
theorem rising_ext:∀ {l m:List Int},Rising l->Rising m->(∀ x,x∈l↔x∈m)->l=m
 | [],[],_,_,_=>rfl
 | [],y::m,_,_,h=>by have:=(h y).2 (by simp);simp at this
 | x::l,[],_,_,h=>by have:=(h x).1 (by simp);simp at this
 | x::l,y::m,hl,hm,h=>by
  obtain⟨a1,a2⟩:=List.pairwise_cons.1 hl
  obtain⟨b1,b2⟩:=List.pairwise_cons.1 hm
  have e:x=y:=by
   rcases List.mem_cons.1 ((h x).1 (by simp)) with e | e
   . exact e
   . rcases List.mem_cons.1 ((h y).2 (by simp)) with e' | e'
     . exact e'.symm
     . have:=b1 x e;have:=a1 y e';omega
  subst e
  rw [rising_ext a2 b2 λ z=>⟨λ hz=>?_,λ hz=>?_⟩]
  . rcases List.mem_cons.1 ((h z).1 (by simp [hz])) with e | e
    . subst e;have:=a1 z hz;omega
    . exact e
  . rcases List.mem_cons.1 ((h z).2 (by simp [hz])) with e | e
    . subst e;have:=b1 z hz;omega
    . exact e
theorem nodup_le:∀ (n:Nat) (s:List Nat),s.Nodup->(∀ x∈s,x<n)->s.length<=n
 | 0,s,_,h=>by
  cases s with
  | nil=>simp
  | cons x r=>have:=h x (by simp);omega
 | n+1,s,hs,h=>by
  have:=nodup_le n (s.erase n) (hs.erase n) λ x hx=>by
   have h1:=(hs.mem_erase_iff.1 hx)
   have:=h x h1.2
   omega
  have:=List.length_erase (l:=s) (a:=n)
  split at this<;>omega
theorem nodup_all {n:Nat} {s:List Nat} (hs:s.Nodup) (h:∀ x∈s,x<n) (hl:s.length=n) {i:Nat} (hi:i<n):i∈s:=by
 apply Classical.byContradiction
 intro hn
 have:=nodup_le n (i::s) (List.nodup_cons.2 ⟨hn,hs⟩) λ x hx=>by
  rcases List.mem_cons.1 hx with rfl | hx
  . exact hi
  . exact h x hx
 simp at this
 omega
theorem Lay.key_of {l:List Nd}:∀ {t:T} {a:Int},Lay l t a->∀ i∈t.ids,∃ nd,l[i]?=some nd/\nd.key∈t.inord
 | .nil,_,_,i,h=>by simp [T.ids] at h
 | .node j k L R,a,h,i,hi=>by
  obtain⟨h1,nd,h2,h3,h4,h5⟩:=h
  simp only [T.ids,List.mem_append,List.mem_cons] at hi
  rcases hi with hi | rfl | hi
  . obtain⟨m,e1,e2⟩:=Lay.key_of h4 i hi
    exact⟨m,e1,by simp [T.inord,e2]⟩
  . exact⟨nd,h2,by simp [T.inord,h3]⟩
  . obtain⟨m,e1,e2⟩:=Lay.key_of h5 i hi
    exact⟨m,e1,by simp [T.inord,e2]⟩
theorem Lay.nodup {l:List Nd}:∀ {t:T} {a lo hi:Int},Lay l t a->Bst t lo hi->t.ids.Nodup
 | .nil,_,_,_,_,_=>List.nodup_nil
 | .node j k L R,a,lo,hi,h,b=>by
  obtain⟨h1,nd,h2,h3,h4,h5⟩:=h
  obtain⟨b1,b2,b3,b4⟩:=b
  have inL:∀ i∈L.ids,∃ m,l[i]?=some m/\m.key<k:=λ i hi=>by
   obtain⟨m,e1,e2⟩:=Lay.key_of h4 i hi
   exact⟨m,e1,(Bst.mem b3 e2).2⟩
  have inR:∀ i∈R.ids,∃ m,l[i]?=some m/\k<m.key:=λ i hi=>by
   obtain⟨m,e1,e2⟩:=Lay.key_of h5 i hi
   exact⟨m,e1,(Bst.mem b4 e2).1⟩
  simp only [T.ids,List.nodup_append,List.nodup_cons]
  refine⟨Lay.nodup h4 b3,⟨λ hj=>?_,Lay.nodup h5 b4⟩,λ x hx y hy e=>?_⟩
  . obtain⟨m,e1,e2⟩:=inR j hj
    rw [h2] at e1;cases e1;omega
  . subst e
    obtain⟨m,e1,e2⟩:=inL x hx
    rcases List.mem_cons.1 hy with rfl | hy
    . rw [h2] at e1;cases e1;omega
    . obtain⟨m',e3,e4⟩:=inR x hy
      rw [e1] at e3;cases e3;omega
theorem Good.all {l:List Nd} {r:Int} {t:T} (h:Good l r t) {i:Nat} (hi:i<l.length):i∈t.ids :=
 nodup_all (h.1.nodup h.2.2.2.1) (λ x hx=>by
  obtain⟨nd,e,_⟩:=h.1.key_of x hx
  exact (List.getElem?_eq_some_iff.1 e).1) (by rw [T.ids_len];exact h.2.1) hi
theorem Lay.key_in {l:List Nd}:∀ {t:T} {a:Int},Lay l t a->∀ x∈t.inord,x∈l.map Nd.key
 | .nil,_,_,x,h=>by simp [T.inord] at h
 | .node j k L R,a,h,x,hx=>by
  obtain⟨h1,nd,h2,h3,h4,h5⟩:=h
  simp only [T.inord,List.mem_append,List.mem_cons] at hx
  rcases hx with hx | rfl | hx
  . exact Lay.key_in h4 x hx
  . exact List.mem_map.2 ⟨nd,List.mem_of_getElem? h2,h3⟩
  . exact Lay.key_in h5 x hx
theorem Good.keys {l:List Nd} {r:Int} {t:T} (h:Good l r t) (x:Int):x∈l.map Nd.key↔x∈t.inord:=by
 refine⟨λ hx=>?_,λ hx=>h.1.key_in x hx⟩
 obtain⟨nd,h1,rfl⟩:=List.mem_map.1 hx
 obtain⟨i,hi,e⟩:=List.mem_iff_getElem.1 h1
 obtain⟨m,e1,e2⟩:=h.1.key_of i (h.all hi)
 rw [List.getElem?_eq_getElem hi,e] at e1
 cases e1
 exact e2
theorem Good.isKey {l:List Nd} {r:Int} {t:T} (h:Good l r t) {x:Int} (hx:x∈t.inord):IsKey x:=by
 have:=h.2.2.2.1.mem hx
 unfold IsKey;omega
end
section
def dpt:T->Int->Nat
 | .nil,_=>0
 | .node _ k L R,x=>if x=k then 0 else if x<k then dpt L x+1 else dpt R x+1
def btw (a b y:Int):Prop:=(a<=y/\y<=b)\/(b<=y/\y<=a)
instance (a b y:Int):Decidable (btw a b y):=by unfold btw;infer_instance
def nx:T->Int->Int->Int
 | .nil,_,s=>s
 | .node _ k L R,x,s=>if k<x then nx R x s else nx L x k
theorem nx_find:∀ {t:T} {lo hi x s:Int},Bst t lo hi->nx t x s=(t.inord.find? (λ k=>decide (x<=k))).getD s
 | .nil,_,_,_,_,_=>rfl
 | .node i k L R,lo,hi,x,s,b=>by
  obtain⟨b1,b2,b3,b4⟩:=b
  unfold nx
  simp only [T.inord,List.find?_append,List.find?_cons]
  split
  . rename_i h
    have e:L.inord.find? (λ k=>decide (x<=k))=none:=List.find?_eq_none.2 λ y hy=>by
     have:=(b3.mem hy).2;simp;omega
    rw [nx_find b4,e,decide_eq_false (by omega)]
    rfl
  . rename_i h
    rw [nx_find b3,decide_eq_true (by omega)]
    cases L.inord.find? (λ k=>decide (x<=k))<;>rfl
end
section
structure SV where
 addr:Int
 cnt:Int
 A:Option Addr
 n:Nat
 c:Nat
 line:List Int
instance:Inhabited SV:=⟨⟨0,0,none,0,0,[]⟩⟩
def SV.pl (x:SV):Int×Int×List Int:=(x.addr,x.cnt,x.line)
def SV.val (x:SV):Value:=.agg #[.int .i64 x.addr,.int .i64 x.cnt,.slice x.A x.n x.c]
def rt (a:Int):Int:=a / 8 % 251
def Lt (a b:Int):Prop:=rt a<rt b\/(rt a=rt b/\a<b)
theorem Lt.irrefl {a:Int} (h:Lt a a):False:=by unfold Lt at h;omega
theorem Lt.trans {a b c:Int} (h:Lt a b) (k:Lt b c):Lt a c:=by unfold Lt at *;omega
theorem Lt.tri (a b:Int):Lt a b\/a=b\/Lt b a:=by
 unfold Lt
 by_cases h:a=b
 . exact .inr (.inl h)
 . omega
theorem Lt.asymm {a b:Int} (h:Lt a b) (k:Lt b a):False:=by unfold Lt at *;omega
instance (a b:Int):Decidable (Lt a b):=by unfold Lt;infer_instance
def SOk (x:SV):Prop:=IsKey x.addr/\0<=x.cnt/\x.cnt<=2147483647/\L7.Ln x.line/\(x.cnt=0\/x.line=[])
def SNil (x:SV):Prop:=x.cnt=0/\x.line=[]
instance (x:SV):Decidable (SNil x):=by unfold SNil;infer_instance
def TOk (l:List SV):Prop:=(∀ x∈l,SOk x/\¬ SNil x)/\l.Pairwise (λ a b=>Lt a.addr b.addr)
def Tab (l:List SV):Prop:=l.length<=64/\TOk l
theorem TOk.nil:TOk []:=⟨by simp,List.Pairwise.nil⟩
theorem Tab.key {l:List SV} (h:TOk l) {x:SV} (hx:x∈l):IsKey x.addr:=(h.1 x hx).1.1
theorem TOk.snoc {l:List SV} {x:SV}:TOk (l++[x])↔TOk l/\SOk x/\¬ SNil x/\∀ y∈l,Lt y.addr x.addr:=by
 unfold TOk
 rw [List.pairwise_append]
 constructor
 . rintro⟨h1,h2,_,h3⟩
   exact⟨⟨λ y hy=>h1 y (List.mem_append_left _ hy),h2⟩,(h1 x (by simp)).1,(h1 x (by simp)).2,λ y hy=>h3 y hy x (by simp)⟩
 . rintro⟨⟨h1,h2⟩,h3,h4,h5⟩
   refine⟨λ y hy=>?_,h2,by simp,λ y hy z hz=>?_⟩
   . rcases List.mem_append.1 hy with h | h
     . exact h1 y h
     . rw [List.mem_singleton] at h;subst h;exact⟨h3,h4⟩
   . rw [List.mem_singleton] at hz;subst hz;exact h5 y hy
theorem TOk.take {l:List SV} (h:TOk l) (k:Nat):TOk (l.take k) :=
 ⟨λ x hx=>h.1 x (List.mem_of_mem_take hx),h.2.sublist (List.take_sublist k l)⟩
theorem take_snoc {α:Type} {l:List α} {k:Nat} {x:α} (h:l[k]?=some x):l.take (k+1)=l.take k++[x]:=by
 rw [List.take_add_one,h];rfl
theorem TOk.step {l:List SV} {k:Nat} {x:SV} (hx:l[k]?=some x) (h:TOk (l.take k)):TOk (l.take (k+1))↔SOk x/\¬ SNil x/\(∀ p y,k=p+1->l[p]?=some y->Lt y.addr x.addr):=by
 rw [take_snoc hx,TOk.snoc]
 constructor
 . rintro⟨_,h1,h2,h3⟩
   refine⟨h1,h2,λ p y hk hy=>h3 y ?_⟩
   subst hk
   exact List.mem_iff_getElem?.2 ⟨p,by rw [List.getElem?_take,if_pos (by omega)];exact hy⟩
 . rintro⟨h1,h2,h3⟩
   refine⟨h,h1,h2,λ y hy=>?_⟩
   cases k with
   | zero=>simp at hy
   | succ p =>
    have hlt:p<l.length:=by have:=(List.getElem?_eq_some_iff.1 hx).1;omega
    have hp:l[p]?=some l[p]:=List.getElem?_eq_getElem hlt
    have h4:=h3 p l[p] rfl hp
    rw [take_snoc hp] at hy h
    rcases List.mem_append.1 hy with hy | hy
    . exact ((TOk.snoc.1 h).2.2.2 y hy).trans h4
    . rw [List.mem_singleton] at hy;subst hy;exact h4
theorem TOk.at_ {l:List SV} (h:TOk l) {i j:Nat} {x y:SV} (hij:i<j) (hx:l[i]?=some x) (hy:l[j]?=some y):Lt x.addr y.addr:=by
 obtain⟨hi,rfl⟩:=List.getElem?_eq_some_iff.1 hx
 obtain⟨hj,rfl⟩:=List.getElem?_eq_some_iff.1 hy
 exact List.pairwise_iff_getElem.1 h.2 i j hi hj hij
def und (l:List SV) (r:Int):List Int:=(l.filter λ x=>decide (rt x.addr=r)).map (·.addr)
theorem und_snoc_hit {l:List SV} {x:SV} {r:Int} (h:rt x.addr=r):und (l++[x]) r=und l r++[x.addr]:=by simp [und,List.filter_append,h]
theorem und_snoc_miss {l:List SV} {x:SV} {r:Int} (h:rt x.addr≠r):und (l++[x]) r=und l r:=by simp [und,List.filter_append,h]
theorem mem_und {l:List SV} {r a:Int}:a∈und l r↔∃ x∈l,x.addr=a/\rt a=r:=by
 unfold und
 rw [List.mem_map]
 constructor
 . rintro⟨x,hx,rfl⟩
   rw [List.mem_filter,decide_eq_true_eq] at hx
   exact⟨x,hx.1,rfl,hx.2⟩
 . rintro⟨x,hx,rfl,h⟩
   exact⟨x,List.mem_filter.2 ⟨hx,by simpa using h⟩,rfl⟩
theorem und_len (l:List SV) (r:Int):(und l r).length<=l.length:=by
 unfold und
 rw [List.length_map]
 exact List.length_filter_le _ _
theorem und_rising {l:List SV} (h:TOk l) (r:Int):Rising (und l r):=by
 unfold Rising und
 rw [List.pairwise_map]
 refine List.Pairwise.imp_of_mem ?_ (h.2.sublist List.filter_sublist)
 intro a b ha hb hab
 rw [List.mem_filter,decide_eq_true_eq] at ha hb
 unfold Lt at hab
 omega
def plc (l:List SV) (a:Int):Nat:=(l.filter λ x=>decide (Lt x.addr a)).length
theorem plc_le (l:List SV) (a:Int):plc l a<=l.length:=List.length_filter_le _ _
theorem filter_split {l:List SV} (h:TOk l) (a:Int):∀ k,(∀ i x,l[i]?=some x->(Lt x.addr a↔i<k))->k<=l.length->plc l a=k:=by
 intro k hk hl
 unfold plc
 rw [<- List.take_append_drop k l,List.filter_append,List.filter_eq_self.2,List.filter_eq_nil_iff.2]
 . simp;omega
 . intro x hx
   obtain⟨i,hi⟩:=List.mem_iff_getElem?.1 hx
   rw [List.getElem?_drop] at hi
   have:=(hk _ _ hi).1
   simp only [decide_eq_true_eq]
   intro h
   have:=this h
   omega
 . intro x hx
   obtain⟨i,hi⟩:=List.mem_iff_getElem?.1 hx
   rw [List.getElem?_take] at hi
   split at hi
   . simp only [decide_eq_true_eq]
     exact (hk _ _ hi).2 (by assumption)
   . cases hi
theorem plc_at {l:List SV} (h:TOk l) {a:Int} {k:Nat} {x:SV} (hx:l[k]?=some x) (h1:¬ Lt x.addr a) (h2:∀ p y,k=p+1->l[p]?=some y->Lt y.addr a):plc l a=k:=by
 refine filter_split h a k (λ i y hy=>?_) (by have:=(List.getElem?_eq_some_iff.1 hx).1;omega)
 constructor
 . intro hya
   rcases Nat.lt_trichotomy i k with h3 | h3 | h3
   . exact h3
   . subst h3;rw [hx] at hy;cases hy;exact absurd hya h1
   . exact absurd ((h.at_ h3 hx hy).trans hya) h1
 . intro hi
   cases k with
   | zero=>omega
   | succ p =>
    have hlt:p<l.length:=by have:=(List.getElem?_eq_some_iff.1 hx).1;omega
    have h3:=h2 p l[p] rfl (List.getElem?_eq_getElem hlt)
    by_cases hip:i=p
    . subst hip;rw [List.getElem?_eq_getElem hlt] at hy;cases hy;exact h3
    . exact (h.at_ (show i<p from by omega) hy (List.getElem?_eq_getElem hlt)).trans h3
theorem plc_end {l:List SV} (h:TOk l) {a:Int} (h1:∀ x∈l,Lt x.addr a):plc l a=l.length :=
 filter_split h a _ (λ i x hx=>⟨λ _=>(List.getElem?_eq_some_iff.1 hx).1,λ _=>h1 x (List.mem_of_getElem? hx)⟩) (Nat.le_refl _)
theorem plc_iff {l:List SV} (h:TOk l) (a:Int) {i:Nat} {x:SV} (hx:l[i]?=some x):Lt x.addr a↔i<plc l a:=by
 by_cases hall:∀ y∈l,Lt y.addr a
 . rw [plc_end h hall]
   exact⟨λ _=>(List.getElem?_eq_some_iff.1 hx).1,λ _=>hall x (List.mem_of_getElem? hx)⟩
 . have hex:∃ k:Nat,∃ y:SV,l[k]?=some y/\¬ Lt y.addr a:=by
    simp only [Classical.not_forall] at hall
    obtain⟨y,hy,hn⟩:=hall
    obtain⟨k,hk⟩:=List.mem_iff_getElem?.1 hy
    exact⟨k,y,hk,hn⟩
   have hmin:∃ k:Nat,(∃ y:SV,l[k]?=some y/\¬ Lt y.addr a)/\∀ j,j<k->¬ ∃ y:SV,l[j]?=some y/\¬ Lt y.addr a:=by
    obtain⟨k,hk⟩:=hex
    induction k using Nat.strongRecOn with
    | _ k ih =>
     by_cases hj:∃ j,j<k/\∃ y:SV,l[j]?=some y/\¬ Lt y.addr a
     . obtain⟨j,hj1,hj2⟩:=hj
       exact ih j hj1 hj2
     . exact⟨k,hk,λ j hjk hc=>hj ⟨j,hjk,hc⟩⟩
   obtain⟨k,⟨y,hy,hn⟩,hf⟩:=hmin
   have hp:plc l a=k:=plc_at h hy hn (λ p z hz hz2=>Classical.byContradiction λ hc=>hf p (by omega) ⟨z,hz2,hc⟩)
   rw [hp]
   constructor
   . intro hxa
     rcases Nat.lt_trichotomy i k with h3 | h3 | h3
     . exact h3
     . subst h3;rw [hx] at hy;cases hy;exact absurd hxa hn
     . exact absurd ((h.at_ h3 hy hx).trans hxa) hn
   . intro hi
     exact Classical.byContradiction λ hc=>hf i hi ⟨x,hx,hc⟩
def Has (l:List SV) (a:Int):Prop:=∃ x∈l,x.addr=a
theorem has_iff {l:List SV} (h:TOk l) (a:Int):Has l a↔∃ x:SV,l[plc l a]?=some x/\x.addr=a:=by
 constructor
 . rintro⟨x,hx,rfl⟩
   obtain⟨i,hi⟩:=List.mem_iff_getElem?.1 hx
   have hp:plc l x.addr=i:=plc_at h hi (λ hc=>hc.irrefl) (λ p y hp hy=>h.at_ (show p<i from by omega) hy hi)
   exact⟨x,by rw [hp];exact hi,rfl⟩
 . rintro⟨x,hx,rfl⟩
   exact⟨x,List.mem_of_getElem? hx,rfl⟩
def front (l:List SV) (a:Int):List SV:=l.filter λ x=>decide (Lt x.addr a)
def back (l:List SV) (a:Int):List SV:=l.filter λ x=>decide (Lt a x.addr)
theorem front_take {l:List SV} (h:TOk l) (a:Int):l.take (plc l a)=front l a:=by
 conv=>rhs;unfold front;rw [<- List.take_append_drop (plc l a) l]
 rw [List.filter_append,List.filter_eq_self.2,List.filter_eq_nil_iff.2,List.append_nil]
 . intro x hx
   obtain⟨i,hi⟩:=List.mem_iff_getElem?.1 hx
   rw [List.getElem?_drop] at hi
   have:=(plc_iff h a hi).1
   simp only [decide_eq_true_eq]
   intro h
   have:=this h
   omega
 . intro x hx
   obtain⟨i,hi⟩:=List.mem_iff_getElem?.1 hx
   rw [List.getElem?_take] at hi
   split at hi
   . simp only [decide_eq_true_eq]
     exact (plc_iff h a hi).2 (by assumption)
   . cases hi
theorem back_drop {l:List SV} (h:TOk l) (a:Int) {k:Nat} (hk:(Has l a/\k=plc l a+1)\/(¬ Has l a/\k=plc l a)):l.drop k=back l a:=by
 conv=>rhs;unfold back;rw [<- List.take_append_drop k l]
 rw [List.filter_append,List.filter_eq_nil_iff.2,List.filter_eq_self.2,List.nil_append]
 . intro x hx
   obtain⟨i,hi⟩:=List.mem_iff_getElem?.1 hx
   rw [List.getElem?_drop] at hi
   simp only [decide_eq_true_eq]
   rcases Lt.tri a x.addr with h1 | h1 | h1
   . exact h1
   . exfalso
     rcases hk with ⟨hh,rfl⟩ | ⟨hh,rfl⟩
     . obtain⟨y,hy,hya⟩:=(has_iff h a).1 hh
       have:=h.at_ (show plc l a<plc l a+1+i from by omega) hy hi
       rw [hya,<- h1] at this
       exact this.irrefl
     . exact hh ⟨x,List.mem_of_getElem? hi,h1.symm⟩
   . have:=(plc_iff h a hi).1 h1
     rcases hk with ⟨hh,rfl⟩ | ⟨hh,rfl⟩<;>omega
 . intro x hx
   obtain⟨i,hi⟩:=List.mem_iff_getElem?.1 hx
   rw [List.getElem?_take] at hi
   split at hi
   . rename_i hik
     simp only [decide_eq_true_eq]
     intro hc
     rcases hk with ⟨hh,rfl⟩ | ⟨hh,rfl⟩
     . by_cases he:i=plc l a
       . subst he
         obtain⟨y,hy,hya⟩:=(has_iff h a).1 hh
         rw [hi] at hy
         cases hy
         rw [hya] at hc
         exact hc.irrefl
       . exact ((plc_iff h a hi).2 (by omega)).asymm hc
     . exact ((plc_iff h a hi).2 hik).asymm hc
   . cases hi
def setl (l:List SV) (s:SV):List SV:=front l s.addr++(if SNil s then [] else [s])++back l s.addr
theorem mem_setl {l:List SV} {s x:SV}:x∈setl l s↔(x∈l/\x.addr≠s.addr)\/(x=s/\¬ SNil s):=by
 unfold setl front back
 by_cases hs:SNil s
 . rw [if_pos hs]
   simp only [List.append_nil,List.mem_append,List.mem_filter,decide_eq_true_eq]
   constructor
   . rintro (⟨h,k⟩ | ⟨h,k⟩)
     . exact .inl ⟨h,λ e=>by rw [e] at k;exact k.irrefl⟩
     . exact .inl ⟨h,λ e=>by rw [e] at k;exact k.irrefl⟩
   . rintro (⟨h,k⟩ | ⟨h,k⟩)
     . rcases Lt.tri x.addr s.addr with h1 | h1 | h1
       . exact .inl ⟨h,h1⟩
       . exact absurd h1 k
       . exact .inr ⟨h,h1⟩
     . exact absurd hs k
 . rw [if_neg hs]
   simp only [List.mem_append,List.mem_filter,decide_eq_true_eq,List.mem_singleton]
   constructor
   . rintro ((⟨h,k⟩ | h) | ⟨h,k⟩)
     . exact .inl ⟨h,λ e=>by rw [e] at k;exact k.irrefl⟩
     . exact .inr ⟨h,hs⟩
     . exact .inl ⟨h,λ e=>by rw [e] at k;exact k.irrefl⟩
   . rintro (⟨h,k⟩ | ⟨h,k⟩)
     . rcases Lt.tri x.addr s.addr with h1 | h1 | h1
       . exact .inl (.inl ⟨h,h1⟩)
       . exact absurd h1 k
       . exact .inr ⟨h,h1⟩
     . exact .inl (.inr h)
theorem setl_ok {l:List SV} {s:SV} (h:TOk l) (hs:SOk s):TOk (setl l s):=by
 refine⟨λ x hx=>?_,?_⟩
 . rcases mem_setl.1 hx with ⟨h1,_⟩ | ⟨rfl,h1⟩
   . exact h.1 x h1
   . exact⟨hs,h1⟩
 . unfold setl
   rw [List.pairwise_append,List.pairwise_append]
   refine⟨⟨h.2.sublist List.filter_sublist,?_,?_⟩,h.2.sublist List.filter_sublist,?_⟩
   . split
     . exact List.Pairwise.nil
     . exact List.pairwise_singleton _ _
   . intro a ha b hb
     split at hb
     . cases hb
     . rw [List.mem_singleton] at hb;subst hb
       unfold front at ha
       rw [List.mem_filter,decide_eq_true_eq] at ha
       exact ha.2
   . intro a ha b hb
     unfold back at hb
     rw [List.mem_filter,decide_eq_true_eq] at hb
     rcases List.mem_append.1 ha with ha | ha
     . unfold front at ha
       rw [List.mem_filter,decide_eq_true_eq] at ha
       exact ha.2.trans hb.2
     . split at ha
       . cases ha
       . rw [List.mem_singleton] at ha;subst ha;exact hb.2
theorem tok_ext:∀ {l m:List SV},TOk l->TOk m->(∀ x,x∈l↔x∈m)->l=m
 | [],[],_,_,_=>rfl
 | [],y::m,_,_,h=>by have:=(h y).2 (by simp);cases this
 | x::l,[],_,_,h=>by have:=(h x).1 (by simp);cases this
 | x::l,y::m,hl,hm,h=>by
  have h1:=List.pairwise_cons.1 hl.2
  have h2:=List.pairwise_cons.1 hm.2
  have hxy:x=y:=by
   rcases List.mem_cons.1 ((h x).1 (by simp)) with e | e
   . exact e
   rcases List.mem_cons.1 ((h y).2 (by simp)) with e' | e'
   . exact e'.symm
   exact absurd (h1.1 y e') (λ c=>(h2.1 x e).asymm c)
  subst hxy
  have hr:=tok_ext (l:=l) (m:=m) ⟨λ z hz=>hl.1 z (by simp [hz]),h1.2⟩ ⟨λ z hz=>hm.1 z (by simp [hz]),h2.2⟩ (λ z=>by
   constructor
   . intro hz
     rcases List.mem_cons.1 ((h z).1 (by simp [hz])) with e | e
     . subst e;exact absurd (h1.1 z hz) (λ c=>c.irrefl)
     . exact e
   . intro hz
     rcases List.mem_cons.1 ((h z).2 (by simp [hz])) with e | e
     . subst e;exact absurd (h2.1 z hz) (λ c=>c.irrefl)
     . exact e)
  rw [hr]
end
section
open Go.ChangeShapes Go.WideShapes Go.ChangeAt Go.RowKit Go.Joins
def NMem (w:World) (A:Option Addr) (n:Nat) (l:List Nd):Prop :=
 l.length=n/\(∀ nd∈l,B64 nd.key/\B64 nd.left/\B64 nd.right)/\(0<n->∃ b off,A=some ⟨b,off,none⟩/\b<w.heap.size/\∀ j nd,l[j]?=some nd ->
  w.cell? ⟨b,off+j*3,none⟩=some (.int .i64 nd.key)/\w.cell? ⟨b,off+j*3+1,none⟩=some (.int .i64 nd.left)/\w.cell? ⟨b,off+j*3+2,none⟩=some (.int .i64 nd.right))
section
variable {w w':World} {A:Option Addr} {n:Nat} {l:List Nd}
theorem NMem.nil_:NMem w A 0 []:=⟨rfl,by simp,λ h=>absurd h (by omega)⟩
theorem NMem.stays (h:NMem w A n l) (hs:w.heap.size<=w'.heap.size) (hb:∀ k,A.map (·.block)=some k->k<w.heap.size->w'.heap[k]?=w.heap[k]?):NMem w' A n l :=
 ⟨h.1,h.2.1,λ hn=>by
   obtain⟨b,off,rfl,hlt,hc⟩:=h.2.2 hn
   have e:=hb b rfl hlt
   refine⟨b,off,rfl,Nat.lt_of_lt_of_le hlt hs,λ j nd hj=>?_⟩
   rw [World.cell?_of_block (a:=⟨b,off+j*3,none⟩) e,World.cell?_of_block (a:=⟨b,off+j*3+1,none⟩) e,World.cell?_of_block (a:=⟨b,off+j*3+2,none⟩) e]
   exact hc j nd hj⟩
theorem NMem.gr (h:NMem w A n l) (g:Gr w w'):NMem w' A n l:=h.stays g.size λ k _ hk=>g.block k hk
theorem NMem.at_ {k:Nat} (h:NMem w A n l) (hk:k<n) :
 ∃ b off nd,A=some ⟨b,off,none⟩/\b<w.heap.size/\l[k]?=some nd/\B64 nd.key/\B64 nd.left/\B64 nd.right /\
  w.cell? ⟨b,off+k*3,none⟩=some (.int .i64 nd.key)/\w.cell? ⟨b,off+k*3+1,none⟩=some (.int .i64 nd.left)/\w.cell? ⟨b,off+k*3+2,none⟩=some (.int .i64 nd.right):=by
 obtain⟨b,off,e,hb,hc⟩:=h.2.2 (by omega)
 have hl:k<l.length:=by have:=h.1;omega
 have hx:l[k]?=some l[k]:=List.getElem?_eq_getElem hl
 have hi:=h.2.1 l[k] (List.getElem_mem hl)
 obtain⟨c0,c1,c2⟩:=hc k _ hx
 exact⟨b,off,l[k],e,hb,hx,hi.1,hi.2.1,hi.2.2,c0,c1,c2⟩
theorem NMem.cells {b off i:Nat} {nd:Nd} (h:NMem w (some ⟨b,off,none⟩) n l) (hx:l[i]?=some nd) :
 w.cell? ⟨b,off+i*3,none⟩=some (.int .i64 nd.key)/\w.cell? ⟨b,off+i*3+1,none⟩=some (.int .i64 nd.left)/\w.cell? ⟨b,off+i*3+2,none⟩=some (.int .i64 nd.right):=by
 obtain⟨b',off',e,hb,hc⟩:=h.2.2 (by have:=(List.getElem?_eq_some_iff.1 hx).1;have:=h.1;omega)
 cases e
 exact hc i nd hx
end
end
section
open Go.ChangeShapes Go.WideShapes Go.ChangeAt Go.RowKit Go.Joins
def SV.ok (w:World) (x:SV):Prop:=B64 x.addr/\B64 x.cnt/\IMem w x.A x.n x.line/\x.n<=x.c/\x.c<=9223372036854775807
theorem SV.ok.gr {w w':World} {x:SV} (h:x.ok w) (g:Gr w w'):x.ok w':=⟨h.1,h.2.1,h.2.2.1.gr g,h.2.2.2⟩
theorem SV.ok.len {w:World} {x:SV} (h:x.ok w):x.line.length=x.n:=h.2.2.1.1
theorem SV.ok.lt {w:World} {x:SV} (h:x.ok w):x.n<=9223372036854775807:=by have:=h.2.2.2;omega
def SMem (w:World) (A:Option Addr) (n:Nat) (l:List SV):Prop :=
 l.length=n/\(∀ x∈l,x.ok w)/\(0<n->∃ b off,A=some ⟨b,off,none⟩/\b<w.heap.size/\∀ j x,l[j]?=some x ->
  w.cell? ⟨b,off+j*3,none⟩=some (.int .i64 x.addr)/\w.cell? ⟨b,off+j*3+1,none⟩=some (.int .i64 x.cnt)/\w.cell? ⟨b,off+j*3+2,none⟩=some (.slice x.A x.n x.c))
section
variable {w w':World} {A:Option Addr} {n:Nat} {l:List SV}
theorem SMem.nil_ {A:Option Addr}:SMem w A 0 []:=⟨rfl,by simp,λ h=>absurd h (by omega)⟩
theorem SMem.gr (h:SMem w A n l) (g:Gr w w'):SMem w' A n l :=
 ⟨h.1,λ x hx=>(h.2.1 x hx).gr g,λ hn=>by
   obtain⟨b,off,rfl,hlt,hc⟩:=h.2.2 hn
   refine⟨b,off,rfl,Nat.lt_of_lt_of_le hlt g.size,λ j x hj=>?_⟩
   rw [g.cell (p:=⟨b,off+j*3,none⟩) hlt,g.cell (p:=⟨b,off+j*3+1,none⟩) hlt,g.cell (p:=⟨b,off+j*3+2,none⟩) hlt]
   exact hc j x hj⟩
theorem SMem.at_ {k:Nat} (h:SMem w A n l) (hk:k<n) :
 ∃ b off x,A=some ⟨b,off,none⟩/\b<w.heap.size/\l[k]?=some x/\x.ok w /\
  w.cell? ⟨b,off+k*3,none⟩=some (.int .i64 x.addr)/\w.cell? ⟨b,off+k*3+1,none⟩=some (.int .i64 x.cnt)/\w.cell? ⟨b,off+k*3+2,none⟩=some (.slice x.A x.n x.c):=by
 obtain⟨b,off,e,hb,hc⟩:=h.2.2 (by omega)
 have hl:k<l.length:=by have:=h.1;omega
 have hx:l[k]?=some l[k]:=List.getElem?_eq_getElem hl
 obtain⟨c0,c1,c2⟩:=hc k _ hx
 exact⟨b,off,l[k],e,hb,hx,h.2.1 _ (List.getElem_mem hl),c0,c1,c2⟩
theorem SMem.take_ (h:SMem w A n l) (k:Nat) (hk:k<=n):SMem w A k (l.take k) :=
 ⟨by rw [List.length_take,h.1];omega,λ x hx=>h.2.1 x (List.mem_of_mem_take hx),λ hn=>by
   obtain⟨b,off,e,hb,hc⟩:=h.2.2 (by omega)
   refine⟨b,off,e,hb,λ j u hu=>hc j u ?_⟩
   rw [List.getElem?_take] at hu
   split at hu
   . exact hu
   . cases hu⟩
theorem SMem.drop_ (h:SMem w A n l) {b off:Nat} (hA:A=some ⟨b,off,none⟩) (k:Nat) (hk:k<=n):SMem w (some ⟨b,off+k*3,none⟩) (n-k) (l.drop k) :=
 ⟨by rw [List.length_drop,h.1],λ x hx=>h.2.1 x (List.mem_of_mem_drop hx),λ hn=>by
   obtain⟨b',off',e,hb,hc⟩:=h.2.2 (by omega)
   rw [hA] at e
   cases e
   refine⟨b,off+k*3,rfl,hb,λ j u hu=>?_⟩
   rw [List.getElem?_drop] at hu
   have:=hc _ u hu
   rw [show off+k*3+j*3=off+(k+j)*3 from by omega]
   exact this⟩
theorem SMem.cut (h:SMem w A n l) (k c:Nat) (hk:k<=n) (hc:n<=c):SMem w (if c=k then A else A.map (·.add (k*3))) (n-k) (l.drop k):=by
 by_cases hn:n-k=0
 . rw [hn]
   have:l.drop k=[]:=List.eq_nil_of_length_eq_zero (by rw [List.length_drop,h.1,hn])
   rw [this]
   exact SMem.nil_
 . obtain⟨b,off,rfl,_,_⟩:=h.2.2 (by omega)
   rw [if_neg (by omega),Option.map_some,add_plain]
   exact h.drop_ rfl k hk
end
def flatS:List SV->List Value
 | []=>[]
 | x::r=>.int .i64 x.addr::.int .i64 x.cnt::.slice x.A x.n x.c::flatS r
theorem flatS_len:∀ l:List SV,(flatS l).length=l.length*3
 | []=>rfl
 | x::r=>by simp [flatS,flatS_len r];omega
theorem flatS_app:∀ l m:List SV,flatS (l++m)=flatS l++flatS m
 | [],m=>rfl
 | x::r,m=>by simp [flatS,flatS_app r m]
theorem flatS_get:∀ (l:List SV) (i:Nat) (x:SV),l[i]?=some x->(flatS l)[i*3]?=some (.int .i64 x.addr)/\(flatS l)[i*3+1]?=some (.int .i64 x.cnt)/\(flatS l)[i*3+2]?=some (.slice x.A x.n x.c)
 | [],i,x,h=>by simp at h
 | y::r,0,x,h=>by simp at h;subst h;exact⟨rfl,rfl,rfl⟩
 | y::r,i+1,x,h=>by
  have:=flatS_get r i x (by simpa using h)
  rw [show (i+1)*3=i*3+1+1+1 from by omega]
  simpa [flatS] using this
abbrev SRow (w:World) (base:Nat) (v:Value) (n:Nat) (l:List SV):Prop:=w.ownsRow base 91 3 v n (flatS l)
theorem SRow.len {w:World} {base n:Nat} {v:Value} {l:List SV} (h:SRow w base v n l):l.length=n:=by
 have:=h.1
 rw [flatS_len] at this
 omega
theorem own_smem {w:World} {base n:Nat} {v:Value} {l:List SV} (h:SRow w base v n l) (hok:∀ x∈l,x.ok w):∃ B m,v=.slice B n m/\SMem w B n l/\n<=m/\m<=9223372036854775807:=by
 have hl:=h.len
 rcases h.2 with ⟨rfl,rfl⟩ | ⟨g,cap,cur,rfl,_,hg,hnc,hcm,hs,ht⟩
 . exact⟨none,0,rfl,⟨hl,hok,λ h=>absurd h (by omega)⟩,Nat.le_refl _,by omega⟩
 . refine⟨_,_,rfl,⟨hl,hok,λ _=>⟨g,0,rfl,(Array.getElem?_eq_some_iff.1 hg).1,λ j u hu=>?_⟩⟩,hnc,by unfold maxLen at hcm;omega⟩
   have hj:j<n:=by rw [<- hl];exact (List.getElem?_eq_some_iff.1 hu).1
   obtain⟨f0,f1,f2⟩:=flatS_get l j u hu
   rw [<- ht] at f0 f1 f2
   rw [List.getElem?_take,if_pos (by omega)] at f0 f1 f2
   rw [Nat.zero_add,cell_of_row w g _ cur _ (0,0) hg,cell_of_row w g _ cur _ (0,0) hg,cell_of_row w g _ cur _ (0,0) hg]
   exact⟨by simpa using f0,by simpa using f1,by simpa using f2⟩
theorem infoSpot:(Tryz.prog.info? 91).map (λ i=>(i.zero,i.size,i.bytes))=some (some (.agg #[.int .i64 0,.int .i64 0,.slice none 0 0]),3,40):=by kernel_rfl
section
variable {P:Program} (w:World)
theorem run_append_fine (t ty:TypeId) (base:Nat) (e:TypeId) (i:TypeInfo) (z:Value) (size bytes:Nat) (ht:P.underlying t=some (.slice e)) (hi:P.info? e=some i) (hz:i.zero=some z)
 (hsize:i.size=size) (hby:i.bytes=bytes) (hzs:z.cells.size=size) (hsz:0<size)
 (v:Value) (n:Nat) (xs:List Value) (hown:w.ownsRow base e size v n xs)
 (ad:Addr) (m c:Nat) (news:List Value) (hl:news.length=m*size) (hnews:∀ j u,news[j]?=some u->w.cell? (ad.add j)=some u) (h1:∀ u∈news,u.oneCell'=true)
 (hm:0<m) (h63:n+m<=maxLen) (hbytes:(n+m)*bytes<=140737488355328) (hbase:base<=w.heap.size) :
 ∃ g cap w',(Builtin.append_ #[t,t] ty #[v,.slice (some ad) m c]).run P w=.ok (.slice (some ⟨g,0,none⟩) (n+m) cap) w' /\
  w'.ownsRow base e size (.slice (some ⟨g,0,none⟩) (n+m) cap) (n+m) (xs++news)/\w.grownBy w' v.ownBlock/\(v.ownBlock=some g\/g=w.heap.size) /\
  (w.grownBy w' none\/∃ g0 cap0,v=.slice (some ⟨g0,0,none⟩) n cap0/\n+m<=cap0):=by
 obtain⟨g,cap,w',hr,h2,h3,h4,h5⟩:=run_append_lies (P:=P) w t ty base e i z size bytes ht hi hz hsize hby hzs hsz v n xs hown ad m c news hl hnews h1 hm h63 hbytes hbase _ rfl
 refine⟨g,cap,w',hr,h2,h3,h4,?_⟩
 rcases hown.2 with ⟨rfl,rfl⟩ | ⟨g0,cap0,cur,rfl,hb,hg,hnc,hcm,hcs,htk⟩
 . exact .inl h3
 . by_cases hroom:n+m<=cap0
   . exact .inr ⟨g0,cap0,rfl,hroom⟩
   . left
     obtain⟨v'',w'',hr',_,hg'⟩:=run_append_arg_grows (P:=P) w t ty e i z size bytes ht hi hz hsize hby hzs hsz ⟨g0,0,none⟩ n cap0 xs hown.1 (λ j u hu=>by
      rw [add_plain,Nat.zero_add,cell_of_row w g0 j cur _ (0,0) hg]
      rw [<- htk,List.getElem?_take] at hu
      split at hu
      . simpa using hu
      . cases hu) ad m c news hl hnews (by omega) h63 hbytes
     rw [hr] at hr'
     cases hr'
     exact hg'
end
end
end Go.Proofs.YtainfijdhcehlaaGreatDoor
