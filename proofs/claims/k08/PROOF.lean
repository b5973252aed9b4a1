import PyProof.Rows.All
import Wide.All
import OpenK.AllK
import Wide.FinOn
import Lean
import PyProof.EqAt
import PyProof.EqKinds
import PyProof.TupleCall
import PyProof.NeKinds
import PyProof.ExcClass3
import PyProof.ExcBaseAll.ValueError
import PyProof.DictWalks
import PyProof.WalksEnum
import PyProof.EnumMake
import PyProof.Rows.EnumRows
import KE.KDictLaws
import KE.KLam
import KE.KSortKey
import PyProof.Rows.CallKwBuiltin
import PyProof.Rows.SortRuns
import PyProof.ExcAttrAll.ValueError
import PyProof.InstStoreFacts
import PyProof.FactsAll.range_1
import KE.KNest
import KE.KRevIter
import PyProof.ListRange
import PyProof.ListNew
import PyProof.MinMaxWalk
import PyProof.ZipIter
import PyProof.WalkInts
import PySem.SetOps
import PyProof.SetKind
import PyProof.DictKinds
import PyProof.Rows.SetFrom
import PyProof.CollectWalk
import PyProof.Rows.SortShell
import PyProof.Rows.SortWalk
import KE.KDictList
import PySem.Challenge.RW_atmost_k08_refused
set_option Elab.async false
set_option linter.all false
set_option maxRecDepth 100000
set_option maxHeartbeats 4000000
open PySem.W (instObj methodObj hideAll hideAll_get of_hideAll hideAll_none Frag lookIn plainGet hasDictIn findIn handedIn plainGet_of findObj_own isFn plainOver takerIn set_plain looks_clsIn makesIn InitBack emptyDict bind_fn keepIn methodCall_KW takesIn kia_one kitx_list kitx_dict callWith_K fnOf codeIn handed_on clsIn readsIn findCls OpenLaw tabIn nsIn mg_of mg_none_of)
open PySem renaming wpAny_bind → zA, wpAny_pure → zB, wpAny_mono → zC, wpAny_holding → zD, mainGlobals → zE, sizeLine → zF, starEach → zG
open PyProof.Rows renaming wpS_bind → zH, wpS_pure → zI, wpS_forRange → zJ
namespace At
abbrev Say:=Int×Int×Int
def cnt (c i:Int):Bool:=decide (0≤i)&&decide (i<c)
theorem YH{c i:Int}:cnt c i=true↔0≤i∧i<c:=by unfold cnt;simp
def inside(c:Int)(s:Say):Bool:=cnt c s.1&&cnt c s.2.1
def keeps(hs:List Int)(s:Say):Bool:=decide (hs.getD s.2.1.toNat 0-hs.getD s.1.toNat 0≤s.2.2)
def walk (ss:List Say):List Int→Int→Option Int
 | [],p=>some p
 | k::r,p=>if cnt ss.length k=true then(match ss[k.toNat]? with
  | some s=>if s.1=p then walk ss r s.2.1 else none
  | none=>none) else none
def num (ss:List Say)(k:Int):Int:=((ss[k.toNat]?).map fun s=>s.2.2).getD 0
def sumC (ss:List Say)(ns:List Int):Int:=(ns.map (num ss)).sum
abbrev Fn:=Int→Option Int
def put (S:Fn)(k v:Int):Fn:=fun x=>if x=k then some v else S x
theorem Zy{S:Fn}{k v:Int}:put S k v k=some v:=by unfold put;rw[if_pos rfl]
theorem ZO{S:Fn}{k v x:Int}(h:x≠k):put S k v x=S x:=by unfold put;rw[if_neg h]
def sy (ss:List Say)(k:Int):Say:=(ss[k.toNat]?).getD (0,0,0)
structure Ws where
 S:Fn
 L:Fn
 f:Bool
def relax(ss:List Say)(w:Ws)(k:Int):Ws :=
 match w.S (sy ss k).1 with
 | none=>w
 | some a =>
  match w.S (sy ss k).2.1 with
  | none=>⟨put w.S (sy ss k).2.1 (a+(sy ss k).2.2),put w.L (sy ss k).2.1 k,true⟩
  | some b=>if a+(sy ss k).2.2<b then⟨put w.S (sy ss k).2.1 (a+(sy ss k).2.2),put w.L (sy ss k).2.1 k,true⟩ else w
def goAll(ss:List Say)(order:List Int)(w:Ws):Ws:=order.foldl (relax ss) w
def back (ss:List Say)(L:Fn):Nat→Int→Option Int
 | 0,p=>some p
 | n+1,p=>match L p with
  | none=>none
  | some k=>back ss L n (sy ss k).1
def wsum (ss:List Say)(L:Fn):Nat→Int→Int
 | 0,_=>0
 | n+1,p=>match L p with
  | none=>0
  | some k=>(sy ss k).2.2+wsum ss L n (sy ss k).1
def chainB(ss:List Say)(L:Fn):Nat→Int→List Int
 | 0,_=>[]
 | n+1,p=>match L p with
  | none=>[]
  | some k=>k::chainB ss L n (sy ss k).1
def J (ss:List Say)(S L:Fn):Prop:=∀ p k,L p=some k→cnt ss.length k=true∧(sy ss k).2.1=p∧∃ a b,S (sy ss k).1=some a∧S p=some b∧a+(sy ss k).2.2≤b
def R (ss:List Say)(L:Fn):Prop:=∀ p n,back ss L (n+1) p=some p→wsum ss L (n+1) p<0
def Z (S L:Fn):Prop:=∀ q v,L q=none→S q=some v→v=0
section
variable {ss:List Say}{S L:Fn}
theorem Y8:∀(m n:Nat) (p:Int),back ss L (m+n) p=(back ss L m p).bind (back ss L n)
 | 0,n,p=>by rw[Nat.zero_add];rfl
 | m+1,n,p=>by
  rw[Nat.succ_add];unfold back;cases e:L p with
  | none=>rfl
  | some k=>exact Y8 m n _
theorem V4:∀(m n:Nat) (p q:Int),back ss L m p=some q→wsum ss L (m+n) p=wsum ss L m p+wsum ss L n q
 | 0,n,p,q,h=>by
  have e:p=q:=Option.some.inj h;subst e;rw[Nat.zero_add];unfold wsum;simp
 | m+1,n,p,q,h=>by
  rw[Nat.succ_add];unfold back at h;cases e:L p with
  | none=>rw[e] at h;cases h
  | some k =>
   rw[e] at h
   have:=V4 m n _ q h
   simp only[wsum,e];lia
theorem tele(hJ:J ss S L):∀(n:Nat) (p q a b:Int),back ss L n p=some q→S q=some a→S p=some b→a+wsum ss L n p≤b
 | 0,p,q,a,b,h,ha,hb=>by
  have e:p=q:=Option.some.inj h;subst e;rw[ha] at hb;cases hb;simp[wsum]
 | n+1,p,q,a,b,h,ha,hb=>by
  unfold back at h;cases e:L p with
  | none=>rw[e] at h;cases h
  | some k =>
   rw[e] at h;obtain⟨_,_,a',b',h1,h2,h3⟩:=hJ p k e;rw[hb] at h2;cases h2
   have:=tele hJ n _ q a a' h ha h1
   simp only[wsum,e];lia
theorem Xf(hJ:J ss S L):∀(n:Nat) (p q b:Int),back ss L n p=some q→S p=some b→∃ a,S q=some a
 | 0,p,q,b,h,hb=>by
  have e:p=q:=Option.some.inj h;subst e;exact⟨b,hb⟩
 | n+1,p,q,b,h,hb=>by
  unfold back at h;cases e:L p with
  | none=>rw[e] at h;cases h
  | some k =>
   rw[e] at h;obtain⟨_,_,a',b',h1,h2,h3⟩:=hJ p k e;exact Xf hJ n _ q a' h h1
variable {k a:Int}
theorem Te(hJ:J ss S L)(hk:cnt ss.length k=true)(ha:S (sy ss k).1=some a)(hb:∀ b,S (sy ss k).2.1=some b→a+(sy ss k).2.2<b):
  J ss (put S (sy ss k).2.1 (a+(sy ss k).2.2)) (put L (sy ss k).2.1 k):=by
 intro p m hm;by_cases hp:p=(sy ss k).2.1
 ·subst hp;rw[Zy] at hm;cases hm;refine⟨hk,rfl,?_⟩;by_cases hu:(sy ss k).1=(sy ss k).2.1
  ·have h1:=hb a (by rw[←hu];exact ha)
   refine⟨a+(sy ss k).2.2,a+(sy ss k).2.2,?_,Zy,by lia⟩
   rw[hu];exact Zy
  ·exact⟨a,_,by rw[ZO hu];exact ha,Zy,Int.le_refl _⟩
 ·rw[ZO hp] at hm;obtain⟨h1,h2,a',b',h3,h4,h5⟩:=hJ p m hm;refine⟨h1,h2,?_⟩;by_cases hu:(sy ss m).1=(sy ss k).2.1
  ·have:=hb a' (by rw[←hu];exact h3)
   refine⟨a+(sy ss k).2.2,b',?_,by rw[ZO hp];exact h4,by lia⟩
   rw[hu];exact Zy
  ·exact⟨a',b',by rw[ZO hu];exact h3,by rw[ZO hp];exact h4,h5⟩
theorem RZ(hJ:J ss S L)(hR:R ss L)(hk:cnt ss.length k=true)(ha:S (sy ss k).1=some a)(hb:∀ b,S (sy ss k).2.1=some b→a+(sy ss k).2.2<b):
  R ss (put L (sy ss k).2.1 k):=by
 have hJ':=Te hJ hk ha hb;have sv:put S (sy ss k).2.1 (a+(sy ss k).2.2) (sy ss k).2.1=some (a+(sy ss k).2.2):=Zy;have lv:put L (sy ss k).2.1 k (sy ss k).2.1=some k:=Zy;have key:∀(m:Nat) (x c:Int),x≠(sy ss k).2.1→S x=some c→back ss (put L (sy ss k).2.1 k) m x=some (sy ss k).2.1→(a+(sy ss k).2.2)+wsum ss (put L (sy ss k).2.1 k) m x<c:=by
  intro m
  induction m with
  | zero=>intro x c hx _ h;exact absurd (Option.some.inj h) hx
  | succ m ih =>
   intro x c hx hc h;unfold back at h;rw[ZO hx] at h;cases e:L x with
   | none=>rw[e] at h;cases h
   | some j =>
    rw[e] at h;dsimp only at h;obtain⟨_,_,a',b',h1,h2,h3⟩:=hJ x j e;rw[hc] at h2;cases h2;have ew:wsum ss (put L (sy ss k).2.1 k) (m+1) x=(sy ss j).2.2+wsum ss (put L (sy ss k).2.1 k) m (sy ss j).1:=by
     simp only[wsum,ZO hx,e]
    rw[ew];by_cases hy:(sy ss j).1=(sy ss k).2.1
    ·rw[hy] at h ⊢;have t:=tele hJ' m _ _ _ _ h sv sv
     have:=hb a' (by rw[←hy];exact h1)
     lia
    ·have:=ih _ a' hy h1 h
     lia
 have atV:∀ n,back ss (put L (sy ss k).2.1 k) (n+1) (sy ss k).2.1=some (sy ss k).2.1→wsum ss (put L (sy ss k).2.1 k) (n+1) (sy ss k).2.1<0:=by
  intro n h;unfold back at h;rw[lv] at h;have h:back ss (put L (sy ss k).2.1 k) n (sy ss k).1=some (sy ss k).2.1:=h;have ew:wsum ss (put L (sy ss k).2.1 k) (n+1) (sy ss k).2.1=(sy ss k).2.2+wsum ss (put L (sy ss k).2.1 k) n (sy ss k).1:=by
   simp only[wsum,lv]
  rw[ew];by_cases hu:(sy ss k).1=(sy ss k).2.1
  ·have h1:=hb a (by rw[←hu];exact ha)
   rw[hu] at h ⊢;have t:=tele hJ' n _ _ _ _ h sv sv;lia
  ·have:=key n _ a hu ha h
   lia
 intro p n h;by_cases hv:∃ i,i≤n∧back ss (put L (sy ss k).2.1 k) i p=some (sy ss k).2.1
 ·obtain⟨i,hi,h1⟩:=hv;have e1:i+(n+1-i)=n+1:=by lia
  have h2:back ss (put L (sy ss k).2.1 k) (n+1-i) (sy ss k).2.1=some p:=by
   have:=Y8 (ss:=ss) (L:=put L (sy ss k).2.1 k) i (n+1-i) p
   rw[e1,h,h1] at this;exact this.symm
  have h3:back ss (put L (sy ss k).2.1 k) ((n+1-i)+i) (sy ss k).2.1=some (sy ss k).2.1:=by
   rw[Y8,h2];exact h1
  have w1:=V4 (ss:=ss) (L:=put L (sy ss k).2.1 k) i (n+1-i) p _ h1;have w2:=V4 (ss:=ss) (L:=put L (sy ss k).2.1 k) (n+1-i) i _ _ h2;have e2:(n+1-i)+i=n+1:=by lia
  rw[e2] at w2 h3;rw[e1] at w1
  have:=atV n h3
  lia
 ·have same:∀ m (x:Int),(∀ i,i<m→back ss (put L (sy ss k).2.1 k) i x≠some (sy ss k).2.1)→back ss (put L (sy ss k).2.1 k) m x=back ss L m x∧wsum ss (put L (sy ss k).2.1 k) m x=wsum ss L m x:=by
   intro m
   induction m with
   | zero=>intro x _;exact⟨rfl,rfl⟩
   | succ m ih =>
    intro x hx;have h0:x≠(sy ss k).2.1:=fun z=>hx 0 (by lia) (by rw[z];rfl)
    simp only[back,wsum,ZO h0];cases e:L x with
    | none=>exact⟨rfl,rfl⟩
    | some j =>
     have:=ih (sy ss j).1 fun i hi z=>hx (i+1) (by lia) (by
      simp only[back,ZO h0,e];exact z)
     exact⟨this.1,by simp only[this.2]⟩
  have s:=same (n+1) p fun i hi z=>hv ⟨i,by lia,z⟩
  rw[s.2];rw[s.1] at h;exact hR p n h
theorem RY(hZ:Z S L){v x:Int}:Z (put S v x) (put L v k):=by
 intro q y hq hy;by_cases e:q=v
 ·subst e;rw[Zy] at hq;cases hq
 ·rw[ZO e] at hq hy;exact hZ q y hq hy
end
structure Wd(ss:List Say)(c:Int)(S L:Fn):Prop where
 j:J ss S L
 r:R ss L
 z:Z S L
 rg:∀ p v,S p=some v→cnt c p=true
theorem Wd.lr{ss:List Say}{c:Int}{S L:Fn}(h:Wd ss c S L){p k:Int}(e:L p=some k):cnt c p=true:=by
 obtain⟨_,_,_,b,_,hb,_⟩:=h.j p k e;exact h.rg p b hb
theorem Rt{ss:List Say}{c k:Int}(hin:ss.all (inside c)=true)(hk:cnt ss.length k=true):cnt c (sy ss k).1=true∧cnt c (sy ss k).2.1=true:=by
 obtain⟨h0,h1⟩:=YH.mp hk;have hl:k.toNat<ss.length:=by lia
 have e:sy ss k=ss[k.toNat]:=by unfold sy;rw[List.getElem?_eq_getElem hl];rfl
 have:=List.all_eq_true.mp hin _ (List.getElem_mem hl)
 rw[e];unfold inside at this;rwa[Bool.and_eq_true] at this
def Less (S S':Fn):Prop:=∃ p,(S p=none∧S' p≠none)∨∃ b b',S p=some b∧S' p=some b'∧b'<b
def Down (S S':Fn):Prop:=∀ p b,S p=some b→∃ b',S' p=some b'∧b'≤b
theorem Down.refl(S:Fn):Down S S:=fun p b h=>⟨b,h,Int.le_refl _⟩
theorem Down.trans{S S1 S2:Fn}(a:Down S S1)(b:Down S1 S2):Down S S2:=fun p x h=>by
 obtain⟨y,h1,h2⟩:=a p x h;obtain⟨z,h3,h4⟩:=b p y h1;exact⟨z,h3,by lia⟩
theorem Down.less{S S1 S2:Fn}(a:Down S S1)(b:Less S1 S2):Less S S2:=by
 obtain⟨p,h⟩:=b;refine⟨p,?_⟩;rcases h with ⟨h1,h2⟩ | ⟨x,y,h1,h2,h3⟩
 ·left;refine⟨?_,h2⟩;cases e:S p with
  | none=>rfl
  | some v =>
   obtain⟨v',e',_⟩:=a p v e;rw[h1] at e';cases e'
 ·cases e:S p with
  | none=>left;exact⟨rfl,by rw[h2];simp⟩
  | some v =>
   obtain⟨v',e',h4⟩:=a p v e;rw[h1] at e';cases e';right;exact⟨v,y,rfl,h2,by lia⟩
def Tight(ss:List Say)(S:Fn)(k:Int):Prop:=∀ a,S (sy ss k).1=some a→∃ b,S (sy ss k).2.1=some b∧b≤a+(sy ss k).2.2
theorem QG(ss:List Say)(w:Ws)(k:Int):(relax ss w k=w∧Tight ss w.S k) ∨
  ∃ a,w.S (sy ss k).1=some a∧(∀ b,w.S (sy ss k).2.1=some b→a+(sy ss k).2.2<b)∧relax ss w k=⟨put w.S (sy ss k).2.1 (a+(sy ss k).2.2),put w.L (sy ss k).2.1 k,true⟩:=by
 unfold relax;cases e:w.S (sy ss k).1 with
 | none=>left;exact⟨rfl,fun a h=>by rw[e] at h;cases h⟩
 | some a =>
  dsimp only;cases e2:w.S (sy ss k).2.1 with
  | none=>right;exact⟨a,rfl,fun b h=>(by cases h),rfl⟩
  | some b =>
   dsimp only;by_cases hl:a+(sy ss k).2.2<b
   ·right;exact⟨a,rfl,fun b' h=>(by cases h;exact hl),by rw[if_pos hl]⟩
   ·left;rw[if_neg hl];exact⟨rfl,fun a' h=>by rw[e] at h;cases h;exact⟨b,e2,by lia⟩⟩
structure Pass(ss:List Say)(c:Int)(w w':Ws)(done:List Int):Prop where
 wd:Wd ss c w'.S w'.L
 down:Down w.S w'.S
 less:w'.f=true→w.f=true∨Less w.S w'.S
 still:w'.f=false→w'=w∧∀ k∈done,Tight ss w.S k
theorem Vx{ss:List Say}{c:Int}(hin:ss.all (inside c)=true)(w:Ws)(h:Wd ss c w.S w.L):∀(order:List Int),(∀ k∈order,cnt ss.length k=true)→Pass ss c w (goAll ss order w) order:=by
 intro order;have rev:∀(l:List Int),(∀ k∈l,cnt ss.length k=true)→Pass ss c w (goAll ss l.reverse w) l.reverse:=by
  intro l
  induction l with
  | nil=>intro _;exact⟨h,Down.refl _,fun z=>.inl z,fun _=>⟨rfl,fun k hk=>by simp at hk⟩⟩
  | cons k l ih =>
   intro hk;have ih:=ih fun j hj=>hk j (List.mem_cons_of_mem _ hj);have e:goAll ss (k::l).reverse w=relax ss (goAll ss l.reverse w) k:=by
    unfold goAll;rw[List.reverse_cons,List.foldl_append];rfl
   rw[e];have hck:=hk k (List.mem_cons_self);rcases QG ss (goAll ss l.reverse w) k with ⟨e1,t⟩ | ⟨a,ha,hb,e1⟩
   ·rw[e1];refine⟨ih.wd,ih.down,ih.less,fun hf=>?_⟩;obtain⟨e2,h2⟩:=ih.still hf;refine⟨e2,fun j hj=>?_⟩;rw[List.reverse_cons,List.mem_append] at hj;rcases hj with hj | hj
    ·exact h2 j hj
    ·have:j=k:=by simpa using hj
     subst this;rw[e2] at t;exact t
   ·rw[e1];have wd:=ih.wd;have d1:Down (goAll ss l.reverse w).S (put (goAll ss l.reverse w).S (sy ss k).2.1 (a+(sy ss k).2.2)):=fun p b hp=>by
     by_cases e:p=(sy ss k).2.1
     ·subst e;exact⟨_,Zy,by have:=hb b hp;lia⟩
     ·exact⟨b,by rw[ZO e];exact hp,Int.le_refl _⟩
    have l1:Less (goAll ss l.reverse w).S (put (goAll ss l.reverse w).S (sy ss k).2.1 (a+(sy ss k).2.2)):=by
     refine⟨(sy ss k).2.1,?_⟩;cases e:(goAll ss l.reverse w).S (sy ss k).2.1 with
     | none=>left;exact⟨rfl,by rw[Zy];simp⟩
     | some b=>right;exact⟨b,_,rfl,Zy,hb b e⟩
    refine⟨⟨Te wd.j hck ha hb,RZ wd.j wd.r hck ha hb,RY wd.z,fun p v hp=>?_⟩,ih.down.trans d1,fun _=>.inr (ih.down.less l1),fun z=>by cases z⟩
    by_cases e:p=(sy ss k).2.1
    ·subst e;exact(Rt hin hck).2
    ·dsimp only at hp;rw[ZO e] at hp;exact wd.rg p v hp
 intro ho
 have:=rev order.reverse fun k hk=>ho k (by simpa using hk)
 rwa[List.reverse_reverse] at this
theorem UK{ss:List Say}:∀(l1 l2:List Int) (p:Int),walk ss (l1++l2) p=(walk ss l1 p).bind (walk ss l2)
 | [],l2,p=>rfl
 | k::r,l2,p=>by
  rw[List.cons_append];unfold walk;by_cases hc:cnt ss.length k=true
  ·rw[if_pos hc,if_pos hc];cases e:ss[k.toNat]? with
   | none=>rfl
   | some s =>
    dsimp only;by_cases hp:s.1=p
    ·rw[if_pos hp,if_pos hp];exact UK r l2 _
    ·rw[if_neg hp,if_neg hp];rfl
  ·rw[if_neg hc,if_neg hc];rfl
theorem V7{ss:List Say}{k:Int}(hk:cnt ss.length k=true):ss[k.toNat]?=some (sy ss k):=by
 obtain⟨h0,h1⟩:=YH.mp hk;have hl:k.toNat<ss.length:=by lia
 unfold sy;rw[List.getElem?_eq_getElem hl];rfl
theorem Ma{ss:List Say}{k:Int}(hk:cnt ss.length k=true):walk ss [k] (sy ss k).1=some (sy ss k).2.1:=by
 unfold walk;rw[if_pos hk,V7 hk];dsimp only;rw[if_pos rfl];rfl
theorem TQ{ss:List Say}{k:Int}(hk:cnt ss.length k=true):num ss k=(sy ss k).2.2:=by
 unfold num;rw[V7 hk];rfl
theorem QB(ss:List Say)(a b:List Int):sumC ss (a++b)=sumC ss a+sumC ss b:=by
 unfold sumC;rw[List.map_append,List.sum_append]
theorem Jz{ss:List Say}{S L:Fn}(hJ:J ss S L):∀(n:Nat) (p q:Int),back ss L n p=some q→walk ss (chainB ss L n p).reverse q=some p∧sumC ss (chainB ss L n p).reverse=wsum ss L n p∧(chainB ss L n p).length=n
 | 0,p,q,h=>by
  have e:p=q:=Option.some.inj h;subst e;exact⟨rfl,rfl,rfl⟩
 | n+1,p,q,h=>by
  unfold back at h;cases e:L p with
  | none=>rw[e] at h;cases h
  | some k =>
   rw[e] at h;obtain⟨h1,h2,_⟩:=hJ p k e;obtain⟨i1,i2,i3⟩:=Jz hJ n _ q h;simp only[chainB,wsum,e];refine⟨?_,?_,by rw[List.length_cons,i3]⟩
   ·rw[List.reverse_cons,UK,i1];show walk ss [k] (sy ss k).1=some p;rw[Ma h1,h2]
   ·rw[List.reverse_cons,QB,i2];show wsum ss L n (sy ss k).1+sumC ss [k]=_
    have:sumC ss [k]=(sy ss k).2.2:=by unfold sumC;simp[TQ h1]
    lia
theorem UR{ss:List Say}{L:Fn}:∀(n:Nat) (p q k:Int),back ss L n p=some q→L q=some k→chainB ss L (n+1) p=chainB ss L n p++[k]
 | 0,p,q,k,h,e=>by
  have z:p=q:=Option.some.inj h;subst z;simp only[chainB,e];rfl
 | n+1,p,q,k,h,e=>by
  unfold back at h;cases ep:L p with
  | none=>rw[ep] at h;cases h
  | some j =>
   rw[ep] at h
   have:=UR n _ q k h e
   rw[chainB];simp only[ep];rw[this]
   conv=>rhs;rw[chainB]
   simp only[ep,List.cons_append]
theorem Q3{ss:List Say}{L:Fn}{n:Nat}{p q k:Int}(h:back ss L n p=some q)(e:L q=some k):back ss L (n+1) p=some (sy ss k).1:=by
 rw[Y8,h];show back ss L 1 q=_;simp only[back,e]
def Grd (ss:List Say)(L:Fn)(p:Int):Prop:=∃ n q,back ss L n p=some q∧L q=none
theorem Ju:∀(c:Nat) (l:List Int),l.Nodup→(∀ x∈l,0≤x∧x<(c:Int))→l.length≤c
 | 0,l,_,h=>by
  cases l with
  | nil=>exact Nat.le_refl _
  | cons x r=>have:=h x List.mem_cons_self;lia
 | c+1,l,hn,h=>by
  have hn':(l.erase (c:Int)).Nodup:=hn.erase _
  have:=Ju c (l.erase (c:Int)) hn' fun x hx=>by
   have hx1:=List.mem_of_mem_erase hx;have h1:=h x hx1;have h2:x≠(c:Int):=fun z=>by
    subst z;exact(List.Nodup.not_mem_erase hn) hx
   lia
  have hle:l.length≤(l.erase (c:Int)).length+1:=by
   rw[List.length_erase];split <;> lia
  lia
theorem Qm{ss:List Say}{L:Fn}{p:Int}(h:Grd ss L p):∃ n q,back ss L n p=some q∧L q=none∧∀ i,i<n→∃ x,back ss L i p=some x∧L x≠none:=by
 obtain⟨n,q,h1,h2⟩:=h
 have:∀ n p,back ss L n p=some q→∃ m,m≤n∧∃ q',back ss L m p=some q'∧L q'=none∧∀ i,i<m→∃ x,back ss L i p=some x∧L x≠none:=by
  intro n
  induction n with
  | zero =>
   intro p h;exact⟨0,Nat.le_refl _,q,h,h2,fun i hi=>by lia⟩
  | succ n ih =>
   intro p h;cases e:L p with
   | none=>exact⟨0,Nat.zero_le _,p,rfl,e,fun i hi=>by lia⟩
   | some k =>
    simp only[back,e] at h;obtain⟨m,hm,q',g1,g2,g3⟩:=ih _ h;refine⟨m+1,by lia,q',by simp only[back,e];exact g1,g2,fun i hi=>?_⟩
    cases i with
    | zero=>exact⟨p,rfl,by rw[e];simp⟩
    | succ i =>
     obtain⟨x,e1,e2⟩:=g3 i (by lia)
     exact⟨x,by simp only[back,e];exact e1,e2⟩
 obtain⟨m,_,q',g1,g2,g3⟩:=this n p h1;exact⟨m,q',g1,g2,g3⟩
theorem Ql{ss:List Say}{L:Fn}{c:Nat}(hr:∀ x k,L x=some k→cnt c x=true){n:Nat}{p q:Int}(h1:back ss L n p=some q)(h2:L q=none)(h3:∀ i,i<n→∃ x,back ss L i p=some x∧L x≠none):n≤c:=by
 have inj:∀ i j,i<j→j<n→(back ss L i p).getD 0=(back ss L j p).getD 0→False:=by
  intro i j hij hj e;obtain⟨x,ex,_⟩:=h3 i (by lia)
  obtain⟨y,ey,_⟩:=h3 j hj;rw[ex,ey] at e;have e:x=y:=e;subst e;have e1:=Y8 (ss:=ss) (L:=L) j (n-j) p;rw[show j+(n-j)=n from by lia,h1,ey] at e1
  have e2:=Y8 (ss:=ss) (L:=L) i (n-j) p;rw[ex] at e2;have e1:some q=back ss L (n-j) x:=e1;have e2:back ss L (i+(n-j)) p=back ss L (n-j) x:=e2;rw[←e1] at e2;obtain⟨z,ez,hz⟩:=h3 (i+(n-j)) (by lia)
  rw[e2] at ez;cases ez;exact hz h2
 have nd:((List.range n).map fun i=>(back ss L i p).getD 0).Nodup:=by
  rw[List.Nodup,List.pairwise_map];refine List.Pairwise.imp_of_mem ?_ (List.pairwise_lt_range (n:=n));intro a b ha hb hab z;exact inj a b hab (List.mem_range.mp hb) z
 have:=Ju c _ nd fun x hx=>by
  obtain⟨i,hi,rfl⟩:=List.mem_map.mp hx;obtain⟨y,ey,hy⟩:=h3 i (List.mem_range.mp hi);rw[ey];cases e:L y with
  | none=>exact absurd e hy
  | some k=>exact YH.mp (hr y k e)
 simpa using this
def bigNum(ss:List Say):Nat:=(ss.map fun s=>s.2.2.natAbs).sum
theorem Re{ss:List Say}{k:Int}(hk:cnt ss.length k=true):-(bigNum ss:Int)≤(sy ss k).2.2∧(sy ss k).2.2≤bigNum ss:=by
 have hm:sy ss k∈ss:=List.mem_of_getElem? (V7 hk)
 have:∀(l:List Say) (s:Say),s∈l→s.2.2.natAbs≤(l.map fun s=>s.2.2.natAbs).sum:=by
  intro l
  induction l with
  | nil=>intro s hs;simp at hs
  | cons x r ih =>
   intro s hs;rw[List.map_cons,List.sum_cons];rcases List.mem_cons.mp hs with rfl | hs
   ·lia
   ·have:=ih s hs;lia
 have:=this ss _ hm
 unfold bigNum;lia
theorem Qv{ss:List Say}{S L:Fn}(hJ:J ss S L):∀(n:Nat) (p q:Int),back ss L n p=some q→-((n*bigNum ss:Nat):Int)≤wsum ss L n p
 | 0,p,q,h=>by simp[wsum]
 | n+1,p,q,h=>by
  unfold back at h;cases e:L p with
  | none=>rw[e] at h;cases h
  | some k =>
   rw[e] at h;have i:=Qv hJ n _ q h;have b:=Re (hJ p k e).1;simp only[wsum,e];rw[Nat.add_mul,Nat.one_mul];lia
theorem TV{ss:List Say}{c:Nat}{S L:Fn}(h:Wd ss c S L)(g:∀ p k,L p=some k→Grd ss L p){p v:Int}(hp:S p=some v):-((c*bigNum ss:Nat):Int)≤v:=by
 have gp:Grd ss L p:=by
  cases e:L p with
  | none=>exact⟨0,p,rfl,e⟩
  | some k=>exact g p k e
 obtain⟨n,q,h1,h2,h3⟩:=Qm gp;have hn:=Ql (fun x k e=>h.lr e) h1 h2 h3;obtain⟨a,ha⟩:=Xf h.j n p q v h1 hp;have ha0:=h.z q a h2 ha;have t:=tele h.j n p q a v h1 ha hp;have l:=Qv h.j n p q h1;have m:n*bigNum ss≤c*bigNum ss:=Nat.mul_le_mul_right _ hn;lia
def term (lo top:Int)(S:Fn)(i:Nat):Nat:=match S i with
 | some v=>(v-lo).toNat
 | none=>(top-lo).toNat+1
def meas (c:Nat)(lo top:Int)(S:Fn):Nat:=((List.range c).map (term lo top S)).sum
theorem Mn{f g:Nat→Nat}:∀(l:List Nat),(∀ i∈l,f i≤g i)→(l.map f).sum≤(l.map g).sum
 | [],_=>Nat.le_refl _
 | x::r,h=>by
  rw[List.map_cons,List.map_cons,List.sum_cons,List.sum_cons]
  have:=Mn r fun i hi=>h i (List.mem_cons_of_mem _ hi)
  have:=h x List.mem_cons_self
  lia
theorem Mm{f g:Nat→Nat}:∀(l:List Nat) (j:Nat),j∈l→f j<g j→(∀ i∈l,f i≤g i)→(l.map f).sum<(l.map g).sum
 | [],j,hj,_,_=>by simp at hj
 | x::r,j,hj,hl,h=>by
  rw[List.map_cons,List.map_cons,List.sum_cons,List.sum_cons];have h0:=h x List.mem_cons_self;rcases List.mem_cons.mp hj with rfl | hj
  ·have:=Mn r fun i hi=>h i (List.mem_cons_of_mem _ hi)
   lia
  ·have:=Mm r j hj hl fun i hi=>h i (List.mem_cons_of_mem _ hi)
   lia
theorem Dm{c:Nat}{lo top:Int}{S S':Fn}(d:Down S S')(l:Less S S')(hr:∀ p v,S' p=some v→cnt c p=true)(hlo:∀ p v,S' p=some v→lo≤v)(htop:∀ p v,S' p=some v→v≤top):meas c lo top S'<meas c lo top S:=by
 have le:∀ i,term lo top S' i≤term lo top S i:=by
  intro i;unfold term;cases e:S i with
  | some v =>
   obtain⟨v',e',h⟩:=d _ _ e;rw[e'];dsimp only;lia
  | none =>
   cases e':S' i with
   | none=>exact Nat.le_refl _
   | some v =>
    have:=htop _ _ e'
    dsimp only;lia
 obtain⟨p,hp⟩:=l;have hv:∃ v,S' p=some v:=by
  rcases hp with ⟨_,h⟩ | ⟨_,b,_,h,_⟩
  ·cases e:S' p with
   | none=>exact absurd e h
   | some v=>exact⟨v,rfl⟩
  ·exact⟨b,h⟩
 obtain⟨v,hv⟩:=hv;obtain⟨h0,h1⟩:=YH.mp (hr p v hv);obtain⟨i,rfl⟩:=Int.eq_ofNat_of_zero_le h0;refine Mm (List.range c) i (List.mem_range.mpr (by lia)) ?_ fun j _=>le j
 unfold term;have hlv:=hlo _ _ hv;have htv:=htop _ _ hv;rcases hp with ⟨h,_⟩ | ⟨b,b',h,h',hl⟩
 ·rw[h,hv];dsimp only;lia
 ·rw[h,hv];rw[hv] at h';cases h';dsimp only;lia
end At
namespace L2
open PySem PySem.Spec PyProof.Rows
abbrev Key:=Sum Int Str
def VT:Key→Value→Bool
 | .inl k,v=>Value.isInt k v
 | .inr x,v=>Value.isStrOf x v
def keyH (w:World):Key→Int
 | .inl k=>hashInt k
 | .inr x=>hashStr w x
theorem ZG:∀{k:Key} {v:Value},VT k v=true→(∃ i t,k=Sum.inl i∧v=Value.int i t)∨(∃ x t,k=Sum.inr x∧v=Value.str x t)
 | .inl i,v,h=>by
  obtain⟨t,e⟩:=Value.isInt_shape (k:=i) (v:=v) h;exact .inl ⟨i,t,rfl,e⟩
 | .inr x,v,h=>by
  obtain⟨t,e⟩:=Value.isStrOf_shape (x:=x) (v:=v) h;exact .inr ⟨x,t,rfl,e⟩
theorem Gz(i:Int)(t:Tok):VT (.inl i) (.int i t)=true:=by simp[VT,Value.isInt]
theorem Gy(x:Str)(t:Tok):VT (.inr x) (.str x t)=true:=by simp[VT,Value.isStrOf]
theorem R3(a b:Int):decide ((Sum.inl a:Key)=Sum.inl b)=(a==b):=by
 by_cases e:a=b
 ·subst e;simp
 ·have h:¬ (Sum.inl a:Key)=Sum.inl b:=fun q=>e (Sum.inl.inj q);rw[decide_eq_false h];exact(beq_eq_false_iff_ne.mpr e).symm
theorem TZ(a b:Str):decide ((Sum.inr a:Key)=Sum.inr b)=decide (a=b):=by
 by_cases e:a=b
 ·subst e;simp
 ·have h:¬ (Sum.inr a:Key)=Sum.inr b:=fun q=>e (Sum.inr.inj q);rw[decide_eq_false h,decide_eq_false e]
theorem R1(a:Int)(b:Str):decide ((Sum.inl a:Key)=Sum.inr b)=false:=decide_eq_false (fun q=>nomatch q)
theorem R0(a:Str)(b:Int):decide ((Sum.inr a:Key)=Sum.inl b)=false:=decide_eq_false (fun q=>nomatch q)
def mixKind(prog:Program)(w:World):PySem.KeyKind prog w Key where
 is:=VT
 hash:=keyH w
 inj:=fun v a b ha hb=>by
  rcases ZG ha with ⟨i,t,rfl,rfl⟩ | ⟨x,t,rfl,rfl⟩
  ·rcases ZG hb with ⟨j,u,rfl,e⟩ | ⟨y,u,rfl,e⟩
   ·injection e with e1 _;rw[e1]
   ·exact nomatch e
  ·rcases ZG hb with ⟨j,u,rfl,e⟩ | ⟨y,u,rfl,e⟩
   ·exact nomatch e
   ·injection e with e1 _;rw[e1]
 byValue:=fun k v h=>by
  rcases ZG h with ⟨i,t,rfl,rfl⟩ | ⟨x,t,rfl,rfl⟩ <;> rfl
 pyHash:=fun hv h=>by
  rcases ZG hv with ⟨i,t,rfl,rfl⟩ | ⟨x,t,rfl,rfl⟩
  ·exact wpAny_pyHash_int h
  ·exact wpAny_pyHash_str h
 eqBool:=fun hu hv h=>by
  rcases ZG hu with ⟨i,t,rfl,rfl⟩ | ⟨x,t,rfl,rfl⟩
  ·rcases ZG hv with ⟨j,u,rfl,rfl⟩ | ⟨y,u,rfl,rfl⟩
   ·rw[R3] at h;exact wpAny_eqBool_int h
   ·rw[R1] at h;exact SeqAt.EqAt.int_str i t y u _ _ _ _ h
  ·rcases ZG hv with ⟨j,u,rfl,rfl⟩ | ⟨y,u,rfl,rfl⟩
   ·rw[R0] at h;exact SeqAt.EqAt.str_int x t j u _ _ _ _ h
   ·rw[TZ] at h;exact wpAny_eqBool_str h
 «strs»:=fun k x t v h=>by
  rcases ZG h with ⟨i,u,rfl,e⟩ | ⟨y,u,rfl,e⟩
  ·exact nomatch e
  ·injection e with e1 _
   subst e1;cases v <;> rfl
theorem QY(prog:Program)(w:World)(i:Int)(t:Tok):(mixKind prog w).is (.inl i) (.int i t)=true:=Gz i t
theorem QX(prog:Program)(w:World)(x:Str)(t:Tok):(mixKind prog w).is (.inr x) (.str x t)=true:=Gy x t
inductive V where
 | non | bl (b:Bool) | int (i:Int) | str (x:Str) | byt (b:Array UInt8) | flt (b:UInt64) | ref (a:Addr) | ty (n:String)
 deriving DecidableEq
def RelV:V→Value→Prop
 | .non,u=>u=Value.none
 | .bl b,u=>u=Value.bool b
 | .int i,u=>∃ t,u=Value.int i t
 | .str x,u=>∃ t,u=Value.str x t
 | .byt b,u=>∃ t,u=Value.bytes b t
 | .flt b,u=>∃ t,u=Value.float b t
 | .ref a,u=>u=Value.ref a
 | .ty n,u=>u=Value.type n
abbrev Vals:List V→List Value→Prop:=Paired RelV
theorem Vals.length{xs:List V}{us:List Value}(r:Vals xs us):xs.length=us.length:=Paired.length r
theorem Vals.get:∀{xs:List V} {us:List Value} {i:Nat} {x:V},Vals xs us→xs[i]?=some x→∃ u,us[i]?=some u∧RelV x u
 | _,_,_,_,.nil,e=>by simp at e
 | _,_,0,_,.cons r _,e=>by simp at e;subst e;exact⟨_,rfl,r⟩
 | _,_,i+1,x,.cons _ t,e=>by
  obtain⟨u,h1,h2⟩:=Vals.get (i:=i) (x:=x) t (by simpa using e)
  exact⟨u,by simpa using h1,h2⟩
theorem Vals.append:∀{xs ys:List V} {us ws:List Value},Vals xs us→Vals ys ws→Vals (xs++ys) (us++ws)
 | _,_,_,_,.nil,s=>s
 | _,_,_,_,.cons r t,s=>.cons r (Vals.append t s)
theorem Vals.take:∀{xs:List V} {us:List Value} (n:Nat),Vals xs us→Vals (xs.take n) (us.take n)
 | _,_,0,_=>.nil
 | _,_,_+1,.nil=>.nil
 | _,_,n+1,.cons r t=>.cons r (Vals.take n t)
theorem Vals.drop:∀{xs:List V} {us:List Value} (n:Nat),Vals xs us→Vals (xs.drop n) (us.drop n)
 | _,_,0,r=>r
 | _,_,_+1,.nil=>.nil
 | _,_,n+1,.cons _ t=>Vals.drop n t
def RelO:Option V→Option Value→Prop
 | some v,some u=>RelV v u
 | none,none=>True
 | _,_=>False
def KV {κ:Type}:List (κ×V)→List (κ×Value)→Prop:=Paired fun(p:κ×V) (q:κ×Value)=>p.1=q.1∧RelV p.2 q.2
def kV:Key→V
 | .inl i=>.int i
 | .inr x=>.str x
inductive HO where
 
 | lst (xs:List V)
 
 | tup (xs:List V)
 
 | dK (kvs:List (Key×V)) | dT (kvs:List (List Key×V))
 
 | set (S:Int→Bool) (n:Nat)
 
 | ins (C dx:Addr) (fs:List (Str×V))
 
 | own (x:Addr)
 
 | xd (fs:List (Str×V))
 
 | met (f x:Addr)
 
 | rng (lo hi:Int)
 
 | frz (o:Obj) (u:HO)
 
 | tbl (ps:Array Value)
 
 | ext (φ:Heap→Prop)
abbrev Hp:=Addr→Option HO
def upd (H:Hp)(a:Addr)(o:HO):Hp:=fun b=>if b=a then some o else H b
theorem Z2{H:Hp}{a:Addr}{o:HO}:upd H a o a=some o:=by unfold upd;rw[if_pos rfl]
theorem Z1{H:Hp}{a b:Addr}{o:HO}(h:b≠a):upd H a o b=H b:=by unfold upd;rw[if_neg h]
theorem Yo{H:Hp}{a b:Addr}{o u:HO}(h:H a=some o)(h':H b=some u)(d:o≠u):a≠b:=by
 intro e;subst e;rw[h] at h';exact d (Option.some.inj h')
theorem Z4{H:Hp}{a b:Addr}{o:HO}(h:H a=some o)(h':H b=none):a≠b:=by
 intro e;subst e;rw[h] at h';cases h'
section
variable (P:Program)(w:World)
def ObjOk(H:Hp)(h:Heap)(a:Addr):HO→Prop
 | .lst xs=>xs.length≤zF∧∃(bw:List Value) (n:Nat),Vals xs bw∧h.get? a=some { cls:=.type "list",data:=.seq bw.toArray n }
 | .tup xs=>xs.length≤zF∧∃ bw:List Value,Vals xs bw∧IsTup h a bw.toArray
 | .dK kvs=>kvs.length≤zF∧(a==sysModules)=false∧∃ vs,KV kvs vs∧h.DictOf (mixKind P w) a vs
 | .dT kvs=>kvs.length≤zF∧(a==sysModules)=false∧∃ xs:List (List Key×Addr×Value),
   Paired (fun(p:List Key×V) (q:List Key×Addr×Value)=>p.1=q.1∧H q.2.1=some (.tup (p.1.map kV))∧RelV p.2 q.2.2) kvs xs ∧
   ∃ o es ep,h.get? a=some o∧o.ExactDict∧o.data = .dict es ep∧es.toList=xs.map (entryOfKey (tupleKind (mixKind P w)))∧(xs.map (·.1)).Nodup
 | .set S n=>h.SetOf (intKind P w) a S n
 | .ins C dx fs=>H dx=some (.own a)∧fs.length≤1000∧dx≠a∧h.get? a=some (instObj C dx) ∧
   ∃ mA,h.Ns1 dx mA∧(∀ f,RelO (fs.lookup f) (mA f))∧PySem.Within mA (fs.map (·.1))
 | .own _=>∃ o,h.get? a=some o
 | .xd fs=>∃ mA,h.Ns1 a mA∧∀ f,RelO (fs.lookup f) (mA f)
 | .rng lo hi=>∃ t u v,h.get? a=some { cls:=.type "range",data:=.fields #[.int lo t,.int hi u,.int 1 v] }
 | .frz o u=>h.get? a=some o∧ObjOk H h a u
 | .tbl ps=>h.get? a=some { cls:=.none,data:=.fields ps }
 | .met f x=>h.get? a=some (methodObj (.ref f) (.ref x))
 | .ext φ=>φ h∧(∃ o,h.get? a=some o)∧∀ h1 h2:Heap,φ h1→(∀ o,h1.get? a=some o→h2.get? a=some o)→φ h2
def HOk (H:Hp)(h:Heap):Prop:=∀ a o,H a=some o→ObjOk P w H h a o
end
section
variable {P:Program}{w:World}{H H':Hp}{h h':Heap}{a:Addr}{o:HO}
theorem ObjOk.lt(x:ObjOk P w H h a o):a<h.objs.size:=by
 cases o with
 | lst xs=>obtain⟨_,_,_,_,e⟩:=x;exact Heap.lt_size e
 | tup xs=>obtain⟨_,_,_,p⟩:=x;exact p.lt
 | dK kvs=>obtain⟨_,_,_,_,o,_,_,e,_⟩:=x;exact Heap.lt_size e
 | dT kvs=>obtain⟨_,_,_,_,o,_,_,e,_⟩:=x;exact Heap.lt_size e
 | set S n=>obtain⟨o,_,_,_,e,_⟩:=x;exact Heap.lt_size e
 | ins C dx fs=>obtain⟨_,_,_,e,_⟩:=x;exact Heap.lt_size e
 | own y=>obtain⟨_,e⟩:=x;exact Heap.lt_size e
 | xd fs=>obtain⟨_,⟨_,_,_,e,_⟩,_⟩:=x;exact Heap.lt_size e
 | rng lo hi=>obtain⟨_,_,_,e⟩:=x;exact Heap.lt_size e
 | frz ob u=>obtain⟨e,_⟩:=x;exact Heap.lt_size e
 | tbl ps=>exact Heap.lt_size (show h.get? a=some _ from x)
 | met f y=>exact Heap.lt_size (show h.get? a=some _ from x)
 | ext φ=>obtain⟨_,⟨_,e⟩,_⟩:=x;exact Heap.lt_size e
theorem Paired.mapP{α β:Type}{F G:α→β→Prop}:∀{l₁:List α} {l₂:List β},Paired F l₁ l₂→(∀ a b,F a b→G a b)→Paired G l₁ l₂
 | _,_,.nil,_=>.nil
 | _,_,.cons r t,f=>.cons (f _ _ r) (Paired.mapP t f)
theorem ObjOk.stay(x:ObjOk P w H h a o)(k:∀ b u,(b=a∨H b=some (.own a))→h.get? b=some u→h'.get? b=some u)(ho:∀ b,H b=some (.own a)→H' b=some (.own a))(ht:∀ b xs,H b=some (.tup xs)→H' b=some (.tup xs)):ObjOk P w H' h' a o:=by
 induction o with
 | lst xs=>obtain⟨z,bw,n,r,e⟩:=x;exact⟨z,bw,n,r,k _ _ (.inl rfl) e⟩
 | tup xs=>obtain⟨z,bw,r,ob,e,c⟩:=x;exact⟨z,bw,r,ob,k _ _ (.inl rfl) e,c⟩
 | dK kvs=>obtain⟨z,y,vs,r,ob,es,ep,e,c⟩:=x;exact⟨z,y,vs,r,ob,es,ep,k _ _ (.inl rfl) e,c⟩
 | dT kvs =>
  obtain⟨z,y,xs,r,ob,es,ep,e,c⟩:=x;exact⟨z,y,xs,Paired.mapP r fun p q z=>⟨z.1,ht _ _ z.2.1,z.2.2⟩,ob,es,ep,k _ _ (.inl rfl) e,c⟩
 | set S n=>obtain⟨ob,es,ep,t,e,c⟩:=x;exact⟨ob,es,ep,t,k _ _ (.inl rfl) e,c⟩
 | ins C dx fs =>
  obtain⟨d,z,ne,e,mA,⟨od,es,ep,e2,c⟩,r⟩:=x;exact⟨ho _ d,z,ne,k _ _ (.inl rfl) e,mA,⟨od,es,ep,k _ _ (.inr d) e2,c⟩,r⟩
 | own y=>obtain⟨ob,e⟩:=x;exact⟨ob,k _ _ (.inl rfl) e⟩
 | xd fs=>obtain⟨mA,⟨od,es,ep,e,c⟩,r⟩:=x;exact⟨mA,⟨od,es,ep,k _ _ (.inl rfl) e,c⟩,r⟩
 | rng lo hi=>obtain⟨t,u,v,e⟩:=x;exact⟨t,u,v,k _ _ (.inl rfl) e⟩
 | frz ob u ih=>obtain⟨e,q⟩:=x;exact⟨k _ _ (.inl rfl) e,ih q⟩
 | tbl ps =>
  have e:h.get? a=some { cls:=.none,data:=.fields ps }:=x;show h'.get? a=some { cls:=.none,data:=.fields ps };exact k a _ (.inl rfl) e
 | met f y =>
  have e:h.get? a=some (methodObj (.ref f) (.ref y)):=x;show h'.get? a=some (methodObj (.ref f) (.ref y));exact k a _ (.inl rfl) e
 | ext φ=>obtain⟨p,⟨o,e⟩,st⟩:=x;exact⟨st _ _ p fun o q=>k _ _ (.inl rfl) q,⟨o,k _ _ (.inl rfl) e⟩,st⟩
theorem HOk.lt(x:HOk P w H h)(e:H a=some o):a<h.objs.size:=(x a o e).lt
theorem HOk.fresh(x:HOk P w H h)(e:h.objs.size≤a):H a=none:=by
 cases q:H a with
 | none=>rfl
 | some u=>exact absurd (Nat.lt_of_lt_of_le (x.lt q) e) (Nat.lt_irrefl _)
theorem HOk.kept(x:HOk P w H h)(k:∀ b u,h.get? b=some u→h'.get? b=some u):HOk P w H h':=fun a o e =>
 (x a o e).stay (fun b u _ q=>k b u q) (fun _ q=>q) fun _ _ q=>q
theorem HOk.laid(x:HOk P w H h)(k:∀ b u,h.get? b=some u→h'.get? b=some u)(hp:h.objs.size≤a)(new:ObjOk P w (upd H a o) h' a o):HOk P w (upd H a o) h':=fun b u e=>by
 have hn:=x.fresh hp;by_cases hb:b=a
 ·subst hb;rw[Z2] at e;cases e;exact new
 ·rw[Z1 hb] at e;exact(x b u e).stay (fun c v _ q=>k c v q) (fun c q=>by rw[Z1 (Z4 q hn)];exact q) fun c xs q=>by rw[Z1 (Z4 q hn)];exact q
end
def Rd (H:Hp)(a:Addr)(u:HO):Prop:=H a=some u∨∃ o,H a=some (.frz o u)
theorem Rd.ok{P:Program}{w:World}{H:Hp}{h:Heap}{a:Addr}{u:HO}(r:Rd H a u)(x:HOk P w H h):ObjOk P w H h a u:=by
 rcases r with r | ⟨o,r⟩
 ·exact x a u r
 ·obtain⟨_,q⟩:=x a _ r;exact q
def Mut:Option HO→Prop
 | some (.lst _)=>True
 | some (.dK _)=>True
 | some (.dT _)=>True
 | some (.set _ _)=>True
 | some (.ins _ _ _)=>True
 | some (.ext _)=>True
 | _=>False
section
variable {P:Program}{w:World}{H:Hp}{h h':Heap}{x e:Addr}{o':HO}
theorem HOk.write(ok:HOk P w H h)(mu:Mut (H x))(he:e=x∨H e=some (.own x))(k:∀ b u,b≠e→h.get? b=some u→h'.get? b=some u)(heo:∃ u,h'.get? e=some u)(new:ObjOk P w (upd H x o') h' x o'):HOk P w (upd H x o') h':=fun b u q=>by
 have nown:∀ c y,H c=some (.own y)→c≠x:=fun c y r z=>by subst z;rw[r] at mu;exact mu
 have ntup:∀ c xs,H c=some (.tup xs)→c≠x:=fun c xs r z=>by subst z;rw[r] at mu;exact mu
 by_cases hb:b=x
 ·subst hb;rw[Z2] at q;cases q;exact new
 ·rw[Z1 hb] at q;by_cases hbe:b=e
  ·have q':H b=some (.own x):=by
    rcases he with z | z
    ·exact absurd (hbe.trans z) hb
    ·rw[hbe];exact z
   rw[q] at q';cases q';obtain⟨v,hv⟩:=heo;exact⟨v,by rw[hbe];exact hv⟩
  ·refine(ok b u q).stay (fun c v hc r=>k c v ?_ r) (fun c r=>by rw[Z1 (nown c b r)];exact r) fun c xs r=>by rw[Z1 (ntup c xs r)];exact r
   rcases hc with rfl | hc
   ·exact hbe
   ·rintro rfl;rcases he with z | z
    ·exact nown c b hc z
    ·rw[hc] at z;cases z;exact hb rfl
end
structure Un(fs ex:List Addr)(H H':Hp)(h h':Heap):Prop where
 keep:∀ b o,h.get? b=some o→H b=none→b∉fs→b∉ex→h'.get? b=some o
 slot:∀ b o,h.get? b=some o→H b=none→b∈fs→b∉ex→∃ sl,h'.get? b=some { o with slots:=sl }
 free:∀ b o,h.get? b=some o→H b=none→b∉ex→H' b=none
 there:∀ b o,h.get? b=some o→b∉ex→∃ o',h'.get? b=some o'
 tups:∀ b xs,H b=some (.tup xs)→H' b=some (.tup xs)
 frzs:∀ b o u,H b=some (.frz o u)→H' b=some (.frz o u)
 tbls:∀ b ps,H b=some (.tbl ps)→∃ more,H' b=some (.tbl (ps++more))
section
variable {fs fs' ex ex':List Addr}{H H1 H2:Hp}{h h1 h2 h':Heap}{a x e:Addr}{o:HO}
theorem Un.any(u:Un fs ex H H1 h h1){b:Addr}{ob:Obj}(q:h.get? b=some ob)(n:H b=none)(hx:b∉ex):∃ sl,h1.get? b=some { ob with slots:=sl }:=by
 by_cases hb:b∈fs
 ·exact u.slot b ob q n hb hx
 ·exact⟨ob.slots,u.keep b ob q n hb hx⟩
theorem Un.trans(a:Un fs ex H H1 h h1)(b:Un fs ex H1 H2 h1 h2):Un fs ex H H2 h h2 where
 keep:=fun c ob q n hc hx=>b.keep c ob (a.keep c ob q n hc hx) (a.free c ob q n hx) hc hx
 slot:=fun c ob q n hc hx=>by
  obtain⟨sl,e1⟩:=a.slot c ob q n hc hx;obtain⟨sl',e2⟩:=b.slot c _ e1 (a.free c ob q n hx) hc hx;exact⟨sl',e2⟩
 free:=fun c ob q n hx=>by
  obtain⟨o',e1⟩:=a.there c ob q hx;exact b.free c o' e1 (a.free c ob q n hx) hx
 there:=fun c ob q hx=>by
  obtain⟨o',e1⟩:=a.there c ob q hx;exact b.there c o' e1 hx
 tups:=fun c xs q=>b.tups c xs (a.tups c xs q)
 frzs:=fun c ob xs q=>b.frzs c ob xs (a.frzs c ob xs q)
 tbls:=fun c ps q=>by
  obtain⟨m1,e1⟩:=a.tbls c ps q;obtain⟨m2,e2⟩:=b.tbls c _ e1;exact⟨m1++m2,by rw[e2,Array.append_assoc]⟩
theorem Un.kept(k:∀ b u,h.get? b=some u→h'.get? b=some u):Un fs ex H H h h' :=
 ⟨fun b ob q _ _ _=>k b ob q,fun b ob q _ _ _=>⟨ob.slots,k b ob q⟩,fun _ _ _ n _=>n,fun b ob q _=>⟨ob,k b ob q⟩,fun _ _ q=>q,fun _ _ _ q=>q,fun _ ps q=>⟨#[],by rw[q];simp⟩⟩
theorem Un.refl:Un fs ex H H h h:=Un.kept fun _ _ q=>q
theorem Un.laid(k:∀ b u,h.get? b=some u→h'.get? b=some u)(hp:h.objs.size≤a)(hn:H a=none):Un fs ex H (upd H a o) h h' where
 keep:=fun b u q _ _ _=>k b u q
 slot:=fun b u q _ _ _=>⟨u.slots,k b u q⟩
 free:=fun b u q n _=>by rw[Z1 (Nat.ne_of_lt (Nat.lt_of_lt_of_le (Heap.lt_size q) hp))];exact n
 there:=fun b u q _=>⟨u,k b u q⟩
 tups:=fun b xs q=>by rw[Z1 (Z4 q hn)];exact q
 frzs:=fun b u xs q=>by rw[Z1 (Z4 q hn)];exact q
 tbls:=fun b ps q=>⟨#[],by rw[Z1 (Z4 q hn),q];simp⟩
theorem Un.write(mu:Mut (H x))(he:e=x∨H e=some (.own x))(k:∀ b u,b≠e→h.get? b=some u→h'.get? b=some u)(heo:∃ u,h'.get? e=some u):Un fs ex H (upd H x o) h h':=by
 have hx:∀ b,H b=none→b≠x:=fun b n z=>by subst z;rw[n] at mu;exact mu
 have hb:∀ b,H b=none→b≠e:=fun b n z=>by
  subst z;rcases he with r | r
  ·exact hx b n r
  ·rw[n] at r;cases r
 have hm:∀ b u,H b=some u→¬ Mut (some u)→b≠x:=fun b u q nm z=>by subst z;rw[q] at mu;exact nm mu
 refine⟨fun b u q n _ _=>k b u (hb b n) q,fun b u q n _ _=>⟨u.slots,k b u (hb b n) q⟩,fun b u q n _=>by rw[Z1 (hx b n)];exact n,fun b u q _=>?_,
  fun b xs q=>by rw[Z1 (hm b _ q fun z=>z)];exact q,fun b u xs q=>by rw[Z1 (hm b _ q fun z=>z)];exact q,fun b ps q=>⟨#[],by rw[Z1 (hm b _ q fun z=>z),q];simp⟩⟩
 by_cases hbe:b=e
 ·subst hbe;exact heo
 ·exact⟨u,k b u hbe q⟩
end
def trk (h:Heap)(H:Hp):List Addr:=(List.range h.objs.size).filter fun a=>(H a).isSome
def hidT (h:Heap)(H:Hp):Heap:=hideAll h (trk h H)
theorem GQ(h:Heap)(H:Hp):(hidT h H).objs.size=h.objs.size:=PySem.W.hideAll_size _ _
theorem Nj{h:Heap}{H:Hp}{b:Addr}{o:Obj}(e:h.get? b=some o)(n:H b=none):(hidT h H).get? b=some o :=
 hideAll_get _ e fun hm=>by
  have q:(H b).isSome=true:=(List.mem_filter.mp hm).2;rw[n] at q;simp at q
theorem Dh{h:Heap}{H:Hp}{b:Addr}{o:Obj}(e:(hidT h H).get? b=some o):h.get? b=some o∧H b=none:=by
 have e':h.get? b=some o:=of_hideAll (trk h H) e;refine⟨e',?_⟩;cases q:H b with
 | none=>rfl
 | some x =>
  have hm:b∈trk h H:=List.mem_filter.mpr ⟨List.mem_range.mpr (Heap.lt_size e'),by simp[q]⟩
  have z:(hidT h H).get? b=none:=hideAll_none (trk h H) hm;rw[z] at e;cases e
def DJ(g h:Heap)(L:Addr):List (Addr×Obj):=(List.range h.objs.size).filterMap fun a=>if a=L∨(g.get? a).isSome=true then none else(h.get? a).map fun o=>(a,o)
def rest (g h:Heap)(L d:Addr):List (Addr×Obj):=(DJ g h L).filter fun p=>decide (p.1≠d)
def CxOk (H:Hp)(cx:Value):Prop:=cx = .none∨∃ y o v u,cx = .ref y∧H y=some (.frz o u)∧o.data = .fields v∧v[2]?=some .none
theorem CxOk.frzs{H H':Hp}{cx:Value}(x:CxOk H cx)(f:∀ b o u,H b=some (.frz o u)→H' b=some (.frz o u)):CxOk H' cx:=by
 rcases x with h | ⟨y,o,v,u,h1,h2,h3⟩
 ·exact .inl h
 ·exact .inr ⟨y,o,v,u,h1,f _ _ _ h2,h3⟩
def HdH (A:Around)(H:Hp):Prop:=A.handled=none∨∃ x o v u cx,A.handled=some (.ref x)∧H x=some (.frz o u)∧o.data = .fields v∧v[2]?=some cx∧CxOk H cx
def Ch (h:Heap)(x:Addr):Prop:=∃ o v cx,h.get? x=some o∧o.data = .fields v∧v[2]?=some cx∧(cx = .none∨∃ y o' v',cx = .ref y∧y≠x∧h.get? y=some o'∧o'.data = .fields v'∧v'[2]?=some .none)
def HdS (A:Around)(h:Heap):Prop:=A.handled=none∨∃ x,A.handled=some (.ref x)∧Ch h x
theorem HdH.frzs{A:Around}{H H':Hp}(x:HdH A H)(f:∀ b o u,H b=some (.frz o u)→H' b=some (.frz o u)):HdH A H':=by
 rcases x with h | ⟨x,o,v,u,cx,h1,h2,h3,h4,h5⟩
 ·exact .inl h
 ·exact .inr ⟨x,o,v,u,cx,h1,f _ _ _ h2,h3,h4,h5.frzs f⟩
theorem Ch.keeps{h h':Heap}{x:Addr}(c:Ch h x)(k:∀ b o,h.get? b=some o→∀ v cx,o.data = .fields v→v[2]?=some cx→h'.get? b=some o):Ch h' x:=by
 obtain⟨o,v,cx,h1,h2,h3,h4⟩:=c;refine⟨o,v,cx,k _ _ h1 _ _ h2 h3,h2,h3,?_⟩;rcases h4 with h4 | ⟨y,o',v',e1,e2,e3,e4,e5⟩
 ·exact .inl h4
 ·exact .inr ⟨y,o',v',e1,e2,k _ _ e3 _ _ e4 e5,e4,e5⟩
theorem HdS.keeps{A:Around}{h h':Heap}(x:HdS A h)(k:∀ b o,h.get? b=some o→∀ v cx,o.data = .fields v→v[2]?=some cx→h'.get? b=some o):HdS A h':=by
 rcases x with x | ⟨a,h1,h2⟩
 ·exact .inl x
 ·exact .inr ⟨a,h1,h2.keeps k⟩
theorem HdH.s{P:Program}{w:World}{A:Around}{H:Hp}{h:Heap}(x:HdH A H)(ok:∀ a o u,H a=some (.frz o u)→h.get? a=some o):HdS A h:=by
 rcases x with x | ⟨x,o,v,u,cx,h1,h2,h3,h4,h5⟩
 ·exact .inl x
 ·refine .inr ⟨x,h1,o,v,cx,ok _ _ _ h2,h3,h4,?_⟩;rcases h5 with h5 | ⟨y,o',v',u',e1,e2,e3,e4⟩
  ·exact .inl h5
  ·refine .inr ⟨y,o',v',e1,fun z=>?_,ok _ _ _ e2,e3,e4⟩;subst z;rw[h2] at e2;cases e2;rw[h3] at e3;cases e3;rw[h4] at e4;cases e4;cases e1
section
variable {prog:Program}{w:World}{A:Around}{EE:Value→Shared→Prop}{s:Shared}
theorem JP:entryFor table "proto.unchain"=some Builtin.«proto.unchain»:=entryFor_of_tree (by kernel_rfl)
theorem Vc{α:Type}{e h0:Addr}{oe:Obj}{ve:Array Value}{Q:α→Shared→Prop}(hh:A.handled=some (.ref h0))(g0:Ch s.heap h0)(nw:∀ y,Ch s.heap y→(∃ o v cx,s.heap.get? y=some o∧o.data = .fields v∧v[2]?=some cx)→(h0=y∨∃ o v,s.heap.get? h0=some o∧o.data = .fields v∧v[2]?=some (.ref y))→y≠e)(he:s.heap.get? e=some oe)(de:oe.data = .fields ve)(sz:2<ve.size)(k:EE (.ref e) { s with heap:=s.heap.update e (Obj.mapFields (·.setIfInBounds 2 (.ref h0))) }):wpAny (model prog w) A (raiseNew (.ref e):Sem α) Q EE s:=by
 obtain⟨o0,v0,cx,g1,d0,c0,c1⟩:=id g0;have ne:h0≠e:=nw h0 g0 ⟨_,_,_,g1,d0,c0⟩ (.inl rfl);unfold raiseNew;refine zA (wpAny_handled ?_);rw[hh];dsimp only;rw[if_pos (show(Value.ref h0 != Value.ref e)=true from by simp[ne])]
 have fin:wpAny (model prog w) A (setField (.ref e) 2 (.ref h0) >>= fun _=>throw (Value.ref e)) Q EE s:=zA (wpAny_setField he de sz (wpAny_throw k));refine zA (zD (wpAny_runValue (codeAny_builtin JP ?_)));unfold Builtin.«proto.unchain»;refine zA (wpAny_field g1 d0 c0 ?_);rcases c1 with rfl | ⟨y,o',v',rfl,ny,g2,d2,c2⟩
 ·rw[if_pos (show(Value.none==Value.none)=true from rfl)]
  refine zA (zB (zB ?_));exact fin
 ·have nye:y≠e:=nw y ⟨_,_,_,g2,d2,c2,.inl rfl⟩ ⟨_,_,_,g2,d2,c2⟩ (.inr ⟨_,_,g1,d0,c0⟩);rw[if_neg (show ¬ ((Value.ref y==Value.none)=true) from Bool.false_ne_true),if_neg (show ¬ ((Value.ref y==Value.ref e)=true) from by simp[nye])]
  dsimp only;rw[if_neg (show ¬ ((Value.ref y==Value.ref h0)=true) from by simp[ny])]
  rw[if_neg (by decide)]
  refine zA (zB ?_);refine zB ?_;refine⟨Code.quiet_builtin _ (by decide +kernel),codeAny_builtin JP ?_⟩
  unfold Builtin.«proto.unchain»;refine zA (wpAny_field g2 d2 c2 ?_);rw[if_pos (show(Value.none==Value.none)=true from rfl)]
  refine zA (zB (zB ?_));exact fin
theorem Qb{α:Type}{it h0:Addr}{h1:Heap}{Q:Option Value→Shared→Prop}(hh:A.handled=some (.ref h0))(g0:Ch h1 h0)(hQ:∀ h',(∀ b o,h1.get? b=some o→h'.get? b=some o)→Q none { s with heap:=h' }):
  wpAny (model prog w) A.in1 (newExc (.type "StopIteration") [] >>= fun e=>(raiseNew e:Sem α)) (fun _ _=>False)
   (fun e s1=>wpAny (model prog w) A (isInstance e (.type "StopIteration")) (fun b s2=>if b=true then Q none s2 else False) EE s1) { s with heap:=h1 }:=by
 refine zA ?_;simp only[newExc,newTuple];refine zA (wpAny_newObj_type ?_ (by size_fits))
 refine zA (m:=firstArgMember _ _) (wpAny_of_eq (a:=Value.none) (by first | rfl | (simp only[firstArgMember];rfl)) ?_)
 refine wpAny_newObj_type ?_ (by size_fits)
 have lt:∀ b o,h1.get? b=some o→b<h1.objs.size:=fun b o e=>Heap.lt_size e;have g0':=g0.keeps fun b o e _ _ _ _=>Heap.get?_push_of_some { cls:=.type "StopIteration",data:=.fields #[.ref h1.objs.size,.none,.none,.none,.bool false,.none] } (Heap.get?_push_of_some { cls:=.type "tuple",data:=.seq #[] } e);refine Vc (A:=A.in1) hh g0' ?_ (Heap.get?_push_size _ rfl) rfl (by simp[ownMembersOf]) ?_
 ·obtain⟨o,v,cx,e1,e2,e3,e4⟩:=id g0;rintro y _ _ (rfl | ⟨o2,v2,f1,f2,f3⟩)
  ·exact Nat.ne_of_lt (by rw[Heap.size_push];exact Nat.lt_succ_of_lt (lt _ _ e1))
  ·have:=Heap.get?_push_of_some { cls:=.type "StopIteration",data:=.fields #[.ref h1.objs.size,.none,.none,.none,.bool false,.none] } (Heap.get?_push_of_some { cls:=.type "tuple",data:=.seq #[] } e1)
   have f1':=f1.symm.trans this;cases f1';rw[e2] at f2;cases f2;rw[e3] at f3;cases f3;rcases e4 with z | ⟨y',o',v',z,_,g,_⟩
   ·cases z
   ·cases z;exact Nat.ne_of_lt (by rw[Heap.size_push];exact Nat.lt_succ_of_lt (lt _ _ g))
 refine wpAny_isInstance (T:="StopIteration") (b:=true) ⟨_,Heap.get?_update_self _ (Heap.get?_push_size _ rfl) rfl,rfl⟩ isSubtype_stop ?_;rw[if_pos rfl];refine hQ _ fun b o e=>?_;refine(Heap.get?_update_other _ _ (Nat.ne_of_gt ?_)).trans (Heap.get?_push_of_some _ (Heap.get?_push_of_some _ e));rw[Heap.size_push];exact Nat.lt_succ_of_lt (lt b o e)
theorem Gs{it l h0:Addr}{i:Nat}{items:Array Value}{Q:Option Value→Shared→Prop}(hh:A.handled=some (.ref h0))(g0:Ch s.heap h0)(hit:s.heap.IsListIter it l i)(hl:s.heap.IsList l items)(hx:items[i]?=none)(hQ:∀ h',Heap.ExtBut it s.heap h'→Q none { s with heap:=h' }):wpAny (model prog w) A (pyNext (.ref it)) Q EE s:=by
 obtain⟨oi,gi,ci,di⟩:=id hit;obtain⟨ol,gl,_,nl,dl⟩:=hl;unfold pyNext;refine zA (wpAny_attempt (wpAny_callSpecial?_slot (name:=Str.ofString "__next__") hit.typeIs slot_listiter_next (wpAny_call_entry slot_listiter_next hit.typeIs entry_listiter_next ?_ (args_listiter_next _))));show wpAny _ _ (field (.ref it) 0 >>= _) _ _ s;refine zA (wpAny_field gi di (x:=.ref l) rfl ?_);show wpAny _ _ (if(Value.ref l==Value.none)=true then _ else _) _ _ s;rw[if_neg (show ¬ ((Value.ref l==Value.none)=true) from Bool.false_ne_true)]
 show wpAny _ _ (field (.ref it) 1 >>= _) _ _ s;refine zA (wpAny_field gi di (x:=.int i 0) rfl ?_);show wpAny _ _ (seqItems? (.ref l) >>= _) _ _ s;refine zA (wpAny_seqItems gl dl ?_);simp only[Int.toNat_natCast,hx];refine zA (wpAny_rule (zA (wpAny_setField gi di (by simp) ?_)))
 show wpAny _ _ (newExc (.type "StopIteration") [] >>= _) _ _ _;have keep:∀ b o,b≠it→s.heap.get? b=some o→(s.heap.update it (Obj.mapFields (·.setIfInBounds 0 Value.none))).get? b=some o:=fun b o hb e=>(Heap.get?_update_other _ _ (Ne.symm hb)).trans e;have nit:∀ b o,s.heap.get? b=some o→∀ v cx,o.data = .fields v→v[2]?=some cx→b≠it:=fun b o e v cx e1 e2 z=>by
  rw[z,gi] at e;cases e;rw[di] at e1;cases e1;simp at e2
 refine zC (Qb (it:=it) (EE:=EE) (Q:=Q) hh (g0.keeps fun b o e v cx e1 e2=>keep b o (nit b o e v cx e1 e2) e) fun h' k=>hQ h' fun b o hb e=>k b o (keep b o hb e)) (fun _ _ z=>z.elim) fun e s1 h1=>?_;refine zA (zC h1 (fun b s2 h2=>?_) fun _ _ z=>z);cases b with
 | true=>exact zB h2
 | false=>exact False.elim h2
theorem Mg{it t h0:Addr}{i:Nat}{items:Array Value}{Q:Option Value→Shared→Prop}(hh:A.handled=some (.ref h0))(g0:Ch s.heap h0)(hit:IsTupIter s.heap it t i)(ht:IsTup s.heap t items)(hx:items[i]?=none)(hQ:∀ h',Heap.ExtBut it s.heap h'→Q none { s with heap:=h' }):wpAny (model prog w) A (pyNext (.ref it)) Q EE s:=by
 obtain⟨o,ho,hc,hd⟩:=id hit;obtain⟨ol,hol,_,nl,hdl⟩:=ht;unfold pyNext;refine zA (wpAny_attempt (wpAny_callSpecial?_slot (name:=Str.ofString "__next__") hit.typeIs slot_tupleiter_next
  (wpAny_call_entry slot_tupleiter_next hit.typeIs entry_tupleiter_next ?_ (args_tupleiter_next _))))
 show wpAny _ _ (field (.ref it) 0 >>= _) _ _ s;refine zA (wpAny_field ho hd (x:=.ref t) rfl ?_);show wpAny _ _ (if(Value.ref t==Value.none)=true then _ else _) _ _ s;rw[if_neg (show ¬ ((Value.ref t==Value.none)=true) from Bool.false_ne_true)]
 show wpAny _ _ (field (.ref it) 1 >>= _) _ _ s;refine zA (wpAny_field ho hd (x:=.int i 0) rfl ?_);show wpAny _ _ (seqItems? (.ref t) >>= _) _ _ s;refine zA (wpAny_seqItems hol hdl ?_);simp only[Int.toNat_natCast,hx];refine zA (wpAny_rule (zA (wpAny_setField ho hd (by simp) ?_)))
 show wpAny _ _ (newExc (.type "StopIteration") [] >>= _) _ _ _;have keep:∀ b o,b≠it→s.heap.get? b=some o→(s.heap.update it (Obj.mapFields (·.setIfInBounds 0 Value.none))).get? b=some o:=fun b o hb e=>(Heap.get?_update_other _ _ (Ne.symm hb)).trans e;have nit:∀ b o,s.heap.get? b=some o→∀ v cx,o.data = .fields v→v[2]?=some cx→b≠it:=fun b o e v cx e1 e2 z=>by
  rw[z,ho] at e;cases e;rw[hd] at e1;cases e1;simp at e2
 refine zC (Qb (it:=it) (EE:=EE) (Q:=Q) hh (g0.keeps fun b o e v cx e1 e2=>keep b o (nit b o e v cx e1 e2) e) fun h' k=>hQ h' fun b o hb e=>k b o (keep b o hb e)) (fun _ _ z=>z.elim) fun e s1 h1=>?_;refine zA (zC h1 (fun b s2 h2=>?_) fun _ _ z=>z);cases b with
 | true=>exact zB h2
 | false=>exact False.elim h2
theorem VS{it l:Addr}{i:Nat}{items:Array Value}{Q:Option Value→Shared→Prop}(hh:HdS A s.heap)(hit:s.heap.IsListIter it l i)(hl:s.heap.IsList l items)(hx:items[i]?=none)(hQ:∀ h',Heap.ExtBut it s.heap h'→Q none { s with heap:=h' }):wpAny (model prog w) A (pyNext (.ref it)) Q EE s:=by
 rcases hh with hh | ⟨x,h1,h2⟩
 ·exact wpAny_pyNext_list_end hh hit hl hx hQ
 ·exact Gs h1 h2 hit hl hx hQ
theorem Mh{it t:Addr}{i:Nat}{items:Array Value}{Q:Option Value→Shared→Prop}(hh:HdS A s.heap)(hit:IsTupIter s.heap it t i)(ht:IsTup s.heap t items)(hx:items[i]?=none)(hQ:∀ h',Heap.ExtBut it s.heap h'→Q none { s with heap:=h' }):wpAny (model prog w) A (pyNext (.ref it)) Q EE s:=by
 rcases hh with hh | ⟨x,h1,h2⟩
 ·exact next_tuple_end hh hit ht hx hQ
 ·exact Mg h1 h2 hit ht hx hQ
theorem Q8{t:Addr}{items:Array Value}{Q:List Value→Shared→Prop}(hh:HdS A s.heap)(ht:IsTup s.heap t items)(hQ:∀ h',Heap.ExtBut s.heap.objs.size s.heap h'→Q items.toList { s with heap:=h' }):wpAny (model prog w) A (unpackItems (.ref t) items.size none) Q EE s:=by
 have hlt:t≠s.heap.objs.size:=by obtain⟨o,ho,_⟩:=ht;exact Nat.ne_of_lt (Heap.lt_size ho)
 unfold unpackItems;refine zA ?_
 ·unfold notIterableAtAll;refine zA (wpAny_specialOf ht.typeIs slot_tuple_iter.lookup ?_);refine zB ?_;simp only[Bool.false_eq_true,if_false];refine zA (zD (iter_tuple ht ?_));refine zA (zD (draw_tuple hlt items.size 0 _ _ ⟨_,Heap.get?_push_size _ rfl,rfl,rfl⟩ (ht.push _) (by lia) fun h₁ hit₁ hs₁=>?_))
  have hall:List.take items.size (List.drop 0 items.toList)=items.toList:=by
   rw[List.drop_zero];exact List.take_of_length_le (by simp)
  rw[hall];rw[if_neg (by simp)]
  have ht₁:IsTup h₁ t items:=(ht.push _).extBut hs₁.extBut hlt;have hh₁:HdS A h₁:=hh.keeps fun b o e _ _ _ _=>hs₁.extBut b o (Nat.ne_of_lt (Heap.lt_size e)) (Heap.get?_push_of_some _ e);refine zA (zD (Mh hh₁ hit₁ ht₁ (by simp) fun h₂ he₂=>?_))
  simp only[Option.isSome_none,Bool.false_eq_true,if_false];refine zB (hQ h₂ fun b o hb e=>he₂ b o hb (hs₁.extBut b o hb (Heap.get?_push_of_some _ e)))
theorem VE{env:Env}{elts:List Expr}{x1}{pos:Pos}{t:Addr}{items:Array Value}{Q:Unit→Shared→Prop}(hh:HdS A s.heap)(ht:IsTup s.heap t items)(hn:(assignEach elts env).length=items.size)(hstar:(assignEach elts env).findIdx? (·.1)=none)(h:∀ h',Heap.ExtBut s.heap.objs.size s.heap h'→wpAny (model prog w) A (assignInOrder ((assignEach elts env).map (·.2)) items.toList) Q EE { s with heap:=h' }):
  wpAny (model prog w) A (assign (.Tuple elts x1 pos) env (.ref t)) Q EE s:=by
 rw[assign_Tuple];refine zA (wpAny_standAt ?_);unfold unpack;rw[hn,hstar];exact zA (zD (Q8 hh ht h))
end
structure Mod(K:Frag)(mg:Str→Option Value)(base:Heap):Prop where
 kin:K.In base
 glob:base.Ns zE mg
 blt:∃ mb,base.Ns builtinsNs mb∧∀ x:Str,x≠"__name__"→mb x=bootBuiltins x
 nolimit:base.NoLimit
structure Cx where
 prog:Program
 w:World
 K:Frag
 mg:Str→Option Value
 base:Heap
 A:Around
 N:List Str
 s₀:Shared
 H₀:Hp
 env:Env
 outer:List Env
 stack:List Env
 ex:List Addr
 fn:Str→Bool
 calm:Bool
 pn:List (Addr×Obj)
 xe:Value→Shared→Prop
def frs (l:List Env):List Addr:=l.filterMap (·.frame)
abbrev Cx.fs(X:Cx):List Addr:=frs X.outer
def Vis (sc:Scope)(x:Str):Prop:=sc.names.lookup x=some .local∨sc.names.lookup x=some .cell∨sc.names.lookup x=some .free
def Loc (sc:Scope)(x:Str):Prop:=sc.names.lookup x=some .local∨sc.names.lookup x=some .cell
def Look (env:Env)(h:Heap)(m:Str→Option Value)(x:Str)(u:Value):Prop :=
 (env.kindOf x=some .local∧m x=some u)∨((env.kindOf x=some .cell∨env.kindOf x=some .free)∧∃ c,env.cells.lookup x=some c∧h.IsCell c (some u))
structure Cx.Ok(X:Cx):Prop where
 mod:Mod X.K X.mg X.base
 kind:X.env.scope.kind = .function
 glob:X.env.globals=zE
 blt:X.env.builtins=builtinsNs
 above:X.s₀.heap.objs.size≤X.env.locals
 inj:∀ x y c,X.env.cells.lookup x=some c→X.env.cells.lookup y=some c→x=y
 has:∀ x,(X.env.kindOf x=some .cell∨X.env.kindOf x=some .free)→∃ c,X.env.cells.lookup x=some c
 cab:∀ x c,X.fn x=true→X.env.cells.lookup x=some c→X.s₀.heap.objs.size≤c
 hd:X.calm=true→X.A.handled=none
 frames:X.A.frames=some X.stack
 stk:X.stack=X.outer∨(X.stack=X.env::X.outer∧X.env.frame=some X.env.locals)
 exf:∀ b∈X.ex,b≠X.env.locals∧∀ x c,X.env.cells.lookup x=some c→c≠b
 bs:∀ b o,X.base.get? b=some o→X.s₀.heap.get? b=some o∧X.H₀ b=none
 bsz:X.base.objs.size≤X.s₀.heap.objs.size
 noex:∀ b o,X.base.get? b=some o→b∉X.ex
 exfs:∀ b∈X.ex,b∉X.fs
 funs:X.s₀.heap.FunFrames X.base X.outer
 frf:∀ b∈X.fs,X.H₀ b=none
structure Inv(X:Cx)(b9:List (Addr×Obj))(σ:List (Option V))(H:Hp)(s:Shared):Prop where
 ok:X.Ok
 os:s.os=X.s₀.os
 bare:AllBare s.gens
 base:Un X.fs X.ex X.H₀ H X.s₀.heap s.heap
 loc:∃ m,s.heap.Ns X.env.locals m∧∀(i:Nat) (x:Str) (v:V),X.N[i]?=some x→σ[i]?=some (some v)→Vis X.env.scope x→∃ u,RelV v u∧Look X.env s.heap m x u
 cell:∀ x c,X.env.cells.lookup x=some c→∃ v,s.heap.IsCell c v
 free:H X.env.locals=none
 freeC:∀ x c,X.env.cells.lookup x=some c→H c=none
 pin:∀ p∈X.pn++b9,s.heap.get? p.1=some p.2∧H p.1=none∧p.1≠X.env.locals∧p.1∉X.fs∧∀ v,p.2.data ≠ .cell v
 hok:HOk X.prog X.w H s.heap
 len:σ.length=X.N.length
 hdh:HdH X.A H
section
variable {X:Cx}{b9:List (Addr×Obj)}{σ:List (Option V)}{H H':Hp}{s:Shared}{h':Heap}
theorem Cx.Ok.nofr(ok:X.Ok){b:Addr}{o:Obj}(e:X.base.get? b=some o):b∉X.fs:=fun hb=>by
 have:=(ok.funs.mem hb).1
 rw[e] at this;cases this
theorem Inv.hdS(I:Inv X b9 σ H s):HdS X.A s.heap:=I.hdh.s (P:=X.prog) (w:=X.w) fun a o u e=>(show ObjOk X.prog X.w H s.heap a (.frz o u) from I.hok a _ e).1
theorem Inv.bs(I:Inv X b9 σ H s):∀ b o,X.base.get? b=some o→s.heap.get? b=some o∧H b=none:=fun b o e =>
 ⟨I.base.keep b o (I.ok.bs b o e).1 (I.ok.bs b o e).2 (I.ok.nofr e) (I.ok.noex b o e),I.base.free b o (I.ok.bs b o e).1 (I.ok.bs b o e).2 (I.ok.noex b o e)⟩
theorem Inv.bk(I:Inv X b9 σ H s):∀ b o,X.base.get? b=some o→s.heap.get? b=some o:=fun b o e=>(I.bs b o e).1
theorem Inv.mod(I:Inv X b9 σ H s):Mod X.K X.mg X.base:=I.ok.mod
theorem Inv.kIn(I:Inv X b9 σ H s):X.K.In s.heap:=I.ok.mod.kin.keeps I.bk
theorem Inv.nolimit(I:Inv X b9 σ H s):s.heap.NoLimit:=I.ok.mod.nolimit.keeps I.bk
theorem Inv.lt(I:Inv X b9 σ H s):X.env.locals<s.heap.objs.size:=let ⟨_,hn,_⟩:=I.loc;hn.lt
theorem Inv.sz(I:Inv X b9 σ H s):X.s₀.heap.objs.size≤s.heap.objs.size:=Nat.le_trans I.ok.above (Nat.le_of_lt I.lt)
theorem Inv.nofs(I:Inv X b9 σ H s){a:Addr}(h:s.heap.objs.size≤a):a∉X.fs:=fun hb=>by
 obtain⟨_,o,ho,_⟩:=I.ok.funs.mem hb;exact absurd (Nat.lt_of_lt_of_le (Heap.lt_size ho) (Nat.le_trans I.sz h)) (Nat.lt_irrefl _)
theorem Inv.cne(I:Inv X b9 σ H s):∀ x c,X.env.cells.lookup x=some c→c≠X.env.locals:=fun x c e z=>by
 obtain⟨v,o,ho,hd⟩:=I.cell x c e;obtain⟨m,⟨o',es,ep,ho',hd',_⟩,_⟩:=I.loc;rw[z,ho'] at ho;cases ho;rw[hd'] at hd;cases hd
theorem Inv.funs(I:Inv X b9 σ H s):s.heap.FunFrames X.base X.outer:=by
 have all:∀(l:List Env),(∀ b∈frs l,b∈X.fs)→X.s₀.heap.FunFrames X.base l→s.heap.FunFrames X.base l:=by
  intro l
  induction l with
  | nil=>intro _ _;trivial
  | cons env r ih =>
   intro hs hl;obtain⟨hk,⟨L,o,hf,hn,ho,hd⟩,hr⟩:=hl;have hL:L∈X.fs:=hs L (by unfold frs;rw[List.filterMap_cons,hf];exact List.mem_cons_self)
   obtain⟨sl,e⟩:=I.base.slot L o ho (I.ok.frf L hL) hL fun z=>I.ok.exfs L z hL;exact⟨hk,⟨L,_,hf,hn,e,hd⟩,ih (fun b hb=>hs b (by unfold frs;rw[List.filterMap_cons,hf];exact List.mem_cons_of_mem _ hb)) hr⟩
 exact all X.outer (fun _ hb=>hb) I.ok.funs
theorem Inv.stack(I:Inv X b9 σ H s):s.heap.FunFrames X.base X.stack:=by
 rcases I.ok.stk with e | ⟨e,hf⟩
 ·rw[e];exact I.funs
 ·rw[e];obtain⟨m,hn,_⟩:=I.loc;refine .cons (by rw[I.ok.kind];decide) hf hn ?_ I.funs
  exact Heap.get?_none_of_le (Nat.le_trans I.ok.bsz I.ok.above)
theorem Inv.stkSub(I:Inv X b9 σ H s):∀ b∈frs X.stack,b∈X.env.locals::X.fs:=fun b hb=>by
 rcases I.ok.stk with e | ⟨e,hf⟩
 ·rw[e] at hb;exact List.mem_cons_of_mem _ hb
 ·rw[e] at hb;unfold frs at hb;rw[List.filterMap_cons,hf] at hb;exact hb
theorem Inv.stkFree(I:Inv X b9 σ H s):∀ b∈frs X.stack,H b=none:=fun b hb=>by
 rcases List.mem_cons.mp (I.stkSub b hb) with e | hb
 ·rw[e];exact I.free
 ·obtain⟨_,o,ho,_⟩:=I.ok.funs.mem hb;exact I.base.free b o ho (I.ok.frf b hb) fun z=>I.ok.exfs b z hb
theorem Inv.step{g':Array GenState}{t':Nat}{d':Drawn}{ch:List Addr}(I:Inv X b9 σ H s)(hch:∀ b∈ch,(b∈X.ex∨X.s₀.heap.objs.size≤b)∧b≠X.env.locals∧(∀ x c,X.env.cells.lookup x=some c→c≠b)∧∀ p∈X.pn++b9,p.1≠b)(keep:∀ b o,b≠X.env.locals→b∉X.fs→b∉ch→s.heap.get? b=some o→H b=none→h'.get? b=some o)(slot:∀ b o,b≠X.env.locals→b∈X.fs→b∉ch→s.heap.get? b=some o→H b=none→∃ sl,h'.get? b=some { o with slots:=sl })(free:∀ b o,b∉ch→s.heap.get? b=some o→H b=none→H' b=none)(there:∀ b o,b∉ch→s.heap.get? b=some o→∃ o',h'.get? b=some o')(tups:∀ b xs,H b=some (.tup xs)→H' b=some (.tup xs))(frzs:∀ b o u,H b=some (.frz o u)→H' b=some (.frz o u))(tbls:∀ b ps,H b=some (.tbl ps)→∃ more,H' b=some (.tbl (ps++more)))(ns:∀ m,s.heap.Ns X.env.locals m→h'.Ns X.env.locals m)(hok:HOk X.prog X.w H' h')(hg:AllBare g'):
  Inv X b9 σ H' { s with heap:=h',gens:=g',drawn:=d',toks:=t' }:=by
 have neL:∀ b o,X.s₀.heap.get? b=some o→b≠X.env.locals:=fun b o e=>Nat.ne_of_lt (Nat.lt_of_lt_of_le (Heap.lt_size e) I.ok.above);have neC:∀ b o,X.s₀.heap.get? b=some o→b∉X.ex→b∉ch:=fun b o e hx hb=>by
  rcases (hch b hb).1 with z | z
  ·exact hx z
  ·exact absurd (Nat.lt_of_lt_of_le (Heap.lt_size e) z) (Nat.lt_irrefl _)
 have cellK:∀ x c,X.env.cells.lookup x=some c→∀ v,s.heap.IsCell c v→h'.IsCell c v:=fun x c e v ⟨o,ho,hd⟩=>by
  have nch:c∉ch:=fun z=>(hch c z).2.2.1 x c e rfl;by_cases hc:c∈X.fs
  ·obtain⟨sl,q⟩:=slot c o (I.cne x c e) hc nch ho (I.freeC x c e);exact⟨_,q,hd⟩
  ·exact⟨o,keep c o (I.cne x c e) hc nch ho (I.freeC x c e),hd⟩
 refine⟨I.ok,I.os,hg,⟨fun b o e n hb hx=>?_,fun b o e n hb hx=>?_,fun b o e n hx=>?_,fun b o e hx=>?_,fun b xs e=>tups b xs (I.base.tups b xs e),fun b o xs e=>frzs b o xs (I.base.frzs b o xs e),fun b ps e=>?_⟩,?_,fun x c e=>?_,?_,fun x c e=>?_,fun p hp=>?_,hok,I.len,I.hdh.frzs frzs⟩
 ·exact keep b o (neL b o e) hb (neC b o e hx) (I.base.keep b o e n hb hx) (I.base.free b o e n hx)
 ·obtain⟨sl,e1⟩:=I.base.slot b o e n hb hx;obtain⟨sl',e2⟩:=slot b _ (neL b o e) hb (neC b o e hx) e1 (I.base.free b o e n hx);exact⟨sl',e2⟩
 ·obtain⟨o',e1⟩:=I.base.there b o e hx;exact free b o' (neC b o e hx) e1 (I.base.free b o e n hx)
 ·obtain⟨o',e1⟩:=I.base.there b o e hx;exact there b o' (neC b o e hx) e1
 ·obtain⟨m1,e1⟩:=I.base.tbls b ps e;obtain⟨m2,e2⟩:=tbls b _ e1;exact⟨m1++m2,by rw[e2,Array.append_assoc]⟩
 ·obtain⟨m,hn,hl⟩:=I.loc;refine⟨m,ns m hn,fun i x v e1 e2 e3=>?_⟩;obtain⟨u,r,l⟩:=hl i x v e1 e2 e3;refine⟨u,r,?_⟩;rcases l with l | ⟨k,c,e,z⟩
  ·exact .inl l
  ·exact .inr ⟨k,c,e,cellK x c e _ z⟩
 ·obtain⟨v,z⟩:=I.cell x c e;exact⟨v,cellK x c e v z⟩
 ·obtain⟨m,⟨o,_,_,ho,_⟩,_⟩:=I.loc;exact free _ o (fun z=>(hch _ z).2.1 rfl) ho I.free
 ·obtain⟨v,o,ho,hd⟩:=I.cell x c e;exact free c o (fun z=>(hch c z).2.2.1 x c e rfl) ho (I.freeC x c e)
 ·obtain⟨e,n,ne,nf,d⟩:=I.pin p hp;have nch:p.1∉ch:=fun z=>(hch p.1 z).2.2.2 p hp rfl;exact⟨keep p.1 p.2 ne nf nch e n,free p.1 p.2 nch e n,ne,nf,d⟩
theorem Inv.un{t':Nat}(I:Inv X b9 σ H s)(u:Un X.fs [] H H' s.heap h')(hok:HOk X.prog X.w H' h'):Inv X b9 σ H' { s with heap:=h',toks:=t' }:=by
 obtain⟨m,⟨o,es,ep,ho,r⟩,_⟩:=id I.loc;obtain⟨sl,hL⟩:=u.any ho I.free (by simp)
 exact I.step (g':=s.gens) (d':=s.drawn) (ch:=[]) (fun _ z=>nomatch z) (fun b o _ hb _ e n=>u.keep b o e n hb (by simp)) (fun b o _ hb _ e n=>u.slot b o e n hb (by simp)) (fun b o _ e n=>u.free b o e n (by simp)) (fun b o _ e=>u.there b o e (by simp)) u.tups u.frzs u.tbls (fun m' hm=>by
  obtain⟨o',es',ep',ho',r'⟩:=hm;rw[ho] at ho';cases ho';exact⟨_,es',ep',hL,r'⟩) hok I.bare
theorem Inv.call{g':Array GenState}{t':Nat}{d':Drawn}{ch:List Addr}(I:Inv X b9 σ H s)(u:Un (frs X.stack) ch H H' s.heap h')(hok:HOk X.prog X.w H' h')(hg:AllBare g')(hch:∀ b∈ch,(b∈X.ex∨X.s₀.heap.objs.size≤b)∧b≠X.env.locals∧(∀ x c,X.env.cells.lookup x=some c→c≠b)∧∀ p∈X.pn++b9,p.1≠b):
  Inv X b9 σ H' { s with heap:=h',gens:=g',drawn:=d',toks:=t' }:=by
 obtain⟨m,⟨o,es,ep,ho,r⟩,_⟩:=id I.loc;obtain⟨sl,hL⟩:=u.any ho I.free fun z=>(hch _ z).2.1 rfl;exact I.step (ch:=ch) hch (fun b o hL hb hc e n=>u.keep b o e n (fun z=>(List.mem_cons.mp (I.stkSub b z)).elim hL hb) hc) (fun b o _ _ hc e n=>u.any e n hc) (fun b o hc e n=>u.free b o e n hc) (fun b o hc e=>u.there b o e hc) u.tups u.frzs u.tbls (fun m' hm=>by
  obtain⟨o',es',ep',ho',r'⟩:=hm;rw[ho] at ho';cases ho';exact⟨_,es',ep',hL,r'⟩) hok hg
theorem Inv.turned{t':Nat}{it:Addr}(I:Inv X b9 σ H s)(k:∀ b o,b≠it→s.heap.get? b=some o→h'.get? b=some o)(hn:H it=none)(hL:it≠X.env.locals)(h1:it∈X.ex∨X.s₀.heap.objs.size≤it)(h2:∀ x c,X.env.cells.lookup x=some c→c≠it)(h3:∀ p∈X.pn++b9,p.1≠it):Inv X b9 σ H { s with heap:=h',toks:=t' }:=by
 have nit:∀ b u,H b=some u→b≠it:=fun b u e z=>by rw[z,hn] at e;cases e
 refine I.step (g':=s.gens) (d':=s.drawn) (ch:=[it]) (fun b hb=>?_) (fun b o _ _ hc e _=>k b o (fun z=>hc (by simp[z])) e) (fun b o _ _ hc e _=>⟨o.slots,k b o (fun z=>hc (by simp[z])) e⟩) (fun _ _ _ _ n=>n)
  (fun b o hc e=>⟨o,k b o (fun z=>hc (by simp[z])) e⟩) (fun _ _ e=>e) (fun _ _ _ e=>e) (fun b ps e=>⟨#[],by rw[e];simp⟩) (fun m hm=>?_) (fun b u e=>?_) I.bare
 ·have e:b=it:=by simpa using hb
  subst e;exact⟨h1,hL,h2,h3⟩
 ·obtain⟨o,es,ep,ho,r⟩:=hm;exact⟨o,es,ep,k _ o (Ne.symm hL) ho,r⟩
 ·refine(I.hok b u e).stay (fun c v hc q=>k c v ?_ q) (fun _ q=>q) fun _ _ q=>q;rcases hc with z | z
  ·rw[z];exact nit b u e
  ·exact nit c _ z
theorem Inv.tok(I:Inv X b9 σ H s)(t:Nat):Inv X b9 σ H { s with toks:=t }:=I.un (h':=s.heap) (t':=t) Un.refl I.hok
theorem Inv.kept{t':Nat}(I:Inv X b9 σ H s)(k:∀ b u,s.heap.get? b=some u→h'.get? b=some u):Inv X b9 σ H { s with heap:=h',toks:=t' }:=I.un (Un.kept k) (I.hok.kept k)
theorem Inv.laid{a:Addr}{o:HO}{t':Nat}(I:Inv X b9 σ H s)(k:∀ b u,s.heap.get? b=some u→h'.get? b=some u)(hp:s.heap.objs.size≤a)(new:ObjOk X.prog X.w (upd H a o) h' a o):
  Inv X b9 σ (upd H a o) { s with heap:=h',toks:=t' }:=I.un (Un.laid k hp (I.hok.fresh hp)) (I.hok.laid k hp new)
theorem Inv.write{x e:Addr}{o:HO}{t':Nat}(I:Inv X b9 σ H s)(mu:Mut (H x))(he:e=x∨H e=some (.own x))(k:∀ b u,b≠e→s.heap.get? b=some u→h'.get? b=some u)(heo:∃ u,h'.get? e=some u)(new:ObjOk X.prog X.w (upd H x o) h' x o):Inv X b9 σ (upd H x o) { s with heap:=h',toks:=t' }:=I.un (Un.write mu he k heo) (I.hok.write mu he k heo new)
theorem Inv.pins_of{pins':List (Addr×Obj)}(I:Inv X b9 σ H s)(h:∀ p∈pins',s.heap.get? p.1=some p.2∧H p.1=none∧p.1≠X.env.locals∧p.1∉X.fs∧∀ v,p.2.data ≠ .cell v):Inv X pins' σ H s :=
 ⟨I.ok,I.os,I.bare,I.base,I.loc,I.cell,I.free,I.freeC,fun p hp=>(List.mem_append.mp hp).elim (fun z=>I.pin p (List.mem_append_left _ z)) (h p),I.hok,I.len,I.hdh⟩
theorem QV{N:List Str}(hN:N.Nodup){i j:Nat}{x:Str}(a:N[i]?=some x)(b:N[j]?=some x):i=j:=by
 obtain⟨h1,e1⟩:=List.getElem?_eq_some_iff.mp a;obtain⟨h2,e2⟩:=List.getElem?_eq_some_iff.mp b;exact(List.getElem_inj hN).mp (e1.trans e2.symm)
theorem VH{M:Model}{A:Around}{E:Value→Shared→Prop}{i:Nat}{x:Str}{v:V}{u:Value}{Q:Unit→Shared→Prop}(I:Inv X b9 σ H s)(hN:X.N.Nodup)(hi:X.N[i]?=some x)(hx:Loc X.env.scope x)(r:RelV v u)(h:∀ s',Inv X b9 (σ.set i (some v)) H s'→(∃ a,Heap.SameBut a s.heap s'.heap∧(a=X.env.locals∨X.env.cells.lookup x=some a))→Q () s')(hf:X.fn x=true∨X.env.scope.names.lookup x=some .local:=by first | exact .inl rfl | exact .inr rfl | assumption):wpAny M A (storeName X.env x u) Q E s:=by
 obtain⟨m,hn,hl⟩:=id I.loc;have hcls:(X.env.scope.kind == .class || (X.env.scope.kind == .module&&X.env.locals != X.env.globals))=false:=by rw[I.ok.kind];rfl
 have hiσ:i<σ.length:=by rw[I.len];exact(List.getElem?_eq_some_iff.mp hi).1
 have cne:=I.cne;have tracked:∀{a:Addr} {h':Heap},(∃ o,s.heap.get? a=some o∧H a=none)→Heap.SameBut a s.heap h'→HOk X.prog X.w H h':=fun{a h'} ha hs b ob e=>by
  obtain⟨_,_,hfree⟩:=ha;refine(I.hok b ob e).stay (fun c w' hc q=>(hs.2 c ?_).trans q) (fun _ q=>q) fun _ _ q=>q;rintro rfl;rcases hc with rfl | hc
  ·rw[hfree] at e;cases e
  ·rw[hfree] at hc;cases hc
 rcases hx with hk | hk
 ·refine wpAny_storeName_local hk hn (fun h' hn' hs=>?_) hcls;obtain⟨oL,_,_,hoL,_⟩:=id hn;refine h _ ⟨I.ok,I.os,I.bare,⟨fun b o e n hb hx=>?_,fun b o e n hb hx=>?_,I.base.free,fun b o e hx=>?_,I.base.tups,I.base.frzs,I.base.tbls⟩,⟨_,hn',fun j y v' e1 e2 e3=>?_⟩,fun y c e=>?_,I.free,I.freeC,fun p hp=>?_,tracked ⟨oL,hoL,I.free⟩ hs,by simpa using I.len,I.hdh⟩ ⟨_,hs,.inl rfl⟩
  ·exact(hs.2 b (Nat.ne_of_lt (Nat.lt_of_lt_of_le (Heap.lt_size e) I.ok.above))).trans (I.base.keep b o e n hb hx)
  ·obtain⟨sl,e1⟩:=I.base.slot b o e n hb hx;exact⟨sl,(hs.2 b (Nat.ne_of_lt (Nat.lt_of_lt_of_le (Heap.lt_size e) I.ok.above))).trans e1⟩
  ·obtain⟨o',e1⟩:=I.base.there b o e hx;exact⟨o',(hs.2 b (Nat.ne_of_lt (Nat.lt_of_lt_of_le (Heap.lt_size e) I.ok.above))).trans e1⟩
  ·by_cases hj:j=i
   ·subst hj;rw[hi] at e1;cases e1;rw[List.getElem?_set_self hiσ] at e2;cases e2;exact⟨u,r,.inl ⟨hk,by simp⟩⟩
   ·rw[List.getElem?_set_ne (Ne.symm hj)] at e2;obtain⟨u',r',q⟩:=hl j y v' e1 e2 e3;refine⟨u',r',?_⟩;rcases q with ⟨k,e⟩ | ⟨k,c,e,z⟩
    ·refine .inl ⟨k,?_⟩
     have:y≠x:=fun e=>hj (QV hN e1 (e▸hi))
     simp[this,e]
    ·exact .inr ⟨k,c,e,z.sameBut hs (cne y c e)⟩
  ·obtain⟨w',z⟩:=I.cell y c e;exact⟨w',z.sameBut hs (cne y c e)⟩
  ·obtain⟨e,n,ne,nf,d⟩:=I.pin p hp;exact⟨(hs.2 p.1 ne).trans e,n,ne,nf,d⟩
 ·have hfn:X.fn x=true:=by
   rcases hf with z | z
   ·exact z
   ·rw[z] at hk;cases hk
  obtain⟨c,hc⟩:=I.ok.has x (.inl hk);obtain⟨w',z⟩:=I.cell x c hc;refine wpAny_storeName_cell I.ok.kind hk hc z (fun h' hc' hs=>?_);obtain⟨oc,hoc,hocd⟩:=id z;refine h { s with heap:=h' } ⟨I.ok,I.os,I.bare,⟨fun b o e n hb hx=>?_,fun b o e n hb hx=>?_,I.base.free,fun b o e hx=>?_,I.base.tups,I.base.frzs,I.base.tbls⟩,⟨m,hn.sameBut hs (Ne.symm (cne x c hc)),fun j y v' e1 e2 e3=>?_⟩,fun y c' e=>?_,I.free,I.freeC,fun p hp=>?_,tracked ⟨oc,hoc,I.freeC x c hc⟩ hs,by simpa using I.len,I.hdh⟩ ⟨c,hs,.inr hc⟩
  ·exact(hs.2 b (Nat.ne_of_lt (Nat.lt_of_lt_of_le (Heap.lt_size e) (I.ok.cab x c hfn hc)))).trans (I.base.keep b o e n hb hx)
  ·obtain⟨sl,e1⟩:=I.base.slot b o e n hb hx;exact⟨sl,(hs.2 b (Nat.ne_of_lt (Nat.lt_of_lt_of_le (Heap.lt_size e) (I.ok.cab x c hfn hc)))).trans e1⟩
  ·obtain⟨o',e1⟩:=I.base.there b o e hx;exact⟨o',(hs.2 b (Nat.ne_of_lt (Nat.lt_of_lt_of_le (Heap.lt_size e) (I.ok.cab x c hfn hc)))).trans e1⟩
  ·by_cases hj:j=i
   ·subst hj;rw[hi] at e1;cases e1;rw[List.getElem?_set_self hiσ] at e2;cases e2;exact⟨u,r,.inr ⟨.inl hk,c,hc,hc'⟩⟩
   ·rw[List.getElem?_set_ne (Ne.symm hj)] at e2;obtain⟨u',r',q⟩:=hl j y v' e1 e2 e3;refine⟨u',r',?_⟩;rcases q with q | ⟨k,c',e,z'⟩
    ·exact .inl q
    ·refine .inr ⟨k,c',e,z'.sameBut hs ?_⟩;rintro rfl;exact hj (QV hN e1 (I.ok.inj _ _ _ e hc▸hi))
  ·by_cases hcc:c'=c
   ·subst hcc;exact⟨_,hc'⟩
   ·obtain⟨w2,z2⟩:=I.cell y c' e;exact⟨w2,z2.sameBut hs hcc⟩
  ·obtain⟨e,n,ne,nf,d⟩:=I.pin p hp;refine⟨(hs.2 p.1 ?_).trans e,n,ne,nf,d⟩;intro q;rw[q,hoc] at e;have q':oc=p.2:=Option.some.inj e;exact d w' (by rw[←q'];exact hocd)
theorem Ub{M:Model}{A:Around}{E:Value→Shared→Prop}{i:Nat}{x:Str}{v:V}{u:Value}{Q:Unit→Shared→Prop}(I:Inv X b9 σ H s)(hN:X.N.Nodup)(hi:X.N[i]?=some x)(hx:Loc X.env.scope x)(r:RelV v u)(h:∀ s',Inv X b9 (σ.set i (some v)) H s'→Q () s')(hf:X.fn x=true∨X.env.scope.names.lookup x=some .local:=by first | exact .inl rfl | exact .inr rfl | assumption):wpAny M A (storeName X.env x u) Q E s :=
 VH I hN hi hx r (fun s' I' _=>h s' I') hf
theorem Inv.call'{s':Shared}{ch:List Addr}(I:Inv X b9 σ H s)(ho:s'.os=s.os)(u:Un (frs X.stack) ch H H' s.heap s'.heap)(hok:HOk X.prog X.w H' s'.heap)(hg:AllBare s'.gens)(hch:∀ b∈ch,(b∈X.ex∨X.s₀.heap.objs.size≤b)∧b≠X.env.locals∧(∀ x c,X.env.cells.lookup x=some c→c≠b)∧∀ p∈X.pn++b9,p.1≠b):Inv X b9 σ H' s':=by
 obtain⟨h',g',d',t',o'⟩:=s';have e:o'=s.os:=ho;subst e;exact I.call (g':=g') (t':=t') (d':=d') u hok hg hch
end
abbrev XK:=Value→Option Addr→Hp→Prop
abbrev St:=List (Option V)
abbrev VK:=V→Hp→Prop
abbrev TE:=St→Hp→VK→Prop
abbrev TT:=St→Hp→(Bool→Hp→Prop)→Prop
abbrev TA:=St→Hp→(List V→Hp→Prop)→Prop
structure Ends where
 nx:St→Hp→Prop
 rt:VK
 bk:St→Hp→Prop:=fun _ _=>False
 ct:St→Hp→Prop:=fun _ _=>False
abbrev TS:=Ends→St→Hp→Prop
def EP (X:Cx)(b9:List (Addr×Obj))(σ:St)(Q:VK)(u:Value)(s':Shared):Prop:=∃ v H',Inv X b9 σ H' s'∧RelV v u∧Q v H'
def TP (X:Cx)(b9:List (Addr×Obj))(σ:St)(Q:Bool→Hp→Prop)(b:Bool)(s':Shared):Prop:=∃ H',Inv X b9 σ H' s'∧Q b H'
def AP (X:Cx)(b9:List (Addr×Obj))(σ:St)(Q:List V→Hp→Prop)(us:List Value)(s':Shared):Prop:=∃ vs H',Inv X b9 σ H' s'∧Vals vs us∧Q vs H'
def SP (X:Cx)(b9:List (Addr×Obj))(D:Ends)(f:Flow)(s':Shared):Prop :=
 match f with
 | .next=>∃ σ' H',Inv X b9 σ' H' s'∧D.nx σ' H'
 | .brk=>∃ σ' H',Inv X b9 σ' H' s'∧D.bk σ' H'
 | .cont=>∃ σ' H',Inv X b9 σ' H' s'∧D.ct σ' H'
 | .ret u=>∃ v σ' H',Inv X b9 σ' H' s'∧RelV v u∧D.rt v H'
def PE (X:Cx)(e:Expr)(t:TE):Prop :=
 ∀(b9:List (Addr×Obj)) (s:Shared) (σ:St) (H:Hp) (Q:VK),Inv X b9 σ H s→t σ H Q→wpAny (model X.prog X.w) X.A (eval e X.env) (EP X b9 σ Q) X.xe s
def PT (X:Cx)(e:Expr)(t:TT):Prop :=
 ∀(b9:List (Addr×Obj)) (s:Shared) (σ:St) (H:Hp) (Q:Bool→Hp→Prop),Inv X b9 σ H s→t σ H Q→wpAny (model X.prog X.w) X.A (isTrue e X.env (eval e X.env)) (TP X b9 σ Q) X.xe s
def PW (X:Cx)(e:Expr)(t:TT):Prop :=
 ∀(whole:Sem Value) (b9:List (Addr×Obj)) (s:Shared) (σ:St) (H:Hp) (Q:Bool→Hp→Prop),Inv X b9 σ H s→t σ H Q→wpAny (model X.prog X.w) X.A (isTrue e X.env whole) (TP X b9 σ Q) X.xe s
theorem PW.pt{X:Cx}{e:Expr}{t:TT}(h:PW X e t):PT X e t:=h _
def PA (X:Cx)(es:List Expr)(t:TA):Prop :=
 ∀(pos:Pos) (b9:List (Addr×Obj)) (s:Shared) (σ:St) (H:Hp) (Q:List V→Hp→Prop),Inv X b9 σ H s→t σ H Q→wpAny (model X.prog X.w) X.A (spliced (backTo pos (zG es X.env))) (AP X b9 σ Q) X.xe s
def PS (X:Cx)(st:Stmt)(t:TS):Prop :=
 ∀(b9:List (Addr×Obj)) (s:Shared) (σ:St) (H:Hp) (D:Ends),Inv X b9 σ H s→t D σ H→wpAny (model X.prog X.w) X.A (exec st X.env) (SP X b9 D) X.xe s
def PSs (X:Cx)(st:List Stmt)(t:TS):Prop :=
 ∀(b9:List (Addr×Obj)) (s:Shared) (σ:St) (H:Hp) (D:Ends),Inv X b9 σ H s→t D σ H→wpAny (model X.prog X.w) X.A (execs st X.env) (SP X b9 D) X.xe s
theorem thn{α:Type}{t:Sem α}{Q Q':α→Shared→Prop}{M:Model}{A:Around}{E:Value→Shared→Prop}{s:Shared}(h:wpAny M A t Q E s)(hQ:∀ a s,Q a s→Q' a s):wpAny M A t Q' E s:=zC h hQ fun _ _ x=>x
section
variable {X:Cx}
theorem bin{a b:Expr}{ta tb:TE}(ha:PE X a ta)(hb:PE X b tb){b9:List (Addr×Obj)}{s:Shared}{σ:St}{H:Hp}{R:V→V→Hp→Prop}(I:Inv X b9 σ H s)(h:ta σ H fun x H1=>tb σ H1 fun y H2=>R x y H2){α:Type}{Q:α→Shared→Prop}{f:Value→Value→Sem α}(hf:∀ v u s2 x y H2,Inv X b9 σ H2 s2→RelV x v→RelV y u→R x y H2→wpAny (model X.prog X.w) X.A (f v u) Q X.xe s2):
  wpAny (model X.prog X.w) X.A (eval a X.env) (fun v s₁=>wpAny (model X.prog X.w) X.A (eval b X.env) (fun u s₂=>wpAny (model X.prog X.w) X.A (f v u) Q X.xe s₂) X.xe s₁) X.xe s:=by
 refine thn (ha b9 s σ H _ I h) fun v s1 ⟨x,H1,I1,r1,q1⟩=>?_;refine thn (hb b9 s1 σ H1 _ I1 q1) fun u s2 ⟨y,H2,I2,r2,q2⟩=>?_;exact hf v u s2 x y H2 I2 r1 r2 q2
def tVar (i:Nat):TE:=fun σ H Q=>∃ v,σ[i]?=some (some v)∧Q v H
def tC (v:V):TE:=fun _ H Q=>Q v H
theorem MK{i:Nat}{x:Str}{pos:Pos}(hN:X.N[i]?=some x)(hv:Vis X.env.scope x)(hd:(x==("__debug__":Str))=false:=by decide)(hcd:(x==("__classdict__":Str))=false:=by decide):PE X (.Name x pos) (tVar i):=by
 intro b9 s σ H Q I h;obtain⟨v,e,h⟩:=h;obtain⟨m,hn,hl⟩:=I.loc;obtain⟨u,r,l⟩:=hl i x v hN e hv;have fin:EP X b9 σ Q u s:=⟨v,H,I,r,h⟩;rcases l with ⟨hk,hm⟩ | ⟨hk,c,hc,hcell⟩
 ·exact wpAny_Name (wpAny_loadName_local I.ok.kind hk hn hm fin) hd
 ·rcases hk with hk | hk
  ·exact wpAny_Name (wpAny_loadName_cell I.ok.kind hk hc hcell fin) hd
  ·exact wpAny_Name (wpAny_loadName_free I.ok.kind hk hc hcell fin hcd) hd
theorem Z8{i j pos}:PE X (.Constant (.int i) j pos) (tC (.int i)):=fun _ _ _ H _ I h=>wpAny_Constant_int ⟨.int i,H,I.tok _,⟨_,rfl⟩,h⟩
theorem Yc{b j pos}:PE X (.Constant (.bool b) j pos) (tC (.bl b)):=fun _ _ _ H _ I h=>Constant_bool ⟨.bl b,H,I,rfl,h⟩
theorem YC{j pos}:PE X (.Constant .none j pos) (tC .non):=fun _ _ _ H _ I h=>Constant_none ⟨.non,H,I,rfl,h⟩
theorem YB{x j pos}:PE X (.Constant (.str x) j pos) (tC (.str x)):=fun _ _ _ H _ I h=>Calls.Constant_str ⟨.str x,H,I.tok _,⟨_,rfl⟩,h⟩
def Gl (X:Cx)(x:Str):Prop:=X.env.kindOf x=some .globalImplicit
theorem YY{E:Value→Shared→Prop}{b9:List (Addr×Obj)}{s:Shared}{σ:St}{H:Hp}{x:Str}{u:Value}{pos:Pos}{Q:Value→Shared→Prop}(I:Inv X b9 σ H s)(hg:Gl X x)(hm:X.mg x=some u)(h:Q u s)(hd:(x==("__debug__":Str))=false:=by decide):wpAny (model X.prog X.w) X.A (eval (.Name x pos) X.env) Q E s :=
 Calls.Name_function_global I.ok.kind hg (Calls.loadGlobal_global (by rw[I.ok.glob];exact I.mod.glob.keeps I.bk) hm h) hd
theorem YT{E:Value→Shared→Prop}{b9:List (Addr×Obj)}{s:Shared}{σ:St}{H:Hp}{x:Str}{u:Value}{pos:Pos}{Q:Value→Shared→Prop}(I:Inv X b9 σ H s)(hg:Gl X x)(hm:X.mg x=none)(hv:bootBuiltins x=some u)(h:Q u s)(hn:x≠"__name__":=by decide)(hd:(x==("__debug__":Str))=false:=by decide):wpAny (model X.prog X.w) X.A (eval (.Name x pos) X.env) Q E s:=by
 obtain⟨mb,h1,h2⟩:=I.mod.blt;exact Calls.Name_function_global I.ok.kind hg (Calls.loadGlobal_builtin (by rw[I.ok.glob];exact I.mod.glob.keeps I.bk) hm (by rw[I.ok.blt];exact h1.keeps I.bk) ((h2 x hn).trans hv) h) hd
theorem D9{x:Str}{v:V}{u:Value}{pos:Pos}(hg:Gl X x)(hm:X.mg x=some u)(r:RelV v u)(hd:(x==("__debug__":Str))=false:=by decide):PE X (.Name x pos) (tC v):=
 fun _ _ _ H _ I h=>YY I hg hm ⟨v,H,I,r,h⟩ hd
theorem Da{x:Str}{v:V}{u:Value}{pos:Pos}(hg:Gl X x)(hm:X.mg x=none)(hv:bootBuiltins x=some u)(r:RelV v u)(hn:x≠"__name__":=by decide)(hd:(x==("__debug__":Str))=false:=by decide):PE X (.Name x pos) (tC v):=
 fun _ _ _ H _ I h=>YT I hg hm hv ⟨v,H,I,r,h⟩ hn hd
variable {a b:Expr}{ta tb:TE}{pos:Pos}
def PC (X:Cx)(op:CmpOp)(a b:Expr)(t:TE):Prop :=
 ∀(b9:List (Addr×Obj)) (s:Shared) (σ:St) (H:Hp) (Q:VK),Inv X b9 σ H s→t σ H Q →
  wpAny (model X.prog X.w) X.A (eval a X.env) (fun v s₁=>wpAny (model X.prog X.w) X.A (eval b X.env) (fun u s₂=>wpAny (model X.prog X.w) X.A (compareOp op v u) (EP X b9 σ Q) X.xe s₂) X.xe s₁) X.xe s
theorem nobehind(b:Expr){op:CmpOp}(h:op ≠ .In)(h2:op ≠ .NotIn):behindInMarks op b=false:=by
 have e1:(op==CmpOp.In)=false:=by cases op <;> first | rfl | exact absurd rfl h
 have e2:(op==CmpOp.NotIn)=false:=by cases op <;> first | rfl | exact absurd rfl h2
 cases b <;> simp[behindInMarks,e1,e2]
def Rn(ta:TE):TE:=fun σ H Q=>ta σ H fun x H1=>Q (.bl (!decide (x = .non))) H1
theorem RelV.none_iff{x:V}{v:Value}(r:RelV x v):(v==Value.none)=decide (x = .non):=by
 cases x with
 | non=>cases r;rfl
 | bl _=>cases r;rfl
 | int _=>obtain⟨t,rfl⟩:=r;rfl
 | str _=>obtain⟨t,rfl⟩:=r;rfl
 | byt _=>obtain⟨t,rfl⟩:=r;rfl
 | flt _=>obtain⟨t,rfl⟩:=r;rfl
 | ref _=>cases r;rfl
 | ty _=>cases r;rfl
theorem Db{j pos'}(ha:PE X a ta):PC X .IsNot a (.Constant .none j pos') (Rn ta):=by
 intro b9 s σ H Q I h;refine thn (ha b9 s σ H _ I h) fun v s1 ⟨x,H1,I1,r1,q1⟩=>?_;exact Constant_none (isnot_none_gen ⟨.bl _,H1,I1,by rw[r1.none_iff];rfl,q1⟩)
def tB (t:TE):TT:=fun σ H Q=>t σ H fun x H1=>∃ c,x = .bl c∧Q c H1
theorem JU{op:CmpOp}{t:TE}(h:PC X op a b t)(h1:behindInMarks op b=false:=by first | exact nobehind _ (by decide) (by decide) | rfl):PT X (.Compare a [op] [b] pos) (tB t):=by
 intro b9 s σ H Q I hw;refine wpAny_isTrue_Compare1 (thn (h b9 s σ H _ I hw) fun v s1 h1=>thn h1 fun u s2 h2=>thn h2 fun c s3 ⟨x,H1,I1,r1,q1⟩=>?_) h1;obtain⟨d,rfl,q⟩:=q1;cases r1;exact wpAny_truthy_bool ⟨H1,I1,q⟩
theorem ZI{e:Expr}{t:TE}(h:PE X e t)(he:∀ whole,isTrue e X.env whole=(do let v ← whole;standAt e.pos;holding [v] (truthy v)):=by intro _;rfl):PT X e (tB t):=by
 intro b9 s σ H Q I hw;refine isTrue_plain (thn (h b9 s σ H _ I hw) fun v s1 ⟨x,H1,I1,r1,q1⟩=>?_) (he _);obtain⟨d,rfl,q⟩:=q1;cases r1;exact wpAny_truthy_bool ⟨H1,I1,q⟩
variable {tA tB':TT}{rest:List Expr}
def tAnd (t u:TT):TT:=fun σ H Q=>t σ H fun c H1=>if c=true then u σ H1 Q else Q false H1
def tOr (t u:TT):TT:=fun σ H Q=>t σ H fun c H1=>if c=true then Q true H1 else u σ H1 Q
def tNot (t:TT):TT:=fun σ H Q=>t σ H fun c H1=>Q (!c) H1
theorem NY(ha:PT X a tA):PW X (.BoolOp .And [a] pos) tA:=by
 intro wh b9 s σ H Q I h;refine isTrue_and (thn (ha b9 s σ H Q I h) fun c s1 e=>?_);cases c with
 | true=>exact isTrue_and_nil e
 | false=>exact e
theorem Vd(ha:PT X a tA):PW X (.BoolOp .Or [a] pos) tA:=by
 intro wh b9 s σ H Q I h;refine isTrue_or (thn (ha b9 s σ H Q I h) fun c s1 e=>?_);cases c with
 | false=>exact isTrue_or_nil e
 | true=>exact e
theorem Tz(ha:PT X a tA)(hb:PW X (.BoolOp .And (b::rest) pos) tB'):PW X (.BoolOp .And (a::b::rest) pos) (tAnd tA tB'):=by
 intro wh b9 s σ H Q I h;refine isTrue_and (thn (ha b9 s σ H _ I h) fun c s1 ⟨H1,I1,q1⟩=>?_);cases c with
 | true=>exact hb wh b9 s1 σ H1 Q I1 q1
 | false=>exact⟨H1,I1,q1⟩
theorem QI(ha:PT X a tA)(hb:PW X (.BoolOp .Or (b::rest) pos) tB'):PW X (.BoolOp .Or (a::b::rest) pos) (tOr tA tB'):=by
 intro wh b9 s σ H Q I h;refine isTrue_or (thn (ha b9 s σ H _ I h) fun c s1 ⟨H1,I1,q1⟩=>?_);cases c with
 | true=>exact⟨H1,I1,q1⟩
 | false=>exact hb wh b9 s1 σ H1 Q I1 q1
theorem ZM(ha:PT X a tA):PT X (.UnaryOp .Not a pos) (tNot tA):=by
 intro b9 s σ H Q I h;exact isTrue_not (ha b9 s σ H (fun c H1=>Q (!c) H1) I h)
def Rs(ta tb:TE):TE:=fun σ H Q=>ta σ H fun x H1=>∃ c,x = .bl c∧if c=true then tb σ H1 Q else Q (.bl false) H1
def Rm(ta:TE):TE:=fun σ H Q=>ta σ H fun x H1=>∃ c,x = .bl c∧Q (.bl (!c)) H1
theorem Vh{op}{t:TE}(h:PE X a t):PE X (.BoolOp op [a] pos) t:=fun b9 s σ H Q I hw=>BoolOp_one (h b9 s σ H Q I hw)
theorem JW(ha:PE X a ta)(hb:PE X (.BoolOp .And (b::rest) pos) tb):PE X (.BoolOp .And (a::b::rest) pos) (Rs ta tb):=by
 intro b9 s σ H Q I h;refine BoolOp_and (thn (ha b9 s σ H _ I h) fun v s1 ⟨x,H1,I1,r1,q1⟩=>?_);obtain⟨c,rfl,q1⟩:=q1;cases r1;refine wpAny_truthy_bool ?_;cases c with
 | true=>exact hb b9 s1 σ H1 Q I1 q1
 | false=>exact⟨.bl false,H1,I1,rfl,q1⟩
theorem TC(ha:PE X a ta):PE X (.UnaryOp .Not a pos) (Rm ta):=by
 intro b9 s σ H Q I h;refine UnaryOp_ (thn (ha b9 s σ H _ I h) fun v s1 ⟨x,H1,I1,r1,q1⟩=>?_);obtain⟨c,rfl,q1⟩:=q1;cases r1;exact not_of (wpAny_truthy_bool ⟨.bl (!c),H1,I1,rfl,q1⟩)
def tIf (t:TT)(ta tb:TE):TE:=fun σ H Q=>t σ H fun c H1=>if c=true then ta σ H1 Q else tb σ H1 Q
theorem Uj{c:Expr}(hc:PT X c tA)(ha:PE X a ta)(hb:PE X b tb):PE X (.IfExp c a b pos) (tIf tA ta tb):=by
 intro b9 s σ H Q I h;refine wpAny_IfExp (thn (hc b9 s σ H _ I h) fun d s1 ⟨H1,I1,q1⟩=>?_);cases d with
 | true=>exact ha b9 s1 σ H1 Q I1 q1
 | false=>exact hb b9 s1 σ H1 Q I1 q1
end
def SqL (K:Frag)(H:Hp)(a:Addr)(xs:List V):Prop :=
 Rd H a (.lst xs) ∨
  ∃(o:Obj) (bw:Array Value) (n:Nat),K.lookup a=some o∧o.cls = .type "list"∧o.dict=none∧o.data = .seq bw n∧bw.size≤zF∧Vals xs bw.toList
def SqT (K:Frag)(H:Hp)(a:Addr)(xs:List V):Prop :=
 Rd H a (.tup xs) ∨
  ∃(o:Obj) (bw:Array Value) (n:Nat),K.lookup a=some o∧o.cls = .type "tuple"∧o.data = .seq bw n∧bw.size≤zF∧Vals xs bw.toList
def absV:Value→Option V
 | .none=>some .non
 | .bool b=>some (.bl b)
 | .int i _=>some (.int i)
 | .str x _=>some (.str x)
 | .bytes b _=>some (.byt b)
 | .float b _=>some (.flt b)
 | .ref a=>some (.ref a)
 | .type n=>some (.ty n)
 | _=>none
theorem RelV.abs{x:V}{u:Value}(r:RelV x u):absV u=some x:=by
 cases x with
 | non=>cases r;rfl
 | bl _=>cases r;rfl
 | int _=>obtain⟨t,rfl⟩:=r;rfl
 | str _=>obtain⟨t,rfl⟩:=r;rfl
 | byt _=>obtain⟨t,rfl⟩:=r;rfl
 | flt _=>obtain⟨t,rfl⟩:=r;rfl
 | ref _=>cases r;rfl
 | ty _=>cases r;rfl
theorem RelV.inj{x y:V}{u:Value}(r:RelV x u)(q:RelV y u):x=y:=Option.some.inj (r.abs.symm.trans q.abs)
theorem Vals.inj:∀{xs ys:List V} {us:List Value},Vals xs us→Vals ys us→xs=ys
 | _,_,_,.nil,.nil=>rfl
 | _,_,_,.cons r t,.cons r' t'=>by rw[r.inj r',Vals.inj t t']
section
variable {X:Cx}{b9:List (Addr×Obj)}{σ:St}{H:Hp}{s:Shared}{a:Addr}{xs ys:List V}
theorem SqL.of{K:Frag}(h:H a=some (.lst xs)):SqL K H a xs:=.inl (.inl h)
theorem SqT.of{K:Frag}(h:H a=some (.tup xs)):SqT K H a xs:=.inl (.inl h)
theorem Inv.list(I:Inv X b9 σ H s)(h:SqL X.K H a xs):∃ bw:List Value,Vals xs bw∧PlainL s.heap a bw.toArray∧xs.length≤zF:=by
 rcases h with h | ⟨o,bw,n,hk,hc,hd,hs,hz,r⟩
 ·obtain⟨z,bw,n,r,e⟩:=h.ok I.hok;exact⟨bw,r,⟨_,n,e,rfl,rfl,rfl⟩,z⟩
 ·refine⟨bw.toList,r,⟨o,n,I.kIn a o hk,hc,hd,by simpa using hs⟩,?_⟩
  have e:=r.length;simp only[Array.length_toList] at e;lia
theorem Inv.tuple(I:Inv X b9 σ H s)(h:SqT X.K H a xs):∃ bw:List Value,Vals xs bw∧IsTup s.heap a bw.toArray∧xs.length≤zF:=by
 rcases h with h | ⟨o,bw,n,hk,hc,hs,hz,r⟩
 ·obtain⟨z,bw,r,p⟩:=h.ok I.hok;exact⟨bw,r,p,z⟩
 ·refine⟨bw.toList,r,⟨o,I.kIn a o hk,hc,n,by simpa using hs⟩,?_⟩
  have e:=r.length;simp only[Array.length_toList] at e;lia
theorem Inv.list_inj(I:Inv X b9 σ H s)(h:SqL X.K H a xs)(h':SqL X.K H a ys):xs=ys:=by
 obtain⟨bw,r,⟨o,n,e,_,_,d⟩,_⟩:=I.list h;obtain⟨its',r',⟨o',n',e',_,_,d'⟩,_⟩:=I.list h';rw[e] at e';cases e';rw[d] at d';injection d' with d1 _
 have:bw=its':=by simpa using congrArg Array.toList d1
 subst this;exact r.inj r'
end
abbrev Cx.wish(X:Cx)(E:Value→Shared→Prop):Cx:={ X with xe:=E }
abbrev Cx.nox(X:Cx):Cx:=X.wish fun _ _=>False
theorem Cx.Ok.wish{X:Cx}(ok:X.Ok)(E:Value→Shared→Prop):(X.wish E).Ok :=
 ⟨ok.mod,ok.kind,ok.glob,ok.blt,ok.above,ok.inj,ok.has,ok.cab,ok.hd,ok.frames,ok.stk,ok.exf,ok.bs,ok.bsz,ok.noex,ok.exfs,ok.funs,ok.frf⟩
theorem Cx.Ok.unwish{X:Cx}{E:Value→Shared→Prop}(ok:(X.wish E).Ok):X.Ok :=
 ⟨ok.mod,ok.kind,ok.glob,ok.blt,ok.above,ok.inj,ok.has,ok.cab,ok.hd,ok.frames,ok.stk,ok.exf,ok.bs,ok.bsz,ok.noex,ok.exfs,ok.funs,ok.frf⟩
section
variable {X:Cx}{b9:List (Addr×Obj)}{σ:St}{H:Hp}{s:Shared}{E:Value→Shared→Prop}
theorem Inv.wish(I:Inv X b9 σ H s)(E:Value→Shared→Prop):Inv (X.wish E) b9 σ H s:=⟨I.ok.wish E,I.os,I.bare,I.base,I.loc,I.cell,I.free,I.freeC,I.pin,I.hok,I.len,I.hdh⟩
theorem Inv.unwish(I:Inv (X.wish E) b9 σ H s):Inv X b9 σ H s:=⟨I.ok.unwish,I.os,I.bare,I.base,I.loc,I.cell,I.free,I.freeC,I.pin,I.hok,I.len,I.hdh⟩
theorem SP.unwish{D:Ends}{f:Flow}{s':Shared}(h:SP (X.wish E) b9 D f s'):SP X b9 D f s':=by
 cases f with
 | next=>obtain⟨σ',H',I,q⟩:=h;exact⟨σ',H',I.unwish,q⟩
 | brk=>obtain⟨σ',H',I,q⟩:=h;exact⟨σ',H',I.unwish,q⟩
 | cont=>obtain⟨σ',H',I,q⟩:=h;exact⟨σ',H',I.unwish,q⟩
 | ret u=>obtain⟨v,σ',H',I,r,q⟩:=h;exact⟨v,σ',H',I.unwish,r,q⟩
theorem PSs.nox{st:List Stmt}{t:TS}(h:PSs X.nox st t):PSs X st t:=fun b9 s σ H D I hw =>
 zC (h b9 s σ H D (I.wish _) hw) (fun _ _ q=>q.unwish) fun _ _ z=>False.elim z
end
section
variable {X:Cx}{st:Stmt}{rest:List Stmt}{t u:TS}{e:Expr}{te:TE}{pos:Pos}
def DQ:TS:=fun D σ H=>D.nx σ H
def tSeq (t u:TS):TS:=fun D σ H=>t { D with nx:=u D } σ H
theorem Zp:PSs X [] DQ:=fun _ _ σ H _ I h=>wpAny_execs_nil ⟨σ,H,I,h⟩
theorem Z5(h1:PS X st t)(h2:PSs X rest u):PSs X (st::rest) (tSeq t u):=by
 intro b9 s σ H D I h;refine wpAny_execs_cons (thn (h1 b9 s σ H { D with nx:=u D } I h) fun f s1 q=>?_)
 cases f with
 | next =>
  obtain⟨σ',H',I',q⟩:=q;exact h2 b9 s1 σ' H' D I' q
 | ret v=>exact q
 | brk=>exact q
 | cont=>exact q
theorem Z9(h1:PS X st t):PSs X [st] t:=by
 intro b9 s σ H D I h;refine wpAny_execs_cons (thn (h1 b9 s σ H D I h) fun f s1 q=>?_);cases f with
 | next=>exact wpAny_execs_nil q
 | ret v=>exact q
 | brk=>exact q
 | cont=>exact q
theorem Inv.quiet{b9 σ H s}(I:Inv X b9 σ H s):interactive X.env=false:=by simp[interactive,I.ok.kind]
def Rp(te:TE):TS:=fun D σ H=>te σ H fun _ H1=>D.nx σ H1
theorem ZB(he:PE X e te)(hs:swapsWith e none pos.line X.env=pure false:=by rfl):PS X (.Expr e pos) (Rp te):=by
 intro b9 s σ H D I h;exact wpAny_Expr_any (thn (he b9 s σ H _ I h) fun v s1 ⟨x,H1,I1,r1,q1⟩=>⟨σ,H1,I1,q1⟩) I.quiet hs
def tRet (te:TE):TS:=fun D σ H=>te σ H D.rt
theorem Zj(he:PE X e te):PS X (.Return (some e) pos) (tRet te):=by
 intro b9 s σ H D I h;exact wpAny_Return_some (thn (he b9 s σ H _ I h) fun v s1 ⟨x,H1,I1,r1,q1⟩=>⟨x,σ,H1,I1,r1,q1⟩)
def tIfS (c:TT)(t u:TS):TS:=fun D σ H=>c σ H fun b H1=>if b=true then t D σ H1 else u D σ H1
theorem ZJ{c:Expr}{a b:List Stmt}{tc:TT}(hc:PT X c tc)(ha:PSs X a t)(hb:PSs X b u):PS X (.If c a b pos) (tIfS tc t u):=by
 intro b9 s σ H D I h;refine wpAny_If (thn (hc b9 s σ H _ I h) fun d s1 ⟨H1,I1,q1⟩=>?_);cases d with
 | true=>exact ha b9 s1 σ H1 D I1 q1
 | false=>exact hb b9 s1 σ H1 D I1 q1
def To:TS:=fun _ _ _=>False
theorem JI{sts:List Stmt}:PSs X sts To:=fun _ _ _ _ _ _ h=>h.elim
end
abbrev TG:=V→St→Hp→(St→Hp→Prop)→Prop
abbrev TGs:=List V→St→Hp→(St→Hp→Prop)→Prop
def PG (X:Cx)(target:Expr)(t:TG):Prop :=
 ∀(b9:List (Addr×Obj)) (s:Shared) (σ:St) (H:Hp) (v:V) (u:Value) (Q:St→Hp→Prop),Inv X b9 σ H s→RelV v u→t v σ H Q →
  wpAny (model X.prog X.w) X.A (assign target X.env u) (fun _ s'=>∃ σ' H',Inv X b9 σ' H' s'∧Q σ' H') X.xe s
def PGs (X:Cx)(ts:List Expr)(t:TGs):Prop :=
 ∀(b9:List (Addr×Obj)) (s:Shared) (σ:St) (H:Hp) (vs:List V) (us:List Value) (Q:St→Hp→Prop),Inv X b9 σ H s→Vals vs us→t vs σ H Q →
  wpAny (model X.prog X.w) X.A (assignInOrder ((assignEach ts X.env).map (·.2)) us) (fun _ s'=>∃ σ' H',Inv X b9 σ' H' s'∧Q σ' H') X.xe s
section
variable {X:Cx}{pos:Pos}
def Nl(i:Nat):TG:=fun v σ H Q=>Q (σ.set i (some v)) H
theorem Zg{i:Nat}{x:Str}(hN:X.N.Nodup)(hi:X.N[i]?=some x)(hx:Loc X.env.scope x)(hf:X.fn x=true∨X.env.scope.names.lookup x=some .local:=by first | exact .inl rfl | exact .inr rfl | assumption):PG X (.Name x pos) (Nl i):=by
 intro b9 s σ H v u Q I r h;exact wpAny_assign_Name (Ub I hN hi hx r (fun s' I'=>⟨_,H,I',h⟩) hf)
def gNil:TGs:=fun vs σ H Q=>vs=[]∧Q σ H
def RO(t:TG)(u:TGs):TGs:=fun vs σ H Q=>∃ v r,vs=v::r∧t v σ H fun σ' H'=>u r σ' H' Q
theorem Qj:PGs X [] gNil:=by
 intro b9 s σ H vs us Q I r h;obtain⟨e,h⟩:=h;subst e;cases r;exact assignInOrder_nil ⟨σ,H,I,h⟩
theorem J8{e:Expr}{es:List Expr}{t:TG}{u:TGs}(h1:PG X e t)(h2:PGs X es u)(hs:(assignEach (e::es) X.env).map (·.2)=assign e X.env::(assignEach es X.env).map (·.2):=by rfl):PGs X (e::es) (RO t u):=by
 intro b9 s σ H vs us Q I r h;obtain⟨v,vr,e1,h⟩:=h;subst e1;cases r with
 | cons r rr =>
  rw[hs];refine assignInOrder_cons (thn (h1 b9 s σ H _ _ _ I r h) fun _ s1 ⟨σ1,H1,I1,q1⟩=>?_);exact h2 b9 s1 σ1 H1 _ _ Q I1 rr q1
def gTup (K:Frag)(n:Nat)(t:TGs):TG:=fun v σ H Q=>∃ a xs,v = .ref a∧SqT K H a xs∧xs.length=n∧t xs σ H Q
theorem MJ{es:List Expr}{k:Nat}{t:TGs}{n:Nat}(hc:True=True)(h:PGs X es t)(hn:(assignEach es X.env).length=n:=by rfl)(hst:(assignEach es X.env).findIdx? (·.1)=none:=by rfl):PG X (.Tuple es k pos) (gTup X.K n t):=by
 intro b9 s σ H v u Q I r hw;obtain⟨a,xs,e1,hq,hl,hw⟩:=hw;subst e1;cases r;obtain⟨bw,rv,ht,hz⟩:=I.tuple hq;refine VE I.hdS ht (by simp[hn,←hl,rv.length]) hst fun h' hx=>?_
 have I1:Inv X b9 σ H { s with heap:=h' }:=I.kept (t':=s.toks) fun b o e=>hx b o (Nat.ne_of_lt (Heap.lt_size e)) e
 exact h b9 _ σ H xs _ Q I1 (by simpa using rv) hw
def tAsg (te:TE)(g:TG):TS:=fun D σ H=>te σ H fun x H1=>g x σ H1 D.nx
theorem TB{tg e:Expr}{te:TE}{g:TG}(he:PE X e te)(hg:PG X tg g)(hs:swapsWithSole [tg] e pos.line X.env=pure false:=by rfl)(hw:swappedStores [tg] e X.env=pure none:=by rfl)(h1:(assignEach [tg] X.env).map (·.2)=[assign tg X.env]:=by rfl):PS X (.Assign [tg] e pos) (tAsg te g):=by
 intro b9 s σ H D I h;refine wpAny_Assign_stores (thn (he b9 s σ H _ I h) fun v s1 ⟨x,H1,I1,r1,q1⟩=>?_) hs hw;rw[h1];exact thn (hg b9 s1 σ H1 x v _ I1 r1 q1) fun _ s2 q=>q
theorem Zu{i:Nat}{x:Str}{e:Expr}{te:TE}{pos':Pos}(hN:X.N.Nodup)(hi:X.N[i]?=some x)(hx:Loc X.env.scope x)(he:PE X e te)(hs:swapsWith e (some (.Name x pos')) pos.line X.env=pure false:=by rfl)(hf:X.fn x=true∨X.env.scope.names.lookup x=some .local:=by first | exact .inl rfl | exact .inr rfl | assumption):
  PS X (.Assign [.Name x pos'] e pos) (tAsg te (Nl i)):=by
 intro b9 s σ H D I h;refine wpAny_Assign_Name (thn (he b9 s σ H _ I h) fun v s1 ⟨y,H1,I1,r1,q1⟩=>?_) hs;exact Ub I1 hN hi hx r1 (fun s2 I2=>⟨_,H1,I2,q1⟩) hf
end
section
variable {X:Cx}{pos:Pos}
def Tn(c:TT)(tb:TS):TS:=fun D σ H=>∃ W:Nat→St→Hp→Prop,(∃ m,W m σ H)∧∀ m σ H,W m σ H →
 c σ H fun b H1=>if b=true then ∃ N:St→Hp→Prop,(∀ σ' H',N σ' H'→∃ m',m'<m∧W m' σ' H')∧tb { D with nx:=N,ct:=N,bk:=D.nx } σ H1 else D.nx σ H1
theorem Ug{c:Expr}{body:List Stmt}{tc:TT}{tb:TS}(hp:PassesOwn (model X.prog X.w) X.A X.env X.xe)(hc:PT X c tc)(hb:PSs X body tb):PS X (.While c body [] pos) (Tn tc tb):=by
 intro b9 s σ H D I h;obtain⟨W,⟨m0,w0⟩,turn⟩:=h;refine wpAny_While (codeAny_whileLoop (fun n s'=>∃ σ' H',Inv X b9 σ' H' s'∧W n σ' H') ?_ m0 ⟨σ,H,I,w0⟩);rintro n s1 ⟨σ1,H1,I1,w1⟩;refine wpAny_passesOwn hp (thn (hc b9 s1 σ1 H1 _ I1 (turn n σ1 H1 w1)) fun b s2 ⟨H2,I2,q2⟩=>?_);cases b with
 | true =>
  obtain⟨N,hN,q2⟩:=q2;rw[if_pos rfl];refine wpAny_passesOwn hp (thn (hb b9 s2 σ1 H2 _ I2 q2) fun f s3 q3=>?_);cases f with
  | next =>
   obtain⟨σ3,H3,I3,n3⟩:=q3;obtain⟨m',hm,w3⟩:=hN σ3 H3 n3;exact⟨m',hm,σ3,H3,I3,w3⟩
  | cont =>
   obtain⟨σ3,H3,I3,n3⟩:=q3;obtain⟨m',hm,w3⟩:=hN σ3 H3 n3;exact⟨m',hm,σ3,H3,I3,w3⟩
  | brk=>exact q3
  | ret v=>exact q3
 | false =>
  rw[if_neg Bool.false_ne_true];exact wpAny_execs_nil ⟨σ1,H2,I2,q2⟩
end
structure It where
 go:Nat→Hp→Prop
 yld:Nat→Hp→V→Hp→Prop
 stop:Nat→Hp→Prop
 nd:Bool
def FpOk (X:Cx)(b9:List (Addr×Obj))(H:Hp)(b:Addr):Prop :=
 H b=none∧b≠X.env.locals∧b∉X.fs∧(b∈X.ex∨X.s₀.heap.objs.size≤b)∧(∀ x c,X.env.cells.lookup x=some c→c≠b)∧∀ p∈X.pn++b9,p.1≠b
theorem Inv.fpOk{X:Cx}{b9:List (Addr×Obj)}{σ:St}{H H':Hp}{s:Shared}{b:Addr}(I:Inv X b9 σ H s)(hb:s.heap.objs.size≤b)(hn:H' b=none):FpOk X b9 H' b:=by
 refine⟨hn,Nat.ne_of_gt (Nat.lt_of_lt_of_le I.lt hb),I.nofs hb,.inr (Nat.le_trans I.sz hb),fun x c e z=>?_,fun p hp z=>?_⟩
 ·obtain⟨v,q⟩:=I.cell x c e;exact absurd (Nat.lt_of_lt_of_le q.lt (by rw[z];exact hb)) (Nat.lt_irrefl _)
 ·exact absurd (Nat.lt_of_lt_of_le (Heap.lt_size (I.pin p hp).1) (by rw[z];exact hb)) (Nat.lt_irrefl _)
structure Turn(P:Program)(w:World)(K:Frag)(tg:Expr)(J:It)(fp:List Addr)(it:Addr)(tn:Nat→Heap→Prop):Prop where
 mem:it∈fp
 obj:∀ i h,tn i h→∀ b∈fp,∃ o,h.get? b=some o∧∀ v,o.data ≠ .cell v
 keep:∀ i h h',tn i h→(∀ b∈fp,∀ o,h.get? b=some o→h'.get? b=some o)→tn i h'
 item:∀(X:Cx),X.prog=P→X.w=w→X.K=K→(J.nd=true→X.calm=true)→∀(i:Nat) (b9:List (Addr×Obj)) (s:Shared) (σ:St) (H:Hp) (E:Value→Shared→Prop),Inv X b9 σ H s→(∀ b∈fp,FpOk X b9 H b)→tn i s.heap→J.go i H →
  wpAny (model P w) X.A (pyNext (.ref it)) (fun r s1=>∃ u,r=some u ∧
   wpAny (model P w) X.A (letOwnedTupleGo tg (.ref it) u) (fun _ s2=>∃ x H',Inv X b9 σ H' s2∧RelV x u∧J.yld i H x H'∧tn (i+1) s2.heap∧∀ b∈fp,H' b=none) E s1) E s
 done:∀(X:Cx),X.prog=P→X.w=w→X.K=K→(J.nd=true→X.calm=true)→∀(i:Nat) (b9:List (Addr×Obj)) (s:Shared) (σ:St) (H:Hp) (E:Value→Shared→Prop),Inv X b9 σ H s→(∀ b∈fp,FpOk X b9 H b)→tn i s.heap→J.stop i H →
  wpAny (model P w) X.A (pyNext (.ref it)) (fun r s1=>r=none∧Inv X b9 σ H s1) E s
 self:∀(A:Around) (i:Nat) (s:Shared) (Q:Value→Shared→Prop) (E:Value→Shared→Prop),tn i s.heap→Q (.ref it) s→wpAny (model P w) A (pyIter (.ref it)) Q E s
abbrev TI:=St→Hp→(It→Hp→Prop)→Prop
def PIE (X:Cx)(b9:List (Addr×Obj))(σ:St)(tg:Expr)(R:It→Hp→Prop)(itv:Value)(s2:Shared):Prop :=
 ∃(it:Addr) (fp:List Addr) (tn:Nat→Heap→Prop) (J:It) (H':Hp),itv = .ref it∧Inv X b9 σ H' s2∧Turn X.prog X.w X.K tg J fp it tn∧tn 0 s2.heap∧(∀ b∈fp,FpOk X b9 H' b)∧(J.nd=true→X.calm=true)∧R J H'
def PI (X:Cx)(tg iter:Expr)(wi:TI):Prop :=
 ∀(b9:List (Addr×Obj)) (s:Shared) (σ:St) (H:Hp) (R:It→Hp→Prop),Inv X b9 σ H s→wi σ H R →
  wpAny (model X.prog X.w) X.A (eval iter X.env) (fun v s1=>wpAny (model X.prog X.w) X.A (pyIter v) (PIE X b9 σ tg R) X.xe s1) X.xe s
theorem WC{M:Model}{A:Around}{E:Value→Shared→Prop}{s:Shared}{tg:Expr}{it:Addr}{u:Value}{o:Obj}{n:String}{vs:Array Value}{Q:Unit→Shared→Prop}(ho:s.heap.get? it=some o)(hc:o.cls = .type n)(hd:o.data = .fields vs)(hn:["enumerate","zip","dict_itemiterator","dict_reverseitemiterator","odict_iterator","itertools.zip_longest","itertools.pairwise"].contains n=false)(hQ:Q () s):wpAny M A (letOwnedTupleGo tg (.ref it) u) Q E s:=by
 unfold letOwnedTupleGo;cases tg <;> first
  | exact zB hQ
  | (cases u <;> first
    | exact zB hQ
    | (refine zA (wpAny_load ho ?_)
       rw[hc,hd];show wpAny M A (if(["enumerate","zip","dict_itemiterator","dict_reverseitemiterator","odict_iterator","itertools.zip_longest","itertools.pairwise"].contains n&&vs[0]?==some (rawInt _))=true then _ else _) Q E s;rw[if_neg (by intro h;rw[hn,Bool.false_and] at h;cases h)]
       exact zB hQ))
def Itl (K:Frag)(a:Addr):It :=
 ⟨fun i H=>∃ xs x,SqL K H a xs∧xs[i]?=some x,fun i H x H'=>H'=H∧∀ xs,SqL K H a xs→xs[i]?=some x,fun i H=>∃ xs,SqL K H a xs∧xs.length≤i,false⟩
def Itr (lo:Int)(n:Nat):It:=⟨fun i _=>i<n,fun i H x H'=>H'=H∧x = .int (lo+i),fun i _=>n≤i,true⟩
theorem WV{P:Program}{w:World}{K:Frag}{tg:Expr}(a it:Addr):Turn P w K tg (Itl K a) [it] it (fun i h=>h.IsListIter it a i) where
 mem:=by simp
 obj:=fun i h st b hb=>by
  have e:b=it:=by simpa using hb
  subst e;obtain⟨o,e,c,d⟩:=st;exact⟨o,e,fun v z=>by rw[d] at z;cases z⟩
 keep:=fun i h h' st k=>st.at fun o e=>k it (by simp) o e
 item:=by
  intro X hP hw hK hc i b9 s σ H E I hf st hg;subst hP hw hK;obtain⟨xs,x,hq,hx⟩:=hg;obtain⟨bw,rv,p,hz⟩:=I.list hq;obtain⟨u,hu,ru⟩:=rv.get hx;obtain⟨f0,f1,f2,f3,f4,f5⟩:=hf it (by simp)
  refine wpAny_pyNext_list_item st p.isList (x:=u) (by simpa using hu) fun h' st' sb=>?_
  have I1:Inv X b9 σ H { s with heap:=h' }:=I.turned (t':=s.toks) (fun b o hb e=>(sb.2 b hb).trans e) f0 f1 f3 f4 f5
  obtain⟨o,e,c,d⟩:=id st';exact⟨u,rfl,WC (s:={ s with heap:=h' }) e c d (by decide) ⟨x,H,I1,ru,⟨rfl,fun ys hy=>by rw[I.list_inj hy hq];exact hx⟩,st',fun b hb=>(hf b hb).1⟩⟩
 done:=by
  intro X hP hw hK hc i b9 s σ H E I hf st hg;subst hP hw hK;obtain⟨xs,hq,hx⟩:=hg;obtain⟨bw,rv,p,hz⟩:=I.list hq;obtain⟨f0,f1,f2,f3,f4,f5⟩:=hf it (by simp)
  have hl:=rv.length;exact VS I.hdS st p.isList (by simp;lia) fun h' eb=>⟨rfl,I.turned (t':=s.toks) (fun b o hb e=>eb b o hb e) f0 f1 f3 f4 f5⟩
 self:=fun _ _ _ _ _ st h=>wpAny_pyIter_listiter st h
theorem Xj{P:Program}{w:World}{K:Frag}{tg:Expr}(it:Addr)(lo:Int)(n:Nat):Turn P w K tg (Itr lo n) [it] it (fun i h=>IsRangeIter h it (lo+(i:Nat)*1) ((n:Int)-(i:Nat)) 1) where
 mem:=by simp
 obj:=fun i h st b hb=>by
  have e:b=it:=by simpa using hb
  subst e;exact⟨_,st,fun v z=>by
   have z':Data.fields _=Data.cell v:=z;cases z'⟩
 keep:=fun i h h' st k=>k it (by simp) _ st
 item:=by
  intro X hP hw hK hc i b9 s σ H E I hf st hg;subst hP hw hK;obtain⟨f0,f1,f2,f3,f4,f5⟩:=hf it (by simp)
  have W:=Walks.range (prog:=X.prog) (w:=X.w) (I.ok.hd (hc rfl)) it lo 1 n;refine W.item i s _ _ hg st fun v h' tk hv st' kk=>?_;obtain⟨t,rfl⟩:=hv;have I1:Inv X b9 σ H { s with heap:=h',toks:=tk }:=I.turned (fun b o hb e=>kk b o (by simpa using hb) e) f0 f1 f3 f4 f5
  refine⟨_,rfl,WC (s:={ s with heap:=h',toks:=tk }) (n:="range_iterator") st' rfl rfl (by decide) ⟨.int (lo+i),H,I1,⟨t,?_⟩,⟨rfl,rfl⟩,st',fun b hb=>(hf b hb).1⟩⟩
  rw[Int.mul_one]
 done:=by
  intro X hP hw hK hc i b9 s σ H E I hf st hg;subst hP hw hK;obtain⟨f0,f1,f2,f3,f4,f5⟩:=hf it (by simp)
  exact wpAny_pyNext_range_end (I.ok.hd (hc rfl)) st (by have:n≤i:=hg;lia) fun h' eb=>⟨rfl,I.turned (t':=s.toks) (fun b o hb e=>eb b o hb e) f0 f1 f3 f4 f5⟩
 self:=fun _ _ _ _ _ st h=>wpAny_pyIter_rangeiter st h
section
variable {X:Cx}{tg:Expr}
def Tb(K:Frag)(tl:TE):TI:=fun σ H R=>tl σ H fun x H1=>∃ a,x = .ref a∧(∃ xs,SqL K H1 a xs)∧R (Itl K a) H1
theorem Zt{l:Expr}{tl:TE}(hl:PE X l tl):PI X tg l (Tb X.K tl):=by
 intro b9 s σ H R I h;refine thn (hl b9 s σ H _ I h) fun v s1 ⟨x,H1,I1,r1,q1⟩=>?_;obtain⟨a,e,⟨xs,hq⟩,q⟩:=q1;subst e;cases r1;obtain⟨bw,rv,p,hz⟩:=I1.list hq;refine wpAny_pyIter_list p.isList ?_;refine⟨s1.heap.objs.size,[s1.heap.objs.size],_,_,H1,rfl,I1.kept (t':=s1.toks) fun b o e=>Heap.get?_push_of_some _ e,WV a _,⟨_,Heap.get?_push_size _ rfl,rfl,rfl⟩,fun b hb=>?_,(fun z=>nomatch z),q⟩;have e:b=s1.heap.objs.size:=by simpa using hb
 subst e;exact I1.fpOk (Nat.le_refl _) (I1.hok.fresh (Nat.le_refl _))
theorem QH(hc:X.calm=true){b9 σ H s}{R:It→Hp→Prop}{E:Value→Shared→Prop}{lo hi:Int}{t u v:Tok}{tk:Nat}(I:Inv X b9 σ H s)(h1:-(2 ^ 62)≤lo)(h2:lo<2 ^ 62)(h3:-(2 ^ 62)≤hi)(h4:hi<2 ^ 62)(q:R (Itr lo (hi-lo).toNat) H):wpAny (model X.prog X.w) X.A (pyIter (.ref s.heap.objs.size)) (PIE X b9 σ tg R) E { s with heap:=s.heap.push { cls:=.type "range",data:=.fields #[.int lo t,.int hi u,.int 1 v] },toks:=tk }:=by
 refine wpAny_pyIter_range (IsRange.new ..) (small_one h1 h2 h3 h4) ?_;have I1:Inv X b9 σ H { s with heap:=s.heap.push { cls:=.type "range",data:=.fields #[.int lo t,.int hi u,.int 1 v] },toks:=tk }:=I.kept fun b o e=>Heap.get?_push_of_some _ e
 refine⟨(s.heap.push { cls:=.type "range",data:=.fields #[.int lo t,.int hi u,.int 1 v] }).objs.size,[(s.heap.push { cls:=.type "range",data:=.fields #[.int lo t,.int hi u,.int 1 v] }).objs.size],_,_,H,rfl,
  I1.kept (t':=tk) fun b o e=>Heap.get?_push_of_some _ e,Xj _ lo (hi-lo).toNat,?_,fun b hb=>?_,(fun _=>hc),q⟩
 ·have e1:lo+((0:Nat):Int)*1=lo:=by simp
  have e2:(((hi-lo).toNat:Nat):Int)-((0:Nat):Int)=Builtin.Range.rangeSize lo hi 1:=by rw[rangeSize_one];split <;> lia
  show IsRangeIter _ _ (lo+((0:Nat):Int)*1) ((((hi-lo).toNat:Nat):Int)-((0:Nat):Int)) 1;rw[e1,e2];exact Heap.get?_push_size _ rfl
 ·have e:b=(s.heap.push { cls:=.type "range",data:=.fields #[.int lo t,.int hi u,.int 1 v] }).objs.size:=by simpa using hb
  subst e;exact I1.fpOk (Nat.le_refl _) (I1.hok.fresh (Nat.le_refl _))
def RK(ta:TA):TI:=fun σ H R=>ta σ H fun vs H1=>∃ j:Int,vs=[.int j]∧-(2 ^ 62)≤j∧j<2 ^ 62∧R (Itr 0 j.toNat) H1
def RJ(ta:TA):TI:=fun σ H R=>ta σ H fun vs H1=>∃ i j:Int,vs=[.int i,.int j]∧(-(2 ^ 62)≤i∧i<2 ^ 62∧-(2 ^ 62)≤j∧j<2 ^ 62)∧R (Itr i (j-i).toNat) H1
theorem VN{a:Expr}{ta:TA}{p pos:Pos}(hg:Gl X "range")(hm:X.mg "range"=none)(ha:PA X [a] ta)(hs:zG [a] X.env=[(false,eval a X.env)]:=by rfl)(hc:X.calm=true:=by rfl):PI X tg (.Call (.Name "range" p) [a] [] pos) (RK ta):=by
 intro b9 s σ H R I h;refine Call_ (YT I hg hm boot_range (PyProof.Rows.callWith_type1 (thn (ha pos b9 s σ H _ I h) fun us s1 ⟨vs,H1,I1,r1,q1⟩=>?_) hs rfl));obtain⟨j,e,q1,q2,q⟩:=q1;subst e;cases r1 with
 | cons r rr =>
  cases rr;obtain⟨t,rfl⟩:=r;exact call_range_1 (QH hc I1 (by lia) (by lia) q1 q2 (by simpa using q))
theorem Ge{a b:Expr}{ta:TA}{p pos:Pos}(hg:Gl X "range")(hm:X.mg "range"=none)(ha:PA X [a,b] ta)(hs:zG [a,b] X.env=[(false,eval a X.env),(false,eval b X.env)]:=by rfl)(hs2:zG [b] X.env=[(false,eval b X.env)]:=by rfl)(hc:X.calm=true:=by rfl):
  PI X tg (.Call (.Name "range" p) [a,b] [] pos) (RJ ta):=by
 intro b9 s σ H R I h;refine Call_ (YT I hg hm boot_range (PyProof.Rows.callWith_type1 (thn (ha pos b9 s σ H _ I h) fun us s1 ⟨vs,H1,I1,r1,q1⟩=>?_) (by rw[hs,hs2]) (by rw[hs2];rfl)))
 obtain⟨i,j,e,⟨q1,q2,q3,q4⟩,q⟩:=q1;subst e;cases r1 with
 | cons r rr =>
  cases rr with
  | cons r' rr =>
   cases rr;obtain⟨t,rfl⟩:=r;obtain⟨t',rfl⟩:=r';exact call_range_2 (QH hc I1 q1 q2 q3 q4 q)
def tFor (wi:TI)(g:TG)(tb:TS):TS:=fun D σ H=>wi σ H fun J H1=>∃ W:Nat→Nat→St→Hp→Prop,(∃ m,W 0 m σ H1)∧∀ i m σ H,W i m σ H →
 (J.stop i H∧D.nx σ H)∨(J.go i H∧∃ N:St→Hp→Prop,(∀ σ' H',N σ' H'→∃ m',m'<m∧W (i+1) m' σ' H')∧∀ x H',J.yld i H x H'→g x σ H' fun σ2 H2=>tb { D with nx:=N,ct:=N,bk:=D.nx } σ2 H2)
def pinsAt(fp:List Addr)(h:Heap):List (Addr×Obj):=fp.filterMap fun b=>(h.get? b).map fun o=>(b,o)
theorem Jk{fp:List Addr}{h:Heap}{b:Addr}{o:Obj}(hb:b∈fp)(e:h.get? b=some o):(b,o)∈pinsAt fp h:=List.mem_filterMap.mpr ⟨b,hb,by rw[e];rfl⟩
theorem Gr{fp:List Addr}{h:Heap}{p:Addr×Obj}(hp:p∈pinsAt fp h):p.1∈fp∧h.get? p.1=some p.2:=by
 obtain⟨b,hb,e⟩:=List.mem_filterMap.mp hp;cases q:h.get? b with
 | none=>rw[q] at e;cases e
 | some o =>
  rw[q] at e;have e':(b,o)=p:=Option.some.inj e;subst e';exact⟨hb,q⟩
theorem Inv.pinned{b9 σ H s}{fp:List Addr}(I:Inv X b9 σ H s)(hf:∀ b∈fp,FpOk X b9 H b)(ho:∀ b∈fp,∃ o,s.heap.get? b=some o∧∀ v,o.data ≠ .cell v):Inv X (b9++pinsAt fp s.heap) σ H s :=
 I.pins_of fun p hp=>(List.mem_append.mp hp).elim (fun z=>I.pin p (List.mem_append_right _ z)) fun z=>by
  obtain⟨hb,e⟩:=Gr z;obtain⟨f0,f1,f2,_⟩:=hf p.1 hb;obtain⟨o,e',d⟩:=ho p.1 hb;rw[e] at e';cases e';exact⟨e,f0,f1,f2,d⟩
theorem Inv.unpinned{b9 pl:List (Addr×Obj)}{σ:St}{H:Hp}{s:Shared}(I:Inv X (b9++pl) σ H s):Inv X b9 σ H s:=I.pins_of fun p hp=>I.pin p (List.mem_append_right _ (List.mem_append_left _ hp))
theorem YR{iter:Expr}{body:List Stmt}{wi:TI}{g:TG}{tb:TS}{pos:Pos}(hp:PassesOwn (model X.prog X.w) X.A X.env X.xe)(_:True=True)(hi:PI X tg iter wi)(hg:PG X tg g)(hb:PSs X body tb)(hs:∀ x,foldedSetIterable iter X.env x=pure x:=by intro _;rfl):PS X (.For tg iter body [] pos) (tFor wi g tb):=by
 intro b9 s σ H D I h;refine wpAny_For (thn (hi b9 s σ H _ I h) fun v s1 h1=>thn h1 fun itv s2 h2=>?_) hs;obtain⟨it,fp,tn,J,H2,e,I2,T,st2,f2,hc,W,⟨m0,w0⟩,turn⟩:=h2;subst e;have stat:∀{H':Hp},(∀ b∈fp,H' b=none)→∀ b∈fp,FpOk X b9 H' b:=fun hn b hb=>⟨hn b hb,(f2 b hb).2⟩;refine codeAny_forLoop_any (fun n s'=>∃ i σ' H',Inv X b9 σ' H' s'∧tn i s'.heap∧(∀ b∈fp,H' b=none)∧W i n σ' H') ?_ m0 ⟨0,σ,H2,I2,st2,fun b hb=>(f2 b hb).1,w0⟩;rintro n s3 ⟨i,σ3,H3,I3,st3,fr3,w3⟩;rcases turn i n σ3 H3 w3 with ⟨stop,qn⟩ | ⟨go,N,hN,step⟩
 ·refine wpAny_passesOwn hp (thn (T.done X rfl rfl rfl hc i b9 s3 σ3 H3 X.xe I3 (stat fr3) st3 stop) fun r s4 ⟨hr,I4⟩=>?_);subst hr;exact wpAny_execs_nil ⟨σ3,H3,I4,qn⟩
 ·refine wpAny_passesOwn hp (thn (T.item X rfl rfl rfl hc i b9 s3 σ3 H3 X.xe I3 (stat fr3) st3 go) fun r s4 ⟨u,hr,h4⟩=>?_);subst hr;refine wpAny_passesOwn hp (thn h4 fun _ s5 ⟨x,H5,I5,r5,y5,st5,fr5⟩=>?_);have I5':=I5.pinned (stat fr5) (T.obj _ _ st5);refine wpAny_passesOwn hp (thn (hg _ s5 σ3 H5 x u _ I5' r5 (step x H5 y5)) fun _ s6 ⟨σ6,H6,I6,q6⟩=>?_);refine wpAny_passesOwn hp (thn (hb _ s6 σ6 H6 _ I6 q6) fun f s7 q7=>?_);have again:∀{σ7:St} {H7:Hp},Inv X (b9++pinsAt fp s5.heap) σ7 H7 s7→N σ7 H7→∃ m,m<n∧∃ i σ' H',Inv X b9 σ' H' s7∧tn i s7.heap∧(∀ b∈fp,H' b=none)∧W i m σ' H':=fun{σ7 H7} I7 n7=>by
   obtain⟨m',hm,w7⟩:=hN σ7 H7 n7;refine⟨m',hm,i+1,σ7,H7,I7.unpinned,T.keep _ _ _ st5 fun b hb o e=>(I7.pin (b,o) (List.mem_append_right _ (List.mem_append_right _ (Jk hb e)))).1,fun b hb=>?_,w7⟩;obtain⟨o,e,d⟩:=T.obj _ _ st5 b hb;exact(I7.pin (b,o) (List.mem_append_right _ (List.mem_append_right _ (Jk hb e)))).2.1
  cases f with
  | next=>obtain⟨σ7,H7,I7,n7⟩:=q7;exact again I7 n7
  | cont=>obtain⟨σ7,H7,I7,n7⟩:=q7;exact again I7 n7
  | brk=>obtain⟨σ7,H7,I7,q7⟩:=q7;exact⟨σ7,H7,I7.unpinned,q7⟩
  | ret v=>obtain⟨x7,σ7,H7,I7,r7,q7⟩:=q7;exact⟨x7,σ7,H7,I7.unpinned,r7,q7⟩
end
theorem Yz{K:Frag}{a:Addr}{xs:List V}{g:TG}{tb:TS}{D:Ends}{σ:St}{H:Hp}(Pv:Nat→St→Hp→Prop)(h0:Pv 0 σ H)(hl:∀ i σ H,i≤xs.length→Pv i σ H→SqL K H a xs)(hs:∀ i x σ H,xs[i]?=some x→Pv i σ H→g x σ H fun σ2 H2=>tb { D with nx:=Pv (i+1),ct:=Pv (i+1),bk:=D.nx } σ2 H2)(hd:∀ σ H,Pv xs.length σ H→D.nx σ H):
  ∃ W:Nat→Nat→St→Hp→Prop,(∃ m,W 0 m σ H)∧∀ i m σ H,W i m σ H →
   ((Itl K a).stop i H∧D.nx σ H)∨((Itl K a).go i H∧∃ N:St→Hp→Prop,(∀ σ' H',N σ' H'→∃ m',m'<m∧W (i+1) m' σ' H')∧∀ x H',(Itl K a).yld i H x H'→g x σ H' fun σ2 H2=>tb { D with nx:=N,ct:=N,bk:=D.nx } σ2 H2):=by
 refine⟨fun i m σ H=>m=xs.length-i∧i≤xs.length∧Pv i σ H,⟨xs.length,by simp,Nat.zero_le _,h0⟩,?_⟩
 rintro i m σ H ⟨rfl,hi,p⟩;have q:=hl i σ H hi p;by_cases hlt:i<xs.length
 ·refine .inr ⟨⟨xs,xs[i],q,by simp[hlt]⟩,Pv (i+1),fun σ' H' p'=>⟨xs.length-(i+1),by lia,rfl,hlt,p'⟩,fun x H' y=>?_⟩
  obtain⟨e,y⟩:=y;subst e;exact hs i x σ _ (y xs q) p
 ·have e:i=xs.length:=by lia
  subst e;exact .inl ⟨⟨xs,q,Nat.le_refl _⟩,hd σ H p⟩
theorem GY{lo:Int}{n:Nat}{g:TG}{tb:TS}{D:Ends}{σ:St}{H:Hp}(Pv:Nat→St→Hp→Prop)(h0:Pv 0 σ H)(hs:∀ i σ H,i<n→Pv i σ H→g (.int (lo+i)) σ H fun σ2 H2=>tb { D with nx:=Pv (i+1),ct:=Pv (i+1),bk:=D.nx } σ2 H2)(hd:∀ σ H,Pv n σ H→D.nx σ H):
  ∃ W:Nat→Nat→St→Hp→Prop,(∃ m,W 0 m σ H)∧∀ i m σ H,W i m σ H →
   ((Itr lo n).stop i H∧D.nx σ H)∨((Itr lo n).go i H∧∃ N:St→Hp→Prop,(∀ σ' H',N σ' H'→∃ m',m'<m∧W (i+1) m' σ' H')∧∀ x H',(Itr lo n).yld i H x H'→g x σ H' fun σ2 H2=>tb { D with nx:=N,ct:=N,bk:=D.nx } σ2 H2):=by
 refine⟨fun i m σ H=>m=n-i∧i≤n∧Pv i σ H,⟨n,by simp,Nat.zero_le _,h0⟩,?_⟩
 rintro i m σ H ⟨rfl,hi,p⟩;by_cases hlt:i<n
 ·refine .inr ⟨hlt,Pv (i+1),fun σ' H' p'=>⟨n-(i+1),by lia,rfl,hlt,p'⟩,fun x H' y=>?_⟩
  obtain⟨e,y⟩:=y;subst e y;exact hs i σ _ hlt p
 ·have e:i=n:=by lia
  subst e;exact .inl ⟨Nat.le_refl _,hd σ H p⟩
abbrev R2:=V→V→Hp→VK→Prop
def OpR (X:Cx)(f:Value→Value→Sem Value)(r:R2):Prop :=
 ∀(b9:List (Addr×Obj)) (s:Shared) (σ:St) (H:Hp) (x y:V) (v u:Value) (Q:VK),Inv X b9 σ H s→RelV x v→RelV y u→r x y H Q →
  wpAny (model X.prog X.w) X.A (f v u) (EP X b9 σ Q) X.xe s
def UnR (X:Cx)(f:Value→Sem Value)(r:V→Hp→VK→Prop):Prop :=
 ∀(b9:List (Addr×Obj)) (s:Shared) (σ:St) (H:Hp) (x:V) (v:Value) (Q:VK),Inv X b9 σ H s→RelV x v→r x H Q →
  wpAny (model X.prog X.w) X.A (f v) (EP X b9 σ Q) X.xe s
def JQ(X:Cx)(f:Value)(r:List V→Hp→VK→Prop):Prop :=
 ∀(b9:List (Addr×Obj)) (s:Shared) (σ:St) (H:Hp) (xs:List V) (us:List Value) (Q:VK),Inv X b9 σ H s→Vals xs us→r xs H Q →
  wpAny (model X.prog X.w) X.A (call f us) (EP X b9 σ Q) X.xe s
def tOp (r:R2)(ta tb:TE):TE:=fun σ H Q=>ta σ H fun x H1=>tb σ H1 fun y H2=>r x y H2 Q
def tUn (r:V→Hp→VK→Prop)(ta:TE):TE:=fun σ H Q=>ta σ H fun x H1=>r x H1 Q
def rI (C:Int→Int→Prop)(g:Int→Int→V):R2:=fun x y H Q=>∃ i j,x = .int i∧y = .int j∧C i j∧Q (g i j) H
def rI0 (g:Int→Int→V):R2:=fun x y H Q=>∃ i j,x = .int i∧y = .int j∧Q (g i j) H
def rU (g:Int→V):V→Hp→VK→Prop:=fun x H Q=>∃ i,x = .int i∧Q (g i) H
section
variable {X:Cx}{a b c:Expr}{ta tb tc:TE}{pos:Pos}
theorem binT(ha:PE X a ta)(hb:PE X b tb){b9:List (Addr×Obj)}{s:Shared}{σ:St}{H:Hp}{R:V→V→Hp→Prop}(I:Inv X b9 σ H s)(h:ta σ H fun x H1=>tb σ H1 fun y H2=>R x y H2){Q:Value→Shared→Prop}{f:Value→Value→Sem Value}(hf:∀ v u s2 x y H2,Inv X b9 σ H2 s2→RelV x v→RelV y u→R x y H2→wpAny (model X.prog X.w) X.A (f v u) Q X.xe s2):
  wpAny (model X.prog X.w) X.A (eval a X.env) (fun v s₁=>wpAny (model X.prog X.w) X.A (eval b X.env) (fun u s₂=>wpAny (model X.prog X.w) X.A (f v u) Q X.xe s₂) X.xe s₁) X.xe s:=by
 refine thn (ha b9 s σ H _ I h) fun v s1 ⟨x,H1,I1,r1,q1⟩=>?_;refine thn (hb b9 s1 σ H1 _ I1 q1) fun u s2 ⟨y,H2,I2,r2,q2⟩=>?_;exact hf v u s2 x y H2 I2 r1 r2 q2
theorem Yi{op:Operator}{r:R2}(ho:OpR X (binaryOp op) r)(ha:PE X a ta)(hb:PE X b tb):PE X (.BinOp a op b pos) (tOp r ta tb):=by
 intro b9 s σ H Q I h;exact wpAny_BinOp (binT ha hb I h fun v u s2 x y H2 I2 rx ry q=>ho b9 s2 σ H2 x y v u Q I2 rx ry q)
theorem ML{op:UnaryOp}{r:V→Hp→VK→Prop}(ho:UnR X (unaryOp op) r)(ha:PE X a ta):PE X (.UnaryOp op a pos) (tUn r ta):=by
 intro b9 s σ H Q I h;exact UnaryOp_ (thn (ha b9 s σ H _ I h) fun v s1 ⟨x,H1,I1,r1,q1⟩=>ho b9 s1 σ H1 x v Q I1 r1 q1)
theorem opI{f:Value→Value→Sem Value}{C:Int→Int→Prop}{g:Int→Int→Int}(rule:∀(i j:Int) (t u:Tok) (s:Shared) (Q:Value→Shared→Prop) (E:Value→Shared→Prop),C i j→Q (.int (g i j) s.toks) { s with toks:=s.toks+1 }→wpAny (model X.prog X.w) X.A (f (.int i t) (.int j u)) Q E s):
  OpR X f (rI C fun i j=>.int (g i j)):=by
 intro b9 s σ H x y v u Q I rx ry h;obtain⟨i,j,rfl,rfl,hc,q⟩:=h;obtain⟨t,rfl⟩:=rx;obtain⟨t',rfl⟩:=ry;exact rule i j t t' s _ _ hc ⟨.int (g i j),H,I.tok _,⟨_,rfl⟩,q⟩
theorem opI0{f:Value→Value→Sem Value}{g:Int→Int→Int}(rule:∀(i j:Int) (t u:Tok) (s:Shared) (Q:Value→Shared→Prop) (E:Value→Shared→Prop),Q (.int (g i j) s.toks) { s with toks:=s.toks+1 }→wpAny (model X.prog X.w) X.A (f (.int i t) (.int j u)) Q E s):
  OpR X f (rI0 fun i j=>.int (g i j)):=by
 intro b9 s σ H x y v u Q I rx ry h;obtain⟨i,j,rfl,rfl,q⟩:=h;obtain⟨t,rfl⟩:=rx;obtain⟨t',rfl⟩:=ry;exact rule i j t t' s _ _ ⟨.int (g i j),H,I.tok _,⟨_,rfl⟩,q⟩
theorem opB0{f:Value→Value→Sem Value}{g:Int→Int→Bool}(rule:∀(i j:Int) (t u:Tok) (s:Shared) (Q:Value→Shared→Prop) (E:Value→Shared→Prop),Q (.bool (g i j)) s→wpAny (model X.prog X.w) X.A (f (.int i t) (.int j u)) Q E s):
  OpR X f (rI0 fun i j=>.bl (g i j)):=by
 intro b9 s σ H x y v u Q I rx ry h;obtain⟨i,j,rfl,rfl,q⟩:=h;obtain⟨t,rfl⟩:=rx;obtain⟨t',rfl⟩:=ry;exact rule i j t t' s _ _ ⟨.bl (g i j),H,I,rfl,q⟩
def CPow (i j:Int):Prop:=0≤j∧j≤1000000∧i.natAbs<2 ^ 64
def CMul (i j:Int):Prop:=(-(2 ^ 64)<i∧i<2 ^ 64)∨(-(2 ^ 64)<j∧j<2 ^ 64)
theorem CMul.ok{i j:Int}(h:CMul i j):IntMulOk i j:=by
 rcases h with ⟨h1,h2⟩ | ⟨h1,h2⟩
 ·exact .of_left (intBits_le_64 h1 h2)
 ·exact .of_right (intBits_le_64 h1 h2)
theorem Js:OpR X (binaryOp .Add) (rI0 fun i j=>.int (i+j)):=opI0 fun _ _ _ _ _ _ _ q=>add_int q
theorem Vl:OpR X (binaryOp .Sub) (rI0 fun i j=>.int (i-j)):=opI0 fun _ _ _ _ _ _ _ q=>sub_int q
theorem MV:OpR X (binaryOp .Mult) (rI CMul fun i j=>.int (i*j)):=opI fun _ _ _ _ _ _ _ hc q=>mul_int q hc.ok
theorem Ji:OpR X (binaryOp .Mod) (rI (fun _ j=>0<j) fun i j=>.int (i % j)):=opI fun i j _ _ _ _ _ hc q=>by
 have h1:(0:Int)<j:=hc;exact mod_int' (by lia) (by rw[Int.fmod_eq_emod_of_nonneg i (by lia)];exact q)
theorem TF:OpR X (binaryOp .Pow) (rI CPow fun i j=>.int (i ^ j.toNat)):=opI fun _ _ _ _ _ _ _ hc q=>pow_int_small hc.1 hc.2.1 hc.2.2 q
theorem unI{f:Value→Sem Value}{g:Int→Int}(rule:∀(i:Int) (t:Tok) (s:Shared) (Q:Value→Shared→Prop) (E:Value→Shared→Prop),Q (.int (g i) s.toks) { s with toks:=s.toks+1 }→wpAny (model X.prog X.w) X.A (f (.int i t)) Q E s):
  UnR X f (rU fun i=>.int (g i)):=by
 intro b9 s σ H x v Q I rx h;obtain⟨i,rfl,q⟩:=h;obtain⟨t,rfl⟩:=rx;exact rule i t s _ _ ⟨.int (g i),H,I.tok _,⟨_,rfl⟩,q⟩
theorem J1:UnR X (unaryOp .USub) (rU fun i=>.int (-i)):=unI fun _ _ _ _ _ q=>neg_int q
end
def scal:V→V→Bool
 | .non,.non=>true | .non,.int _=>true | .int _,.non=>true | .non,.bl _=>true | .bl _,.non=>true | .non,.str _=>true | .str _,.non=>true
 | .int _,.int _=>true | .bl _,.bl _=>true | .str _,.str _=>true | .byt _,.byt _=>true
 | .int _,.str _=>true | .str _,.int _=>true | .bl _,.str _=>true | .str _,.bl _=>true
 | _,_=>false
def rEq:R2:=fun x y H Q=>scal x y=true∧Q (.bl (decide (x=y))) H
def rNe:R2:=fun x y H Q=>scal x y=true∧Q (.bl (!decide (x=y))) H
theorem YG{i j:Int}:decide (V.int i=V.int j)=(i==j):=by
 rw[Bool.eq_iff_iff];simp
theorem Nw{i j:Bool}:decide (V.bl i=V.bl j)=(i==j):=by
 rw[Bool.eq_iff_iff];simp
theorem WN{i j:Str}:decide (V.str i=V.str j)=(i==j):=by
 rw[Bool.eq_iff_iff];simp
theorem WO{i j:Array UInt8}:decide (V.byt i=V.byt j)=(i.toList==j.toList):=by
 rw[Bool.eq_iff_iff];cases i;cases j;simp
section
variable {X:Cx}{a b c:Expr}{ta tb tc:TE}{pos:Pos}
theorem Zw{b9 σ H s}{Q:VK}{k k':Bool}(I:Inv X b9 σ H s)(q:Q (.bl k) H)(e:k=k'):EP X b9 σ Q (.bool k') s:=by
 subst e;exact⟨.bl k,H,I,rfl,q⟩
theorem Uk:OpR X (compareOp .Eq) rEq:=by
 intro b9 s σ H x y v u Q I rx ry h;obtain⟨hs,q⟩:=h;cases x with
 | non =>
  cases rx;cases y with
  | non=>cases ry;exact PySem.EqNone.eq_none_none (Zw I q (by simp))
  | bl j=>cases ry;exact PySem.EqNone.eq_none_bool (Zw I q (by simp))
  | int j=>obtain⟨t',rfl⟩:=ry;exact PySem.EqNone.eq_none_int (Zw I q (by simp))
  | str j=>obtain⟨t',rfl⟩:=ry;exact PySem.EqNone.eq_none_str (Zw I q (by simp))
  | _=>exact absurd (show false=true from hs) Bool.false_ne_true
 | bl i =>
  cases rx;cases y with
  | non=>cases ry;exact PySem.EqNone.eq_bool_none (Zw I q (by simp))
  | bl j=>cases ry;exact eq_bool (Zw I q Nw)
  | str j=>obtain⟨t',rfl⟩:=ry;exact PySem.EqMixed.eq_bool_str (Zw I q (by simp))
  | _=>exact absurd (show false=true from hs) Bool.false_ne_true
 | int i =>
  obtain⟨t,rfl⟩:=rx;cases y with
  | non=>cases ry;exact PySem.EqNone.eq_int_none (Zw I q (by simp))
  | int j=>obtain⟨t',rfl⟩:=ry;exact eq_int (Zw I q YG)
  | str j=>obtain⟨t',rfl⟩:=ry;exact PySem.EqMixed.eq_int_str (Zw I q (by simp))
  | _=>exact absurd (show false=true from hs) Bool.false_ne_true
 | str i =>
  obtain⟨t,rfl⟩:=rx;cases y with
  | non=>cases ry;exact PySem.EqNone.eq_str_none (Zw I q (by simp))
  | bl j=>cases ry;exact PySem.EqMixed.eq_str_bool (Zw I q (by simp))
  | int j=>obtain⟨t',rfl⟩:=ry;exact PySem.EqMixed.eq_str_int (Zw I q (by simp))
  | str j=>obtain⟨t',rfl⟩:=ry;exact eq_str (Zw I q WN)
  | _=>exact absurd (show false=true from hs) Bool.false_ne_true
 | byt i =>
  obtain⟨t,rfl⟩:=rx;cases y with
  | byt j=>obtain⟨t',rfl⟩:=ry;exact PySem.W.eq_bytes (Zw I q WO)
  | _=>exact absurd (show false=true from hs) Bool.false_ne_true
 | _=>cases y <;> exact absurd (show false=true from hs) Bool.false_ne_true
theorem Wo:OpR X (compareOp .NotEq) rNe:=by
 intro b9 s σ H x y v u Q I rx ry h;obtain⟨hs,q⟩:=h;cases x with
 | non =>
  cases rx;cases y with
  | non=>cases ry;exact PySem.EqNone.ne_none_none (Zw I q (by simp))
  | bl j=>cases ry;exact PySem.EqNone.ne_none_bool (Zw I q (by simp))
  | int j=>obtain⟨t',rfl⟩:=ry;exact PySem.EqNone.ne_none_int (Zw I q (by simp))
  | str j=>obtain⟨t',rfl⟩:=ry;exact PySem.EqNone.ne_none_str (Zw I q (by simp))
  | _=>exact absurd (show false=true from hs) Bool.false_ne_true
 | bl i =>
  cases rx;cases y with
  | non=>cases ry;exact PySem.EqNone.ne_bool_none (Zw I q (by simp))
  | bl j=>cases ry;exact ne_bool (Zw I q (congrArg not Nw))
  | str j=>obtain⟨t',rfl⟩:=ry;exact PySem.EqMixed.ne_bool_str (Zw I q (by simp))
  | _=>exact absurd (show false=true from hs) Bool.false_ne_true
 | int i =>
  obtain⟨t,rfl⟩:=rx;cases y with
  | non=>cases ry;exact PySem.EqNone.ne_int_none (Zw I q (by simp))
  | int j=>obtain⟨t',rfl⟩:=ry;exact ne_int (Zw I q (congrArg not YG))
  | str j=>obtain⟨t',rfl⟩:=ry;exact PySem.EqMixed.ne_int_str (Zw I q (by simp))
  | _=>exact absurd (show false=true from hs) Bool.false_ne_true
 | str i =>
  obtain⟨t,rfl⟩:=rx;cases y with
  | non=>cases ry;exact PySem.EqNone.ne_str_none (Zw I q (by simp))
  | bl j=>cases ry;exact PySem.EqMixed.ne_str_bool (Zw I q (by simp))
  | int j=>obtain⟨t',rfl⟩:=ry;exact PySem.EqMixed.ne_str_int (Zw I q (by simp))
  | str j=>obtain⟨t',rfl⟩:=ry;exact ne_str (Zw I q (congrArg not WN))
  | _=>exact absurd (show false=true from hs) Bool.false_ne_true
 | byt i =>
  obtain⟨t,rfl⟩:=rx;cases y with
  | byt j=>obtain⟨t',rfl⟩:=ry;exact PySem.W.ne_bytes (Zw I q (congrArg not WO))
  | _=>exact absurd (show false=true from hs) Bool.false_ne_true
 | _=>cases y <;> exact absurd (show false=true from hs) Bool.false_ne_true
theorem VP:OpR X (compareOp .Lt) (rI0 fun i j=>.bl (decide (i<j))):=opB0 fun _ _ _ _ _ _ _ q=>lt_int q
theorem MW:OpR X (compareOp .LtE) (rI0 fun i j=>.bl (decide (i≤j))):=opB0 fun _ _ _ _ _ _ _ q=>le_int q
theorem DZ:OpR X (compareOp .Gt) (rI0 fun i j=>.bl (decide (j<i))):=opB0 fun _ _ _ _ _ _ _ q=>gt_int q
theorem nomark(b:Expr){op:CmpOp}(h:op ≠ .In:=by decide)(h2:op ≠ .NotIn:=by decide):behindInMarks op b=false:=by
 have e1:(op==CmpOp.In)=false:=by cases op <;> first | rfl | exact absurd rfl h
 have e2:(op==CmpOp.NotIn)=false:=by cases op <;> first | rfl | exact absurd rfl h2
 cases b <;> simp[behindInMarks,e1,e2]
theorem Jh{op:CmpOp}{r:R2}(ho:OpR X (compareOp op) r)(ha:PE X a ta)(hb:PE X b tb)(hm:behindInMarks op b=false):PE X (.Compare a [op] [b] pos) (tOp r ta tb):=by
 intro b9 s σ H Q I h;exact wpAny_Compare1 (binT ha hb I h fun v u s2 x y H2 I2 rx ry q=>ho b9 s2 σ H2 x y v u Q I2 rx ry q) hm
def Rk(t:TE):TT:=fun σ H Q=>t σ H fun x H'=>∃ k,x = .bl k∧Q k H'
theorem ZK{op:CmpOp}{r:R2}(ho:OpR X (compareOp op) r)(ha:PE X a ta)(hb:PE X b tb)(hm:behindInMarks op b=false):PT X (.Compare a [op] [b] pos) (Rk (tOp r ta tb)):=by
 intro b9 s σ H Q I h;refine wpAny_isTrue_Compare1 (thn (ha b9 s σ H _ I h) fun v s1 ⟨x,H1,I1,r1,q1⟩=>thn (hb b9 s1 σ H1 _ I1 q1) fun u s2 ⟨y,H2,I2,r2,q2⟩ =>
  thn (ho b9 s2 σ H2 x y v u _ I2 r1 r2 q2) fun c s3 ⟨z,H3,I3,r3,k,e,q3⟩=>?_) hm
 subst e;cases r3;exact wpAny_truthy_bool ⟨H3,I3,q3⟩
def Tu(r r':R2)(ta tb tc:TE):TE:=fun σ H Q=>ta σ H fun x H1=>tb σ H1 fun y H2=>r x y H2 fun z H3=>∃ k,z = .bl k ∧
 (if k=true then tc σ H3 fun w' H4=>r' y w' H4 Q else Q (.bl false) H3)
theorem MS{op op':CmpOp}{r r':R2}(ho:OpR X (compareOp op) r)(ho':OpR X (compareOp op') r')(ha:PE X a ta)(hb:PE X b tb)(hc:PE X c tc)(hm:lastMarks [op,op'] [b,c]=false:=by with_unfolding_all rfl):PE X (.Compare a [op,op'] [b,c] pos) (Tu r r' ta tb tc):=by
 intro b9 s σ H Q I h;refine Compare_chain (thn (ha b9 s σ H _ I h) fun v s1 ⟨x,H1,I1,r1,q1⟩=>chain_link (thn (hb b9 s1 σ H1 _ I1 q1) fun u s2 ⟨y,H2,I2,r2,q2⟩ =>
  thn (ho b9 s2 σ H2 x y v u _ I2 r1 r2 q2) fun d s3 ⟨z,H3,I3,r3,k,e,q3⟩=>?_)) hm
 subst e;cases r3;refine wpAny_truthy_bool ?_;cases k with
 | false=>exact ite_ff ⟨.bl false,H3,I3,rfl,q3⟩
 | true=>exact ite_tt (chain_last (thn (hc b9 s3 σ H3 _ I3 q3) fun w' s4 ⟨z',H4,I4,r4,q4⟩=>ho' b9 s4 σ H4 y z' u w' Q I4 r2 r4 q4))
theorem XQ:(zF:Nat)<2 ^ 63:=by rw[sizeLine_eq];decide
theorem Ua{x:V}{us:List Value}(r:Vals [x] us):∃ u,us=[u]∧RelV x u:=by
 cases r with
 | cons r1 r2=>cases r2;exact⟨_,rfl,r1⟩
theorem Mc{x y:V}{us:List Value}(r:Vals [x,y] us):∃ u w',us=[u,w']∧RelV x u∧RelV y w':=by
 cases r with
 | cons r1 r2 =>
  cases r2 with
  | cons r3 r4=>cases r4;exact⟨_,_,rfl,r1,r3⟩
end
structure ObjM(h:Heap)(x dx C:Addr)(mA:Str→Option Value):Prop where
 obj:h.get? x=some (instObj C dx)
 ns:h.Ns1 dx mA
 ne:dx≠x
theorem UB{h:Heap}{dx:Addr}{mA:Str→Option Value}(n:h.Ns1 dx mA):∃ od,h.get? dx=some od∧∀ name,lookIn name od=some (mA name):=by
 obtain⟨o,es,ep,ho,hd,hk,_,hm⟩:=n;refine⟨o,ho,fun name=>?_⟩;have e:=hm name;unfold nsFind findBy at e;rw[←Array.find?_toList] at e;unfold lookIn;rw[hd];dsimp only;split
 ·rename_i y q;rw[q] at e;exact congrArg some e
 ·rename_i q;rw[q] at e;have a:es.toList.any (·.refKey)=false:=by
   rw[List.any_eq_false];intro y hy;obtain⟨z,t,hkey⟩:=hk y (Array.mem_toList_iff.mp hy);simp[DictEntry.refKey,hkey]
  have a':¬ es.toList.any (·.refKey)=true:=by rw[a];exact Bool.false_ne_true
  rw[if_neg a'];exact congrArg some e
theorem ObjM.look{h:Heap}{x dx C:Addr}{mA:Str→Option Value}(I:ObjM h x dx C mA):∃ od,PySem.W.InstAt h x (instObj C dx) C (some od)∧∀ name,lookIn name od=some (mA name):=
 let ⟨od,ho,hl⟩:=UB I.ns
 ⟨od,⟨I.obj,rfl,rfl,ho⟩,hl⟩
section
variable {prog:Program}{w:World}{A:Around}{E:Value→Shared→Prop}{s:Shared}{K:Frag}{x dx C f:Addr}{mA:Str→Option Value}{name:Str}{v:Value}
theorem Dy{expr:Bool}{Q:Value→Shared→Prop}(X:K.In s.heap)(I:ObjM s.heap x dx C mA)(hg:plainGet K C name=true)(hh:hasDictIn K C=true)(ha:findIn K (.ref C) name=some none)(hv:mA name=some v)(hv':handedIn v=true)(h:Q v { s with toks:=s.toks+1 }):
  wpAny (model prog w) A (getAttr (.ref x) name expr) Q E s:=by
 obtain⟨od,J,hl⟩:=I.look;exact PySem.W.get_value X J (plainGet_of hg).1 (findObj_own hh ha rfl (by rw[hl,hv])) hv' h
theorem Nk{pl:Sem Bool}{Q:Value×List Value→Shared→Prop}(X:K.In s.heap)(I:ObjM s.heap x dx C mA)(hg:plainGet K C name=true)(hf:findIn K (.ref C) name=some (some (.ref f)))(ht:isFn K (.ref f)=true)(hv:mA name=none)(h:Q (.ref f,[.ref x]) s):
  wpAny (model prog w) A (getMethod (.ref x) name pl) Q E s:=by
 obtain⟨od,J,hl⟩:=I.look;exact PySem.W.method_fn X J (plainGet_of hg).1 (plainGet_of hg).2 hf (beq_iff_eq.mp ht) (by show(lookIn name od).map (·.isSome)=some false;rw[hl,hv];rfl) h
theorem NM{ns:List Str}{Q:Unit→Shared→Prop}(X:K.In s.heap)(I:ObjM s.heap x dx C mA)(hs:findIn K (.ref C) "__setattr__"=some (some (.builtin "object.__setattr__")))(hp:plainOver K C=true)(ht:takerIn K C name=some none)(hh:hasDictIn K C=true)(hw:PySem.Within mA ns)(hsz:ns.length≤zF)(h:∀ h',ObjM h' x dx C (fun y=>if y=name then some v else mA y)→Heap.SameBut dx s.heap h'→Q () { s with heap:=h',toks:=s.toks+2 }):
  wpAny (model prog w) A (setAttr (.ref x) name v) Q E s:=by
 obtain⟨od,J,hl⟩:=I.look;refine set_plain X J hs (PySem.W.osa_open (s:={ s with toks:=s.toks+1 }) (r:=none) X J hp ht fun b=>?_)
 obtain⟨cd,hc,hd'⟩:=PySem.W.any_some hh;have hx:s.heap.get? x=some ⟨.ref C,some dx,.plain,#[]⟩:=I.obj;refine zA (zB (zA (zA (wpAny_loadPart hx (zA (PySem.W.Looks.here (s:={ s with toks:=s.toks+1 }) (looks_clsIn X hc) ?_))))))
 rw[hd'];refine zB (a:=some dx) (zA (zB (zA ?_)));refine wpAny_nsSet1 (s:={ s with toks:=s.toks+1 }) I.ns fun h' hn2 hs2=>?_
 obtain⟨oD,esD,epD,hoD,hdD,hcD⟩:=hn2.count (PySem.Within.cons name v hw);refine zA (wpAny_lookBehind hoD (by rw[hdD];exact pastItsLine_dict (Nat.le_trans hcD (by rw[List.length_cons];lia))) ?_)
 exact zB (h _ ⟨(hs2.2 _ (Ne.symm I.ne)).trans I.obj,hn2,I.ne⟩ hs2)
theorem N8{R:Result→Shared→Prop}{vs:List Value}{kw:List (Str×Value)}(X:K.In s.heap)(hm:makesIn K C=true)(hi:findIn K (.ref C) "__init__"=some (some (.ref f)))(hf:PySem.W.typeIn K (.ref f)=some (.type "function"))(h:codeAny (model prog w) (A.under (.builtin "type.__call__" ⟨.ref C::vs,kw⟩)) (.call (.ref f) ⟨.ref (s.heap.objs.size+1)::vs,kw⟩) (InitBack (s.heap.objs.size+1) R)
   { s with heap:=(s.heap.push emptyDict).push (instObj C s.heap.objs.size) }):
  codeAny (model prog w) A (.call (.ref C) ⟨vs,kw⟩) R s:=by
 obtain⟨hh,g,d,t,os⟩:=s;exact PySem.W.make_core (PySem.W.makes_of X hm) (PySem.W.looks_findIn X hi) (fun self=>bind_fn X self hf) (.inl rfl) h
end
def putF (f:Str)(v:V):List (Str×V)→List (Str×V)
 | []=>[(f,v)]
 | (g,x)::r=>if g=f then(g,v)::r else(g,x)::putF f v r
theorem UN(f g:Str)(v:V):∀ fs:List (Str×V),(putF f v fs).lookup g=if g=f then some v else fs.lookup g
 | []=>by
  show List.lookup g [(f,v)]=_;by_cases h:g=f
  ·have hb:(g==f)=true:=beq_iff_eq.mpr h;simp only[List.lookup,hb,if_pos h]
  ·have hb:(g==f)=false:=beq_eq_false_iff_ne.mpr h;simp only[List.lookup,hb,if_neg h]
 | (k,x)::r=>by
  have ih:=UN f g v r;rw[show putF f v ((k,x)::r)=(if k=f then(k,v)::r else(k,x)::putF f v r) from rfl]
  by_cases hk:k=f
  ·rw[if_pos hk];by_cases h:g=k
   ·have hb:(g==k)=true:=beq_iff_eq.mpr h;simp only[List.lookup,hb,if_pos (h.trans hk)]
   ·have hb:(g==k)=false:=beq_eq_false_iff_ne.mpr h;simp only[List.lookup,hb,if_neg (fun e:g=f=>h (e.trans hk.symm))]
  ·rw[if_neg hk];by_cases h:g=k
   ·have hb:(g==k)=true:=beq_iff_eq.mpr h;simp only[List.lookup,hb,if_neg (fun e:g=f=>hk (h.symm.trans e))]
   ·have hb:(g==k)=false:=beq_eq_false_iff_ne.mpr h;simp only[List.lookup,hb];exact ih
theorem UD(f:Str)(v:V):∀ fs:List (Str×V),f∈(putF f v fs).map (·.1)∧∀ g,g∈fs.map (·.1)→g∈(putF f v fs).map (·.1)
 | []=>⟨by simp[putF],fun g h=>by simp at h⟩
 | (k,x)::r=>by
  obtain⟨i1,i2⟩:=UD f v r;rw[show putF f v ((k,x)::r)=(if k=f then(k,v)::r else(k,x)::putF f v r) from rfl]
  by_cases hk:k=f
  ·rw[if_pos hk];subst hk;exact⟨by simp,fun g h=>by simpa using h⟩
  ·rw[if_neg hk];refine⟨?_,fun g h=>?_⟩
   ·rw[List.map_cons];exact List.mem_cons_of_mem _ i1
   ·rw[List.map_cons] at h ⊢;rcases List.mem_cons.mp h with e | e
    ·exact List.mem_cons.mpr (.inl e)
    ·exact List.mem_cons_of_mem _ (i2 g e)
theorem UO(f:Str)(v:V):∀ fs:List (Str×V),(putF f v fs).length≤fs.length+1
 | []=>by simp[putF]
 | (k,x)::r=>by
  have ih:=UO f v r;rw[show putF f v ((k,x)::r)=(if k=f then(k,v)::r else(k,x)::putF f v r) from rfl]
  by_cases hk:k=f
  ·rw[if_pos hk,List.length_cons,List.length_cons];lia
  ·rw[if_neg hk,List.length_cons,List.length_cons];lia
theorem RelO.some_of{v:V}{o:Option Value}(r:RelO (some v) o):∃ u,o=some u∧RelV v u:=by
 cases o with
 | none=>exact(show False from r).elim
 | some u=>exact⟨u,rfl,r⟩
theorem RelO.none_of{o:Option Value}(r:RelO none o):o=none:=by
 cases o with
 | none=>rfl
 | some u=>exact(show False from r).elim
theorem VV{v:V}{u:Value}(r:RelV v u):handedIn u=true:=by
 cases v with
 | non=>cases (show u=Value.none from r);rfl
 | bl b=>cases (show u=Value.bool b from r);rfl
 | int i=>obtain⟨t,e⟩:=(show ∃ t,u=Value.int i t from r);cases e;rfl
 | str x=>obtain⟨t,e⟩:=(show ∃ t,u=Value.str x t from r);cases e;rfl
 | byt b=>obtain⟨t,e⟩:=(show ∃ t,u=Value.bytes b t from r);cases e;rfl
 | flt b=>obtain⟨t,e⟩:=(show ∃ t,u=Value.float b t from r);cases e;rfl
 | ref a=>cases (show u=Value.ref a from r);rfl
 | ty n=>cases (show u=Value.type n from r);rfl
section
variable {P:Program}{w:World}{H H':Hp}{h h':Heap}{a C dx:Addr}{fs fs':List (Str×V)}
theorem V1(hok:HOk P w H h)(e:H a=some (.ins C dx fs)):∃ mA,ObjM h a dx C mA∧(∀ f,RelO (fs.lookup f) (mA f))∧PySem.Within mA (fs.map (·.1))∧fs.length≤1000∧H dx=some (.own a):=by
 obtain⟨d,z,ne,ob,mA,n,r,q⟩:=(show ObjOk P w H h a (.ins C dx fs) from hok a _ e)
 exact⟨mA,⟨ob,n,ne⟩,r,q,z,d⟩
end
structure Cls(K:Frag)(C:Addr):Prop where
 pg:plainGet K C Str.empty=true
 hd:hasDictIn K C=true
 po:plainOver K C=true
 sa:findIn K (.ref C) "__setattr__"=some (some (.builtin "object.__setattr__"))
theorem Cls.get{K:Frag}{C:Addr}(c:Cls K C)(f:Str):plainGet K C f=true:=c.pg
def Yn(K:Frag)(C:Addr)(f:Str):Prop:=findIn K (.ref C) f=some none
theorem Yn.taker{K:Frag}{C:Addr}{f:Str}(n:Yn K C f):takerIn K C f=some none:=by
 unfold takerIn;rw[show findIn K (.ref C) f=some none from n]
 rfl
structure Meth(K:Frag)(C:Addr)(m:Str)(f:Addr):Prop where
 at_:findIn K (.ref C) m=some (some (.ref f))
 fn:isFn K (.ref f)=true
 kp:keepIn K (.ref f)=true
section
variable {X:Cx}{b9:List (Addr×Obj)}{σ:St}{H:Hp}{s:Shared}{a C dx:Addr}{fs:List (Str×V)}{f:Str}{v:V}{A:Around}{E:Value→Shared→Prop}
theorem XU{b:Bool}{Q:Value→Shared→Prop}(I:Inv X b9 σ H s)(e:H a=some (.ins C dx fs))(c:Cls X.K C)(n:Yn X.K C f)(l:fs.lookup f=some v)(h:∀ u s',Inv X b9 σ H s'→RelV v u→Q u s'):wpAny (model X.prog X.w) A (getAttr (.ref a) f b) Q E s:=by
 obtain⟨mA,O,r,_,_,_⟩:=V1 I.hok e;obtain⟨u,hu,ru⟩:=RelO.some_of (v:=v) (o:=mA f) (by rw[←l];exact r f)
 exact Dy I.kIn O (c.get f) c.hd n hu (VV ru) (h u _ (I.tok _) ru)
theorem U2{m:Str}{g:Addr}{pl:Sem Bool}{Q:Value×List Value→Shared→Prop}(I:Inv X b9 σ H s)(e:H a=some (.ins C dx fs))(c:Cls X.K C)(k:Meth X.K C m g)(l:fs.lookup m=none)(h:Q (.ref g,[.ref a]) s):wpAny (model X.prog X.w) A (getMethod (.ref a) m pl) Q E s:=by
 obtain⟨mA,O,r,_,_,_⟩:=V1 I.hok e;have hn:mA m=none:=RelO.none_of (by rw[←l];exact r m)
 exact Nk I.kIn O (c.get m) k.at_ k.fn hn h
theorem Xm{y:V}{u:Value}{Q:Unit→Shared→Prop}(I:Inv X b9 σ H s)(e:H a=some (.ins C dx fs))(c:Cls X.K C)(n:Yn X.K C f)(hl:fs.length<1000)(ry:RelV y u)(h:∀ s',Inv X b9 σ (upd H a (.ins C dx (putF f y fs))) s'→Q () s'):wpAny (model X.prog X.w) A (setAttr (.ref a) f u) Q E s:=by
 obtain⟨mA,O,r,wi,_,ho⟩:=V1 I.hok e;have hz:(fs.map (·.1)).length≤zF:=by rw[List.length_map,sizeLine_eq];lia
 refine NM I.kIn O c.sa c.po n.taker c.hd wi hz fun h' O' sb=>h _ ?_;have hd:∃ o,h'.get? dx=some o:=let ⟨o,_,_,e',_⟩:=O'.ns;⟨o,e'⟩
 refine I.write (x:=a) (e:=dx) (by rw[e];exact True.intro) (.inr ho) (fun b q hb z=>(sb.2 b hb).trans z) hd ?_
 refine⟨by rw[Z1 O.ne];exact ho,?_,O.ne,O'.obj,_,O'.ns,fun g=>?_,fun g hg=>?_⟩
 ·have:=UO f y fs;lia
 ·show RelO ((putF f y fs).lookup g) (if g=f then some u else mA g);rw[UN];by_cases q:g=f
  ·rw[if_pos q,if_pos q];exact ry
  ·rw[if_neg q,if_neg q];exact r g
 ·by_cases q:g=f
  ·rw[q];exact(UD f y fs).1
  ·refine(UD f y fs).2 g (wi g fun z=>hg ?_);show(if g=f then some u else mA g)=none;rw[if_neg q];exact z
theorem Inv.made(I:Inv X b9 σ H s):Inv X b9 σ (upd (upd H s.heap.objs.size (.own (s.heap.objs.size+1))) (s.heap.objs.size+1) (.ins C s.heap.objs.size []))
  { s with heap:=(s.heap.push emptyDict).push (instObj C s.heap.objs.size) }:=by
 have e1:(s.heap.push emptyDict).get? s.heap.objs.size=some emptyDict:=Heap.get?_push_size s.heap rfl;have e2:((s.heap.push emptyDict).push (instObj C s.heap.objs.size)).get? (s.heap.objs.size+1)=some (instObj C s.heap.objs.size):=by
  have:=Heap.get?_push_size (s.heap.push emptyDict) (o:=instObj C s.heap.objs.size) rfl
  rwa[Heap.size_push] at this
 have e3:(s.heap.push emptyDict).Ns s.heap.objs.size (fun _=>none):=⟨emptyDict,#[],_,e1,rfl,(fun e he=>absurd he (by simp)),fun _=>rfl⟩
 have I1:=I.laid (a:=s.heap.objs.size) (o:=.own (s.heap.objs.size+1)) (h':=s.heap.push emptyDict) (t':=s.toks) (fun b u q=>Heap.get?_push_of_some _ q) (Nat.le_refl _) ⟨_,e1⟩;refine I1.laid (a:=s.heap.objs.size+1) (o:=.ins C s.heap.objs.size []) (t':=s.toks) (fun b u q=>Heap.get?_push_of_some _ q) (Nat.le_of_eq (Heap.size_push _ _)) ?_;have ne:s.heap.objs.size≠s.heap.objs.size+1:=Nat.ne_of_lt (Nat.lt_succ_self _);refine⟨by rw[Z1 ne,Z2],Nat.zero_le _,ne,e2,fun _=>none,(Heap.Ns1.of_empty e3).at fun o q=>Heap.get?_push_of_some _ q,fun _=>True.intro,fun y hy=>absurd rfl hy⟩
theorem WP{prog:Program}{w:World}{env:Env}{e:Expr}{f:Str}{pos:Pos}{s:Shared}{Q:Value→Shared→Prop}(hb:attributeBase e f env (eval e env)=eval e env)(h:wpAny (model prog w) A (eval e env) (fun o s₁=>wpAny (model prog w) A (getAttr o f true) Q E s₁) E s):wpAny (model prog w) A (eval (.Attribute e f pos) env) Q E s :=
 Attribute_any_ h (by rw[arm_eval_Attribute,hb])
end
def tFld (K:Frag)(ta:TE)(f:Str):TE:=fun σ H Q=>ta σ H fun x H1=>∃ a C dx fs v,x = .ref a∧H1 a=some (.ins C dx fs)∧Cls K C∧Yn K C f∧fs.lookup f=some v∧Q v H1
def sFld (K:Frag)(ta tv:TE)(f:Str):TS:=fun D σ H=>tv σ H fun y H1=>ta σ H1 fun x H2=>∃ a C dx fs,x = .ref a∧H2 a=some (.ins C dx fs)∧Cls K C∧Yn K C f∧fs.length<1000 ∧
 D.nx σ (upd H2 a (.ins C dx (putF f y fs)))
section
variable {X:Cx}{o e value:Expr}{f:Str}{pos pos' tpos:Pos}{ta tv:TE}
theorem Ye(he:PE X e ta)(hb:attributeBase e f X.env (eval e X.env)=eval e X.env):PE X (.Attribute e f pos) (tFld X.K ta f):=by
 intro b9 s σ H Q I h;refine WP hb (thn (he b9 s σ H _ I h) fun u s1 ⟨x,H1,I1,rx,a,C,dx,fs,v,ex,ea,c,n,l,q⟩=>?_);subst ex;obtain rfl:u=Value.ref a:=rx;exact XU I1 ea c n l fun u' s2 I2 ru=>⟨v,H1,I2,ru,q⟩
theorem Xt(ha:PE X o ta)(hv:PE X value tv)(hs:swapsWith value (some (.Attribute o f pos')) pos.line X.env=pure false):PS X (.Assign [.Attribute o f pos'] value pos) (sFld X.K ta tv f):=by
 intro b9 s σ H D I h;refine plainObj_wpAny_Assign_Attribute (thn (hv b9 s σ H _ I h) fun u s1 ⟨y,H1,I1,ry,q⟩=>thn (ha b9 s1 σ H1 _ I1 q) fun ov s2 ⟨x,H2,I2,rx,a,C,dx,fs,ex,ea,c,n,l,q2⟩=>?_) hs;subst ex;obtain rfl:ov=Value.ref a:=rx;exact Xm I2 ea c n l ry fun s3 I3=>⟨σ,_,I3,q2⟩
theorem T6{pl:Sem Bool}{m:Str}{c9:Pos}{args:List Expr}{b9:List (Addr×Obj)}{s:Shared}{σ:St}{H:Hp}{Q:Value→Shared→Prop}{te:TE}(he:PE X e te)(I:Inv X b9 σ H s)(h:te σ H fun x H1=>∃ a C dx fs g,x = .ref a∧H1 a=some (.ins C dx fs)∧Cls X.K C∧Meth X.K C m g∧fs.lookup m=none ∧
   ∀ s1,Inv X b9 σ H1 s1→wpAny (model X.prog X.w) X.A (callWith pos (.ref g) [.ref a] (backTo pos (zG args X.env)) (backToKw pos (keywordEach [] X.env))) Q X.xe s1)(ht:eval (.Call (.Attribute e m c9) args [] pos) X.env=(do
   let ov ← eval e X.env
   standAt c9.atName
   let (f,first) ← holding [ov] (getMethod ov m pl)
   callWith pos f first (backTo pos (zG args X.env)) (backToKw pos (keywordEach [] X.env)))):
  wpAny (model X.prog X.w) X.A (eval (.Call (.Attribute e m c9) args [] pos) X.env) Q X.xe s:=by
 refine methodCall_KW (pl:=pl) (thn (he b9 s σ H _ I h) fun u s1 ⟨x,H1,I1,rx,a,C,dx,fs,g,ex,ea,c,k,l,q⟩=>?_) ht;subst ex;obtain rfl:u=Value.ref a:=rx;exact U2 I1 ea c k l (q s1 I1)
end
section
variable {X:Cx}{b9:List (Addr×Obj)}{σ:St}{H:Hp}{s:Shared}{A:Around}{E:Value→Shared→Prop}{Q:Value→Shared→Prop}{c:Value}{b:Bool}
inductive TyOf(K:Frag)(H:Hp):V→Value→Prop where
 | non:TyOf K H .non (.type "NoneType")
 | bl (x:Bool):TyOf K H (.bl x) (.type "bool")
 | int (i:Int):TyOf K H (.int i) (.type "int")
 | str (x:Str):TyOf K H (.str x) (.type "str")
 | flt (x:UInt64):TyOf K H (.flt x) (.type "float")
 | lst {a:Addr} {xs:List V} (e:H a=some (.lst xs)):TyOf K H (.ref a) (.type "list")
 | frz {a:Addr} {o:Obj} {xs:List V} (e:H a=some (.frz o (.lst xs))):TyOf K H (.ref a) (.type "list")
 | tup {a:Addr} {xs:List V} (e:H a=some (.tup xs)):TyOf K H (.ref a) (.type "tuple")
 | dK {a:Addr} {kvs:List (Key×V)} (e:H a=some (.dK kvs)):TyOf K H (.ref a) (.type "dict")
 | dT {a:Addr} {kvs:List (List Key×V)} (e:H a=some (.dT kvs)):TyOf K H (.ref a) (.type "dict")
 | ins {a C dx:Addr} {fs:List (Str×V)} (e:H a=some (.ins C dx fs)) (cl:Cls K C) (ha:findIn K (.ref C) "__class__"=some (some (.builtin "object.__class__")))
   (hn:PySem.W.specialIn K (.builtin "object.__class__") "__get__"=some (some (.builtin "getset_descriptor.__get__"))) (htk:takesIn K (.builtin "object.__class__")=some true)
   (hm:PySem.W.mroIn K C (.type "object")=some true):TyOf K H (.ref a) (.ref C)
theorem GJ{x:V}{u t:Value}(I:Inv X b9 σ H s)(rx:RelV x u)(ty:TyOf X.K H x t)(e:PySem.W.kitOne X.K t c=some b)(h:∀ tk,Q (.bool b) { s with toks:=tk }):
  wpAny (model X.prog X.w) A (call (.builtin "isinstance") [u,c]) Q E s:=by
 cases ty with
 | non=>cases (show u=Value.none from rx);exact kia_one PySem.W.kitx_none I.kIn True.intro e (fun z=>nomatch z) h
 | bl y=>cases (show u=Value.bool y from rx);exact kia_one PySem.W.kitx_bool I.kIn True.intro e (fun z=>nomatch z) h
 | int i=>obtain⟨t,q⟩:=(show ∃ t,u=Value.int i t from rx);cases q;exact kia_one PySem.W.kitx_int I.kIn True.intro e (fun z=>nomatch z) h
 | str y=>obtain⟨t,q⟩:=(show ∃ t,u=Value.str y t from rx);cases q;exact kia_one PySem.W.kitx_str I.kIn True.intro e (fun z=>nomatch z) h
 | flt y=>obtain⟨t,q⟩:=(show ∃ t,u=Value.float y t from rx);cases q;exact kia_one PySem.W.kitx_float I.kIn True.intro e (fun z=>nomatch z) h
 | @lst a xs ea =>
  cases (show u=Value.ref a from rx)
  obtain⟨_,_,n,_,h1⟩:=(show ObjOk X.prog X.w H s.heap a (.lst xs) from I.hok a _ ea)
  exact kia_one kitx_list I.kIn ⟨_,h1,rfl⟩ e (fun z=>nomatch z) h
 | @frz a ob xs ea =>
  cases (show u=Value.ref a from rx)
  obtain⟨_,_,_,n,_,h1⟩:=(show ObjOk X.prog X.w H s.heap a (.frz ob (.lst xs)) from I.hok a _ ea)
  exact kia_one kitx_list I.kIn ⟨_,h1,rfl⟩ e (fun z=>nomatch z) h
 | @tup a xs ea =>
  cases (show u=Value.ref a from rx)
  obtain⟨_,_,_,p⟩:=(show ObjOk X.prog X.w H s.heap a (.tup xs) from I.hok a _ ea)
  obtain⟨o,h1,h2,_⟩:=p;exact kia_one PySem.W.kitx_tuple I.kIn ⟨o,h1,h2⟩ e (fun z=>nomatch z) h
 | @dK a kvs ea =>
  cases (show u=Value.ref a from rx)
  obtain⟨_,_,vs,_,p⟩:=(show ObjOk X.prog X.w H s.heap a (.dK kvs) from I.hok a _ ea)
  obtain⟨o,es,ep,h1,h2,_⟩:=p;exact kia_one kitx_dict I.kIn ⟨o,h1,h2.1⟩ e (fun z=>nomatch z) h
 | @dT a kvs ea =>
  cases (show u=Value.ref a from rx)
  obtain⟨_,_,xs,_,o,es,ep,h1,h2,_⟩:=(show ObjOk X.prog X.w H s.heap a (.dT kvs) from I.hok a _ ea)
  exact kia_one kitx_dict I.kIn ⟨o,h1,h2.1⟩ e (fun z=>nomatch z) h
 | @ins a C dx fs ea cl ha hn htk hm =>
  cases (show u=Value.ref a from rx)
  obtain⟨mA,O,_⟩:=V1 I.hok ea;obtain⟨od,J,_⟩:=O.look;exact kia_one (PySem.W.kitx_own (cl.get _) cl.hd ha hn htk hm) I.kIn J e (fun z=>nomatch z) h
end
structure Room(k:Nat)(A:Around):Prop where
 dp:A.depth+3*k+5<recursionLimit
 un:A.units+16*k+200<cLine
theorem Room.mono{j k:Nat}{A:Around}(r:Room k A)(h:j≤k):Room j A:=⟨by have:=r.dp;lia,by have:=r.un;lia⟩
theorem Room.deeper{k:Nat}{A:Around}(r:Room (k+1) A)(env:Env):Room k (A.deeper env):=
 ⟨by have:=r.dp;show A.depth+1+3*k+5<_;lia,by have:=r.un;show A.units+3+16*k+200<_;lia⟩
theorem XL{A:Around}{C:Addr}{us:List Value}{kw:List (Str×Value)}:(A.under (.builtin "type.__call__" ⟨.ref C::us,kw⟩)).depth=A.depth+1:=by
 first | rfl | simp[Around.under,Code.weight,Code.isCreation,Code.isGuard,Code.isCaller,Code.frames,Code.isFrame,guardIds]
theorem XJ{A:Around}{C:Addr}{us:List Value}{kw:List (Str×Value)}:(A.under (.builtin "type.__call__" ⟨.ref C::us,kw⟩)).units=A.units+1:=by
 first | rfl | simp[Around.under,Code.cUnits,Code.frames,Code.isFrame]
theorem Room.make{k:Nat}{A:Around}(r:Room (k+1) A)(C:Addr)(us:List Value)(kw:List (Str×Value)):Room k (A.under (.builtin "type.__call__" ⟨.ref C::us,kw⟩)):=
 ⟨by have:=r.dp;rw[XL];lia,by have:=r.un;rw[XJ];lia⟩
theorem Room.depth{k:Nat}{A:Around}(r:Room k A):A.depth<recursionLimit:=by have:=r.dp;lia
theorem Room.units{k:Nat}{A:Around}(r:Room k A):A.units+64<cLine:=by have:=r.un;lia
def tNil:TA:=fun _ H Q=>Q [] H
def Yd(ta:TE)(tr:TA):TA:=fun σ H Q=>ta σ H fun x H1=>tr σ H1 fun xs H2=>Q (x::xs) H2
section
variable {X:Cx}{e:Expr}{es:List Expr}{te:TE}{t:TA}{pos:Pos}
theorem Z3:PA X [] tNil:=fun _ _ _ _ H Q I h=>Calls.spliced_nil ⟨[],H,I,.nil,h⟩
theorem Z0(ha:PE X e te)(hr:PA X es t)(hs:zG (e::es) X.env=(false,eval e X.env)::zG es X.env:=by rfl):PA X (e::es) (Yd te t):=by
 intro pos b9 s σ H Q I h;rw[hs];show wpAny _ _ (spliced ((false,eval e X.env)::backTo pos (zG es X.env))) _ _ s;refine Calls.spliced_cons (thn (ha b9 s σ H _ I h) fun u s1 ⟨x,H1,I1,r1,q1⟩=>?_);exact thn (hr pos b9 s1 σ H1 _ I1 q1) fun us s2 ⟨xs,H2,I2,r2,q2⟩=>⟨x::xs,H2,I2,.cons r1 r2,q2⟩
def tTup (t:TA):TE:=fun σ H Q=>t σ H fun xs H1=>xs.length≤zF∧∀ p,H1 p=none→Q (.ref p) (upd H1 p (.tup xs))
def tLst (t:TA):TE:=fun σ H Q=>t σ H fun xs H1=>xs.length≤zF∧∀ p,H1 p=none→Q (.ref p) (upd H1 p (.lst xs))
theorem MM{x1}(h:PA X es t):PE X (.Tuple es x1 pos) (tTup t):=by
 intro b9 s σ H Q I hq;refine wpAny_Tuple_spliced (thn (h pos b9 s σ H _ I hq) fun us s1 ⟨xs,H1,I1,r,z,q⟩=>⟨by rw[←r.length];exact z,?_⟩)
 have hf:H1 s1.heap.objs.size=none:=I1.hok.fresh (Nat.le_refl _);refine⟨.ref s1.heap.objs.size,upd H1 s1.heap.objs.size (.tup xs),I1.laid (t':=s1.toks) (fun b u e=>Heap.get?_push_of_some _ e) (Nat.le_refl _) ?_,rfl,q _ hf⟩;exact⟨z,us,r,⟨_,Heap.get?_push_size _ rfl,rfl,_,rfl⟩⟩
theorem Y6(h:PA X es t):PE X (.List es pos) (tLst t):=by
 intro b9 s σ H Q I hq;refine wpAny_List_spliced (thn (h pos b9 s σ H _ I hq) fun us s1 ⟨xs,H1,I1,r,z,q⟩=>⟨by rw[←r.length];exact z,?_⟩)
 have hf:H1 s1.heap.objs.size=none:=I1.hok.fresh (Nat.le_refl _);refine⟨.ref s1.heap.objs.size,upd H1 s1.heap.objs.size (.lst xs),I1.laid (t':=s1.toks) (fun b u e=>Heap.get?_push_of_some _ e) (Nat.le_refl _) ?_,rfl,q _ hf⟩;exact⟨z,us,0,r,Heap.get?_push_size _ rfl⟩
end
abbrev Sp:=List V→Hp→VK→XK→Prop
structure CXT where
 rel:List Env→Hp→Shared→XK→Value→Shared→Prop
 calm:Bool
instance:CoeFun CXT (fun _=>List Env→Hp→Shared→XK→Value→Shared→Prop):=⟨CXT.rel⟩
structure Env0(P:Program)(w:World)(K:Frag)(mg:Str→Option Value)(base:Heap)(A:Around)(outer:List Env)(s:Shared)(H:Hp):Prop where
 frames:A.frames=some outer
 mod:Mod K mg base
 bs:∀ b o,base.get? b=some o→s.heap.get? b=some o∧H b=none
 bsz:base.objs.size≤s.heap.objs.size
 funs:s.heap.FunFrames base outer
 frf:∀ b∈frs outer,H b=none
 hok:HOk P w H s.heap
 bare:AllBare s.gens
 hdx:HdH A H
def CE (outer:List Env)(P:Program)(w:World)(H:Hp)(s:Shared)(Q:VK)(u:Value)(s':Shared):Prop :=
 ∃ v H',s'.os=s.os∧AllBare s'.gens∧Un (frs outer) [] H H' s.heap s'.heap∧HOk P w H' s'.heap∧RelV v u∧Q v H'
def CR (CX:CXT)(outer:List Env)(P:Program)(w:World)(H:Hp)(s:Shared)(Q:VK)(E:XK)(r:Result)(s':Shared):Prop :=
 match r with
 | .ok (.ret u)=>CE outer P w H s Q u s'
 | .ok _=>False
 | .error e=>CX outer H s E e s'
structure FnOk(P:Program)(w:World)(K:Frag)(mg:Str→Option Value)(base:Heap)(CX:CXT)(k:Nat)(f:Addr)(fd:FuncData)(ps:List Str)(sp:Sp):Prop where
 len:∀ vs H Q E,sp vs H Q E→vs.length=ps.length
 run:∀(A:Around) (outer:List Env) (s:Shared) (H:Hp) (args:Args) (us:List Value) (vs:List V) (Q:VK) (E:XK),Room k A→(CX.calm=true→A.handled=none)→Env0 P w K mg base A outer s H→BindsTo s fd args (ps.zip us)→Vals vs us→sp vs H Q E →
  codeAny (model P w) A (.call (.ref f) args) (CR CX outer P w H s Q E) s
theorem FnOk.mono{P:Program}{w:World}{K:Frag}{mg:Str→Option Value}{base:Heap}{CX:CXT}{j k:Nat}{f:Addr}{fd:FuncData}{ps:List Str}{sp:Sp}(F:FnOk P w K mg base CX j f fd ps sp)(h:j≤k):
  FnOk P w K mg base CX k f fd ps sp:=⟨F.len,fun A outer s H args us vs Q E hr=>F.run A outer s H args us vs Q E (hr.mono h)⟩
theorem Env0.make{P:Program}{w:World}{K:Frag}{mg:Str→Option Value}{base:Heap}{A:Around}{outer:List Env}{s:Shared}{H:Hp}(e:Env0 P w K mg base A outer s H)(C:Addr)(us:List Value)(kw:List (Str×Value)):
  Env0 P w K mg base (A.under (.builtin "type.__call__" ⟨.ref C::us,kw⟩)) outer s H:=⟨by first | exact e.frames | (simpa[Around.under,Code.envs,Code.isFrame,pushEnvs] using e.frames),e.mod,e.bs,e.bsz,e.funs,e.frf,e.hok,e.bare,e.hdx⟩
section
variable {X:Cx}{b9:List (Addr×Obj)}{σ:St}{H:Hp}{s s':Shared}
theorem Inv.env0(I:Inv X b9 σ H s):Env0 X.prog X.w X.K X.mg X.base X.A X.stack s H :=
 ⟨I.ok.frames,I.ok.mod,I.bs,Nat.le_trans I.ok.bsz I.sz,I.stack,I.stkFree,I.hok,I.bare,I.hdh⟩
theorem Inv.after{Q:VK}{u:Value}(I:Inv X b9 σ H s)(h:CE X.stack X.prog X.w H s Q u s'):EP X b9 σ Q u s':=by
 obtain⟨v,H',os,bare,un,hok,r,q⟩:=h;obtain⟨hh,g,d,t,os'⟩:=s';obtain rfl:os'=s.os:=os;exact⟨v,H',I.call (h':=hh) (g':=g) (d':=d) (t':=t) (ch:=[]) un hok bare (fun b z=>absurd z (by simp)),r,q⟩
end
def Rr(sp:Sp)(dvs:List V)(E:XK)(t:TA):TE:=fun σ H Q=>t σ H fun vs H1=>sp (vs++dvs) H1 Q E
def DT(C:Addr)(m:Str)(sp:Sp)(dvs:List V)(E:XK)(ta:TE)(t:TA):TE:=fun σ H Q=>ta σ H fun x H1=>∃ a dx fs,x = .ref a∧H1 a=some (.ins C dx fs)∧fs.lookup m=none ∧
 t σ H1 fun vs H2=>sp (x::(vs++dvs)) H2 Q E
def Ro(C:Addr)(sp:Sp)(dvs:List V)(E:XK)(t:TA):TE:=fun σ H Q=>t σ H fun vs H1=>∀ x dx,H1 x=none→H1 dx=none→dx≠x →
 sp (.ref x::(vs++dvs)) (upd (upd H1 dx (.own x)) x (.ins C dx [])) (fun v H2=>v = .non∧Q (.ref x) H2) E
def Binds(K:Frag)(fd:FuncData)(ps:List Str)(ds:List Value):Prop :=
 ∀(s:Shared) (us:List Value),K.In s.heap→(us++ds).length=ps.length→BindsTo s fd ⟨us,[]⟩ (ps.zip (us++ds))
theorem Binds.all{K:Frag}{fd:FuncData}{ps:List Str}(h:∀ us:List Value,us.length=ps.length→bindArgs fd ⟨us,[]⟩=pure (ps.zip us)):Binds K fd ps []:=fun s us _ hl=>by
 rw[List.append_nil] at hl ⊢;exact .of_eq (h us hl)
def Passes(CX:CXT)(X:Cx)(E:XK):Prop:=∀(b9:List (Addr×Obj)) (σ:St) (H:Hp) (s:Shared) (e:Value) (s':Shared),Inv X b9 σ H s→CX X.stack H s E e s'→X.xe e s'
section
variable {X:Cx}{CX:CXT}{k:Nat}{f C:Addr}{fd:FuncData}{ps:List Str}{sp:Sp}{dvs:List V}{ds:List Value}{E:XK}{x m:Str}{p pos c9:Pos}{e o:Expr}{es:List Expr}{ta:TE}{t:TA}
theorem Xp{b9:List (Addr×Obj)}{σ:St}{H:Hp}{s:Shared}{Q:VK}{us:List Value}{vs:List V}(F:FnOk X.prog X.w X.K X.mg X.base CX k f fd ps sp)(hr:Room k X.A)(hb:Binds X.K fd ps ds)(hd:Vals dvs ds)(hx:Passes CX X E)(hcc:CX.calm=true→X.calm=true)(I:Inv X b9 σ H s)(r:Vals vs us)(h:sp (vs++dvs) H Q E):wpAny (model X.prog X.w) X.A (call (.ref f) us) (EP X b9 σ Q) X.xe s:=by
 have r2:Vals (vs++dvs) (us++ds):=r.append hd;have hl:(us++ds).length=ps.length:=by rw[←r2.length];exact F.len _ _ _ _ h
 refine wpAny_call (codeAny_mono (F.run X.A X.stack s H ⟨us,[]⟩ (us++ds) (vs++dvs) Q E hr (fun z=>I.ok.hd (hcc z)) I.env0 (hb s us I.kIn hl) r2 h) fun r s' hq=>?_);cases r with
 | error e=>exact hx b9 σ H s e s' I hq
 | ok fl =>
  cases fl with
  | ret u=>exact I.after hq
  | next=>exact False.elim hq
  | brk=>exact False.elim hq
  | cont=>exact False.elim hq
theorem Za(F:FnOk X.prog X.w X.K X.mg X.base CX k f fd ps sp)(hr:Room k X.A)(hg:Gl X x)(hm:X.mg x=some (.ref f))(hk:keepIn X.K (.ref f)=true)(hb:Binds X.K fd ps ds)(hd:Vals dvs ds)(hx:Passes CX X E)(ha:PA X (e::es) t)(hdb:(x==("__debug__":Str))=false:=by decide)(he:zG (e::es) X.env=(false,eval e X.env)::zG es X.env:=by rfl)(hpl:(backTo pos (zG es X.env)).any (·.1)=false:=by rfl)(hcc:CX.calm=true→X.calm=true:=by first | exact fun _=>rfl | exact fun z=>nomatch z):
  PE X (.Call (.Name x p) (e::es) [] pos) (Rr sp dvs E t):=by
 intro b9 s σ H Q I h;refine wpAny_Call_Name_kw (YY I hg hm ?_ hdb);refine callWith_K (h₀:=X.base) I.ok.mod.kin hk (thn (ha pos b9 s σ H _ I h) fun us s1 ⟨vs,H1,I1,r,q⟩=>⟨I1.kIn,?_⟩) he hpl;exact Xp F hr hb hd hx hcc I1 r q
theorem Ui{pl:Sem Bool}(he:PE X o ta)(c:Cls X.K C)(hm:Meth X.K C m f)(F:FnOk X.prog X.w X.K X.mg X.base CX k f fd ps sp)(hr:Room k X.A)(hb:Binds X.K fd ps ds)(hd:Vals dvs ds)(hx:Passes CX X E)(ha:PA X (e::es) t)(hst:zG (e::es) X.env=(false,eval e X.env)::zG es X.env:=by rfl)(hpl:(backTo pos (zG es X.env)).any (·.1)=false:=by rfl)(ht:eval (.Call (.Attribute o m c9) (e::es) [] pos) X.env=(do
   let ov ← eval o X.env
   standAt c9.atName
   let (f,first) ← holding [ov] (getMethod ov m pl)
   callWith pos f first (backTo pos (zG (e::es) X.env)) (backToKw pos (keywordEach [] X.env))):=by rfl)(hcc:CX.calm=true→X.calm=true:=by first | exact fun _=>rfl | exact fun z=>nomatch z):
  PE X (.Call (.Attribute o m c9) (e::es) [] pos) (DT C m sp dvs E ta t):=by
 intro b9 s σ H Q I h;refine methodCall_KW (pl:=pl) (thn (he b9 s σ H _ I h) fun u s1 ⟨x,H1,I1,rx,a,dx,fs,ex,ea,l,q⟩=>?_) ht;subst ex;obtain rfl:u=Value.ref a:=rx;refine U2 I1 ea c hm l ?_;refine callWith_K (first:=[.ref a]) (h₀:=X.base) I.ok.mod.kin hm.kp (thn (ha pos b9 s1 σ H1 _ I1 q) fun us s2 ⟨vs,H2,I2,r,q2⟩=>⟨I2.kIn,?_⟩) hst hpl
 exact Xp (us:=.ref a::us) (vs:=.ref a::vs) F hr hb hd hx hcc I2 (.cons rfl r) q2
theorem MP{pl:Sem Bool}(he:PE X o ta)(c:Cls X.K C)(hm:Meth X.K C m f)(F:FnOk X.prog X.w X.K X.mg X.base CX k f fd ps sp)(hr:Room k X.A)(hb:Binds X.K fd ps ds)(hd:Vals dvs ds)(hx:Passes CX X E)(ht:eval (.Call (.Attribute o m c9) [] [] pos) X.env=(do
   let ov ← eval o X.env
   standAt c9.atName
   let (f,first) ← holding [ov] (getMethod ov m pl)
   callWith pos f first (backTo pos (zG [] X.env)) (backToKw pos (keywordEach [] X.env))):=by rfl)(hcc:CX.calm=true→X.calm=true:=by first | exact fun _=>rfl | exact fun z=>nomatch z):
  PE X (.Call (.Attribute o m c9) [] [] pos) (DT C m sp dvs E ta tNil):=by
 intro b9 s σ H Q I h;refine methodCall_KW (pl:=pl) (thn (he b9 s σ H _ I h) fun u s1 ⟨x,H1,I1,rx,a,dx,fs,ex,ea,l,q⟩=>?_) ht;subst ex;obtain rfl:u=Value.ref a:=rx;refine U2 I1 ea c hm l ?_;exact PySem.W.callWith_K0 (first:=[.ref a]) I1.kIn hm.kp (Xp (us:=[.ref a]) (vs:=[.ref a]) F hr hb hd hx hcc I1 (.cons rfl .nil) q)
structure Mk(K:Frag)(C f:Addr):Prop where
 makes:makesIn K C=true
 init:findIn K (.ref C) "__init__"=some (some (.ref f))
 fn:isFn K (.ref f)=true
 kp:keepIn K (.ref C)=true
theorem MD{b9:List (Addr×Obj)}{σ:St}{H:Hp}{s:Shared}{Q:VK}{us:List Value}{vs:List V}(M:Mk X.K C f)(F:FnOk X.prog X.w X.K X.mg X.base CX k f fd ps sp)(hr:Room (k+1) X.A)(hb:Binds X.K fd ps ds)(hd:Vals dvs ds)(hx:Passes CX X E)(hcc:CX.calm=true→X.calm=true)(I:Inv X b9 σ H s)(r:Vals vs us)(h:∀ x dx,H x=none→H dx=none→dx≠x→sp (.ref x::(vs++dvs)) (upd (upd H dx (.own x)) x (.ins C dx [])) (fun v H2=>v = .non∧Q (.ref x) H2) E):
  wpAny (model X.prog X.w) X.A (call (.ref C) us) (EP X b9 σ Q) X.xe s:=by
 have hq:=h (s.heap.objs.size+1) s.heap.objs.size (I.hok.fresh (Nat.le_succ _)) (I.hok.fresh (Nat.le_refl _)) (Nat.ne_of_lt (Nat.lt_succ_self _));have I2:=Inv.made (C:=C) I;have r2:Vals (V.ref (s.heap.objs.size+1)::(vs++dvs)) (Value.ref (s.heap.objs.size+1)::(us++ds)):=.cons rfl (r.append hd);have hl:(Value.ref (s.heap.objs.size+1)::us++ds).length=ps.length:=by
  have e:=r2.length;rw[F.len _ _ _ _ hq] at e;exact e.symm
 refine wpAny_call (N8 (f:=f) I.kIn M.makes M.init (beq_iff_eq.mp M.fn) (codeAny_mono (F.run _ X.stack _ _ ⟨Value.ref (s.heap.objs.size+1)::us,[]⟩ (Value.ref (s.heap.objs.size+1)::(us++ds)) _ _ E (hr.make C us []) (fun z=>I.ok.hd (hcc z))
  (I2.env0.make C us []) (hb _ (Value.ref (s.heap.objs.size+1)::us) I2.kIn hl) r2 hq) fun r s' hq'=>?_))
 cases r with
 | error e=>exact hx b9 σ _ _ e s' I2 hq'
 | ok fl =>
  cases fl with
  | ret u =>
   obtain⟨v,H',I3,rv,ev,q3⟩:=I2.after hq';subst ev;exact⟨rv,⟨V.ref (s.heap.objs.size+1),H',I3,rfl,q3⟩⟩
  | next=>exact False.elim hq'
  | brk=>exact False.elim hq'
  | cont=>exact False.elim hq'
theorem D8(M:Mk X.K C f)(F:FnOk X.prog X.w X.K X.mg X.base CX k f fd ps sp)(hr:Room (k+1) X.A)(hg:Gl X x)(hm:X.mg x=some (.ref C))(hb:Binds X.K fd ps ds)(hd:Vals dvs ds)(hx:Passes CX X E)(ha:PA X (e::es) t)(hdb:(x==("__debug__":Str))=false:=by decide)(he:zG (e::es) X.env=(false,eval e X.env)::zG es X.env:=by rfl)(hpl:(backTo pos (zG es X.env)).any (·.1)=false:=by rfl)(hcc:CX.calm=true→X.calm=true:=by first | exact fun _=>rfl | exact fun z=>nomatch z):
  PE X (.Call (.Name x p) (e::es) [] pos) (Ro C sp dvs E t):=by
 intro b9 s σ H Q I h;refine wpAny_Call_Name_kw (YY I hg hm ?_ hdb);refine callWith_K (h₀:=X.base) I.ok.mod.kin M.kp (thn (ha pos b9 s σ H _ I h) fun us s1 ⟨vs,H1,I1,r,q⟩=>⟨I1.kIn,?_⟩) he hpl;exact MD M F hr hb hd hx hcc I1 r q
end
def PK (X:Cx)(kws:List Keyword)(t:TA):Prop :=
 ∀(pos:Pos) (b9:List (Addr×Obj)) (s:Shared) (σ:St) (H:Hp) (Q:List V→Hp→Prop),Inv X b9 σ H s→t σ H Q→wpAny (model X.prog X.w) X.A (evalAll ((backToKw pos (keywordEach kws X.env)).map (·.2))) (AP X b9 σ Q) X.xe s
section
variable {X:Cx}{CX:CXT}{k:Nat}{f C:Addr}{fd:FuncData}{ps ks:List Str}{sp:Sp}{E:XK}{x m:Str}{p pos c9 kpos:Pos}{e o:Expr}{es:List Expr}{kws:List Keyword}{te ta:TE}{t tk:TA}{nm:Option Str}
theorem MI:PK X [] tNil:=fun _ _ _ _ H Q I h=>wpAny_evalAll_nil ⟨[],H,I,.nil,h⟩
theorem Qi(ha:PE X e te)(hr:PK X kws t):PK X (⟨nm,e,kpos⟩::kws) (Yd te t):=by
 intro pos b9 s σ H Q I h;show wpAny _ _ (evalAll ((do let v ← eval e X.env;standAt pos;pure v)::(backToKw pos (keywordEach kws X.env)).map (·.2))) _ _ s
 refine wpAny_evalAll_cons (zA (thn (ha b9 s σ H _ I h) fun u s1 ⟨x,H1,I1,r1,q1⟩=>zA (wpAny_standAt (zB ?_))));exact thn (hr pos b9 s1 σ H1 _ I1 q1) fun us s2 ⟨xs,H2,I2,r2,q2⟩=>⟨x::xs,H2,I2,.cons r1 r2,q2⟩
variable {g:List Value→List Value→List Value}{gV:List V→List V→List V}
end
structure Zd(N P:List Str)(sc:Scope):Prop where
 kind:sc.kind = .function
 co:sc.isCoroutine=false
 gen:sc.isGenerator=false
 nd:N.Nodup
 pre:N.take P.length=P
 par:∀ x∈P,sc.names.lookup x=some .local∨sc.names.lookup x=some .cell
 nofree:∀ y∈sc.names,y.2 ≠ .free
theorem fs7{N P:List Str}{sc:Scope}(a:sc.kind = .function:=by rfl)(b:sc.isCoroutine=false:=by rfl)(c:sc.isGenerator=false:=by rfl)(d:N.Nodup:=by decide +kernel)(e:N.take P.length=P:=by rfl)(f:∀ x∈P,sc.names.lookup x=some .local∨sc.names.lookup x=some .cell:=by decide +kernel)(g:∀ y∈sc.names,y.2≠.free:=by decide +kernel):Zd N P sc:=⟨a,b,c,d,e,f,g⟩
theorem VZ{kindOf:Str→Option NameKind}{x:Str}:∀{binds:List (Str×Value)} {m:Str→Option Value},(∀ v,(x,v)∉binds)→bindL kindOf binds m x=m x
 | [],_,_=>rfl
 | (n,v)::r,m,h=>by
  unfold bindL;rw[VZ fun w hw=>h w (List.mem_cons_of_mem _ hw)];split
  ·have:x≠n:=by rintro rfl;exact h v List.mem_cons_self
   simp[this]
  ·rfl
theorem Q1{kindOf:Str→Option NameKind}{x:Str}:∀{binds:List (Str×Value)} {m:Str→Option Value},(∀ v,(x,v)∉binds)→bindC kindOf binds m x=m x
 | [],_,_=>rfl
 | (n,v)::r,m,h=>by
  unfold bindC;rw[Q1 fun w hw=>h w (List.mem_cons_of_mem _ hw)];split
  ·rfl
  ·have:x≠n:=by rintro rfl;exact h v List.mem_cons_self
   simp[this]
theorem Q0{kindOf:Str→Option NameKind}{x:Str}{v:Value}:∀{P:List Str} {vs:List Value} {i:Nat} {m:Str→Option Value},P.Nodup→P[i]?=some x→vs[i]?=some v→kindOf x=some .local →
  bindL kindOf (P.zip vs) m x=some v
 | [],_,_,_,_,h,_,_=>by simp at h
 | _::_,[],_,_,_,_,h,_=>by simp at h
 | p::P,w::vs,0,m,nd,h1,h2,hk=>by
  simp at h1 h2;subst h1;subst h2;show bindL kindOf ((p,w)::P.zip vs) m p=_;unfold bindL;rw[VZ fun v hv=>(List.nodup_cons.mp nd).1 (List.of_mem_zip hv).1,if_pos hk];simp
 | p::P,w::vs,i+1,m,nd,h1,h2,hk=>by
  show bindL kindOf ((p,w)::P.zip vs) m x=_;unfold bindL;exact Q0 (i:=i) (List.nodup_cons.mp nd).2 (by simpa using h1) (by simpa using h2) hk
theorem Q2{kindOf:Str→Option NameKind}{x:Str}{v:Value}:∀{P:List Str} {vs:List Value} {i:Nat} {m:Str→Option Value},P.Nodup→P[i]?=some x→vs[i]?=some v→kindOf x≠some .local →
  bindC kindOf (P.zip vs) m x=some v
 | [],_,_,_,_,h,_,_=>by simp at h
 | _::_,[],_,_,_,_,h,_=>by simp at h
 | p::P,w::vs,0,m,nd,h1,h2,hk=>by
  simp at h1 h2;subst h1;subst h2;show bindC kindOf ((p,w)::P.zip vs) m p=_;unfold bindC;rw[Q1 fun v hv=>(List.nodup_cons.mp nd).1 (List.of_mem_zip hv).1,if_neg hk];simp
 | p::P,w::vs,i+1,m,nd,h1,h2,hk=>by
  show bindC kindOf ((p,w)::P.zip vs) m x=_;unfold bindC;exact Q2 (i:=i) (List.nodup_cons.mp nd).2 (by simpa using h1) (by simpa using h2) hk
def start(N:List Str)(vs:List V):St:=vs.map some++List.replicate (N.length-vs.length) none
def cxOf (CX:CXT)(P:Program)(w:World)(K:Frag)(mg:Str→Option Value)(base:Heap)(N:List Str)(qual:Str)(scope:Scope)(f:Addr)(cd:Value)(A:Around)(outer:List Env)(s:Shared)(H:Hp)(E:XK):Cx where
 prog:=P
 w:=w
 K:=K
 mg:=mg
 base:=base
 A:=A.deeper (envOfC qual scope s.heap.objs.size f cd)
 N:=N
 s₀:=s
 H₀:=H
 env:=envOfC qual scope s.heap.objs.size f cd
 outer:=outer
 stack:=envOfC qual scope s.heap.objs.size f cd::outer
 ex:=[]
 calm:=CX.calm
 fn:=fun _=>true
 pn:=[]
 xe:=fun e s'=>wpAny (model P w) (A.deeper (envOfC qual scope s.heap.objs.size f cd)) (leaving (envOfC qual scope s.heap.objs.size f cd) e) (fun _ s''=>CX outer H s E e s'') (fun e' s''=>CX outer H s E e' s'') s'
theorem Xe{sc:Scope}{n:Nat}{x:Str}(h:sc.names.lookup x=some .cell):∃ c,(cellsFrom n sc.names []).lookup x=some c:=by
 have q:=PySem.W.cellsFrom_some sc.names n [] (.inl h);exact Option.isSome_iff_exists.mp q
theorem GN{CX:CXT}{P:Program}{w:World}{K:Frag}{mg:Str→Option Value}{base:Heap}{N ps:List Str}{qual:Str}{scope:Scope}{f:Addr}{cd:Value}{A:Around}{outer:List Env}{s s1:Shared}{H:Hp}{E:XK}{us:List Value}{vs:List V}(S:Zd N ps scope)(hd:CX.calm=true→A.handled=none)(e0:Env0 P w K mg base A outer s H)(hl:vs.length=ps.length)(r:Vals vs us)(x:InCallC s s.heap.objs.size (bindL (envOfC qual scope s.heap.objs.size f cd).kindOf (ps.zip us) fun _=>none) (cellsFrom (s.heap.objs.size+1) scope.names []) (bindC (envOfC qual scope s.heap.objs.size f cd).kindOf (ps.zip us) fun _=>none) s1):
  Inv (cxOf CX P w K mg base N qual scope f cd A outer s H E) [] (start N vs) H s1:=by
 have hpl:ps.length≤N.length:=by have:=congrArg List.length S.pre;rw[List.length_take] at this;lia
 obtain⟨h1,tk,rfl,hk⟩:=x.done;have noA:∀ b:Addr,b∉(cxOf CX P w K mg base N qual scope f cd A outer s H E).ex:=fun b z=>absurd (show b∈([]:List Addr) from z) (by simp)
 refine⟨⟨e0.mod,S.kind,rfl,rfl,Nat.le_refl _,fun y z c h1 h2=>?_,fun y hy=>?_,fun y c _ h=>?_,hd,Around.frames_deeper e0.frames,.inr ⟨rfl,rfl⟩,fun b z=>absurd z (noA b),e0.bs,e0.bsz,fun b _ _=>noA b,fun b z=>absurd z (noA b),e0.funs,e0.frf⟩,
  rfl,e0.bare,Un.kept hk,⟨_,x.toInCall.ns,fun i y v h1 h2 h3=>?_⟩,fun y c h=>⟨_,x.cell y c h⟩,e0.hok.fresh (Nat.le_refl _),fun y c h=>?_,fun p hp=>absurd (show p∈([]:List (Addr×Obj)) from hp) (by simp),e0.hok.kept hk,?_,e0.hdx⟩
 ·exact name_of_addr x.apart (PySem.mem_of_lookup h1) (PySem.mem_of_lookup h2)
 ·have hy:scope.names.lookup y=some .cell∨scope.names.lookup y=some .free:=hy;rcases hy with hy | hy
  ·exact Xe hy
  ·exact absurd rfl (S.nofree _ (PySem.mem_of_lookup hy))
 ·exact Nat.le_of_lt (x.above y c (PySem.mem_of_lookup h))
 ·have hi:i<vs.length:=by
   unfold start at h2;by_cases hi:i<vs.length
   ·exact hi
   ·rw[List.getElem?_append_right (by simpa using hi)] at h2
    rw[List.getElem?_replicate] at h2;split at h2 <;> cases h2
  have ha:vs[i]?=some v:=by
   unfold start at h2;rw[List.getElem?_append_left (by simpa using hi),List.getElem?_map] at h2
   cases e:vs[i]? with
   | none=>rw[e] at h2;cases h2
   | some a=>rw[e] at h2;cases h2;rfl
  obtain⟨u,hu,rv⟩:=r.get ha;have hp:ps[i]?=some y:=by
   rw[←S.pre,List.getElem?_take_of_lt (by lia)];exact h1
  have ndP:ps.Nodup:=by rw[←S.pre];exact S.nd.sublist (List.take_sublist _ _)
  refine⟨u,rv,?_⟩;rcases S.par y (List.mem_of_getElem? hp) with k | k
  ·exact .inl ⟨k,Q0 ndP hp hu k⟩
  ·obtain⟨c,e⟩:=Xe (n:=s.heap.objs.size+1) k;refine .inr ⟨.inl k,c,e,?_⟩;have q:=x.cell y c e;rw[Q2 ndP hp hu (by show scope.names.lookup y≠_;rw[k];decide)] at q
   exact q
 ·exact e0.hok.fresh (Nat.le_of_lt (x.above y c (PySem.mem_of_lookup h)))
 ·unfold start;show _=N.length;rw[List.length_append,List.length_map,List.length_replicate];lia
theorem Nm{CX:CXT}{P:Program}{w:World}{K:Frag}{mg:Str→Option Value}{base:Heap}{k:Nat}{f:Addr}{name qual:Str}{params:Arguments}{body:List Stmt}{scope:Scope}{dV kV bu pm bf ct oc:Value}{an od:Option Addr}{bv:Array (Option Value)}{N ps:List Str}{sp:Sp}(lk:K.lookup f=some ⟨oc,od,.func (fnOf name qual params body scope dV kV bu pm an bf ct),bv⟩)(hcd:codeIn K bf qual=true)(S:Zd N ps scope)(len:∀ vs H Q E,sp vs H Q E→vs.length=ps.length)(hbody:∀(A:Around) (outer:List Env) (s:Shared) (H:Hp) (vs:List V) (Q:VK) (E:XK),Room k (A.deeper (envOfC qual scope s.heap.objs.size f bf))→sp vs H Q E →
   ∃ t,PSs (cxOf CX P w K mg base N qual scope f bf A outer s H E) body t∧t { nx:=fun _ H'=>Q .non H',rt:=Q } (start N vs) H):
  FnOk P w K mg base CX (k+1) f (fnOf name qual params body scope dV kV bu pm an bf ct) ps sp:=by
 refine⟨len,fun A outer s H args us vs Q E hr hcm e0 hb r hsp=>?_⟩;have hl:=len _ _ _ _ hsp;have KX:K.In s.heap:=e0.mod.kin.keeps fun b o e=>(e0.bs b o e).1;have lim:s.heap.NoLimit:=e0.mod.nolimit.keeps fun b o e=>(e0.bs b o e).1;have hkind:∀ y∈ps.zip us,scope.names.lookup y.1=some .local∨(scope.names.lookup y.1=some .cell∧((cellsFrom (s.heap.objs.size+1) scope.names []).lookup y.1).isSome=true):=fun⟨n,v⟩ hy=>by
  rcases S.par n (List.of_mem_zip hy).1 with q | q
  ·exact .inl q
  ·exact .inr ⟨q,PySem.W.cellsFrom_some _ _ _ (.inl q)⟩
 refine codeAny_call_function hr.depth (KX _ _ lk) rfl S.co S.gen rfl (PySem.W.codeRec_of KX hcd) (hb _ _ _ _ ?_);refine wpAny_newFunctionEnv_cells S.kind hkind fun env he s1 x=>?_;subst he;refine⟨lim.keeps x.toInCall.keep,codeAny_func ?_⟩;obtain⟨t,ht,hq⟩:=hbody A outer s H vs Q E (hr.deeper _) hsp;have I:Inv (cxOf CX P w K mg base N qual scope f bf A outer s H E) [] (start N vs) H s1:=GN S hcm e0 hl r x;refine zC (ht [] s1 (start N vs) H _ I hq) (fun fl s' hs=>?_) fun e s' hs=>hs;have fin:∀{σ':St} {H':Hp} {v:V} {u:Value},Inv (cxOf CX P w K mg base N qual scope f bf A outer s H E) [] σ' H' s'→RelV v u→Q v H'→CE outer P w H s Q u s' :=
  fun{σ' H' v u} J rv q=>⟨v,H',J.os,J.bare,J.base,J.hok,rv,q⟩
 cases fl with
 | ret u =>
  obtain⟨v,σ',H',J,rv,q⟩:=hs;exact fin J rv q
 | next =>
  obtain⟨σ',H',J,q⟩:=hs;exact fin (v:=V.non) (u:=Value.none) J rfl q
 | brk =>
  obtain⟨_,_,_,q⟩:=hs;exact False.elim q
 | cont =>
  obtain⟨_,_,_,q⟩:=hs;exact False.elim q
section
variable {X:Cx}{x:Str}{p pos:Pos}{e:Expr}{es:List Expr}{t:TA}{id T:String}{r:List V→Hp→VK→Prop}
def tCB (r:List V→Hp→VK→Prop)(t:TA):TE:=fun σ H Q=>t σ H fun vs H1=>r vs H1 Q
theorem Zh(hc:JQ X (.builtin id) r)(hg:Gl X x)(hm:X.mg x=none)(hv:bootBuiltins x=some (.builtin id))(ha:PA X (e::es) t)(hn:x≠"__name__":=by decide)(hdb:(x==("__debug__":Str))=false:=by decide)(he:zG (e::es) X.env=(false,eval e X.env)::zG es X.env:=by rfl)(hpl:(backTo pos (zG es X.env)).any (·.1)=false:=by rfl):PE X (.Call (.Name x p) (e::es) [] pos) (tCB r t):=by
 intro b9 s σ H Q I h;refine wpAny_Call_Name_kw (YT I hg hm hv ?_ hn hdb);exact PyProof.Rows.callWith_builtin1 (thn (ha pos b9 s σ H _ I h) fun us s1 ⟨vs,H1,I1,r1,q1⟩=>hc b9 s1 σ H1 vs us Q I1 r1 q1) he hpl
theorem Gf(hc:JQ X (.type T) r)(hg:Gl X x)(hm:X.mg x=none)(hv:bootBuiltins x=some (.type T))(ha:PA X (e::es) t)(hn:x≠"__name__":=by decide)(hdb:(x==("__debug__":Str))=false:=by decide)(he:zG (e::es) X.env=(false,eval e X.env)::zG es X.env:=by rfl)(hpl:(backTo pos (zG es X.env)).any (·.1)=false:=by rfl):PE X (.Call (.Name x p) (e::es) [] pos) (tCB r t):=by
 intro b9 s σ H Q I h;refine wpAny_Call_Name_kw (YT I hg hm hv ?_ hn hdb);exact PyProof.Rows.callWith_type1 (thn (ha pos b9 s σ H _ I h) fun us s1 ⟨vs,H1,I1,r1,q1⟩=>hc b9 s1 σ H1 vs us Q I1 r1 q1) he hpl
end
end L2
namespace HT
open PySem PyProof.Rows
section
open PySem.SeqAt
open PySem.AutoSeq1 (wpAny_loadPart')
open PySem.MeetsSeq PySem.MeetsSeq2 PySem.MeetsSeq3
end
section
variable {prog:Program}{w:World}{A:Around}{E:Value→Shared→Prop}{s:Shared}
def sIx (n d:Nat):Option Int→Nat
 | none=>d
 | some v=>if v<0 then(v+(n:Int)).toNat else min v.toNat n
end
end HT
namespace L2
open PySem PySem.Spec PyProof.Rows
abbrev TO:=St→Hp→(Option Int→Hp→Prop)→Prop
def PO (X:Cx)(e:Option Expr)(t:TO):Prop :=
 ∀(b9:List (Addr×Obj)) (s:Shared) (σ:St) (H:Hp) (Q:Option Int→Hp→Prop),Inv X b9 σ H s→t σ H Q →
  wpAny (model X.prog X.w) X.A (evalPart e X.env) (fun u s'=>∃ o H',Inv X b9 σ H' s'∧IsPart u o∧Q o H') X.xe s
def Rl(t:TE):TO:=fun σ H Q=>t σ H fun x H1=>∃ i,x = .int i∧Q (some i) H1
theorem Vv{ns:List Int}:∀{us:List Value},Vals (ns.map V.int) us→IntsAre us ns:=by
 induction ns with
 | nil=>intro us r;rw[List.map_nil] at r;cases r;exact .nil
 | cons n ns ih =>
  intro us r;rw[List.map_cons] at r;cases r with
  | cons r1 r2 =>
   obtain⟨t,e⟩:=r1;subst e;exact .cons n t (ih r2)
section
variable {X:Cx}{e:Expr}{te:TE}{lo hi:Option Expr}{tl th:TO}{pos p2:Pos}
theorem UZ(h:PE X e te):PO X (some e) (Rl te):=by
 intro b9 s σ H Q I hw;rw[evalPart_some];refine thn (h b9 s σ H _ I hw) fun u s1 ⟨x,H1,I1,r1,q1⟩=>?_;obtain⟨i,rfl,q⟩:=q1;obtain⟨t,rfl⟩:=r1;exact⟨some i,H1,I1,.int i t,q⟩
def SlR (X:Cx)(r:V→Option Int→Option Int→Hp→VK→Prop):Prop :=
 ∀(b9:List (Addr×Obj)) (s:Shared) (σ:St) (H:Hp) (x:V) (v vl vu:Value) (lo hi:Option Int) (sl:Addr) (Q:VK),Inv X b9 σ H s→RelV x v→s.heap.IsSliceOf sl vl vu .none→IsPart vl lo→IsPart vu hi→r x lo hi H Q →
  ∃ T id,typeLookup (.type T) "__getitem__"=pure (some (.builtin id))∧s.TypeIs v T∧wpAny (model X.prog X.w) X.A (getItem v (.ref sl)) (EP X b9 σ Q) X.xe s
def tSl (r:V→Option Int→Option Int→Hp→VK→Prop)(te:TE)(tl th:TO):TE:=fun σ H Q=>te σ H fun x H1=>tl σ H1 fun l H2=>th σ H2 fun u H3=>r x l u H3 Q
theorem QM{r:V→Option Int→Option Int→Hp→VK→Prop}(hr:SlR X r)(he:PE X e te)(hl:PO X lo tl)(hu:PO X hi th):PE X (.Subscript e (.Slice lo hi none p2) pos) (tSl r te tl th):=by
 intro b9 s σ H Q I h;refine Subscript_ (thn (he b9 s σ H _ I h) fun v s1 ⟨x,H1,I1,r1,q1⟩=>?_);refine wpAny_Slice (thn (hl b9 s1 σ H1 _ I1 q1) fun vl s2 ⟨l,H2,I2,pl,q2⟩=>thn (hu b9 s2 σ H2 _ I2 q2) fun vu s3 ⟨u,H3,I3,pu,q3⟩=>?_);rw[evalPart_none];refine zB ?_;have I4:Inv X b9 σ H3 { s3 with heap:=s3.heap.push { cls:=.type "slice",data:=.fields #[vl,vu,.none] } }:=I3.kept (t':=s3.toks) fun b ob q=>Heap.get?_push_of_some _ q
 obtain⟨T,id,hT,ht,hg⟩:=hr b9 { s3 with heap:=s3.heap.push { cls:=.type "slice",data:=.fields #[vl,vu,.none] } } σ H3 x v vl vu l u s3.heap.objs.size Q I4 r1 (Heap.IsSliceOf.new ..) pl pu q3
 show wpAny (model X.prog X.w) X.A (subscriptTail e (.Slice lo hi none p2) v (.ref s3.heap.objs.size)) (EP X b9 σ Q) X.xe { s3 with heap:=s3.heap.push { cls:=.type "slice",data:=.fields #[vl,vu,.none] } }
 exact tail_any (ops:=[.ref s3.heap.objs.size,v]) ht hT hg (by with_unfolding_all rfl)
def cutV (xs:List V)(lo hi:Option Int):List V:=(xs.drop (HT.sIx xs.length 0 lo)).take (HT.sIx xs.length xs.length hi-HT.sIx xs.length 0 lo)
theorem Xb(xs:List V)(lo hi:Option Int):(cutV xs lo hi).length≤xs.length:=by
 unfold cutV;rw[List.length_take,List.length_drop];lia
end
def ixN (n:Nat)(i:Int):Option Nat:=if 0≤i then(if i<n then some i.toNat else none) else if -(n:Int)≤i then some (i+n).toNat else none
def atI {α:Type}(xs:List α)(i:Int):Option α:=(ixN xs.length i).bind fun j=>xs[j]?
theorem Dv{n:Nat}{i:Int}{j:Nat}(h:ixN n i=some j):seqIndex? i n=some j∧j<n∧-(n:Int)≤i∧i<n:=by
 unfold ixN at h;by_cases h0:0≤i
 ·rw[if_pos h0] at h;by_cases h1:i<n
  ·rw[if_pos h1] at h;have e:i.toNat=j:=Option.some.inj h;exact⟨by rw[seqIndex_of h0 h1,e],by lia,by lia,h1⟩
  ·rw[if_neg h1] at h;cases h
 ·rw[if_neg h0] at h;by_cases h1:-(n:Int)≤i
  ·rw[if_pos h1] at h;have e:(i+n).toNat=j:=Option.some.inj h;exact⟨by rw[seqIndex_neg (by lia) h1,e],by lia,h1,by lia⟩
  ·rw[if_neg h1] at h;cases h
theorem WR{α:Type}{xs:List α}{i:Int}{v:α}(h:atI xs i=some v):∃ j,seqIndex? i xs.length=some j∧xs[j]?=some v∧j<xs.length∧-(xs.length:Int)≤i∧i<xs.length:=by
 unfold atI at h;cases e:ixN xs.length i with
 | none=>rw[e] at h;cases h
 | some j =>
  rw[e] at h;obtain⟨h1,h2,h3,h4⟩:=Dv e;exact⟨j,h1,h,h2,h3,h4⟩
theorem DG{α:Type}{xs:List α}{j:Nat}{v:α}(h:xs[j]?=some v):atI xs (j:Int)=some v:=by
 have hj:j<xs.length:=(List.getElem?_eq_some_iff.mp h).1;have e:ixN xs.length (j:Int)=some j:=by
  unfold ixN;rw[if_pos (by lia),if_pos (by lia)];simp
 unfold atI;rw[e];exact h
theorem NA{α:Type}(xs:List α)(v:α):atI (xs++[v]) (-1)=some v:=by
 have hl:(xs++[v]).length=xs.length+1:=by simp
 have e:ixN (xs++[v]).length (-1)=some xs.length:=by
  unfold ixN;rw[hl,if_neg (by decide),if_pos (by lia)]
  congr 1;lia
 unfold atI;rw[e];show(xs++[v])[xs.length]?=some v;simp
def DN(b:Expr):Prop:=∀ o i,subscripted b false o i=operate [o,i] (getItem o i)
def IxR (X:Cx)(r:R2):Prop :=
 ∀(value slice:Expr) (b9:List (Addr×Obj)) (s:Shared) (σ:St) (H:Hp) (x y:V) (v u:Value) (Q:VK),Inv X b9 σ H s→RelV x v→RelV y u→r x y H Q →
  subscripted slice false v u=operate [v,u] (getItem v u)→wpAny (model X.prog X.w) X.A (subscriptTail value slice v u) (EP X b9 σ Q) X.xe s
def MtR (X:Cx)(id:String)(r:V→List V→Hp→VK→Prop):Prop :=
 ∀(b9:List (Addr×Obj)) (s:Shared) (σ:St) (H:Hp) (x:V) (xs:List V) (v:Value) (us:List Value) (Q:VK),Inv X b9 σ H s→RelV x v→Vals xs us→r x xs H Q →
  wpAny (model X.prog X.w) X.A (call (.builtin id) (v::us)) (EP X b9 σ Q) X.xe s
section
variable {X:Cx}{a b:Expr}{ta tb:TE}{pos:Pos}
theorem Zx{r:R2}(hr:IxR X r)(ha:PE X a ta)(hb:PE X b tb)(hs:DN b):PE X (.Subscript a b pos) (tOp r ta tb):=by
 intro b9 s σ H Q I h;exact Subscript_ (binT ha hb I h fun v u s2 x y H2 I2 rx ry q=>hr a b b9 s2 σ H2 x y v u Q I2 rx ry q (hs _ _))
def rIxL (K:Frag):R2:=fun x y H Q=>∃ p xs i v,x = .ref p∧y = .int i∧SqL K H p xs∧atI xs i=some v∧Q v H
def rIxT (K:Frag):R2:=fun x y H Q=>∃ p xs i v,x = .ref p∧y = .int i∧SqT K H p xs∧atI xs i=some v∧Q v H
theorem YZ:IxR X (rIxL X.K):=by
 intro value slice b9 s σ H x y v u Q I rx ry h hs;obtain⟨p,xs,i,z,rfl,rfl,hq,he,q⟩:=h;cases rx;obtain⟨t,rfl⟩:=ry;obtain⟨bw,r,pl,hz⟩:=I.list hq;obtain⟨j,h1,h2,h3,h4,h5⟩:=WR he;obtain⟨w,ew,rw'⟩:=r.get h2;have hl:=r.length;have hn:=XQ;have fin:EP X b9 σ Q w s:=⟨z,H,I,rw',q⟩;by_cases h0:0≤i
 ·have hj:i.toNat=j:=by
   rw[seqIndex_of h0 h5] at h1;exact Option.some.inj h1
  exact item_listR pl.isList h0 (by lia) (by rw[hj];simpa using ew) fin hs
 ·have hj:(i+(bw.toArray.size:Int)).toNat=j:=by
   rw[seqIndex_neg (by lia) h4] at h1
   rw[List.size_toArray,←hl];exact Option.some.inj h1
  exact subscriptTail_builtinR (x:=w) pl.isList.typeIs slot_list_getitem.lookup
   (wpAny_getItem_list_neg (Q:=fun r s'=>r=w∧EP X b9 σ Q r s') pl.isList (by lia) (by rw[List.size_toArray] <;> lia) (by lia) (by rw[hj];simpa using ew) ⟨rfl,fin⟩) hs
theorem ZW:IxR X (rIxT X.K):=by
 intro value slice b9 s σ H x y v u Q I rx ry h hs;obtain⟨p,xs,i,z,rfl,rfl,hq,he,q⟩:=h;cases rx;obtain⟨t,rfl⟩:=ry;obtain⟨bw,r,pl,hz⟩:=I.tuple hq;obtain⟨j,h1,h2,h3,h4,h5⟩:=WR he;obtain⟨w,ew,rw'⟩:=r.get h2;have hl:=r.length;have hn:=XQ;have fin:EP X b9 σ Q w s:=⟨z,H,I,rw',q⟩;exact subscriptTail_builtinR (x:=w) pl.typeIs slot_tuple_getitem.lookup
  (getItem_tuple (j:=j) (Q:=fun r s'=>r=w∧EP X b9 σ Q r s') pl (by lia) (by lia) (by rw[List.size_toArray,←hl];exact h1) (by simpa using ew) ⟨rfl,fin⟩) hs
theorem Qe(lo hi:Option Int)(n:Nat):(sliceBounds lo hi none n).1=((HT.sIx n 0 lo:Nat):Int)∧(sliceBounds lo hi none n).2.1=((HT.sIx n n hi:Nat):Int)∧(sliceBounds lo hi none n).2.2=1:=by
 refine⟨?_,?_,rfl⟩
 ·cases lo with
  | none=>simp[sliceBounds,HT.sIx]
  | some i =>
   simp only[sliceBounds,HT.sIx,Option.getD_none,show(1:Int)>0 by decide,if_true]
   by_cases h:i<0
   ·simp only[h,if_true] <;> lia
   ·simp only[h,if_false] <;> lia
 ·cases hi with
  | none=>simp[sliceBounds,HT.sIx]
  | some i =>
   simp only[sliceBounds,HT.sIx,Option.getD_none,show(1:Int)>0 by decide,if_true]
   by_cases h:i<0
   ·simp only[h,if_true] <;> lia
   ·simp only[h,if_false] <;> lia
theorem VD(bw:List Value)(lo hi:Option Int):slicePick bw.toArray lo hi none=((bw.drop (HT.sIx bw.length 0 lo)).take (HT.sIx bw.length bw.length hi-HT.sIx bw.length 0 lo)).toArray:=by
 obtain⟨h1,h2,h3⟩:=Qe lo hi bw.toArray.size;unfold slicePick;rw[h1,h2,h3];simp only[sliceRange_one,pick_run,List.size_toArray] <;> rfl
def rSlL (K:Frag):V→Option Int→Option Int→Hp→VK→Prop:=fun x lo hi H Q=>∃ a xs,x = .ref a∧SqL K H a xs∧∀ p,H p=none→Q (.ref p) (upd H p (.lst (cutV xs lo hi)))
theorem Wf:SlR X (rSlL X.K):=by
 intro b9 s σ H x v vl vu lo hi sl Q I rx hs pl pu h;obtain⟨a,xs,rfl,hx,q⟩:=h;cases rx;obtain⟨bw,r,ht,hz⟩:=I.list hx;have hlen:=r.length;refine⟨"list",_,slot_list_getitem.lookup,ht.isList.typeIs,?_⟩;refine wpAny_getItem_list_slice ht.isList hs pl pu .none (by simp) ?_ (by rw[List.size_toArray] <;> lia)
 rw[VD,←hlen];refine⟨.ref s.heap.objs.size,_,I.laid (t':=s.toks) (o:=.lst (cutV xs lo hi)) (fun b ob q=>Heap.get?_push_of_some _ q) (Nat.le_refl _) ?_,rfl,q _ (I.hok.fresh (Nat.le_refl _))⟩;exact⟨Nat.le_trans (Xb xs lo hi) hz,_,0,(r.drop (HT.sIx xs.length 0 lo)).take (HT.sIx xs.length xs.length hi-HT.sIx xs.length 0 lo),Heap.get?_push_size _ rfl⟩
def WJ:V→Bool
 | .non=>true
 | .bl _=>true
 | .int _=>true
 | .str _=>true
 | _=>false
def eqV:V→V→Bool
 | .non,.non=>true
 | .bl a,.bl b=>a==b
 | .bl a,.int b=>(if a then 1 else 0)==b
 | .int a,.bl b=>a==(if b then 1 else 0)
 | .int a,.int b=>a==b
 | .str a,.str b=>a==b
 | _,_=>false
theorem R6{A:Around}{s:Shared}{y x:V}{u v:Value}(ry:RelV y u)(rx:RelV x v)(fy:WJ y=true)(fx:WJ x=true):SeqAt.EqAt A s u v (eqV y x):=by
 cases y with
 | non =>
  cases ry;cases x with
  | non=>cases rx;exact SeqAt.EqAt.same _
  | bl b=>cases rx;exact SeqAt.EqAt.none_bool b
  | int b=>obtain⟨t,rfl⟩:=rx;exact SeqAt.EqAt.none_int b t
  | str b=>obtain⟨t,rfl⟩:=rx;exact SeqAt.EqAt.none_str b t
  | _=>exact absurd (show false=true from fx) Bool.false_ne_true
 | bl a =>
  cases ry;cases x with
  | non=>cases rx;exact SeqAt.EqAt.bool_none a
  | bl b=>cases rx;exact SeqAt.EqAt.bool_bool a b
  | int b=>obtain⟨t,rfl⟩:=rx;exact SeqAt.EqAt.bool_int a b t
  | str b=>obtain⟨t,rfl⟩:=rx;exact SeqAt.EqAt.bool_str a b t
  | _=>exact absurd (show false=true from fx) Bool.false_ne_true
 | int a =>
  obtain⟨t',rfl⟩:=ry;cases x with
  | non=>cases rx;exact SeqAt.EqAt.int_none a t'
  | bl b=>cases rx;exact SeqAt.EqAt.int_bool a t' b
  | int b=>obtain⟨t,rfl⟩:=rx;exact SeqAt.EqAt.int_int a t' b t
  | str b=>obtain⟨t,rfl⟩:=rx;exact SeqAt.EqAt.int_str a t' b t
  | _=>exact absurd (show false=true from fx) Bool.false_ne_true
 | str a =>
  obtain⟨t',rfl⟩:=ry;cases x with
  | non=>cases rx;exact SeqAt.EqAt.str_none a t'
  | bl b=>cases rx;exact SeqAt.EqAt.str_bool a t' b
  | int b=>obtain⟨t,rfl⟩:=rx;exact SeqAt.EqAt.str_int a t' b t
  | str b=>obtain⟨t,rfl⟩:=rx;exact SeqAt.EqAt.str_str a t' b t
  | _=>exact absurd (show false=true from fx) Bool.false_ne_true
 | _=>exact absurd (show false=true from fy) Bool.false_ne_true
theorem Ya:JQ X (.builtin "len") (fun xs H Q=>∃ p ys,xs=[.ref p]∧(SqL X.K H p ys∨SqT X.K H p ys)∧Q (.int ys.length) H):=by
 intro b9 s σ H xs us Q I r h;obtain⟨p,ys,rfl,hq,q⟩:=h;obtain⟨u,rfl,rx⟩:=Ua r;cases rx;have hn:=XQ;rcases hq with hq | hq
 ·obtain⟨bw,r',pl,hz⟩:=I.list hq;have hlen:=r'.length;exact Calls.call_len_list pl.isList (by simp only[List.size_toArray] <;> lia) ⟨.int ys.length,H,I.tok _,⟨s.toks+1,by rw[List.size_toArray,hlen]⟩,q⟩
 ·obtain⟨bw,r',pl,hz⟩:=I.tuple hq;have hlen:=r'.length;exact len_tuple pl (by simp only[List.size_toArray] <;> lia) ⟨.int ys.length,H,I.tok _,⟨s.toks+1,by rw[List.size_toArray,hlen]⟩,q⟩
theorem Qs:JQ X (.type "list") (fun xs H Q=>∃ p ys,xs=[.ref p]∧(SqL X.K H p ys∨SqT X.K H p ys)∧∀ l,H l=none→Q (.ref l) (upd H l (.lst ys))):=by
 intro b9 s σ H xs us Q I r h;obtain⟨p,ys,rfl,hq,q⟩:=h;obtain⟨u,rfl,rx⟩:=Ua r;cases rx;have fin:∀(bw:List Value),Vals ys bw→ys.length≤zF→∀(h':Heap) (c':Nat),(∀ b o',s.heap.get? b=some o'→h'.get? b=some o') →
   h'.get? s.heap.objs.size=some { cls:=.type "list",dict:=none,data:=.seq bw.toArray c',slots:=#[] }→EP X b9 σ Q (.ref s.heap.objs.size) { s with heap:=h' }:=fun bw r' hz h' c' kp e =>
  ⟨.ref s.heap.objs.size,_,I.laid (t':=s.toks) kp (Nat.le_refl _) (show ObjOk X.prog X.w _ h' _ (.lst ys) from⟨hz,bw,c',r',e⟩),rfl,q _ (I.hok.fresh (Nat.le_refl _))⟩
 rcases hq with hq | hq
 ·obtain⟨bw,r',pl,hz⟩:=I.list hq;have hlen:=r'.length;obtain⟨o,ho,hc,n,hd⟩:=pl.isList;exact call_list_seq p (.inl rfl) ho hc hd (fun h' c' kp e=>fin bw r' hz h' c' kp e) (by simp only[List.size_toArray] <;> lia)
 ·obtain⟨bw,r',pl,hz⟩:=I.tuple hq;have hlen:=r'.length;obtain⟨o,ho,hc,n,hd⟩:=pl;exact call_list_seq p (.inr rfl) ho hc hd (fun h' c' kp e=>fin bw r' hz h' c' kp e) (by simp only[List.size_toArray] <;> lia)
def tyV (K:Frag)(T:String)(x:V)(H:Hp):Prop:=match x with
 | .str _=>T="str"
 | .int _=>T="int"
 | .ref p=>(T="list"∧∃ xs,SqL K H p xs)∨(T="tuple"∧∃ o,K.lookup p=some o∧o.cls = .type "tuple"∧o.dict=none) ∨
   (T="dict"∧((∃ kvs,H p=some (.dK kvs))∨∃ kvs,H p=some (.dT kvs)))∨(T="set"∧∃ S n,H p=some (.set S n))
 | _=>False
theorem Me{b9 σ H s}{T:String}{x:V}{v:Value}(I:Inv X b9 σ H s)(r:RelV x v)(ty:tyV X.K T x H):
  s.TypeIs v T∧∀ a,v = .ref a→∃ ob,s.heap.get? a=some ob∧ob.dict=none:=by
 cases x with
 | str z =>
  obtain⟨t,rfl⟩:=r;cases (show T="str" from ty)
  exact⟨typeIs_str s z t,fun _ e=>nomatch e⟩
 | int i =>
  obtain⟨t,rfl⟩:=r;cases (show T="int" from ty)
  exact⟨typeIs_int s i t,fun _ e=>nomatch e⟩
 | ref p =>
  cases r;rcases ty with ⟨rfl,xs,hq⟩ | ⟨rfl,o,hk,hc,hd⟩ | ⟨rfl,hk⟩ | ⟨rfl,S,n,hk⟩
  ·obtain⟨bw,_,pl,_⟩:=I.list hq;refine⟨pl.isList.typeIs,fun a e=>?_⟩;cases e;obtain⟨o,n,e,c,hd,_⟩:=pl;exact⟨o,e,hd⟩
  ·refine⟨⟨o,I.kIn p o hk,hc⟩,fun a e=>?_⟩;cases e;exact⟨o,I.kIn _ o hk,hd⟩
  ·have z:∃ o,s.heap.get? p=some o∧o.ExactDict:=by
    rcases hk with ⟨kvs,hk⟩ | ⟨kvs,hk⟩
    ·obtain⟨_,_,_,_,o,_,_,e,ex,_⟩:=I.hok p _ hk;exact⟨o,e,ex⟩
    ·obtain⟨_,_,_,_,o,_,_,e,ex,_⟩:=I.hok p _ hk;exact⟨o,e,ex⟩
   obtain⟨o,e,ex⟩:=z;refine⟨⟨o,e,ex.1⟩,fun a e2=>?_⟩;cases e2;exact⟨o,e,ex.2.1⟩
  ·obtain⟨o,_,_,_,e,ex,_⟩:=I.hok p _ hk;refine⟨⟨o,e,ex.1⟩,fun a e2=>?_⟩;cases e2;exact⟨o,e,ex.2.1⟩
 | _=>exact False.elim ty
def tBM0 (K:Frag)(T:String)(r:V→List V→Hp→VK→Prop)(to:TE):TE:=fun σ H Q=>to σ H fun x H1=>tyV K T x H1∧r x [] H1 Q
def tBM (K:Frag)(T:String)(r:V→List V→Hp→VK→Prop)(to:TE)(t:TA):TE:=fun σ H Q=>to σ H fun x H1=>tyV K T x H1∧t σ H1 fun xs H2=>r x xs H2 Q
variable {o e:Expr}{es:List Expr}{to:TE}{t:TA}{name:Str}{c9 cpos:Pos}{T id:String}{r:V→List V→Hp→VK→Prop}
theorem MT(pa:PlainAttrs T)(slot:Slot T name id)(hty:typeOf (.builtin id)=pure (.type "method_descriptor"))(hm:MtR X id r)(ho:PE X o to)(hbase:attributeBase o name X.env (eval o X.env)=eval o X.env:=by rfl)(hline:(c9.endLine==cpos.line)=true:=by rfl):PE X (.Call (.Attribute o name c9) [] [] cpos) (tBM0 X.K T r to):=by
 intro b9 s σ H Q I h;refine wpAny_Call_method0_late hbase hline (thn (ho b9 s σ H _ I h) fun v s1 ⟨x,H1,I1,r1,ty,q1⟩=>?_);obtain⟨h1,h2⟩:=Me I1 r1 ty;exact⟨T,id,pa,slot,hty,h1,h2,Calls.callWith_builtin rfl (PySem.evalArgs_none (hm b9 s1 σ H1 x [] v [] Q I1 r1 .nil q1))⟩
theorem MU(pa:PlainAttrs T)(slot:Slot T name id)(hty:typeOf (.builtin id)=pure (.type "method_descriptor"))(hm:MtR X id r)(ho:PE X o to)(ha:PA X (e::es) t)(hbase:attributeBase o name X.env (eval o X.env)=eval o X.env:=by rfl)(hfew:((backTo cpos (zG (e::es) X.env)).all (fun x=>!x.1)&&(backToKw cpos (keywordEach [] X.env)).all (fun x=>x.1.isSome)
  &&decide ((e::es).length+([]:List Keyword).length+(if([]:List Keyword).isEmpty then 0 else 1)<30))=true:=by rfl)(hline:(c9.endLine==cpos.line)=true:=by rfl)(hs:zG (e::es) X.env=(false,eval e X.env)::zG es X.env:=by rfl)(hplain:(backTo cpos (zG es X.env)).any (·.1)=false:=by rfl):
  PE X (.Call (.Attribute o name c9) (e::es) [] cpos) (tBM X.K T r to t):=by
 intro b9 s σ H Q I h;refine wpAny_Call_method_late hbase hfew hline rfl (thn (ho b9 s σ H _ I h) fun v s1 ⟨x,H1,I1,r1,ty,q1⟩=>?_);obtain⟨h1,h2⟩:=Me I1 r1 ty;refine⟨T,id,pa,slot,hty,h1,h2,?_⟩;have hA:=ha cpos b9 s1 σ H1 _ I1 q1;rw[hs] at hA ⊢;refine Calls.callWith_builtin (by show(false || (backTo cpos (zG es X.env)).any (·.1))=false;rw[hplain] <;> rfl) (Calls.evalArgs_plain ?_)
 exact thn hA fun us s2 ⟨vs,H2,I2,r2,q2⟩=>hm b9 s2 σ H2 x vs v us Q I2 r1 r2 q2
end
def MtM (X:Cx)(id:String)(r:V→List V→Hp→VK→Prop):Prop :=
 ∀(b9:List (Addr×Obj)) (s:Shared) (σ:St) (H:Hp) (x:V) (xs:List V) (v:Value) (us:List Value) (Q:VK),Inv X b9 σ H s→RelV x v→Vals xs us→r x xs H Q →
  wpAny (model X.prog X.w) X.A (call (.builtin id) (v::us)) (EP X b9 σ Q) X.xe s
theorem Vals.one:∀{x:V} {us:List Value},Vals [x] us→∃ u,us=[u]∧RelV x u
 | _,_,.cons r .nil=>⟨_,rfl,r⟩
theorem Vals.zero:∀{us:List Value},Vals [] us→us=[]
 | _,.nil=>rfl
theorem Vals.dropLast{xs:List V}{us:List Value}(h:Vals xs us):Vals xs.dropLast us.dropLast:=by
 induction h with
 | nil=>exact .nil
 | cons r t ih =>
  cases t with
  | nil=>exact .nil
  | cons q t'=>exact .cons r ih
theorem Vals.reverse{xs:List V}{us:List Value}(h:Vals xs us):Vals xs.reverse us.reverse:=by
 induction h with
 | nil=>exact .nil
 | cons r t ih=>rw[List.reverse_cons,List.reverse_cons];exact Vals.append ih (.cons r .nil)
theorem XV{α:Type}(l:List α):l.eraseIdx (l.length-1)=l.dropLast:=by
 induction l with
 | nil=>rfl
 | cons a r ih =>
  cases r with
  | nil=>rfl
  | cons b r =>
   have e:(a::b::r).length-1=((b::r).length-1)+1:=by
    have h1:(a::b::r).length=r.length+2:=rfl;have h2:(b::r).length=r.length+1:=rfl;lia
   rw[e,List.eraseIdx_cons_succ,ih]
   all_goals rfl
section
variable {X:Cx}{b9:List (Addr×Obj)}{σ:St}{H:Hp}{s:Shared}{l b:Addr}{xs ys zs:List V}
theorem Inv.lset{bw its':List Value}{n:Nat}{f:Array Value→Array Value}{t':Nat}(I:Inv X b9 σ H s)(hH:H l=some (.lst xs))(e:s.heap.get? l=some { cls:=.type "list",data:=.seq bw.toArray n })(hf:f bw.toArray=its'.toArray)(hv:Vals ys its')(hz:ys.length≤zF):
  Inv X b9 σ (upd H l (.lst ys)) { s with heap:=s.heap.update l (Obj.mapSeq f),toks:=t' }:=by
 have q:=PySem.IsL.update e f;rw[hf] at q;refine I.write (x:=l) (e:=l) (by rw[hH];exact trivial) (.inl rfl) (fun b' u hb hu=>(Heap.get?_update_other s.heap (Obj.mapSeq f) (Ne.symm hb)).trans hu) ⟨_,q⟩ ?_
 exact⟨hz,its',_,hv,q⟩
theorem Inv.lnew{bw:List Value}{t':Nat}(I:Inv X b9 σ H s)(hv:Vals ys bw)(hz:ys.length≤zF):
  Inv X b9 σ (upd H s.heap.objs.size (.lst ys)) { s with heap:=s.heap.push { cls:=.type "list",data:=.seq bw.toArray },toks:=t' }:=
 I.laid (fun _ _ q=>Heap.get?_push_of_some _ q) (Nat.le_refl _) ⟨hz,bw,0,hv,Heap.get?_push_size _ rfl⟩
theorem Inv.fresh(I:Inv X b9 σ H s):H s.heap.objs.size=none:=I.hok.fresh (Nat.le_refl _)
theorem Inv.lstM(I:Inv X b9 σ H s)(hH:H l=some (.lst xs)):xs.length≤zF∧∃(bw:List Value) (n:Nat),Vals xs bw∧xs.length=bw.length∧s.heap.get? l=some { cls:=.type "list",data:=.seq bw.toArray n }:=by
 obtain⟨z,bw,n,r,e⟩:=I.hok l _ hH;exact⟨z,bw,n,r,r.length,e⟩
theorem N7{n:Nat}(h:n≤zF):Builtin.List.listTooLong n=false:=by
 unfold Builtin.List.listTooLong;exact decide_eq_false (by lia)
end
section
variable {X:Cx}
def NX:V→List V→Hp→VK→Prop:=fun x vs H Q=>∃ l xs y,x = .ref l∧vs=[y]∧H l=some (.lst xs)∧xs.length<zF∧Q .non (upd H l (.lst (xs++[y])))
theorem Uy:MtM X "list.append" NX:=by
 intro b9 s σ H x vs v us Q I rx rv h;obtain⟨l,xs,y,rfl,rfl,hH,hz,q⟩:=h;cases rx;obtain⟨u,rfl,ru⟩:=rv.one;obtain⟨z,bw,n,r,hl,e⟩:=I.lstM hH;refine call_meets F.slot_list_append ⟨_,e,rfl⟩ F.entry_list_append (F.args_list_append_2 _ _) (PySem.list_append l bw.toArray n u (by rw[List.size_toArray];lia)) ⟨e,?_⟩
 refine⟨.non,_,I.lset (its':=bw++[u]) hH e (by simp) (r.append (.cons ru .nil)) ?_,rfl,q⟩
 rw[List.length_append,List.length_singleton];lia
def NW:V→List V→Hp→VK→Prop:=fun x vs H Q=>∃ l b xs zs,x = .ref l∧vs=[.ref b]∧H l=some (.lst xs)∧H b=some (.lst zs)∧xs.length+zs.length≤zF∧Q .non (upd H l (.lst (xs++zs)))
theorem Gu:MtM X "list.extend" NW:=by
 intro b9 s σ H x vs v us Q I rx rv h;obtain⟨l,b,xs,zs,rfl,rfl,hH,hB,hz,q⟩:=h;cases rx;obtain⟨u,rfl,ru⟩:=rv.one;cases ru;obtain⟨z,bw,n,r,hl,e⟩:=I.lstM hH;obtain⟨z2,its2,n2,r2,hl2,e2⟩:=I.lstM hB;have hsz:bw.toArray.size+its2.toArray.size≤zF:=by rw[List.size_toArray,List.size_toArray];lia
 have hlong:¬ (!bw.toArray.isEmpty&&Builtin.List.listTooLong (bw.toArray.size+its2.toArray.size))=true:=by
  rw[N7 hsz,Bool.and_false];exact Bool.false_ne_true
 refine call_meets F.slot_list_extend ⟨_,e,rfl⟩ F.entry_list_extend (F.args_list_extend_2 _ _)
  (AutoSeq1.list_extend_list_list_0 l bw.toArray n b its2.toArray n2 hlong (by rw[List.size_toArray];lia) (by lia)) ⟨e,e2,?_⟩
 refine⟨.non,_,I.lset (its':=bw++its2) hH e (by simp) (r.append r2) ?_,rfl,q⟩
 rw[List.length_append];lia
def rPop:V→List V→Hp→VK→Prop:=fun x vs H Q=>∃ l xs y,x = .ref l∧vs=[]∧H l=some (.lst xs)∧xs[xs.length-1]?=some y∧Q y (upd H l (.lst xs.dropLast))
theorem TR:MtM X "list.pop" rPop:=by
 intro b9 s σ H x vs v us Q I rx rv h;obtain⟨l,xs,y,rfl,rfl,hH,hy,q⟩:=h;cases rx;have hus:=rv.zero;subst hus;obtain⟨z,bw,n,r,hl,e⟩:=I.lstM hH;obtain⟨u,hu,ru⟩:=r.get hy;have hy':bw.toArray[bw.toArray.size-1]?=some u:=by
  show bw.toArray[bw.length-1]?=some u;rw[←Array.getElem?_toList,←hl];exact hu
 refine call_meets F.slot_list_pop ⟨_,e,rfl⟩ F.entry_list_pop (F.args_list_pop_1 _) (MeetsSeq.list_pop_last l bw.toArray n u hy' (by rw[List.size_toArray];lia)) ⟨e,?_⟩
 refine⟨y,_,I.lset (its':=bw.dropLast) hH e ?_ r.dropLast ?_,ru,q⟩
 ·show bw.toArray.eraseIdxIfInBounds (bw.toArray.size-1)=bw.dropLast.toArray;rw[List.size_toArray,List.eraseIdxIfInBounds_toArray,XV]
 ·rw[List.length_dropLast];lia
def MF:V→List V→Hp→VK→Prop:=fun x vs H Q=>∃ l xs,x = .ref l∧vs=[]∧H l=some (.lst xs)∧Q .non (upd H l (.lst xs.reverse))
theorem XH:MtM X "list.reverse" MF:=by
 intro b9 s σ H x vs v us Q I rx rv h;obtain⟨l,xs,rfl,rfl,hH,q⟩:=h;cases rx;have hus:=rv.zero;subst hus;obtain⟨z,bw,n,r,hl,e⟩:=I.lstM hH;refine call_meets F.slot_list_reverse ⟨_,e,rfl⟩ F.entry_list_reverse (F.args_list_reverse_1 _) (AutoSeq1.list_reverse_list_0 l bw.toArray n (by rw[List.size_toArray];lia)) ⟨e,?_⟩
 refine⟨.non,_,I.lset (its':=bw.reverse) hH e (by simp) r.reverse ?_,rfl,q⟩
 rw[List.length_reverse];lia
def rCat:R2:=fun x y H Q=>∃ l b xs zs,x = .ref l∧y = .ref b∧H l=some (.lst xs)∧H b=some (.lst zs)∧xs.length+zs.length≤zF∧∀ p,H p=none→Q (.ref p) (upd H p (.lst (xs++zs)))
theorem JY:OpR X (binaryOp .Add) rCat:=by
 intro b9 s σ H x y v u Q I rx ry h;obtain⟨l,b,xs,zs,rfl,rfl,hH,hB,hz,q⟩:=h;cases rx;cases ry;obtain⟨z,bw,n,r,hl,e⟩:=I.lstM hH;obtain⟨z2,its2,n2,r2,hl2,e2⟩:=I.lstM hB;refine PySem.P.add_list e e2 ?_ (by rw[List.size_toArray,List.size_toArray];lia)
 have ea:bw.toArray++its2.toArray=(bw++its2).toArray:=by simp
 rw[ea];exact⟨.ref _,_,I.lnew (t':=s.toks) (r.append r2) (by rw[List.length_append];lia),rfl,q _ I.fresh⟩
end
section
variable {prog:Program}{w:World}{A:Around}{E:Value→Shared→Prop}{s:Shared}
set_option maxRecDepth 100000 in
end
section
variable {X:Cx}
end
section
variable {κ:Type}[DecidableEq κ]
def valV (kvs:List (κ×V))(k:κ):Option V:=(kvs.find? fun kv=>decide (kv.1=k)).map (·.2)
def putK (kvs:List (κ×V))(k:κ)(v:V):List (κ×V):=
 if(kvs.any fun kv=>decide (kv.1=k))=true then kvs.map (fun kv=>if kv.1=k then(kv.1,v) else kv) else kvs++[(k,v)]
theorem Y4{p:κ×V}{r:List (κ×V)}{k:κ}(e:p.1=k):valV (p::r) k=some p.2:=by simp[valV,List.find?_cons,e]
theorem Y5{p:κ×V}{r:List (κ×V)}{k:κ}(e:¬ p.1=k):valV (p::r) k=valV r k:=by simp[valV,List.find?_cons,e]
theorem Yv(k:κ):∀ kvs:List (κ×V),(kvs.any fun kv=>decide (kv.1=k))=(valV kvs k).isSome
 | []=>rfl
 | p::r=>by
  rw[List.any_cons];by_cases e:p.1=k
  ·simp only[Y4 e,decide_eq_true e,Bool.true_or,Option.isSome_some]
  ·rw[Y5 e,decide_eq_false e,Bool.false_or];exact Yv k r
theorem Qy(k j:κ)(y:V):∀ kvs:List (κ×V),valV (kvs.map fun kv=>if kv.1=k then(kv.1,y) else kv) j=(valV kvs j).map fun x=>if j=k then y else x
 | []=>rfl
 | p::r=>by
  have ih:=Qy k j y r;rw[List.map_cons];by_cases h:p.1=k
  ·rw[if_pos h];by_cases e:p.1=j
   ·rw[Y4 (p:=(p.1,y)) e,Y4 e,Option.map_some,if_pos (e.symm.trans h)]
   ·rw[Y5 (p:=(p.1,y)) e,Y5 e,ih]
  ·rw[if_neg h];by_cases e:p.1=j
   ·rw[Y4 (p:=p) e,Y4 e,Option.map_some,if_neg (fun z=>h (e.trans z))]
   ·rw[Y5 (p:=p) e,Y5 e,ih]
theorem VF(k j:κ)(y:V):∀ kvs:List (κ×V),valV kvs k=none→valV (kvs++[(k,y)]) j=if j=k then some y else valV kvs j
 | [],_=>by
  by_cases e:k=j
  ·rw[if_pos e.symm];exact Y4 (p:=(k,y)) e
  ·rw[if_neg (fun z=>e z.symm)];exact Y5 (p:=(k,y)) e
 | p::r,hn=>by
  rw[List.cons_append];have hk:¬ p.1=k:=fun z=>by rw[Y4 z] at hn;cases hn
  rw[Y5 hk] at hn;have ih:=VF k j y r hn;by_cases e:p.1=j
  ·rw[Y4 e,Y4 e,if_neg (fun z=>hk (e.trans z))]
  ·rw[Y5 e,Y5 e,ih]
theorem Md(kvs:List (κ×V))(k j:κ)(y:V):valV (putK kvs k y) j=if j=k then some y else valV kvs j:=by
 unfold putK;by_cases a:(kvs.any fun kv=>decide (kv.1=k))=true
 ·rw[if_pos a,Qy];rw[Yv] at a;by_cases e:j=k
  ·obtain⟨x,hx⟩:=Option.isSome_iff_exists.mp a;rw[if_pos e,e,hx,Option.map_some,if_pos rfl]
  ·rw[if_neg e];cases valV kvs j with
   | none=>rfl
   | some x=>rw[Option.map_some,if_neg e]
 ·rw[if_neg a];refine VF k j y kvs ?_;rw[Yv] at a;cases q:valV kvs k with
  | none=>rfl
  | some x=>rw[q] at a;exact(a rfl).elim
theorem Jx(kvs:List (κ×V))(k:κ)(v:V):(putK kvs k v).length≤kvs.length+1:=by
 unfold putK;split
 ·rw[List.length_map];lia
 ·rw[List.length_append,List.length_cons,List.length_nil];lia
theorem QJ{kvs:List (κ×V)}{k:κ}(v:V)(h:valV kvs k=none):putK kvs k v=kvs++[(k,v)]:=by
 unfold putK;rw[Yv,h];exact if_neg (by decide)
theorem RelO.isSome_eq{o:Option V}{u:Option Value}(r:RelO o u):o.isSome=u.isSome:=by
 cases o with
 | none=>cases u with
  | none=>rfl
  | some _=>exact(show False from r).elim
 | some _=>cases u with
  | none=>exact(show False from r).elim
  | some _=>rfl
theorem RelO.getD{o:Option V}{u:Option Value}{d:V}{d':Value}(r:RelO o u)(rd:RelV d d'):RelV (o.getD d) (u.getD d'):=by
 cases o with
 | none=>cases u with
  | none=>exact rd
  | some _=>exact(show False from r).elim
 | some _=>cases u with
  | none=>exact(show False from r).elim
  | some _=>exact r
theorem KV.val{kvs:List (κ×V)}{vs:List (κ×Value)}(r:KV kvs vs)(k:κ):RelO (valV kvs k) (valueAt vs k):=by
 unfold KV at r
 induction r with
 | nil=>exact True.intro
 | @cons p q ps qs h t ih =>
  obtain⟨h1,h2⟩:=h;by_cases e:p.1=k
  ·have e':q.1=k:=h1.symm.trans e;have b:valueAt (q::qs) k=some q.2:=by simp[valueAt,List.find?_cons,e']
   rw[Y4 e,b];exact h2
  ·have e':¬ q.1=k:=fun z=>e (h1.trans z);have b:valueAt (q::qs) k=valueAt qs k:=by simp[valueAt,List.find?_cons,e']
   rw[Y5 e,b];exact ih
theorem KV.any{kvs:List (κ×V)}{vs:List (κ×Value)}(r:KV kvs vs)(k:κ):(kvs.any fun kv=>decide (kv.1=k))=vs.any fun kv=>decide (kv.1=k):=by
 unfold KV at r
 induction r with
 | nil=>rfl
 | cons h t ih=>rw[List.any_cons,List.any_cons,ih,h.1]
theorem KV.repl{kvs:List (κ×V)}{vs:List (κ×Value)}(r:KV kvs vs)(k:κ){y:V}{u:Value}(ry:RelV y u):
  KV (kvs.map fun kv=>if kv.1=k then(kv.1,y) else kv) (vs.map fun kv=>if kv.1=k then(kv.1,u) else kv):=by
 unfold KV at r ⊢
 induction r with
 | nil=>exact .nil
 | @cons p q ps qs h t ih =>
  rw[List.map_cons,List.map_cons];refine .cons ?_ ih;obtain⟨h1,h2⟩:=h;by_cases e:p.1=k
  ·rw[if_pos e,if_pos (h1.symm.trans e)];exact⟨h1,ry⟩
  ·rw[if_neg e,if_neg (fun z=>e (h1.trans z))];exact⟨h1,h2⟩
theorem KV.put{kvs:List (κ×V)}{vs:List (κ×Value)}(r:KV kvs vs)(k:κ){y:V}{u:Value}(ry:RelV y u):KV (putK kvs k y) (stored vs k u):=by
 unfold putK stored;rw[r.any k];by_cases e:(vs.any fun kv=>decide (kv.1=k))=true
 ·rw[if_pos e,if_pos e];exact r.repl k ry
 ·rw[if_neg e,if_neg e];exact Paired.snoc r ⟨rfl,ry⟩
theorem KV.length{kvs:List (κ×V)}{vs:List (κ×Value)}(r:KV kvs vs):kvs.length=vs.length:=Paired.length r
end
theorem UP{P:Program}{w:World}{k:Key}{u:Value}(r:RelV (kV k) u):(mixKind P w).is k u=true:=by
 cases k with
 | inl i=>obtain⟨t,e⟩:=(show ∃ t,u=Value.int i t from r);subst e;exact QY P w i t
 | inr x=>obtain⟨t,e⟩:=(show ∃ t,u=Value.str x t from r);subst e;exact QX P w x t
theorem VU{P:Program}{w:World}:∀{ks:List Key} {us:List Value},Vals (ks.map kV) us→ItemsAre (mixKind P w) ks us
 | [],_,r=>by rw[List.map_nil] at r;cases r;exact .nil
 | k::ks,_,r=>by
  rw[List.map_cons] at r;cases r with
  | cons h t=>exact .cons (UP h) (VU t)
abbrev KT(H:Hp):List (List Key×V)→List (List Key×Addr×Value)→Prop:=Paired fun p q=>p.1=q.1∧H q.2.1=some (.tup (p.1.map kV))∧RelV p.2 q.2.2
theorem KT.val{H:Hp}{kvs:List (List Key×V)}{xs:List (List Key×Addr×Value)}(r:KT H kvs xs)(k:List Key):RelO (valV kvs k) ((atKey xs k).map (·.2)):=by
 induction r with
 | nil=>exact True.intro
 | @cons p q ps qs h t ih =>
  obtain⟨h1,_,h2⟩:=h;by_cases e:p.1=k
  ·have e':q.1=k:=h1.symm.trans e;have b:atKey (q::qs) k=some q.2:=by simp[atKey,List.find?_cons,e']
   rw[Y4 e,b];exact h2
  ·have e':¬ q.1=k:=fun z=>e (h1.trans z);have b:atKey (q::qs) k=atKey qs k:=by simp[atKey,List.find?_cons,e']
   rw[Y5 e,b];exact ih
theorem KT.repl{H:Hp}{kvs:List (List Key×V)}{xs:List (List Key×Addr×Value)}(r:KT H kvs xs)(k:List Key){y:V}{u:Value}(ry:RelV y u):
  KT H (kvs.map fun kv=>if kv.1=k then(kv.1,y) else kv) (xs.map (putAt k u)):=by
 induction r with
 | nil=>exact .nil
 | @cons p q ps qs h t ih =>
  rw[List.map_cons,List.map_cons];refine .cons ?_ ih;obtain⟨h1,h2,h3⟩:=h;unfold putAt;by_cases e:p.1=k
  ·rw[if_pos e,if_pos (h1.symm.trans e)];exact⟨h1,h2,ry⟩
  ·rw[if_neg e,if_neg (fun z=>e (h1.trans z))];exact⟨h1,h2,h3⟩
theorem KT.put{H:Hp}{kvs:List (List Key×V)}{xs:List (List Key×Addr×Value)}(r:KT H kvs xs)(k:List Key){b:Addr}{y:V}{u:Value}(hb:H b=some (.tup (k.map kV)))(ry:RelV y u):
  KT H (putK kvs k y) (storedH xs k b u):=by
 have e:(kvs.any fun kv=>decide (kv.1=k))=(atKey xs k).isSome:=by
  rw[Yv,(r.val k).isSome_eq,Option.isSome_map]
 unfold putK storedH;rw[e];by_cases q:(atKey xs k).isSome=true
 ·rw[if_pos q,if_pos q];exact r.repl k ry
 ·rw[if_neg q,if_neg q];exact Paired.snoc r ⟨rfl,hb,ry⟩
theorem KT.keeps{H H':Hp}{kvs:List (List Key×V)}{xs:List (List Key×Addr×Value)}(r:KT H kvs xs)(ht:∀ b ys,H b=some (.tup ys)→H' b=some (.tup ys)):KT H' kvs xs :=
 Paired.mapP r fun _ _ z=>⟨z.1,ht _ _ z.2.1,z.2.2⟩
section
variable {P:Program}{w:World}{H:Hp}{h:Heap}{a:Addr}
theorem DY{u:HO}(ok:HOk P w H h)(e:Rd H a u):ObjOk P w H h a u:=e.ok ok
theorem Uo{kvs:List (Key×V)}(ok:HOk P w H h)(e:Rd H a (.dK kvs)):kvs.length≤zF∧(a==sysModules)=false∧∃ vs,KV kvs vs∧h.DictOf (mixKind P w) a vs :=
 show ObjOk P w H h a (.dK kvs) from DY ok e
theorem Nt{kvs:List (Key×V)}(ok:HOk P w H h)(e:H a=some (.dK kvs)):kvs.length≤zF∧(a==sysModules)=false∧∃ vs,KV kvs vs∧h.DictOf (mixKind P w) a vs:=Uo ok (.inl e)
theorem U1{ks:List Key}(ok:HOk P w H h)(e:H a=some (.tup (ks.map kV))):(tupleKind (mixKind P w)).is h ks a:=by
 obtain⟨_,bw,r,o,h1,h2,n,h3⟩:=(show ObjOk P w H h a (.tup (ks.map kV)) from ok a _ e)
 exact⟨o,bw.toArray,n,h1,h2,h3,by simpa using VU r⟩
theorem UQ{kvs:List (List Key×V)}(ok:HOk P w H h)(e:Rd H a (.dT kvs)):kvs.length≤zF∧(a==sysModules)=false ∧
  ∃ xs,KT H kvs xs∧h.DictOfH (tupleKind (mixKind P w)) a xs:=by
 obtain⟨z,y,xs,r,o,es,ep,h1,h2,h3,h4,h5⟩:=(show ObjOk P w H h a (.dT kvs) from DY ok e)
 refine⟨z,y,xs,r,o,es,ep,h1,h2,h3,h4,fun x hx=>?_,h5⟩;have all:∀{l:List (List Key×V)} {m:List (List Key×Addr×Value)},KT H l m→∀ x∈m,(tupleKind (mixKind P w)).is h x.1 x.2.1:=by
  intro l m q
  induction q with
  | nil=>intro x hx;exact nomatch hx
  | @cons p q ps qs hq t ih =>
   intro x hx;rcases List.mem_cons.mp hx with e | hx
   ·subst e;exact U1 ok (by rw[←hq.1];exact hq.2.1)
   ·exact ih x hx
 exact all r x hx
theorem RW{kvs:List (List Key×V)}(ok:HOk P w H h)(e:H a=some (.dT kvs)):kvs.length≤zF∧(a==sysModules)=false ∧
  ∃ xs,KT H kvs xs∧h.DictOfH (tupleKind (mixKind P w)) a xs:=UQ ok (.inl e)
end
def DGet (H:Hp)(a:Addr)(y:V)(r:Option V):Prop :=
 (∃ kvs k,Rd H a (.dK kvs)∧y=kV k∧r=valV kvs k)∨∃ kvs k b,Rd H a (.dT kvs)∧y = .ref b∧H b=some (.tup (k.map kV))∧r=valV kvs k
def DPut (H:Hp)(a:Addr)(y v:V)(H':Hp):Prop :=
 (∃ kvs k,H a=some (.dK kvs)∧y=kV k∧kvs.length<zF∧H'=upd H a (.dK (putK kvs k v))) ∨
 ∃ kvs k b,H a=some (.dT kvs)∧y = .ref b∧H b=some (.tup (k.map kV))∧kvs.length<zF∧H'=upd H a (.dT (putK kvs k v))
theorem DGet.k{H:Hp}{a:Addr}{kvs:List (Key×V)}{k:Key}(e:H a=some (.dK kvs)):DGet H a (kV k) (valV kvs k):=.inl ⟨kvs,k,.inl e,rfl,rfl⟩
theorem DPut.k{H:Hp}{a:Addr}{kvs:List (Key×V)}{k:Key}{v:V}(e:H a=some (.dK kvs))(hl:kvs.length<zF):DPut H a (kV k) v (upd H a (.dK (putK kvs k v))):=.inl ⟨kvs,k,e,rfl,hl,rfl⟩
section
variable {X:Cx}{b9:List (Addr×Obj)}{σ:St}{H:Hp}{s:Shared}{a:Addr}{y v:V}{u r:Value}{o:Option V}{A:Around}{E:Value→Shared→Prop}
theorem Inv.big(I:Inv X b9 σ H s):sysModules<s.heap.objs.size:=by
 have h:zE<s.heap.objs.size:=(I.mod.glob.keeps I.bk).lt;exact Nat.lt_trans (by decide) h
theorem M4{Q:Value→Shared→Prop}(hu:A.units+1<cLine)(I:Inv X b9 σ H s)(g:DGet H a y (some v))(ry:RelV y u)(h:∀ w' s',Inv X b9 σ H s'→RelV v w'→Q w' s'):
  wpAny (model X.prog X.w) A (getItem (.ref a) u) Q E s:=by
 rcases g with ⟨kvs,k,e,ey,l⟩ | ⟨kvs,k,b,e,ey,eb,l⟩
 ·subst ey;obtain⟨z,hd,vs,rel,dd⟩:=Uo I.hok e;obtain⟨w',hw,rw'⟩:=RelO.some_of (v:=v) (o:=valueAt vs k) (by rw[l];exact rel.val k)
  exact wpAny_getItem_of (UP ry) dd.mapOf hw (h w' _ (I.tok _) rw')
 ·subst ey;cases (show u=Value.ref b from ry)
  obtain⟨z,hd,xs,rel,dd⟩:=UQ I.hok e;obtain⟨w',hw,rw'⟩:=RelO.some_of (v:=v) (o:=(atKey xs k).map (·.2)) (by rw[l];exact rel.val k)
  obtain⟨p,hp,hp2⟩:=Option.map_eq_some_iff.mp hw;refine wpAny_getItem_heap (tupleKind_room_in1 hu) (U1 I.hok eb) dd hp ?_;rw[hp2];exact h w' _ (I.tok _) rw'
theorem d_in{Q:Value→Shared→Prop}(hu:A.units+1<cLine)(I:Inv X b9 σ H s)(g:DGet H a y o)(ry:RelV y u)(h:∀ s',Inv X b9 σ H s'→Q (.bool o.isSome) s'):
  wpAny (model X.prog X.w) A (compareOp .In u (.ref a)) Q E s:=by
 rcases g with ⟨kvs,k,e,ey,l⟩ | ⟨kvs,k,b,e,ey,eb,l⟩
 ·subst ey;obtain⟨z,hd,vs,rel,dd⟩:=Uo I.hok e;refine wpAny_in_of (UP ry) hd dd.mapOf ?_;rw[←(rel.val k).isSome_eq,←l];exact h _ (I.tok _)
 ·subst ey;cases (show u=Value.ref b from ry)
  obtain⟨z,hd,xs,rel,dd⟩:=UQ I.hok e;refine wpAny_in_heap (tupleKind_room_in1 hu) (U1 I.hok eb) hd dd ?_;have q:=(rel.val k).isSome_eq;rw[Option.isSome_map] at q;rw[←q,←l];exact h _ (I.tok _)
theorem Dz{Q:Value→Shared→Prop}(hu:A.units+1<cLine)(I:Inv X b9 σ H s)(g:DGet H a y o)(ry:RelV y u)(h:∀ s',Inv X b9 σ H s'→Q (.bool (!o.isSome)) s'):
  wpAny (model X.prog X.w) A (compareOp .NotIn u (.ref a)) Q E s:=by
 rcases g with ⟨kvs,k,e,ey,l⟩ | ⟨kvs,k,b,e,ey,eb,l⟩
 ·subst ey;obtain⟨z,hd,vs,rel,dd⟩:=Uo I.hok e;refine wpAny_notIn_of (UP ry) hd dd.mapOf ?_;rw[←(rel.val k).isSome_eq,←l];exact h _ (I.tok _)
 ·subst ey;cases (show u=Value.ref b from ry)
  obtain⟨z,hd,xs,rel,dd⟩:=UQ I.hok e;refine wpAny_notIn_heap (tupleKind_room_in1 hu) (U1 I.hok eb) hd dd ?_;have q:=(rel.val k).isSome_eq;rw[Option.isSome_map] at q;rw[←q,←l];exact h _ (I.tok _)
theorem Qn{h':Heap}{t':Nat}{ob:HO}(I:Inv X b9 σ H s)(mu:Mut (H a))(hs:Heap.SameBut a s.heap h')(he:∃ q,h'.get? a=some q)(new:ObjOk X.prog X.w (upd H a ob) h' a ob):
  Inv X b9 σ (upd H a ob) { s with heap:=h',toks:=t' }:=
 I.write (x:=a) (e:=a) mu (.inl rfl) (fun b q hb z=>(hs.2 b hb).trans z) he new
theorem Nu{P:Program}{w:World}{H':Hp}{h':Heap}{kvs:List (Key×V)}{vs:List (Key×Value)}(z:kvs.length≤zF)(hd:(a==sysModules)=false)(rel:KV kvs vs)(dd:h'.DictOf (mixKind P w) a vs):
  ObjOk P w H' h' a (.dK kvs):=⟨z,hd,vs,rel,dd⟩
theorem M3{H':Hp}{Q:Unit→Shared→Prop}(hu:A.units+1<cLine)(I:Inv X b9 σ H s)(g:DPut H a y v H')(ry:RelV y u)(rv:RelV v r)(h:∀ s',Inv X b9 σ H' s'→Q () s'):
  wpAny (model X.prog X.w) A (setItem (.ref a) u r) Q E s:=by
 rcases g with ⟨kvs,k,e,ey,l,eH⟩ | ⟨kvs,k,b,e,ey,eb,l,eH⟩
 ·subst ey eH;obtain⟨z,hd,vs,rel,dd⟩:=Nt I.hok e;have hz:vs.length≤zF:=by rw[←rel.length];exact z
  have hl:(putK kvs k v).length≤zF:=by have:=Jx kvs k v;lia
  refine wpAny_setItem_pairs (hsz:=hz) (UP ry) dd fun h' dd' hs=>h _ ?_;have he:∃ q,h'.get? a=some q:=let ⟨q,_,_,hq,_⟩:=dd';⟨q,hq⟩
  exact Qn I (by rw[e];exact True.intro) hs he (Nu hl hd (rel.put k rv) dd')
 ·subst ey eH;cases (show u=Value.ref b from ry)
  obtain⟨z,hd,xs,rel,dd⟩:=RW I.hok e;have hz:xs.length≤zF:=by rw[←Paired.length rel];exact z
  have hl:(putK kvs k v).length≤zF:=by have:=Jx kvs k v;lia
  refine wpAny_setItem_heap (hsz:=hz) (tupleKind_room_in1 hu) (U1 I.hok eb) dd fun h' dd' hs=>h _ ?_;obtain⟨q,es,ep,hq,h2,h3,h4,_,h5⟩:=dd';refine Qn I (by rw[e];exact True.intro) hs ⟨q,hq⟩ ⟨hl,hd,_,(rel.put k eb rv).keeps fun c ys ec=>?_,q,es,ep,hq,h2,h3,h4,h5⟩
  rw[Z1 (Yo ec e (fun z=>nomatch z))];exact ec
end
section
variable {X:Cx}{b9:List (Addr×Obj)}{σ:St}{H:Hp}{s:Shared}{a:Addr}{kvs:List (Key×V)}{k:Key}{u:Value}{A:Around}{E:Value→Shared→Prop}
theorem RX{Q:Value→Shared→Prop}(I:Inv X b9 σ H s)(e:Rd H a (.dK kvs))(h:∀ t s',Inv X b9 σ H s'→Q (.int kvs.length t) s'):wpAny (model X.prog X.w) A (call (.builtin "len") [.ref a]) Q E s:=by
 obtain⟨z,hd,vs,rel,dd⟩:=Uo I.hok e;refine call_len_dict hd dd (by rw[←rel.length];rw[sizeLine_eq] at z;lia) ?_
 rw[←rel.length];exact h _ _ (I.tok _)
end
def NoSl (i:Expr):Prop:=∀ ov iv,subscripted i false ov iv=operate [ov,iv] (getItem ov iv)
theorem NJ{prog:Program}{w:World}{A:Around}{E:Value→Shared→Prop}{s:Shared}{env:Env}{value slice:Expr}{pos:Pos}{T id:String}{Q:Value→Shared→Prop}(hl:typeLookup (.type T) "__getitem__"=pure (some (.builtin id)))(hs:NoSl slice)(h:wpAny (model prog w) A (eval value env) (fun o s₁=>wpAny (model prog w) A (eval slice env) (fun i s₂=>s₂.TypeIs o T∧wpAny (model prog w) A (getItem o i) Q E s₂) E s₁) E s):
  wpAny (model prog w) A (eval (.Subscript value slice pos) env) Q E s:=by
 refine Subscript_ (zC h (fun o s₁ h₁=>zC h₁ (fun i s₂ h₂=>?_) fun _ _ x=>x) fun _ _ x=>x);obtain⟨hT,h₂⟩:=h₂;unfold subscriptTail;refine zA ?_;rw[getitemInPython_of_ne hT.not_modules];refine zA (wpAny_specialOf hT hl ?_);have fin:wpAny (model prog w) A (subscripted slice false o i) (fun r s₃=>wpAny (model prog w) A (letTemporaryGo value o r >>= fun _=>pure r) Q E s₃) E s₂:=by
  rw[hs o i];exact wpAny_operating (zC h₂ (fun r s₃ h₃=>zA (wpAny_letTemporaryGo (zB h₃))) fun _ _ x=>x)
 first
  | exact zB (zA fin)
  | exact zA (zB (zA fin))
  | exact zA fin
theorem Xa{X:Cx}{b9 σ H s}{a:Addr}{y:V}{o:Option V}(I:Inv X b9 σ H s)(g:DGet H a y o):s.TypeIs (.ref a) "dict":=by
 rcases g with ⟨kvs,k,e,_,_⟩ | ⟨kvs,k,b,e,_,_,_⟩
 ·obtain⟨_,_,vs,_,dd⟩:=Uo I.hok e;exact dd.typeIs
 ·obtain⟨_,_,xs,_,dd⟩:=UQ I.hok e;exact dd.typeIs
def Rq(td ty:TE):TE:=fun σ H Q=>td σ H fun x H1=>ty σ H1 fun y H2=>∃ a v,x = .ref a∧DGet H2 a y (some v)∧Q v H2
def tDIn (ty td:TE):TE:=fun σ H Q=>ty σ H fun y H1=>td σ H1 fun x H2=>∃ a o,x = .ref a∧DGet H2 a y o∧Q (.bl o.isSome) H2
def NH(ty td:TE):TE:=fun σ H Q=>ty σ H fun y H1=>td σ H1 fun x H2=>∃ a o,x = .ref a∧DGet H2 a y o∧Q (.bl (!o.isSome)) H2
def Ry(td ty tv:TE):TS:=fun D σ H=>tv σ H fun v H1=>td σ H1 fun x H2=>ty σ H2 fun y H3=>∃ a H4,x = .ref a∧DPut H3 a y v H4∧D.nx σ H4
section
variable {X:Cx}{o i e value:Expr}{pos pos' tpos:Pos}{td ty tv:TE}
theorem Yk(hu:X.A.units+1<cLine)(ho:PE X o td)(hi:PE X i ty)(hs:NoSl i):PE X (.Subscript o i pos) (Rq td ty):=by
 intro b9 s σ H Q I h;refine NJ PySem.F.slot_dict_getitem.lookup hs (thn (ho b9 s σ H _ I h) fun u s1 ⟨x,H1,I1,rx,q1⟩=>thn (hi b9 s1 σ H1 _ I1 q1) fun iv s2 ⟨y,H2,I2,ry,a,v,ex,g,q2⟩=>?_);subst ex;obtain rfl:u=Value.ref a:=rx;exact⟨Xa I2 g,M4 hu I2 g ry fun w' s3 I3 rw'=>⟨v,H2,I3,rw',q2⟩⟩
theorem Xw(hu:X.A.units+1<cLine)(hi:PE X i ty)(ho:PE X o td):PC X .In i o (tDIn ty td):=by
 intro b9 s σ H Q I h;refine thn (hi b9 s σ H _ I h) fun iv s1 ⟨y,H1,I1,ry,q1⟩=>thn (ho b9 s1 σ H1 _ I1 q1) fun u s2 ⟨x,H2,I2,rx,a,ov,ex,g,q2⟩=>?_;subst ex;obtain rfl:u=Value.ref a:=rx;exact d_in hu I2 g ry fun s3 I3=>⟨.bl ov.isSome,H2,I3,rfl,q2⟩
theorem Ux(hu:X.A.units+1<cLine)(hi:PE X i ty)(ho:PE X o td):PC X .NotIn i o (NH ty td):=by
 intro b9 s σ H Q I h;refine thn (hi b9 s σ H _ I h) fun iv s1 ⟨y,H1,I1,ry,q1⟩=>thn (ho b9 s1 σ H1 _ I1 q1) fun u s2 ⟨x,H2,I2,rx,a,ov,ex,g,q2⟩=>?_;subst ex;obtain rfl:u=Value.ref a:=rx;exact Dz hu I2 g ry fun s3 I3=>⟨.bl (!ov.isSome),H2,I3,rfl,q2⟩
theorem Uh(hu:X.A.units+1<cLine)(ho:PE X o td)(hi:PE X i ty)(hv:PE X value tv)(hs:swapsWith value (some (.Subscript o i pos')) pos.line X.env=pure false):
  PS X (.Assign [.Subscript o i pos'] value pos) (Ry td ty tv):=by
 intro b9 s σ H D I h;refine wpAny_Assign_Subscript (thn (hv b9 s σ H _ I h) fun r s1 ⟨v,H1,I1,rv,q1⟩=>thn (ho b9 s1 σ H1 _ I1 q1) fun u s2 ⟨x,H2,I2,rx,q2⟩=>thn (hi b9 s2 σ H2 _ I2 q2) fun iv s3 ⟨y,H3,I3,ry,a,H4,ex,g,q3⟩=>?_) hs;subst ex;obtain rfl:u=Value.ref a:=rx;exact M3 hu I3 g ry rv fun s4 I4=>⟨σ,H4,I4,q3⟩
end
theorem Nv{P:Program}{w:World}{H:Hp}(h:Heap)(hb:sysModules<h.objs.size):ObjOk P w H (h.push { cls:=.type "dict",data:=.dict #[] }) h.objs.size (.dK []):=
 ⟨Nat.zero_le _,beq_eq_false_iff_ne.mpr (Ne.symm (Nat.ne_of_lt hb)),[],.nil,Heap.DictOf.new h⟩
def Qa:TE:=fun _ H Q=>∀ p,H p=none→Q (.ref p) (upd H p (.dK []))
section
variable {X:Cx}{pos:Pos}
theorem YS:PE X (.Dict [] [] pos) Qa:=fun b9 s σ H Q I h =>
 wpAny_Dict_empty ⟨.ref s.heap.objs.size,_,I.laid (a:=s.heap.objs.size) (o:=.dK []) (t':=s.toks) (fun _ _ q=>Heap.get?_push_of_some _ q) (Nat.le_refl _) (Nv s.heap I.big),rfl,h _ (I.hok.fresh (Nat.le_refl _))⟩
end
structure M1(X:Cx)(o:Expr)(m:Str)(c9:Pos)(e:Expr)(cpos:Pos):Prop where
 base:attributeBase o m X.env (eval o X.env)=eval o X.env
 few:((backTo cpos (zG [e] X.env)).all (fun x=>!x.1)&&(backToKw cpos (keywordEach [] X.env)).all (fun x=>x.1.isSome)
 &&decide (([e]:List Expr).length+([]:List Keyword).length+(if([]:List Keyword).isEmpty then 0 else 1)<30))=true
 line:(c9.endLine==cpos.line)=true
 trees:backTo cpos (zG [e] X.env)=[(false,eval e X.env)]
structure M2(X:Cx)(o:Expr)(m:Str)(c9:Pos)(e f:Expr)(cpos:Pos):Prop where
 base:attributeBase o m X.env (eval o X.env)=eval o X.env
 few:((backTo cpos (zG [e,f] X.env)).all (fun x=>!x.1)&&(backToKw cpos (keywordEach [] X.env)).all (fun x=>x.1.isSome)
 &&decide (([e,f]:List Expr).length+([]:List Keyword).length+(if([]:List Keyword).isEmpty then 0 else 1)<30))=true
 line:(c9.endLine==cpos.line)=true
 trees:backTo cpos (zG [e,f] X.env)=[(false,eval e X.env),(false,eval f X.env)]
def IsD (H:Hp)(a:Addr):Prop:=(∃ kvs,Rd H a (.dK kvs))∨∃ kvs,Rd H a (.dT kvs)
theorem XS{X:Cx}{b9 σ H s}{a:Addr}(I:Inv X b9 σ H s)(d:IsD H a):
  s.TypeIs (.ref a) "dict"∧(∀ b,Value.ref a = .ref b→∃ ob,s.heap.get? b=some ob∧ob.dict=none)∧(a==sysModules)=false:=by
 rcases d with ⟨kvs,e⟩ | ⟨kvs,e⟩
 ·obtain⟨_,hd,vs,_,dd⟩:=Uo I.hok e;refine⟨dd.typeIs,fun b q=>?_,hd⟩;cases q;obtain⟨ob,_,_,h1,h2,_⟩:=dd;exact⟨ob,h1,h2.2.1⟩
 ·obtain⟨_,hd,xs,_,dd⟩:=UQ I.hok e;refine⟨dd.typeIs,fun b q=>?_,hd⟩;cases q;obtain⟨ob,_,_,h1,h2,_⟩:=dd;exact⟨ob,h1,h2.2.1⟩
section
variable {X:Cx}{b9:List (Addr×Obj)}{σ:St}{H:Hp}{s:Shared}{a:Addr}{y d:V}{u r:Value}{o:Option V}{A:Around}{E:Value→Shared→Prop}
theorem R9{Q:Value→Shared→Prop}(hu:A.units+1<cLine)(I:Inv X b9 σ H s)(g:DGet H a y o)(ry:RelV y u)(h:∀ w' s',Inv X b9 σ H s'→RelV (o.getD .non) w'→Q w' s'):
  wpAny (model X.prog X.w) A (call (.builtin "dict.get") [.ref a,u]) Q E s:=by
 rcases g with ⟨kvs,k,e,ey,l⟩ | ⟨kvs,k,b,e,ey,eb,l⟩
 ·subst ey;obtain⟨z,hd,vs,rel,dd⟩:=Uo I.hok e;refine call_meetsIn PySem.F.slot_dict_get dd.typeIs PySem.F.entry_dict_get (PySem.F.args_dict_get_2 _ _) (meets_dict_get (mixKind X.prog X.w) a (UP ry) hd) ⟨_,dd.mapOf,h _ _ (I.tok _) ?_⟩;rw[l];exact(rel.val k).getD rfl
 ·subst ey;cases (show u=Value.ref b from ry)
  obtain⟨z,hd,xs,rel,dd⟩:=UQ I.hok e;refine call_meetsIn PySem.F.slot_dict_get dd.typeIs PySem.F.entry_dict_get (PySem.F.args_dict_get_2 _ _) (meetsH_dict_get (tupleKind (mixKind X.prog X.w)) a b hd) ⟨tupleKind_room_in1 hu,k,xs,U1 I.hok eb,dd,h _ _ (I.tok _) ?_⟩;rw[l];exact(rel.val k).getD rfl
theorem R8{Q:Value→Shared→Prop}(hu:A.units+1<cLine)(I:Inv X b9 σ H s)(g:DGet H a y o)(ry:RelV y u)(rd:RelV d r)(h:∀ w' s',Inv X b9 σ H s'→RelV (o.getD d) w'→Q w' s'):
  wpAny (model X.prog X.w) A (call (.builtin "dict.get") [.ref a,u,r]) Q E s:=by
 rcases g with ⟨kvs,k,e,ey,l⟩ | ⟨kvs,k,b,e,ey,eb,l⟩
 ·subst ey;obtain⟨z,hd,vs,rel,dd⟩:=Uo I.hok e;refine call_meetsIn PySem.F.slot_dict_get dd.typeIs PySem.F.entry_dict_get (PySem.F.args_dict_get_3 _ _ _) (meets_dict_get_default (mixKind X.prog X.w) a (UP ry) hd r) ⟨_,dd.mapOf,h _ _ (I.tok _) ?_⟩;rw[l];exact(rel.val k).getD rd
 ·subst ey;cases (show u=Value.ref b from ry)
  obtain⟨z,hd,xs,rel,dd⟩:=UQ I.hok e;refine call_meetsIn PySem.F.slot_dict_get dd.typeIs PySem.F.entry_dict_get (PySem.F.args_dict_get_3 _ _ _) (meetsH_dict_get_default (tupleKind (mixKind X.prog X.w)) a b hd r) ⟨tupleKind_room_in1 hu,k,xs,U1 I.hok eb,dd,h _ _ (I.tok _) ?_⟩;rw[l];exact(rel.val k).getD rd
end
def Tt(td ty:TE):TE:=fun σ H Q=>td σ H fun x H1=>∃ a,x = .ref a∧IsD H1 a∧ty σ H1 fun y H2=>∃ o,DGet H2 a y o∧Q (o.getD .non) H2
def Tr(td ty tx:TE):TE:=fun σ H Q=>td σ H fun x H1=>∃ a,x = .ref a∧IsD H1 a∧ty σ H1 fun y H2=>tx σ H2 fun z H3=>∃ o,DGet H3 a y o∧Q (o.getD z) H3
section
variable {X:Cx}{o e f:Expr}{c9 cpos:Pos}{td ty tx:TE}
theorem MR(hu:X.A.units+1<cLine)(ho:PE X o td)(he:PE X e ty)(m:M1 X o "get" c9 e cpos):PE X (.Call (.Attribute o "get" c9) [e] [] cpos) (Tt td ty):=by
 intro b9 s σ H Q I h;refine wpAny_Call_method m.base m.few m.line PySem.F.plainAttrs_dict PySem.F.slot_dict_get PySem.F.type_dict_get (thn (ho b9 s σ H _ I h) fun u s1 ⟨x,H1,I1,rx,a,ex,d,q1⟩=>?_);subst ex;obtain rfl:u=Value.ref a:=rx;obtain⟨t1,t2,_⟩:=XS I1 d;refine⟨t1,t2,?_⟩;rw[m.trees];refine Calls.callWith_builtin rfl (Calls.evalArgs_plain (Calls.spliced_cons (thn (he b9 s1 σ H1 _ I1 q1) fun iv s2 ⟨y,H2,I2,ry,ov,g,q2⟩=>Calls.spliced_nil ?_)));exact R9 hu I2 g ry fun w' s3 I3 rw'=>⟨_,H2,I3,rw',q2⟩
theorem QP(hu:X.A.units+1<cLine)(ho:PE X o td)(he:PE X e ty)(hf:PE X f tx)(m:M2 X o "get" c9 e f cpos):PE X (.Call (.Attribute o "get" c9) [e,f] [] cpos) (Tr td ty tx):=by
 intro b9 s σ H Q I h;refine wpAny_Call_method m.base m.few m.line PySem.F.plainAttrs_dict PySem.F.slot_dict_get PySem.F.type_dict_get (thn (ho b9 s σ H _ I h) fun u s1 ⟨x,H1,I1,rx,a,ex,d,q1⟩=>?_);subst ex;obtain rfl:u=Value.ref a:=rx;obtain⟨t1,t2,_⟩:=XS I1 d;refine⟨t1,t2,?_⟩;rw[m.trees];refine Calls.callWith_builtin rfl (Calls.evalArgs_plain (Calls.spliced_cons (thn (he b9 s1 σ H1 _ I1 q1) fun iv s2 ⟨y,H2,I2,ry,q2⟩ =>
  Calls.spliced_cons (thn (hf b9 s2 σ H2 _ I2 q2) fun fv s3 ⟨z,H3,I3,rz,ov,g,q3⟩=>Calls.spliced_nil ?_))))
 exact R8 hu I3 g ry rz fun w' s4 I4 rw'=>⟨_,H3,I4,rw',q3⟩
end
section
variable {X:Cx}{b9:List (Addr×Obj)}{σ:St}{H:Hp}{s:Shared}{a:Addr}{kvs:List (Key×V)}{A:Around}{E:Value→Shared→Prop}
end
section
variable {X:Cx}{b9:List (Addr×Obj)}{σ:St}{H:Hp}{s:Shared}{a:Addr}{y:V}{u:Value}{A:Around}{E:Value→Shared→Prop}
end
end L2
namespace Att
open PySem PySem.W PySem.Calls PyProof.Rows
theorem UT{P:Params}{h:Heap}:∀(ns:List Int) (vs:List Value),WellAll P h vs (ns.map WData.int)→IntsAre vs ns:=by
 intro ns
 induction ns with
 | nil =>
  intro vs w;rw[List.map_nil] at w;cases w;exact .nil
 | cons n ns ih =>
  intro vs w;rw[List.map_cons] at w;cases w with
  | cons a b =>
   cases a;exact .cons _ _ (ih _ b)
theorem G0{l:OpenLaw}{n:Nat}(hn:l.most=some n){P:Params}{h:Heap}{args:List WData}{vals:List Value}(bg:l.row.toRowW.claim.pre args=true)(hwl:WellAll P h vals args):
  ∃ a vs ns,vals=[Value.ref a]∧args=[WData.list (ns.map WData.int)]∧h.get? a=some { cls:=.type "list",data:=.seq vs.toArray }∧IntsAre vs ns∧ns.length≤n:=by
 have hsh:WShape.hasAll [] args [.list .int]=true:=(pre_splitW bg).1;have hc:l.pre.holds [] { args:=args }=true:=(pre_splitW bg).2;obtain⟨d,r,rfl,h1,h2⟩:=hasAllW_cons hsh;obtain rfl:=hasAllW_nil h2;obtain⟨xs,rfl,h3⟩:=hasW_list h1;obtain⟨ns,rfl⟩:=items_int h3;have hlen:ns.length≤n:=by
  unfold OpenLaw.pre at hc;have h4:(WTm.not (.lt (.lit (.int (n:Int))) (.len (.arg 0)))).holds [] { args:=[.list (ns.map .int)] }=true:=by
   have h4:=(holds_andW hc).1;rw[hn] at h4;exact h4
  have h5:=condW_of h4 (w_not (w_lt w_lit (w_len_list (w_arg rfl))));rw[List.length_map] at h5;refine Nat.le_of_not_lt fun q=>?_;have q':(n:Int)<((ns.length:Nat):Int):=by lia
  first
   | (rw[decide_eq_true q'] at h5;exact absurd h5 (by decide))
   | (simp at h5;lia)
 cases hwl with
 | cons w1 w2 =>
  cases w2;cases w1 with
  | list ho hall=>exact⟨_,_,ns,rfl,rfl,ho,UT ns _ hall,hlen⟩
theorem Gc(l:OpenLaw)(args:List WData):l.row.toRowW.claim.post args (.bool true) args=true :=
 postW_of (r:=l.row.toRowW) (X:=(true==true))
  (show WShape.has [] (.bool true) .bool=true by first | rfl | decide | simp[WShape.has,WShape.arms,WShape.armsAll])
  (show(WTm.eq .res (.lit (.bool true))).value [] { args:=args,res:=some (.bool true),after:=args }=some (.bool (true==true)) from w_eq_bool (w_res rfl) w_lit) rfl
theorem attach_call{l:OpenLaw}{n:Nat}{q:Program}{loose:List Str}{XP:(Str→Option Value)→Heap→Prop}{YP:World→Heap→Prop}{d:DefRec}(hn:l.most=some n)(hdf:d.params.defaults=[])(call:∀(w:World) (s₀ s₁:Shared) (mg mb:Str→Option Value) (fa:Addr) (o:Obj) (pm cd bu:Value) (a:Addr) (vs:List Value) (ns:List Int),
   Ground q loose [] XP w s₀ mg mb s₁.heap→YP w s₁.heap →
   s₁.heap.get? fa=some o→o.data = .func (docDef d.name d.params d.body d.scope pm cd bu)→s₁.heap.CodeRec cd d.name→mg d.name=some (.ref fa) →
   s₁.heap.get? a=some { cls:=.type "list",data:=.seq vs.toArray }→IntsAre vs ns→ns.length≤n→s₁.gens = #[] →
   codeAny (model l.prog w) callerA (.call (.ref fa) ⟨[.ref a],[]⟩) (fun r s'=>r = .ok (.ret (.bool true))∧OldK s₁.heap s'.heap∧s'.os=s₁.os∧AllBare s'.gens) s₁):
  WalkO q loose XP YP l.row.toRowW d [] (fun f vs=>PySem.call f vs):=by
 intro w s₀ s₁ mg mb G Y fa o pm cd bu dV kV ho hd hcd hD hmg hg args vals as bg hlay hrd hwl hlo;obtain rfl:dV = .none:=Dflts.none hD hdf;obtain rfl:kV = .none:=Dflts.noKw hD;obtain⟨a,vs,ns,rfl,rfl,hobj,hints,hlen⟩:=G0 hn bg hwl;refine enter_call (codeAny_mono (call w s₀ s₁ mg mb fa o pm cd bu a vs ns G Y ho (fd_plain hd) hcd hmg hobj hints hlen hg) fun r s' hq=>?_);obtain⟨rfl,h2,h3,h4⟩:=hq;exact⟨.inl ⟨.bool true,.bool true,[],rfl,fun _=>rfl,.bool true,Gc l _,fun _=>⟨List.Pairwise.nil,fun _ hm=>(nomatch hm)⟩⟩,h2,h3,h4⟩
section
variable {prog:Program}{w:World}{A:Around}{E:Value→Shared→Prop}{s:Shared}{K:Frag}
end
end Att
namespace L2
open PySem PySem.Spec PyProof.Rows
theorem Ur:∀{vs:List Value} {ns:List Int},IntsAre vs ns→Vals (ns.map V.int) vs
 | _,_,.nil=>.nil
 | _,_,.cons n t h=>.cons ⟨t,rfl⟩ (Ur h)
def JK(s:Stmt)(j:Nat):Stmt:=match s with
 | .ClassDef _ _ _ body _ _ _ _ _ _ _=>body.getD j (.Pass ⟨0,0,0,0⟩)
 | _=>.Pass ⟨0,0,0,0⟩
def Y3(s:Stmt):Arguments:=match s with
 | .FunctionDef _ a _ _ _ _ _ _ _ _=>a
 | _=>{ posonlyargs:=[],args:=[],vararg:=none,kwonlyargs:=[],kw_defaults:=[],kwarg:=none,defaults:=[] }
def ZL(s:Stmt):List Stmt:=match s with
 | .FunctionDef _ _ b _ _ _ _ _ _ _=>b
 | _=>[]
def defScope(s:Stmt):Scope:=match s with
 | .FunctionDef _ _ _ _ _ _ sc _ _ _=>sc
 | _=>{ kind:=.function,names:=[],isGenerator:=false,isCoroutine:=false }
abbrev CXm(c:Bool):CXT:=⟨fun _ _ _ _ _ _=>False,c⟩
abbrev CX0:CXT:=CXm true
abbrev E0:XK:=fun _ _ _=>False
theorem Zo{X:Cx}{c:Bool}:Passes (CXm c) X E0:=fun _ _ _ _ _ _ _ h=>h.elim
structure Fun(K:Frag)(x qual:Str)(st:Stmt)(f:Addr)(fd:FuncData):Prop where
 ex:∃(oc:Value) (od:Option Addr) (kV bu pm:Value) (an:Option Addr) (bf ct:Value) (bv:Array (Option Value)),
  fd=fnOf x qual (Y3 st) (ZL st) (defScope st) .none kV bu pm an bf ct∧K.lookup f=some ⟨oc,od,.func fd,bv⟩∧codeIn K bf qual=true
 kp:keepIn K (.ref f)=true
section
variable {P:Program}{w:World}{K:Frag}{mg:Str→Option Value}{base:Heap}
theorem Fun.ok{c:Bool}{x qual:Str}{st:Stmt}{f:Addr}{fd:FuncData}{N ps:List Str}{k:Nat}{sp:Sp}(F:Fun K x qual st f fd)(S:Zd N ps (defScope st))(len:∀ vs H Q E,sp vs H Q E→vs.length=ps.length)(hbody:∀(bf:Value) (A:Around) (outer:List Env) (s:Shared) (H:Hp) (vs:List V) (Q:VK) (E:XK),Room k (A.deeper (envOfC qual (defScope st) s.heap.objs.size f bf))→sp vs H Q E →
   ∃ t,PSs (cxOf (CXm c) P w K mg base N qual (defScope st) f bf A outer s H E).nox (ZL st) t∧t { nx:=fun _ H'=>Q .non H',rt:=Q } (start N vs) H):FnOk P w K mg base (CXm c) (k+1) f fd ps sp:=by
 obtain⟨oc,od,kV,bu,pm,an,bf,ct,bv,rfl,lk,hcd⟩:=F.ex;refine Nm lk hcd S len fun A outer s H vs Q E hr hsp=>?_;obtain⟨t,h,q⟩:=hbody bf A outer s H vs Q E hr hsp;exact⟨t,h.nox,q⟩
theorem Fun.binds{x qual:Str}{st:Stmt}{f:Addr}{fd:FuncData}{ps:List Str}(F:Fun K x qual st f fd)(h:∀(kV bu pm:Value) (an:Option Addr) (bf ct:Value) (us:List Value),us.length=ps.length→bindArgs (fnOf x qual (Y3 st) (ZL st) (defScope st) .none kV bu pm an bf ct) ⟨us,[]⟩=pure (ps.zip us)):Binds K fd ps []:=by
 obtain⟨oc,od,kV,bu,pm,an,bf,ct,bv,rfl,lk,hcd⟩:=F.ex;exact .all (h kV bu pm an bf ct)
theorem Jl{x qual:Str}{st:Stmt}{f:Addr}{oc:Value}{od an:Option Addr}{bv:Array (Option Value)}{kV bu pm bf ct:Value}(l:K.lookup f=some ⟨oc,od,.func (fnOf x qual (Y3 st) (ZL st) (defScope st) .none kV bu pm an bf ct),bv⟩)(c:codeIn K bf qual=true)(k:keepIn K (.ref f)=true):Fun K x qual st f (fnOf x qual (Y3 st) (ZL st) (defScope st) .none kV bu pm an bf ct):=⟨⟨oc,od,kV,bu,pm,an,bf,ct,bv,rfl,l,c⟩,k⟩
end
theorem JO{A:Around}{k:Nat}(hr:Room k A):A.units+1<cLine:=Nat.lt_of_le_of_lt (Nat.add_le_add_left (by decide:1≤64) _) hr.units
theorem Zf{n:Nat}(h:n≤1000):n<zF:=Nat.lt_of_le_of_lt h (by decide)
section
variable {X:Cx}
theorem pv(i:Nat){x:Str}{pos:Pos}(hN:X.N[i]?=some x:=by rfl)(hv:Vis X.env.scope x:=by first | exact Or.inl rfl | exact Or.inr (Or.inl rfl) | exact Or.inr (Or.inr rfl))(hd:(x==("__debug__":Str))=false:=by decide)(hcd:(x==("__classdict__":Str))=false:=by decide):PE X (.Name x pos) (tVar i):=MK hN hv hd hcd
theorem M7:JQ X (.builtin "len") (fun xs H Q=>∃ a kvs,xs=[V.ref a]∧H a=some (.dK kvs)∧Q (.int kvs.length) H):=by
 intro b9 s σ H xs us Q I r h;obtain⟨a,kvs,rfl,ha,q⟩:=h;obtain⟨u,rfl,ru⟩:=Ua r;cases ru;exact RX I (.inl ha) fun t s' I'=>⟨.int kvs.length,H,I',⟨t,rfl⟩,q⟩
end
theorem iteF{A B:Prop}(h:B):if false=true then A else B:=by
 rw[if_neg Bool.false_ne_true];exact h
theorem iteT{A B:Prop}(h:A):if true=true then A else B:=by
 rw[if_pos rfl];exact h
theorem ite2{c A B:Prop}[Decidable c](h1:c→A)(h2:¬ c→B):if c then A else B:=by
 by_cases h:c
 ·rw[if_pos h];exact h1 h
 ·rw[if_neg h];exact h2 h
def Same (H H':Hp):Prop:=∀ b o,H b=some o→H' b=some o
theorem Same.refl(H:Hp):Same H H:=fun _ _ h=>h
theorem Same.trans{H H1 H2:Hp}(a:Same H H1)(b:Same H1 H2):Same H H2:=fun c o h=>b c o (a c o h)
theorem Same.free{H H':Hp}(e:Same H H'){l:Addr}(h:H' l=Option.none):H l=Option.none:=by
 cases q:H l with
 | none=>rfl
 | some o =>
  rw[e l o q] at h;cases h
theorem Same.seq{K:Frag}{H H':Hp}{a:Addr}{xs:List V}(e:Same H H')(h:SqL K H a xs):SqL K H' a xs:=by
 rcases h with (h | ⟨o,h⟩) | h
 ·exact .inl (.inl (e _ _ h))
 ·exact .inl (.inr ⟨o,e _ _ h⟩)
 ·exact .inr h
section
variable {κ:Type}[DecidableEq κ]
theorem Qx{kvs:List (κ×V)}{k:κ}(h:valV kvs k=none):¬ k∈kvs.map (·.1):=by
 intro m;obtain⟨p,hp,e⟩:=List.mem_map.mp m;have q:(kvs.any fun kv=>decide (kv.1=k))=true:=List.any_eq_true.mpr ⟨p,hp,decide_eq_true e⟩;rw[Yv,h] at q;exact absurd q (by simp)
theorem NE{kvs:List (κ×V)}{k:κ}{v:V}(h:valV kvs k=some v):k∈kvs.map (·.1):=by
 have q:(kvs.any fun kv=>decide (kv.1=k))=true:=by
  rw[Yv,h]
  all_goals rfl
 obtain⟨p,hp,e⟩:=List.any_eq_true.mp q;exact List.mem_map.mpr ⟨p,hp,of_decide_eq_true e⟩
theorem Wr:∀{l:List κ} {k:κ},l.Nodup→¬ k∈l→(l++[k]).Nodup
 | [],k,_,_=>by simp
 | a::r,k,h,hk=>by
  obtain⟨h1,h2⟩:=List.nodup_cons.mp h;show(a::(r++[k])).Nodup;refine List.nodup_cons.mpr ⟨fun m=>?_,Wr h2 fun m=>hk (List.mem_cons.mpr (Or.inr m))⟩;rcases List.mem_append.mp m with q | q
  ·exact h1 q
  ·exact hk (List.mem_cons.mpr (Or.inl (List.mem_singleton.mp q).symm))
theorem Dk{kvs:List (κ×V)}{k:κ}(v:V)(hn:(kvs.map (·.1)).Nodup)(h:valV kvs k=none):((putK kvs k v).map (·.1)).Nodup:=by
 rw[QJ v h,List.map_append];exact Wr hn (Qx h)
end
section
variable {prog:Program}{w:World}{A:Around}{R:Result→Shared→Prop}{s:Shared}
theorem Qp{elt target iter:Expr}{ifs:List Expr}{scope:Scope}{pos:Pos}{it acc:Value}{env:Env}(I:Nat→Shared→Prop)(turn:∀ n s,I n s→wpAny (model prog w) A (pyNext it) (fun r s₁=>match r with
   | none=>R (.ok .next) s₁
   | some v=>wpAny (model prog w) A (letOwnedTupleGo target it v) (fun _ s₁'=>wpAny (model prog w) A (assign target env v) (fun _ s₂ =>
     wpAny (model prog w) A (forIn ifs true fun c r=>if r=true then do let ok ← isTrue c env (eval c env);pure (ForInStep.yield ok) else pure (ForInStep.yield r)) (fun ok s₃ =>
      if ok=true then wpAny (model prog w) A (eval elt env) (fun x s₄ =>
       wpAny (model prog w) A (call (.builtin "list.append") [acc,x]) (fun _ s₅=>∃ m,m<n∧I m s₅) (notedBy (model prog w) A env fun e s'=>R (.error e) s') s₄) (notedBy (model prog w) A env fun e s'=>R (.error e) s') s₃
      else ∃ m,m<n∧I m s₃) (notedBy (model prog w) A env fun e s'=>R (.error e) s') s₂) (notedBy (model prog w) A env fun e s'=>R (.error e) s') s₁') (notedBy (model prog w) A env fun e s'=>R (.error e) s') s₁) (notedBy (model prog w) A env fun e s'=>R (.error e) s') s)(n:Nat)(h:I n s):
  codeAny (model prog w) A (.compLoop (.ListComp elt [⟨target,iter,ifs,0⟩] scope pos) 0 it acc env) R s:=by
 refine codeAny_loop rfl I (fun n s hI=>?_) n h;show wpAny _ A ((compTurn (.ListComp elt [⟨target,iter,ifs,0⟩] scope pos) 0 it acc env).onRaise (fun x=>do noteFrame x env;theTreesLotGoes x)) _ _ s
 refine wpAny_noted ?_;rw[compTurn_list];refine zA (wpAny_standAt (zA (zC (turn n s hI) (fun r s₁ h₁=>?_) fun _ _ h'=>h')));cases r with
 | none=>exact zB h₁
 | some v =>
  refine zA (zC h₁ (fun _ s₁' h₁'=>?_) fun _ _ h'=>h');refine zA (zC h₁' (fun _ s₂ h₂=>zA (zC h₂ (fun ok s₃ h₃=>?_) fun _ _ h'=>h')) fun _ _ h'=>h');cases ok with
  | false=>exact zB ⟨rfl,h₃⟩
  | true =>
   exact zA (zA (zC h₃ (fun x s₄ h₄=>zA (zC h₄ (fun _ s₅ h₅=>zB (zB ⟨rfl,h₅⟩)) fun _ _ h'=>h')) fun _ _ h'=>h'))
end
theorem Jw{env:Env}:∀(names:List (Str×NameKind)) (x:Str),
  (names.map fun(n,k)=>if(k==NameKind.free&&env.scope.kind == .function&&env.kindOf n==some .cell) then(n,NameKind.cell) else(n,k)).lookup x =
   (names.lookup x).map fun k=>if(k==NameKind.free&&env.scope.kind == .function&&env.kindOf x==some .cell)=true then NameKind.cell else k
 | [],_=>rfl
 | (n,k)::r,x=>by
  have ih:=Jw (env:=env) r x;show List.lookup x ((if(k==NameKind.free&&env.scope.kind == .function&&env.kindOf n==some .cell)=true then(n,NameKind.cell) else(n,k))::_)=_;cases hx:x==n with
  | true =>
   have e:x=n:=beq_iff_eq.mp hx;subst e;by_cases hc:(k==NameKind.free&&env.scope.kind == .function&&env.kindOf x==some .cell)=true
   ·rw[if_pos hc];simp only[List.lookup_cons,hx,Option.map_some,hc,if_true]
   ·rw[if_neg hc];simp only[List.lookup_cons,hx,Option.map_some];rw[if_neg hc]
  | false =>
   by_cases hc:(k==NameKind.free&&env.scope.kind == .function&&env.kindOf n==some .cell)=true
   ·rw[if_pos hc];simp only[List.lookup_cons,hx];exact ih
   ·rw[if_neg hc];simp only[List.lookup_cons,hx];exact ih
theorem J3{scope:Scope}{env:Env}(h:∀ x∈scope.names,x.2 = .free→∃ c,env.cells.lookup x.1=some c):
  ∃ cl,closureFor scope env=pure cl∧(∀ x c,cl.lookup x=some c→env.cells.lookup x=some c)∧∀ x∈scope.names,x.2 = .free→∃ c,cl.lookup x.1=some c:=by
 have key:∀(names:List (Str×NameKind)) (acc:List (Str×Addr)),(∀ x∈names,x.2=NameKind.free→∃ c,env.cells.lookup x.1=some c)→(∀ x c,acc.lookup x=some c→env.cells.lookup x=some c) →
   ∃ cl:List (Str×Addr),(forIn names acc (fun(x:Str×NameKind) (r:List (Str×Addr))=>if(x.2==NameKind.free)=true then(do let c ← cellOf env x.1;pure (ForInStep.yield ((x.1,c)::r)):Sem _) else pure (ForInStep.yield r)))=pure cl ∧
    (∀ x c,cl.lookup x=some c→env.cells.lookup x=some c)∧(∀ x∈names,x.2=NameKind.free→∃ c,cl.lookup x.1=some c)∧∀ x c,acc.lookup x=some c→∃ c',cl.lookup x=some c':=by
  intro names
  induction names with
  | nil=>intro acc _ ha;exact⟨acc,rfl,ha,(fun x hx=>nomatch hx),fun x c e=>⟨c,e⟩⟩
  | cons y r ih =>
   intro acc hn ha;obtain⟨n,k⟩:=y;have hr:∀ x∈r,x.2=NameKind.free→∃ c,env.cells.lookup x.1=some c:=fun x hx=>hn x (List.mem_cons_of_mem _ hx);by_cases hk:k = .free
   ·subst hk;obtain⟨c,hc⟩:=hn (n,.free) List.mem_cons_self rfl;have hc:env.cells.lookup n=some c:=hc;have ha':∀ x d,List.lookup x ((n,c)::acc)=some d→env.cells.lookup x=some d:=fun x d e=>by
     rw[List.lookup_cons] at e;cases hx:x==n with
     | true=>rw[hx] at e;cases e;rw[beq_iff_eq.mp hx];exact hc
     | false=>rw[hx] at e;exact ha x d e
    obtain⟨cl,e1,e2,e3,e4⟩:=ih ((n,c)::acc) hr ha';have hin:∃ c',cl.lookup n=some c':=e4 n c (by rw[List.lookup_cons,beq_self_eq_true])
    refine⟨cl,?_,e2,fun x hx hf=>?_,fun x d e=>?_⟩
    ·rw[List.forIn_cons];have hcell:cellOf env n=pure c:=by unfold cellOf;rw[hc]
     simp only[beq_self_eq_true,if_true,hcell];exact e1
    ·rcases List.mem_cons.mp hx with rfl | hx
     ·exact hin
     ·exact e3 x hx hf
    ·cases hx:x==n with
     | true=>rw[beq_iff_eq.mp hx];exact hin
     | false=>exact e4 x d (by rw[List.lookup_cons,hx];exact e)
   ·have hb:(k==NameKind.free)=false:=by simpa using hk
    obtain⟨cl,e1,e2,e3,e4⟩:=ih acc hr ha;refine⟨cl,?_,e2,fun x hx hf=>?_,e4⟩
    ·rw[List.forIn_cons];simp only[hb,Bool.false_eq_true,if_false];exact e1
    ·rcases List.mem_cons.mp hx with rfl | hx
     ·exact absurd hf hk
     ·exact e3 x hx hf
 obtain⟨cl,e1,e2,e3,_⟩:=key scope.names [] h (fun x c e=>nomatch e);refine⟨cl,?_,e2,e3⟩;unfold closureFor;exact(congrArg (fun t=>t >>= fun r=>pure r) e1).trans rfl
inductive Caps(XN:List Str)(outer inner:Scope):List Str→List (Option Nat)→Prop where
 | nil:Caps XN outer inner [] []
 | own {x:Str} {N:List Str} {c:List (Option Nat)}:Caps XN outer inner N c→Caps XN outer inner (x::N) (none::c)
 | cap {i:Nat} {x:Str} {N:List Str} {c:List (Option Nat)}:XN[i]?=some x→outer.names.lookup x=some .cell→inner.names.lookup x=some .free→Caps XN outer inner N c→Caps XN outer inner (x::N) (some i::c)
theorem Caps.length{XN:List Str}{outer inner:Scope}:∀{N:List Str} {c:List (Option Nat)},Caps XN outer inner N c→c.length=N.length
 | _,_,.nil=>rfl
 | _,_,.own h=>congrArg Nat.succ h.length
 | _,_,.cap _ _ _ h=>congrArg Nat.succ h.length
theorem Caps.get{XN:List Str}{outer inner:Scope}:∀{N:List Str} {c:List (Option Nat)} {j i:Nat} {x:Str},Caps XN outer inner N c→c[j]?=some (some i)→N[j]?=some x →
  XN[i]?=some x∧outer.names.lookup x=some .cell∧inner.names.lookup x=some .free
 | _,_,j,_,_,.nil,e,_=>by simp at e
 | _,_,0,_,_,.own h,e,_=>by simp at e
 | _,_,j+1,_,_,.own h,e,e'=>h.get (j:=j) (by simpa using e) (by simpa using e')
 | _,_,0,_,_,.cap a b d h,e,e'=>by simp at e e';subst e e';exact⟨a,b,d⟩
 | _,_,j+1,_,_,.cap _ _ _ h,e,e'=>h.get (j:=j) (by simpa using e) (by simpa using e')
structure Qu(XN:List Str)(outer inner:Scope)(N:List Str)(cap:List (Option Nat)):Prop where
 kind:inner.kind = .function
 nocell:∀ y∈inner.names,y.2 ≠ .cell
 loc:∀ y∈inner.names,y.2 = .local→inner.names.lookup y.1=some .local
 fr:∀ y∈inner.names,y.2 = .free→outer.names.lookup y.1=some .cell
 caps:Caps XN outer inner N cap
 nd:N.Nodup
def capσ (cap:List (Option Nat))(σ:St):St:=cap.map fun c=>match c with
 | none=>none
 | some i=>match σ[i]? with
  | some v=>v
  | none=>none
def Cx.comp(X:Cx)(N:List Str)(scope:Scope)(cl:List (Str×Addr))(C:Addr)(s₀:Shared)(H₀:Hp)(ex:List Addr)(b9:List (Addr×Obj)):Cx where
 prog:=X.prog
 w:=X.w
 K:=X.K
 mg:=X.mg
 base:=X.base
 A:=X.A
 N:=N
 s₀:=s₀
 H₀:=H₀
 env:=compEnvC scope cl C X.env
 outer:=X.stack
 stack:=X.stack
 ex:=ex
 fn:=fun _=>false
 calm:=X.calm
 pn:=X.pn++b9
 xe:=fun _ _=>False
section
variable {X:Cx}{b9:List (Addr×Obj)}{σ:St}{H:Hp}{s:Shared}
theorem Ni{XN N:List Str}{outer scope:Scope}{cap:List (Option Nat)}{cl:List (Str×Addr)}{ex:List Addr}{h1:Heap}{tk:Nat}{m:Str→Option Value}(I:Inv X b9 σ H s)(hX:X.env.scope=outer)(hN:X.N=XN)(S:Qu XN outer scope N cap)(hcl1:∀ x c,cl.lookup x=some c→X.env.cells.lookup x=some c)(hcl2:∀ x∈scope.names,x.2 = .free→∃ c,cl.lookup x.1=some c)(hex:∀ b∈ex,FpOk X b9 H b)(hlt:∀ b∈ex,b<s.heap.objs.size)(hn:h1.Ns s.heap.objs.size m)(keep:∀ b o,s.heap.get? b=some o→h1.get? b=some o):
  Inv (X.comp N scope cl s.heap.objs.size s H ex b9) [] (capσ cap σ) H { s with heap:=h1,toks:=tk }:=by
 subst hX hN;have hcells:∀ x c,cl.lookup x=some c→c<s.heap.objs.size:=fun x c e=>by
  obtain⟨v,q⟩:=I.cell x c (hcl1 x c e);exact q.lt
 have hrel:∀ x,(relabel scope X.env).names.lookup x=(scope.names.lookup x).map fun k=>if(k==NameKind.free&&X.env.scope.kind == .function&&X.env.kindOf x==some .cell)=true then NameKind.cell else k:=fun x=>Jw scope.names x;have ok:(X.comp N scope cl s.heap.objs.size s H ex b9).Ok:=by
  refine⟨I.ok.mod,S.kind,I.ok.glob,I.ok.blt,Nat.le_refl _,fun x y c h1 h2=>I.ok.inj x y c (hcl1 x c h1) (hcl1 y c h2),fun x hx=>?_,(fun x c h _=>nomatch h),I.ok.hd,I.ok.frames,.inl rfl,fun b hb=>⟨Nat.ne_of_lt (hlt b hb),fun x c e=>?_⟩,I.bs,Nat.le_trans I.ok.bsz I.sz,fun b o e hb=>?_,fun b hb hf=>?_,I.stack,I.stkFree⟩
  ·have hx:(relabel scope X.env).names.lookup x=some .cell∨(relabel scope X.env).names.lookup x=some .free:=hx;rw[hrel x] at hx;cases e:scope.names.lookup x with
   | none=>rw[e] at hx;simp at hx
   | some k =>
    have hm:=PySem.mem_of_lookup e;rw[e] at hx;by_cases hk:k = .free
    ·subst hk;exact hcl2 _ hm rfl
    ·have hb:(k==NameKind.free)=false:=by simpa using hk
     simp only[hb,Option.map_some,Bool.false_and,Bool.false_eq_true,if_false] at hx;rcases hx with hx | hx
     ·exact absurd (Option.some.inj hx) (S.nocell _ hm)
     ·exact absurd (Option.some.inj hx) hk
  ·exact(hex b hb).2.2.2.2.1 x c (hcl1 x c e)
  ·rcases (hex b hb).2.2.2.1 with z | z
   ·exact I.ok.noex b o e z
   ·exact absurd (Nat.lt_of_lt_of_le (Heap.lt_size (I.ok.bs b o e).1) z) (Nat.lt_irrefl _)
  ·rcases List.mem_cons.mp (I.stkSub b hf) with z | z
   ·exact(hex b hb).2.1 z
   ·exact(hex b hb).2.2.1 z
 have fresh:H s.heap.objs.size=none:=I.hok.fresh (Nat.le_refl _);refine⟨ok,rfl,I.bare,Un.kept keep,⟨m,hn,fun j x v e1 e2 _=>?_⟩,fun x c e=>?_,fresh,fun x c e=>I.freeC x c (hcl1 x c e),fun p hp=>?_,I.hok.kept keep,?_,I.hdh⟩
 ·have e1:N[j]?=some x:=e1;unfold capσ at e2;rw[List.getElem?_map] at e2;cases ec:cap[j]? with
  | none=>rw[ec] at e2;cases e2
  | some c =>
   rw[ec] at e2;cases c with
   | none=>cases e2
   | some i =>
    obtain⟨a,b,d⟩:=S.caps.get ec e1;have e3:σ[i]?=some (some v):=by
     cases es:σ[i]? with
     | none=>simp[es] at e2
     | some v'=>simp[es] at e2;rw[e2]
    obtain⟨m0,hn0,hl0⟩:=I.loc;obtain⟨u,r,l⟩:=hl0 i x v a e3 (.inr (.inl b));refine⟨u,r,?_⟩;rcases l with ⟨k,_⟩ | ⟨_,c,ec',z⟩
    ·have k:X.env.scope.names.lookup x=some .local:=k;rw[b] at k;cases k
    ·obtain⟨c',ec2⟩:=hcl2 (x,.free) (PySem.mem_of_lookup d) rfl;have e5:=hcl1 x c' ec2;rw[ec'] at e5;cases e5;refine .inr ⟨.inl ?_,c,ec2,?_⟩
     ·show(relabel scope X.env).names.lookup x=some .cell;rw[hrel x,d];have k1:(X.env.scope.kind==ScopeKind.function)=true:=by rw[I.ok.kind];rfl
      have k2:(X.env.kindOf x==some NameKind.cell)=true:=by
       show(X.env.scope.names.lookup x==some NameKind.cell)=true;rw[b];rfl
      rw[k1,k2];rfl
     ·obtain⟨o,ho,hd⟩:=z;exact⟨o,keep _ _ ho,hd⟩
 ·obtain⟨v,o,ho,hd⟩:=I.cell x c (hcl1 x c e);exact⟨v,o,keep _ _ ho,hd⟩
 ·have hp:p∈X.pn++b9++[]:=hp;rw[List.append_nil] at hp;obtain⟨a,b,c,d,e⟩:=I.pin p hp;refine⟨keep _ _ a,b,Nat.ne_of_lt (Heap.lt_size a),fun hf=>?_,e⟩;rcases List.mem_cons.mp (I.stkSub _ hf) with z | z
  ·exact c z
  ·exact d z
 ·unfold capσ;rw[List.length_map];exact S.caps.length
end
def PIfs (X:Cx)(ifs:List Expr)(t:TT):Prop :=
 ∀(b9:List (Addr×Obj)) (s:Shared) (σ:St) (H:Hp) (Q:Bool→Hp→Prop),Inv X b9 σ H s→t σ H Q →
  wpAny (model X.prog X.w) X.A (forIn ifs true fun c r=>if r=true then do let ok ← isTrue c X.env (eval c X.env);pure (ForInStep.yield ok) else pure (ForInStep.yield r)) (TP X b9 σ Q) X.xe s
def tYes:TT:=fun _ H Q=>Q true H
theorem Zv{X:Cx}:PIfs X [] tYes:=fun _ _ _ H _ I h=>wpAny_tests_nil ⟨H,I,h⟩
theorem Vf{X:Cx}{c:Expr}{t:TT}(h:PT X c t):PIfs X [c] t:=fun b9 s σ H Q I q=>wpAny_tests_one (h b9 s σ H Q I q)
def JB(J:It)(g:TG)(tt:TT)(te:TE)(σ0:St)(H1:Hp)(D:Addr)(Q:VK):Prop :=
 ∃ W:Nat→Nat→List V→St→Hp→Prop,(∃ m,W 0 m [] σ0 (upd H1 D (.lst [])))∧∀ i m acc σc Hc,W i m acc σc Hc →
  (J.stop i Hc∧Q (.ref D) Hc) ∨
  (J.go i Hc∧∀ x H',J.yld i Hc x H'→g x σc H' fun σ2 H2=>tt σ2 H2 fun b H3=>if b=true then te σ2 H3 fun v H4=>H4 D=some (.lst acc)∧acc.length<zF∧∃ m',m'<m∧W (i+1) m' (acc++[v]) σ2 (upd H4 D (.lst (acc++[v])))
   else ∃ m',m'<m∧W (i+1) m' acc σ2 H3)
def tComp(cap:List (Option Nat))(wi:TI)(g:TG)(tt:TT)(te:TE):TE:=fun σ H Q=>wi σ H fun J H1=>∀ D,H1 D=none→JB J g tt te (capσ cap σ) H1 D Q
section
variable {X:Cx}
theorem VY{elt target iter:Expr}{ifs:List Expr}{scope outer:Scope}{pos:Pos}{XN N:List Str}{cap:List (Option Nat)}{g:TG}{tt:TT}{te:TE}{cl:List (Str×Addr)}{b9:List (Addr×Obj)}{σ:St}{H2:Hp}{s2:Shared}{it:Addr}{fp:List Addr}{tn:Nat→Heap→Prop}{J:It}{Q:VK}{RR:Value→Addr→Result→Shared→Prop}{E:Value→Shared→Prop}(hX:X.env.scope=outer)(hN:X.N=XN)(S:Qu XN outer scope N cap)(hc:J.nd=true→X.calm=true)(hg:∀ cl C s₀ H₀ ex b9,PG (X.comp N scope cl C s₀ H₀ ex b9) target g)(ht:∀ cl C s₀ H₀ ex b9,PIfs (X.comp N scope cl C s₀ H₀ ex b9) ifs tt)(he:∀ cl C s₀ H₀ ex b9,PE (X.comp N scope cl C s₀ H₀ ex b9) elt te)(hcl1:∀ x c,cl.lookup x=some c→X.env.cells.lookup x=some c)(hcl2:∀ x∈scope.names,x.2 = .free→∃ c,cl.lookup x.1=some c)(I2:Inv X b9 σ H2 s2)(T:Turn X.prog X.w X.K target J fp it tn)(st2:tn 0 s2.heap)(f2:∀ b∈fp,FpOk X b9 H2 b)(hW:∀ D,H2 D=none→JB J g tt te (capσ cap σ) H2 D Q)(hRR:∀ D C H' s' m,Inv X b9 σ H' s'→FpOk X b9 H' C→s'.heap.Ns C m→Q (.ref D) H'→RR (.ref D) C (.ok .next) s'):
  wpAny (model X.prog X.w) X.A (newList []) (fun acc s₃=>wpAny (model X.prog X.w) X.A (newFunctionEnv scope X.env.globals cl [] X.env.qual none .none (some X.env)) (fun cenv s₄ =>
   codeAny (model X.prog X.w) X.A (.compStart (.ListComp elt [⟨target,iter,ifs,0⟩] scope pos) 0 (.ref it) acc { cenv with scope:=relabel scope X.env }) (RR acc cenv.locals) s₄) E s₃) E s2:=by
 refine wpAny_newObj_type (wpAny_newFunctionEnv S.nocell (by intro y hy;simp at hy) (fun h₁ hns₁ hsb₁=>?_) S.kind)
 dsimp only at hns₁ hsb₁ ⊢;have I3:Inv X b9 σ (upd H2 s2.heap.objs.size (.lst [])) { s2 with heap:=s2.heap.push { cls:=.type "list",data:=.seq ([]:List Value).toArray } }:=I2.lnew (t':=s2.toks) .nil (Nat.zero_le _)
 have fD:H2 s2.heap.objs.size=none:=I2.hok.fresh (Nat.le_refl _);generalize hH2:s2.heap.push { cls:=.type "list",dict:=none,data:=.seq ([]:List Value).toArray }=G at hns₁ hsb₁ I3 ⊢;have hG:G.objs.size=s2.heap.objs.size+1:=by rw[←hH2,Heap.size_push]
 have fplt:∀ b∈fp,b<s2.heap.objs.size:=fun b hb=>by obtain⟨o,e,_⟩:=T.obj _ _ st2 b hb;exact Heap.lt_size e
 have fpl3:∀ b∈fp,b<G.objs.size:=fun b hb=>by rw[hG];exact Nat.lt_succ_of_lt (fplt b hb)
 have kG:∀ b o,s2.heap.get? b=some o→G.get? b=some o:=fun b o e=>hH2▸Heap.get?_push_of_some _ e;have f3:∀ b∈fp,FpOk X b9 (upd H2 s2.heap.objs.size (.lst [])) b:=fun b hb=>⟨by rw[Z1 (Nat.ne_of_lt (fplt b hb))];exact(f2 b hb).1,(f2 b hb).2⟩
 have kh:∀ b o,G.get? b=some o→h₁.get? b=some o:=fun b o e=>hsb₁.extBut b o (Nat.ne_of_lt (Heap.lt_size e)) (Heap.get?_push_of_some _ e);have I4:=Ni (cl:=cl) (ex:=fp) (tk:=s2.toks+([]:List (Str×Value)).length) I3 hX hN S hcl1 hcl2 f3 fpl3 hns₁ kh;dsimp only at I4;obtain⟨W,⟨m0,w0⟩,turn⟩:=hW s2.heap.objs.size fD;have st4:tn 0 h₁:=T.keep _ _ _ st2 fun b _ o e=>kh b o (kG b o e);have stat:∀{H':Hp},(∀ b∈fp,H' b=none)→∀ b∈fp,FpOk (X.comp N scope cl G.objs.size { s2 with heap:=G } (upd H2 s2.heap.objs.size (.lst [])) fp b9) [] H' b:=fun hn b hb=>by
  obtain⟨_,a1,a2,a3,a4,a5⟩:=f2 b hb;refine⟨hn b hb,Nat.ne_of_lt (fpl3 b hb),fun hf=>?_,.inl hb,fun x c e=>a4 x c (hcl1 x c e),fun p hp=>?_⟩
  ·rcases List.mem_cons.mp (I2.stkSub b hf) with z | z
   ·exact a1 z
   ·exact a2 z
  ·have hp:p∈X.pn++b9++[]:=hp;rw[List.append_nil] at hp;exact a5 p hp
 have loop:codeAny (model X.prog X.w) X.A (.compLoop (.ListComp elt [⟨target,iter,ifs,0⟩] scope pos) 0 (.ref it) (.ref s2.heap.objs.size) (compEnvC scope cl G.objs.size X.env)) (RR (.ref s2.heap.objs.size) G.objs.size) { s2 with heap:=h₁,toks:=s2.toks+([]:List (Str×Value)).length }:=by
  refine Qp (fun n s'=>∃ i acc σ' H',Inv (X.comp N scope cl G.objs.size { s2 with heap:=G } (upd H2 s2.heap.objs.size (.lst [])) fp b9) [] σ' H' s'∧tn i s'.heap∧(∀ b∈fp,H' b=none)∧W i n acc σ' H') ?_ m0 ⟨0,[],_,_,I4,st4,fun b hb=>(f3 b hb).1,w0⟩
  rintro n s3 ⟨i,acc,σ3,H3,I3,st3,fr3,w3⟩;rcases turn i n acc σ3 H3 w3 with ⟨stop,qn⟩ | ⟨go,step⟩
  ·refine thn (T.done (X.comp N scope cl G.objs.size { s2 with heap:=G } (upd H2 s2.heap.objs.size (.lst [])) fp b9) rfl rfl rfl hc i [] s3 σ3 H3 _ I3 (stat fr3) st3 stop) fun r s4 ⟨hr,I4'⟩=>?_
   subst hr;have un:Un (frs X.stack) fp H2 H3 s2.heap s4.heap:=(Un.laid kG (Nat.le_refl _) fD).trans I4'.base;have I5:Inv X b9 σ H3 s4:=I2.call' (ch:=fp) I4'.os un I4'.hok I4'.bare fun b hb=>by
    obtain⟨_,a1,_,a3,a4,a5⟩:=f2 b hb;exact⟨a3,a1,a4,a5⟩
   obtain⟨m5,hn5,_⟩:=I4'.loc;refine hRR s2.heap.objs.size G.objs.size H3 s4 m5 I5 ?_ hn5 qn;exact I2.fpOk (by rw[hG];exact Nat.le_succ _) I4'.free
  ·refine thn (T.item (X.comp N scope cl G.objs.size { s2 with heap:=G } (upd H2 s2.heap.objs.size (.lst [])) fp b9) rfl rfl rfl hc i [] s3 σ3 H3 _ I3 (stat fr3) st3 go) fun r s4 ⟨u,hr,h4⟩=>?_
   subst hr;refine thn h4 fun _ s5 ⟨x,H5,I5,r5,y5,st5,fr5⟩=>?_;have I5':=I5.pinned (stat fr5) (T.obj _ _ st5);refine zC (hg _ _ _ _ _ _ _ s5 σ3 H5 x u _ I5' r5 (step x H5 y5)) (fun _ s6 ⟨σ6,H6,I6,q6⟩=>?_) fun _ _ f=>f.elim;refine zC (ht _ _ _ _ _ _ _ s6 σ6 H6 _ I6 q6) (fun ok s7 ⟨H7,I7,q7⟩=>?_) fun _ _ f=>f.elim;have again:∀{m:Nat} {acc':List V} {s8:Shared} {H8:Hp},Inv (X.comp N scope cl G.objs.size { s2 with heap:=G } (upd H2 s2.heap.objs.size (.lst [])) fp b9) ([]++pinsAt fp s5.heap) σ6 H8 s8→m<n→W (i+1) m acc' σ6 H8 →
     ∃ m,m<n∧∃ i acc σ' H',Inv (X.comp N scope cl G.objs.size { s2 with heap:=G } (upd H2 s2.heap.objs.size (.lst [])) fp b9) [] σ' H' s8∧tn i s8.heap∧(∀ b∈fp,H' b=none)∧W i m acc σ' H':=fun{m acc' s8 H8} I8 hm w8=>by
    refine⟨m,hm,i+1,acc',σ6,H8,I8.unpinned,T.keep _ _ _ st5 fun b hb o e=>(I8.pin (b,o) (List.mem_append_right _ (List.mem_append_right _ (Jk hb e)))).1,fun b hb=>?_,w8⟩;obtain⟨o,e,d⟩:=T.obj _ _ st5 b hb;exact(I8.pin (b,o) (List.mem_append_right _ (List.mem_append_right _ (Jk hb e)))).2.1
   cases ok with
   | false =>
    obtain⟨m',hm,w7⟩:=q7;exact again I7 hm w7
   | true =>
    refine zC (he _ _ _ _ _ _ _ s7 σ6 H7 _ I7 q7) (fun y s8 ⟨v,H8,I8,r8,hD8,hz,m',hm,w8⟩=>?_) fun _ _ f=>f.elim;refine zC (Uy (X:=X.comp N scope cl G.objs.size { s2 with heap:=G } (upd H2 s2.heap.objs.size (.lst [])) fp b9) _ s8 σ6 H8 (.ref s2.heap.objs.size) [v] (.ref s2.heap.objs.size) [y] (fun _ H9=>H9=upd H8 s2.heap.objs.size (.lst (acc++[v]))) I8 rfl (.cons r8 .nil) ⟨_,acc,v,rfl,rfl,hD8,hz,rfl⟩) (fun _ s9 ⟨_,H9,I9,_,e9⟩=>?_) fun _ _ f=>f.elim
    subst e9;exact again I9 hm w8
 exact codeAny_compStart_list loop (T.self _ 0 _ _ _ st4 loop)
theorem ZC{elt target iter:Expr}{ifs:List Expr}{scope outer:Scope}{pos:Pos}{XN N:List Str}{cap:List (Option Nat)}{wi:TI}{g:TG}{tt:TT}{te:TE}(S:Qu XN outer scope N cap)(_:True=True)(hi:PI X target iter wi)(hg:∀ cl C s₀ H₀ ex b9,PG (X.comp N scope cl C s₀ H₀ ex b9) target g)(ht:∀ cl C s₀ H₀ ex b9,PIfs (X.comp N scope cl C s₀ H₀ ex b9) ifs tt)(he:∀ cl C s₀ H₀ ex b9,PE (X.comp N scope cl C s₀ H₀ ex b9) elt te)(hX:X.env.scope=outer:=by rfl)(hN:X.N=XN:=by rfl)(hs:∀ x,foldedSetIterable iter X.env x=pure x:=by intro _;rfl):PE X (.ListComp elt [⟨target,iter,ifs,0⟩] scope pos) (tComp cap wi g tt te):=by
 intro b9 s σ H Q I h;obtain⟨cl,hclos,hcl1,hcl2⟩:=J3 (scope:=scope) (env:=X.env) fun x hx hf=>I.ok.has x.1 (.inl (by
  show X.env.scope.names.lookup x.1=some .cell;rw[hX];exact S.fr x hx hf))
 rw[eval_ListComp];refine wpAny_comprehension_free (use:=none) rfl hs hclos S.kind S.loc ?_;refine thn (hi b9 s σ H _ I h) fun v s1 h1=>thn h1 fun itv s2 h2=>?_;obtain⟨it,fp,tn,J,H2,rfl,I2,T,st2,f2,hc,hW⟩:=h2;refine VY (RR:=fun acc C=>compPost (model X.prog X.w) X.A X.xe none (EP X b9 σ Q) acc C) hX hN S hc hg ht he hcl1 hcl2 I2 T st2 f2 hW ?_;intro D C H' s' m I' fC hn q;refine⟨m,hn,fun h' hsb=>?_⟩;obtain⟨a0,a1,_,a3,a4,a5⟩:=fC;exact⟨.ref D,H',I'.turned (t':=s'.toks) (fun b o hb e=>hsb.extBut b o hb e) a0 (Ne.symm a1).symm a3 a4 a5,rfl,q⟩
end
section
variable {X:Cx}
theorem US:∀{bs:List Bool} {us:List Value},Vals (bs.map V.bl) us→LSm.BoolsAre us bs
 | [],_,.nil=>.nil
 | b::bs,_,.cons r t=>by
  cases (show _=Value.bool b from r)
  exact .cons b (US t)
theorem M6(hc:X.calm=true):JQ X (.builtin "sum") (fun xs H Q=>∃(p:Addr) (ns:List Int),xs=[.ref p]∧SqL X.K H p (ns.map V.int)∧Q (.int ns.sum) H):=by
 intro b9 s σ H xs us Q I r h;obtain⟨p,ns,rfl,hq,q⟩:=h;obtain⟨u,rfl,rx⟩:=Ua r;cases rx;obtain⟨bw,r',pl,hz⟩:=I.list hq;have hi:IntsAre bw ns:=Vv r';obtain⟨ys,hx⟩:=hi.allInts.items;have hl':s.heap.IsList p (intItems ys):=hx▸pl.isList;refine sum_intListG (I.ok.hd hc) hl' fun h' tk t' hk=>?_;have e1:ns=ys.toList.map (·.1):=by
  rw[←nums_intItems,←hx];exact(show numsOf bw.toArray.toList=ns from hi.numsOf).symm
 have e2:preSum (numAt ys) ys.size=ns.sum:=by
  rw[preSum_eq,List.take_of_length_le (by simp),e1]
 rw[e2];exact⟨.int ns.sum,H,I.kept (t':=tk) hk,⟨t',rfl⟩,q⟩
theorem ZQ(hc:X.calm=true):JQ X (.builtin "all") (fun xs H Q=>∃(p:Addr) (bs:List Bool),xs=[.ref p]∧SqL X.K H p (bs.map V.bl)∧Q (.bl (bs.all id)) H):=by
 intro b9 s σ H xs us Q I r h;obtain⟨p,bs,rfl,hq,q⟩:=h;obtain⟨u,rfl,rx⟩:=Ua r;cases rx;obtain⟨vs,r',pl,hz⟩:=I.list hq;have hb:LSm.BoolsAre vs bs:=US r';have hl:=pl.isList;have hlt:p<s.heap.objs.size:=by obtain⟨_,e,_⟩:=hl;exact Heap.lt_size e
 refine call_all_walk (wpAny_pyIter_list hl ?_);refine⟨s.heap.objs.size,[s.heap.objs.size,p],[s.heap.objs.size],vs.toArray.size,_,_,fun i=>(bs[i]?).getD true,rfl,Walks.list (A:=X.A.in1) (I.ok.hd hc) _ p (Nat.ne_of_lt hlt) vs.toArray,
  ⟨⟨_,Heap.get?_push_size _ rfl,rfl,rfl⟩,hl.push _⟩,fun i v s' Q' E' hP hQ=>?_,fun h' tk hk=>?_⟩
 ·obtain⟨b,e,rfl⟩:=hb.get i v (by simpa using hP)
  simp only[e,Option.getD_some] at hQ;exact wpAny_truthy_bool hQ
 ·have e:((List.range vs.toArray.size).all fun i=>(bs[i]?).getD true)=bs.all id:=by
   rw[List.size_toArray,hb.length];exact LSm.range_all bs
  rw[e];exact⟨.bl (bs.all id),H,I.kept (t':=tk) (LSm.kept_iter hk),rfl,q⟩
def ClsV (c:V)(cv:Value):Prop:=match c with
 | .ty n=>cv = .type n
 | .ref C=>cv = .ref C
 | _=>False
theorem Yh:JQ X (.builtin "isinstance") (fun xs H Q=>∃(x c:V) (t cv:Value) (b:Bool),xs=[x,c]∧TyOf X.K H x t∧ClsV c cv∧PySem.W.kitOne X.K t cv=some b∧Q (.bl b) H):=by
 intro b9 s σ H xs us Q I r h;obtain⟨x,c,t,cv,b,rfl,ty,rc,e,q⟩:=h;obtain⟨u,v,rfl,rx,rv⟩:=Mc r;have ev:v=cv:=by
  cases c with
  | ty n=>exact(show v = .type n from rv).trans (show cv = .type n from rc).symm
  | ref C=>exact(show v = .ref C from rv).trans (show cv = .ref C from rc).symm
  | _=>exact False.elim rc
 subst ev;exact GJ I rx ty e fun tk=>⟨.bl b,H,I.tok tk,rfl,q⟩
theorem UL:∀{xs:List V} {us:List Value},xs.length=us.length→(∀(i:Nat) x u,xs[i]?=some x→us[i]?=some u→RelV x u)→Vals xs us
 | [],[],_,_=>.nil
 | [],_::_,h,_=>by simp at h
 | _::_,[],h,_=>by simp at h
 | x::xs,u::us,h,f=>.cons (f 0 x u rfl rfl) (UL (by simpa using h) fun i y v a b=>f (i+1) y v (by simpa using a) (by simpa using b))
inductive EqD(K:Frag)(H:Hp):Nat→V→V→Bool→Prop where
 | flat {n:Nat} {x y:V} (fx:WJ x=true) (fy:WJ y=true):EqD K H n x y (eqV x y)
 | same {n:Nat} {a:Addr}:EqD K H n (.ref a) (.ref a) true
 | lst {n:Nat} {l b:Addr} {xs ys:List V} {e:Nat→Bool} (ne:l≠b) (hl:SqL K H l xs) (hb:SqL K H b ys) (hz:xs.length=ys.length)
   (he:∀(i:Nat) x y,xs[i]?=some x→ys[i]?=some y→EqD K H n x y (e i)):EqD K H (n+1) (.ref l) (.ref b) ((List.range xs.length).all e)
 | len {n:Nat} {l b:Addr} {xs ys:List V} (ne:l≠b) (hl:SqL K H l xs) (hb:SqL K H b ys) (hz:xs.length≠ys.length):EqD K H (n+1) (.ref l) (.ref b) false
 | tup {n:Nat} {l b:Addr} {xs ys:List V} {e:Nat→Bool} (ne:l≠b) (hl:SqT K H l xs) (hb:SqT K H b ys)
   (he:∀(i:Nat) x y,xs[i]?=some x→ys[i]?=some y→EqD K H n x y (e i)):EqD K H (n+1) (.ref l) (.ref b) ((List.range (min xs.length ys.length)).all e&&xs.length==ys.length)
theorem Vals.at{xs:List V}{us:List Value}(r:Vals xs us){i:Nat}(h:i<us.toArray.size):∃ x,xs[i]?=some x∧RelV x us.toArray[i]:=by
 have hl:xs.length=us.length:=r.length;have hi:i<us.length:=by simpa using h
 obtain⟨u,e,q⟩:=r.get (i:=i) (x:=xs[i]'(by lia)) (List.getElem?_eq_getElem (by lia))
 refine⟨_,List.getElem?_eq_getElem (by lia),?_⟩
 rw[List.getElem?_eq_getElem hi] at e;cases e;simpa using q
theorem R5{b9 σ H s}(I:Inv X b9 σ H s){n:Nat}{x y:V}{b:Bool}(h:EqD X.K H n x y b):
  ∀(A:Around) (u v:Value),A.units+n<cLine→RelV x u→RelV y v→SeqAt.EqAt A s u v b:=by
 induction h with
 | flat fx fy=>intro A u v _ rx ry;exact R6 rx ry fx fy
 | same =>
  intro A u v _ rx ry;cases rx;cases ry;exact SeqAt.EqAt.same _
 | lst ne hl hb hz he ih =>
  intro A u v hu rx ry;cases rx;cases ry;obtain⟨i1,r1,p1,z1⟩:=I.list hl;obtain⟨i2,r2,p2,z2⟩:=I.list hb;have l1:=r1.length;have l2:=r2.length;have hs:i1.toArray.size=i2.toArray.size:=by simp only[List.size_toArray];lia
  refine SeqAt.EqAt.of_refs ne ?_;have z1':i1.toArray.size=_:=List.size_toArray.trans l1.symm;rw[←z1'];refine SeqAt.RcAt.lists p1.isList p2.isList hs (by lia) fun j h1 h2=>?_
  obtain⟨x,ex,qx⟩:=r1.at h1;obtain⟨y,ey,qy⟩:=r2.at h2;exact ih j x y ex ey A.in1 _ _ (by show A.units+1+_<cLine;lia) qx qy
 | len ne hl hb hz =>
  intro A u v hu rx ry;cases rx;cases ry;obtain⟨i1,r1,p1,z1⟩:=I.list hl;obtain⟨i2,r2,p2,z2⟩:=I.list hb;have l1:=r1.length;have l2:=r2.length;refine SeqAt.EqAt.of_refs ne (SeqAt.RcAt.lists_lengths p1.isList p2.isList ?_ (by lia))
  simp only[List.size_toArray,bne_iff_ne];lia
 | tup ne hl hb he ih =>
  intro A u v hu rx ry;cases rx;cases ry;obtain⟨i1,r1,p1,z1⟩:=I.tuple hl;obtain⟨i2,r2,p2,z2⟩:=I.tuple hb;have l1:=r1.length;have l2:=r2.length;refine SeqAt.EqAt.of_refs ne ?_;have z1':i1.toArray.size=_:=List.size_toArray.trans l1.symm;have z2':i2.toArray.size=_:=List.size_toArray.trans l2.symm;rw[←z1',←z2'];refine SeqAt.RcAt.tuples p1 p2 (by lia) fun j h1 h2=>?_
  obtain⟨x,ex,qx⟩:=r1.at h1;obtain⟨y,ey,qy⟩:=r2.at h2;exact ih j x y ex ey A.in1 _ _ (by show A.units+1+_<cLine;lia) qx qy
def rEqL (K:Frag)(neg:Bool):R2:=fun x y H Q=>∃(l b:Addr) (xs ys:List V),x = .ref l∧y = .ref b∧SqL K H l xs∧SqL K H b ys ∧
 ((xs.length≠ys.length∧Q (.bl neg) H)∨(xs.length=ys.length∧∃ e:Nat→Bool,(∀(i:Nat) x y,xs[i]?=some x→ys[i]?=some y→EqD K H 8 x y (e i))∧Q (.bl (if neg then !(List.range xs.length).all e else(List.range xs.length).all e)) H))
theorem TH(hu:X.A.units+64<cLine):OpR X (compareOp .Eq) (rEqL X.K false):=by
 intro b9 s σ H x y v u Q I rx ry h;obtain⟨l,b,xs,ys,rfl,rfl,hl,hb,h⟩:=h;cases rx;cases ry;obtain⟨i1,r1,p1,z1⟩:=I.list hl;obtain⟨i2,r2,p2,z2⟩:=I.list hb;have l1:=r1.length;have l2:=r2.length;rcases h with ⟨hz,q⟩ | ⟨hz,e,he,q⟩
 ·refine SeqAt.eq_list_lengthsAt p1.isList p2.isList ?_ (by lia) ⟨.bl false,H,I,rfl,q⟩
  simp only[List.size_toArray,bne_iff_ne];lia
 ·have hs:i1.toArray.size=i2.toArray.size:=by simp only[List.size_toArray];lia
  refine SeqAt.eq_listAt p1.isList p2.isList hs (by lia) (e:=e) (fun j h1 h2=>?_) ⟨.bl _,H,I,rfl,?_⟩
  ·obtain⟨x,ex,qx⟩:=r1.at h1;obtain⟨y,ey,qy⟩:=r2.at h2;exact R5 I (he j x y ex ey) X.A.in1 _ _ (by show X.A.units+1+_<cLine;lia) qx qy
  ·rw[show i1.toArray.size=xs.length from by simp only[List.size_toArray];exact l1.symm]
   exact q
end
def ExcObjC(cls a0:Value)(dd:Option Addr)(tb:Value)(cs:Value×Value):Obj:={ cls:=cls,dict:=dd,data:=.fields #[a0,tb,cs.1,.none,cs.2,.none],slots:=#[] }
abbrev cs0:Value×Value:=(.none,.bool false)
abbrev ExcObj(cls a0:Value)(dd:Option Addr)(tb:Value):Obj:=ExcObjC cls a0 dd tb cs0
def FlyX (B:Heap)(l:List Env)(x:Addr)(cls a0:Value)(dd:Option Addr)(cs:Value×Value)(fl:Value)(h:Heap):Prop :=
 B.StaysIn h∧B.get? x=none∧h.FunFrames B l∧∃ T oT ts,h.get? x=some (ExcObjC cls a0 dd (.ref T) cs)∧B.get? T=none∧T≠x∧h.get? T=some oT∧oT.data = .fields ts∧ts[3]?=some fl
section
variable {M:Model}{A:Around}{EE:Value→Shared→Prop}{s:Shared}{B:Heap}{env:Env}{outer l:List Env}{L x:Addr}{cls a0 tb fl:Value}{dd:Option Addr}{cs:Value×Value}{Q:Unit→Shared→Prop}
theorem FlyX.pop(h:FlyX B (env::l) x cls a0 dd cs fl s.heap):FlyX B l x cls a0 dd cs fl s.heap:=⟨h.1,h.2.1,h.2.2.1.2.2,h.2.2.2⟩
theorem WM{top:Value}{had:Bool}(hfr:A.frames=some (env::outer))(hl:s.heap.FunFrames B (env::outer))(hf:env.frame=some L)(hx:s.heap.get? x=some (ExcObjC cls a0 dd tb cs))(hk:B.StaysIn s.heap)(hn:B.get? x=none)(k:∀ h',FlyX B (env::outer) x cls a0 dd cs (rawInt L) h'→s.heap.UpToSlots h'→Q () { s with heap:=h' }):
  wpAny M A (do let a ← frameOf env;let pl ← entryPlaceOf L had;let b ← EntryCells.newEntry top a .none (rawInt L) .none pl;setField (.ref x) 1 b) Q EE s:=by
 have nx:x∉(env::outer).filterMap (·.frame):=fun hm=>by
  obtain⟨_,o,ho,hnf⟩:=hl.mem hm;rw[hx] at ho;cases ho;exact hnf _ rfl
 refine zA (wpAny_frameOf_fun hfr hl hf fun g1 sl1=>zA (wpAny_entryPlaceOf fun pl hpl=>?_));unfold EntryCells.newEntry newFields;refine zA (wpAny_newObj_type ?_ (hpl.sizeOk5 _ _ _ _ _));have x1:g1.get? x=some (ExcObjC cls a0 dd tb cs):=(sl1.2.1 x nx).trans hx;have k1:B.StaysIn g1:=fun b o e=>(sl1.2.1 b fun hm=>by rw[(hl.mem hm).1] at e;cases e).trans (hk b o e)
 have hts:([top,.ref L,.none,rawInt L,.none]++(if pl.isEmpty then List.replicate 6 Value.none else pl)).toArray[3]?=some (rawInt L):=by
  first | (simp;done) | (rcases hpl with rfl | ⟨_,_,_,_,_,_,_,rfl⟩ <;> simp)
 generalize hnew:([top,.ref L,.none,rawInt L,.none]++(if pl.isEmpty then List.replicate 6 Value.none else pl)).toArray=ts at hts ⊢;have x2:(g1.push { cls:=.type "traceback",dict:=none,data:=.fields ts }).get? x=some (ExcObjC cls a0 dd tb cs):=Heap.get?_push_of_some _ x1;have Tx:g1.objs.size≠x:=Nat.ne_of_gt (Heap.lt_size x1);have x3:((g1.push { cls:=.type "traceback",dict:=none,data:=.fields ts }).update x (Obj.mapFields (·.setIfInBounds 1 (Value.ref g1.objs.size)))).get? x=some (ExcObjC cls a0 dd (.ref g1.objs.size) cs):=Heap.get?_update_self _ x2 rfl;have bh:∀ b o,b≠x→(g1.push { cls:=.type "traceback",dict:=none,data:=.fields ts }).get? b=some o→((g1.push { cls:=.type "traceback",dict:=none,data:=.fields ts }).update x (Obj.mapFields (·.setIfInBounds 1 (Value.ref g1.objs.size)))).get? b=some o:=fun b o hb e=>by
  rw[Heap.get?_update_other _ _ (Ne.symm hb)];exact e
 have norec:∀ b o,s.heap.get? b=some o→(∀ vs,o.data ≠ .fields vs)→b≠x:=fun b o e hnf z=>by
  rw[z,hx] at e;cases e;exact hnf _ rfl
 have up:∀ b o,s.heap.get? b=some o→(∀ vs,o.data ≠ .fields vs)→∃ sl,((g1.push { cls:=.type "traceback",dict:=none,data:=.fields ts }).update x (Obj.mapFields (·.setIfInBounds 1 (Value.ref g1.objs.size)))).get? b=some { o with slots:=sl }:=fun b o e hnf=>by
  obtain⟨sl,e1⟩:=sl1.2.2 b o e;exact⟨sl,bh b _ (norec b o e hnf) (Heap.get?_push_of_some _ e1)⟩
 refine wpAny_setField x2 rfl (by show 1<6;decide) (k _ ⟨fun b o e=>bh b o (fun z=>by rw[z,hn] at e;cases e) (Heap.get?_push_of_some _ (k1 b o e)),hn,hl.of_keeps fun b o e hnf=>?_,g1.objs.size,_,ts,x3,k1.fresh,Tx,bh _ _ Tx (Heap.get?_push_size _ rfl),rfl,hts⟩ up)
 obtain⟨sl,e1⟩:=up b o e hnf;exact⟨_,e1,rfl⟩
theorem N6(hfr:A.frames=some (env::outer))(hf:env.frame=some L)(hx:FlyX B (env::outer) x cls a0 dd cs .none s.heap)(k:∀ h',FlyX B (env::outer) x cls a0 dd cs (rawInt L) h'→s.heap.UpToSlots h'→Q () { s with heap:=h' }):wpAny M A (noteFrame (.ref x) env) Q EE s:=by
 obtain⟨hk,hn,hl,T,oT,ts,hx,hnT,hTx,hT,hdT,h3⟩:=hx;unfold noteFrame;simp only[hf];refine zA (wpAny_field hx rfl (x:=.ref T) rfl ?_);rw[if_pos (show(Value.ref T != Value.none)=true from by simp)]
 refine zA (wpAny_field hT hdT h3 ?_);rw[if_neg (show ¬ ((Value.none==rawInt L)=true) from by simp[rawInt])]
 refine zA (wpAny_setField hT hdT (Array.getElem?_eq_some_iff.mp h3).1 ?_);have oth:∀ b,b≠T→(s.heap.update T (Obj.mapFields (·.setIfInBounds 3 Value.none))).get? b=s.heap.get? b:=fun b hb=>Heap.get?_update_other _ _ (Ne.symm hb);have norec:∀ b o,s.heap.get? b=some o→(∀ vs,o.data ≠ .fields vs)→b≠T:=fun b o e hnf z=>by
  rw[z,hT] at e;cases e;exact hnf ts hdT
 refine WM (s:={ s with heap:=s.heap.update T (Obj.mapFields (·.setIfInBounds 3 Value.none)) }) hfr (hl.of_keeps fun b o e hnf=>⟨o,(oth b (norec b o e hnf)).trans e,rfl⟩) hf ((oth x (Ne.symm hTx)).trans hx)
  (fun b o e=>(oth b fun z=>by rw[z,hnT] at e;cases e).trans (hk b o e)) hn fun h' fx up=>k h' fx fun b o e hnf=>up b o ((oth b (norec b o e hnf)).trans e) hnf
theorem Wq(hfr:A.frames=some (env::outer))(hf:env.frame=some L)(hl:s.heap.FunFrames B (env::outer))(hx:s.heap.get? x=some (ExcObjC cls a0 dd .none cs))(hk:B.StaysIn s.heap)(hn:B.get? x=none)(k:∀ h',FlyX B (env::outer) x cls a0 dd cs (rawInt L) h'→s.heap.UpToSlots h'→Q () { s with heap:=h' }):wpAny M A (noteFrame (.ref x) env) Q EE s:=by
 unfold noteFrame;simp only[hf];refine zA (wpAny_field hx rfl (x:=.none) rfl ?_);rw[if_neg (by decide)]
 exact WM hfr hl hf hx hk hn k
theorem Vt(hx:FlyX B l x cls a0 dd cs fl s.heap)(k:∀ h',FlyX B l x cls a0 dd cs .none h'→s.heap.UpToSlots h'→Q () { s with heap:=h' }):wpAny M A (setFlight (.ref x) none) Q EE s:=by
 obtain⟨hk,hn,hl,T,oT,ts,hx,hnT,hTx,hT,hdT,h3⟩:=hx;have sz:3<ts.size:=(Array.getElem?_eq_some_iff.mp h3).1;have oth:∀ b,b≠T→(s.heap.update T (Obj.mapFields (·.setIfInBounds 3 ((none:Option Addr).elim Value.none fun f=>rawInt f)))).get? b=s.heap.get? b:=fun b hb=>Heap.get?_update_other _ _ (Ne.symm hb);have norec:∀ b o,s.heap.get? b=some o→(∀ vs,o.data ≠ .fields vs)→b≠T:=fun b o e hnf z=>by
  rw[z,hT] at e;cases e;exact hnf ts hdT
 unfold setFlight;refine zA (wpAny_field hx rfl (x:=.ref T) rfl ?_);rw[if_pos (show(Value.ref T != Value.none)=true from by simp)]
 refine wpAny_setField hT hdT sz (k _ ⟨fun b o e=>(oth b fun z=>by rw[z,hnT] at e;cases e).trans (hk b o e),hn,hl.of_keeps fun b o e hnf=>⟨o,(oth b (norec b o e hnf)).trans e,rfl⟩,T,_,_,(oth x (Ne.symm hTx)).trans hx,hnT,hTx,Heap.get?_update_self _ hT (Obj.isFreed_of_fields (Obj.data_mapFields hdT _)),Obj.data_mapFields hdT _,by simp[sz]⟩
  fun b o e hnf=>⟨o.slots,(oth b (norec b o e hnf)).trans e⟩)
theorem Dp(hfr:A.frames=some (env::outer))(hf:env.frame=some L)(hx:FlyX B (env::outer) x cls a0 dd cs .none s.heap)(k:∀ h',FlyX B outer x cls a0 dd cs .none h'→s.heap.UpToSlots h'→Q () { s with heap:=h' }):wpAny M A (leaving env (.ref x)) Q EE s:=by
 unfold leaving;refine zA (N6 hfr hf hx fun h1 f1 u1=>Vt (s:={ s with heap:=h1 }) f1 fun h2 f2 u2=>k h2 (FlyX.pop (s:={ s with heap:=h2 }) f2) (u1.trans u2))
theorem Ng(hfr:A.frames=some (env::outer))(hf:env.frame=some L)(hl:s.heap.FunFrames B (env::outer))(hx:s.heap.get? x=some (ExcObjC cls a0 dd .none cs))(hk:B.StaysIn s.heap)(hn:B.get? x=none)(k:∀ h',FlyX B outer x cls a0 dd cs .none h'→s.heap.UpToSlots h'→Q () { s with heap:=h' }):wpAny M A (leaving env (.ref x)) Q EE s:=by
 unfold leaving;refine zA (Wq hfr hf hl hx hk hn fun h1 f1 u1=>Vt (s:={ s with heap:=h1 }) f1 fun h2 f2 u2=>k h2 (FlyX.pop (s:={ s with heap:=h2 }) f2) (u1.trans u2))
end
def CxB (bx:Bool)(H:Hp)(cx:Value):Prop:=cx = .none∨(bx=true∧CxOk H cx)
theorem CxB.ok{bx:Bool}{H:Hp}{cx:Value}(h:CxB bx H cx):CxOk H cx:=h.elim .inl (·.2)
theorem CxB.frzs{bx:Bool}{H H':Hp}{cx:Value}(x:CxB bx H cx)(f:∀ b o u,H b=some (.frz o u)→H' b=some (.frz o u)):CxB bx H' cx:=x.elim .inl fun z=>.inr ⟨z.1,z.2.frzs f⟩
def Fly (bx:Bool)(P:Program)(w:World)(g:Heap)(l:List Env)(H:Hp)(x:Addr)(cls:Value)(dd:Option Addr)(h:Heap):Prop :=
 ∃(B:Heap) (a0:Value) (cs:Value×Value),FlyX B l x cls a0 dd cs .none h∧CxB bx H cs.1∧HOk P w H B∧∀ b o,g.get? b=some o→b∉frs l→∃ ob,B.get? b=some ob
def CXq (bx:Bool)(P:Program)(w:World):CXT:=⟨fun outer H s E e s'=>∃ x cls dd H',e = .ref x∧s'.os=s.os∧AllBare s'.gens∧Un (frs outer) [] H H' s.heap s'.heap∧HOk P w H' s'.heap∧Fly bx P w s.heap outer H' x cls dd s'.heap∧E cls dd H',true⟩
abbrev CXr(P:Program)(w:World):CXT:=CXq false P w
section
variable {bx:Bool}{P:Program}{w:World}{K:Frag}{mg:Str→Option Value}{base:Heap}{N:List Str}{qual:Str}{scope:Scope}{f:Addr}{cd:Value}{A:Around}{outer:List Env}{s₀:Shared}{H₀:Hp}{E:XK}
variable {b9:List (Addr×Obj)}{σ:St}{H:Hp}{s:Shared}
theorem UC{B h' bb:Heap}{x:Addr}{cls a0:Value}{dd:Option Addr}{cs:Value×Value}(hos:s.os=s₀.os)(hbr:AllBare s.gens)(base:Un (frs outer) [] H₀ H s₀.heap s.heap)(funs:s₀.heap.FunFrames bb outer)(frf:∀ b∈frs outer,H₀ b=none)(st:B.StaysIn s.heap)(fl:FlyX B outer x cls a0 dd cs .none h')(hcx:CxB bx H cs.1)(hB:HOk P w H B)(cov:∀ b o,s₀.heap.get? b=some o→b∉frs outer→∃ ob,B.get? b=some ob)(up:∀ b o,b∈frs outer→s.heap.get? b=some o→(∀ vs,o.data ≠ .fields vs)→∃ sl,h'.get? b=some { o with slots:=sl })(q:E cls dd H){t':Nat}:
  CXq bx P w outer H₀ s₀ E (.ref x) { s with heap:=h',toks:=t' }:=by
 have same:∀ b o,s₀.heap.get? b=some o→b∉frs outer→∀ o',s.heap.get? b=some o'→h'.get? b=some o':=fun b o e hb o' e'=>by
  obtain⟨ob,eb⟩:=cov b o e hb
  have:=st b ob eb
  rw[e'] at this;cases this;exact fl.1 b _ eb
 refine⟨x,cls,dd,H,rfl,hos,hbr,⟨fun b o e n hb hx=>?_,fun b o e n hb hx=>?_,base.free,fun b o e hx=>?_,base.tups,base.frzs,base.tbls⟩,hB.kept fl.1,⟨B,a0,cs,fl,hcx,hB,cov⟩,q⟩
 ·exact same b o e hb o (base.keep b o e n hb hx)
 ·obtain⟨sl,e1⟩:=base.slot b o e n hb hx;obtain⟨_,o2,e2,hnf⟩:=funs.mem hb;rw[e] at e2;cases e2;obtain⟨sl',e3⟩:=up b _ hb e1 hnf;exact⟨sl',e3⟩
 ·obtain⟨o1,e1⟩:=base.there b o e hx;by_cases hb:b∈frs outer
  ·obtain⟨_,o2,e2,hnf⟩:=funs.mem hb;rw[e] at e2;cases e2;by_cases n:H₀ b=none
   ·obtain⟨sl,e3⟩:=base.slot b o e n hb hx;obtain⟨sl',e4⟩:=up b _ hb e3 hnf;exact⟨_,e4⟩
   ·exact absurd (frf b hb) n
  ·exact⟨o1,same b o e hb o1 e1⟩
theorem Zn{b0:Bool}(hb0:b0=true→bx=true:=by first | exact id | exact fun z=>nomatch z | exact fun _=>rfl):Passes (CXq b0 P w) (cxOf (CXq bx P w) P w K mg base N qual scope f cd A outer s₀ H₀ E) E:=by
 intro b9 σ H s e s' I h;obtain⟨x,cls,dd,H',rfl,os,bare,un,hok,⟨B,a0,cs,fl,hcx,hB,cov⟩,q⟩:=h;have I':Inv (cxOf (CXq bx P w) P w K mg base N qual scope f cd A outer s₀ H₀ E) b9 σ H' s':=I.call' (ch:=[]) os un hok bare (fun b z=>absurd z (by simp))
 have cov0:∀ b o,s₀.heap.get? b=some o→b∉frs outer→∃ ob,B.get? b=some ob:=fun b o e hb=>by
  obtain⟨o1,e1⟩:=I.base.there b o e (by intro z;cases z)
  refine cov b o1 e1 fun hm=>?_;rcases List.mem_cons.mp (I.stkSub b hm) with z | z
  ·exact absurd (Nat.lt_of_lt_of_le (Heap.lt_size e) I.ok.above) (by rw[z];exact Nat.lt_irrefl _)
  ·exact hb z
 refine Dp (L:=s₀.heap.objs.size) I.ok.frames rfl fl fun h' fl' up=>?_;exact UC I'.os I'.bare I'.base I'.ok.funs I'.ok.frf fl.1 fl' (hcx.elim .inl fun z=>.inr ⟨hb0 z.1,z.2⟩) hB cov0 (fun b o _ e n=>up b o e n) q
end
section
variable {X:Cx}{x:Str}{C:Addr}{E:XK}{e₀:Expr}{rest:List Expr}{ta:TA}{np cpos pos:Pos}{Bn B newId inN nid initId:String}{bmN bmB:List Value}
end
theorem Fun.okR{bx:Bool}{P:Program}{w:World}{K:Frag}{mg:Str→Option Value}{base:Heap}{x qual:Str}{st:Stmt}{f:Addr}{fd:FuncData}{N ps:List Str}{k:Nat}{sp:Sp}(F:Fun K x qual st f fd)(S:Zd N ps (defScope st))(len:∀ vs H Q E,sp vs H Q E→vs.length=ps.length)(hbody:∀(bf:Value) (A:Around) (outer:List Env) (s:Shared) (H:Hp) (vs:List V) (Q:VK) (E:XK),Room k (A.deeper (envOfC qual (defScope st) s.heap.objs.size f bf))→sp vs H Q E →
   ∃ t,PSs (cxOf (CXq bx P w) P w K mg base N qual (defScope st) f bf A outer s H E) (ZL st) t∧t { nx:=fun _ H'=>Q .non H',rt:=Q } (start N vs) H):FnOk P w K mg base (CXq bx P w) (k+1) f fd ps sp:=by
 obtain⟨oc,od,kV,bu,pm,an,bf,ct,bv,rfl,l,c⟩:=F.ex;exact Nm l c S len fun A outer s H vs Q E hr h=>hbody bf A outer s H vs Q E hr h
theorem UU{outs:Nat→Option V}(i:Nat):(List.range (i+1)).filterMap outs=(List.range i).filterMap outs++(match outs i with | some v=>[v] | none=>[]):=by
 rw[List.range_succ,List.filterMap_append];cases h:outs i <;> simp[h]
theorem Qo{J:It}{n:Nat}{item:Nat→V}{outs:Nat→Option V}{g:TG}{tt:TT}{te:TE}{H1:Hp}{σ0:St}{D:Addr}{Q:VK}(SG:St→Prop)(hD:H1 D=none)(hn:n<zF)(go:∀ i Hc,i<n→Same H1 Hc→J.go i Hc)(yld:∀ i Hc x H',i<n→Same H1 Hc→J.yld i Hc x H'→H'=Hc∧x=item i)(stop:∀ Hc,Same H1 Hc→J.stop n Hc)(s0:SG σ0)(step:∀(i:Nat) (σc:St) (Hc:Hp) (Yes:V→St→Hp→Prop) (No:St→Hp→Prop),i<n→Same H1 Hc→Hc D≠none→SG σc →
   (∀ σ2 H4 v,SG σ2→Same Hc H4→outs i=some v→Yes v σ2 H4)→(∀ σ2 H3,SG σ2→Same Hc H3→outs i=none→No σ2 H3) →
   g (item i) σc Hc fun σ2 H2=>tt σ2 H2 fun b H3=>if b=true then te σ2 H3 fun v H4=>Yes v σ2 H4 else No σ2 H3)(fin:∀ Hc,Same H1 Hc→Hc D=some (.lst ((List.range n).filterMap outs))→Q (.ref D) Hc):
  JB J g tt te σ0 H1 D Q:=by
 have sD:∀{Hc:Hp} {o:HO},Same H1 Hc→Same H1 (upd Hc D o):=fun{Hc o} e b u q=>by rw[Z1 (Z4 q hD)];exact e b u q
 refine⟨fun i m acc σc Hc=>m=n-i∧i≤n∧acc=(List.range i).filterMap outs∧Same H1 Hc∧Hc D=some (.lst acc)∧SG σc,⟨n,rfl,Nat.zero_le _,rfl,sD (Same.refl _),Z2,s0⟩,?_⟩;rintro i m acc σc Hc ⟨rfl,hi,rfl,sm,hDc,sg⟩;by_cases hlt:i<n
 ·refine .inr ⟨go i Hc hlt sm,fun x H' y=>?_⟩;obtain⟨rfl,rfl⟩:=yld i Hc x H' hlt sm y;refine step i σc _ _ _ hlt sm (by rw[hDc];simp) sg (fun σ2 H4 v s2 k e=>?_) (fun σ2 H3 s2 k e=>?_)
  ·have hl:((List.range i).filterMap outs).length≤i:=Nat.le_trans (List.length_filterMap_le _ _) (by simp)
   refine⟨k _ _ hDc,Nat.lt_of_le_of_lt hl (Nat.lt_trans hlt hn),n-(i+1),by lia,rfl,hlt,?_,sD (sm.trans k),Z2,s2⟩
   rw[UU,e]
  ·refine⟨n-(i+1),by lia,rfl,hlt,?_,sm.trans k,?_,s2⟩
   ·rw[UU,e];simp
   ·exact k _ _ hDc
 ·have e:i=n:=by lia
  subst e;exact .inl ⟨stop Hc sm,fin Hc sm hDc⟩
theorem Yg{K:Frag}{a:Addr}{xs:List V}{outs:Nat→Option V}{g:TG}{tt:TT}{te:TE}{H1:Hp}{σ0:St}{D:Addr}{Q:VK}(SG:St→Prop)(hD:H1 D=none)(hq:SqL K H1 a xs)(hn:xs.length<zF)(s0:SG σ0)(step:∀(i:Nat) (x:V) (σc:St) (Hc:Hp) (Yes:V→St→Hp→Prop) (No:St→Hp→Prop),xs[i]?=some x→Same H1 Hc→Hc D≠none→SG σc →
   (∀ σ2 H4 v,SG σ2→Same Hc H4→outs i=some v→Yes v σ2 H4)→(∀ σ2 H3,SG σ2→Same Hc H3→outs i=none→No σ2 H3) →
   g x σc Hc fun σ2 H2=>tt σ2 H2 fun b H3=>if b=true then te σ2 H3 fun v H4=>Yes v σ2 H4 else No σ2 H3)(fin:∀ Hc,Same H1 Hc→Hc D=some (.lst ((List.range xs.length).filterMap outs))→Q (.ref D) Hc):
  JB (Itl K a) g tt te σ0 H1 D Q:=by
 refine Qo (J:=Itl K a) (n:=xs.length) (item:=fun i=>xs.getD i .non) SG hD hn (fun i Hc hi sm=>⟨xs,xs[i],sm.seq hq,by simp[hi]⟩) (fun i Hc x H' hi sm y=>?_) (fun Hc sm=>⟨xs,sm.seq hq,Nat.le_refl _⟩) s0 (fun i σc Hc Yes No hi sm hDc sg y n=>?_) fin
 ·obtain⟨e,y⟩:=y
  have:=y xs (sm.seq hq)
  exact⟨e,by simp[List.getD,this]⟩
 ·have e:xs[i]?=some (xs.getD i .non):=by simp[List.getD,hi]
  exact step i _ σc Hc Yes No e sm hDc sg y n
theorem XX{n:Nat}{outs:Nat→Option V}{g:TG}{tt:TT}{te:TE}{H1:Hp}{σ0:St}{D:Addr}{Q:VK}(SG:St→Prop)(hD:H1 D=none)(hn:n<zF)(s0:SG σ0)(step:∀(i:Nat) (σc:St) (Hc:Hp) (Yes:V→St→Hp→Prop) (No:St→Hp→Prop),i<n→Same H1 Hc→Hc D≠none→SG σc →
   (∀ σ2 H4 v,SG σ2→Same Hc H4→outs i=some v→Yes v σ2 H4)→(∀ σ2 H3,SG σ2→Same Hc H3→outs i=none→No σ2 H3) →
   g (.int (i:Nat)) σc Hc fun σ2 H2=>tt σ2 H2 fun b H3=>if b=true then te σ2 H3 fun v H4=>Yes v σ2 H4 else No σ2 H3)(fin:∀ Hc,Same H1 Hc→Hc D=some (.lst ((List.range n).filterMap outs))→Q (.ref D) Hc):
  JB (Itr 0 n) g tt te σ0 H1 D Q:=by
 refine Qo (J:=Itr 0 n) (n:=n) (item:=fun i=>.int (i:Nat)) SG hD hn (fun i Hc hi _=>hi) (fun i Hc x H' _ _ y=>⟨y.1,by rw[y.2];congr 1;lia⟩) (fun Hc _=>Nat.le_refl _) s0 step fin
theorem Vg{X:Cx}{x:Str}{T:String}{pos:Pos}(hg:Gl X x)(hm:X.mg x=none)(hv:bootBuiltins x=some (.type T))(hn:x≠"__name__":=by decide)(hd:(x==("__debug__":Str))=false:=by decide):PE X (.Name x pos) (tC (.ty T)):=Da hg hm hv (v:=.ty T) rfl hn hd
theorem Vi{X:Cx}{x:Str}{C:Addr}{pos:Pos}(hg:Gl X x)(hm:X.mg x=some (.ref C))(hd:(x==("__debug__":Str))=false:=by decide):PE X (.Name x pos) (tC (.ref C)):=D9 hg hm (v:=.ref C) rfl hd
theorem ixL{Y:Cx}{K:Frag}(e:Y.K=K:=by rfl):IxR Y (rIxL K):=by subst e;exact YZ
theorem ixT{Y:Cx}{K:Frag}(e:Y.K=K:=by rfl):IxR Y (rIxT K):=by subst e;exact ZW
theorem WI{α:Type}(f:α→V)(xs:List α):∀ n:Nat,((List.range n).filterMap fun i=>(xs[i]?).map f)=(xs.take n).map f
 | 0=>rfl
 | n+1=>by
  rw[List.range_succ,List.filterMap_append,WI f xs n,List.take_add_one,List.map_append];congr 1;cases e:xs[n]? <;> simp[e]
theorem UE{α:Type}(f:α→V)(xs:List α):((List.range xs.length).filterMap fun i=>(xs[i]?).map f)=xs.map f:=by
 rw[WI,List.take_length]
def Mj(j:Nat)(t:TE):TS:=fun D σ H=>t σ H fun v H'=>D.nx (σ.set j (some v)) H'
theorem JV{X:Cx}{elt target iter:Expr}{ifs:List Expr}{scope outer:Scope}{pos spos py:Pos}{XN N:List Str}{cap:List (Option Nat)}{wi:TI}{g:TG}{tt:TT}{te:TE}{j:Nat}{y:Str}(S:Qu XN outer scope N cap)(_:True=True)(hNd:X.N.Nodup)(hj:X.N[j]?=some y)(hy:Loc X.env.scope y)(hi:PI X target iter wi)(hg:∀ cl C s₀ H₀ ex b9,PG (X.comp N scope cl C s₀ H₀ ex b9) target g)(ht:∀ cl C s₀ H₀ ex b9,PIfs (X.comp N scope cl C s₀ H₀ ex b9) ifs tt)(he:∀ cl C s₀ H₀ ex b9,PE (X.comp N scope cl C s₀ H₀ ex b9) elt te)(hsw:swapsWith (.ListComp elt [⟨target,iter,ifs,0⟩] scope pos) (some (.Name y py)) spos.line X.env=pure true:=by rfl)(hX:X.env.scope=outer:=by rfl)(hN:X.N=XN:=by rfl)(hs:∀ x,foldedSetIterable iter X.env x=pure x:=by intro _;rfl)(hf:X.fn y=true∨X.env.scope.names.lookup y=some .local:=by first | exact .inl rfl | exact .inr rfl):
  PS X (.Assign [.Name y py] (.ListComp elt [⟨target,iter,ifs,0⟩] scope pos) spos) (Mj j (tComp cap wi g tt te)):=by
 intro b9 s σ H D I h;obtain⟨cl,hclos,hcl1,hcl2⟩:=J3 (scope:=scope) (env:=X.env) fun x hx hf=>I.ok.has x.1 (.inl (by
  show X.env.scope.names.lookup x.1=some .cell;rw[hX];exact S.fr x hx hf))
 rw[exec_Assign_Name_used _ _ _ _ hsw];refine zA (wpAny_standAt (zA ?_));show wpAny _ X.A (do let _ ← comprehension (.ListComp elt [⟨target,iter,ifs,0⟩] scope pos) scope X.env _ (newList []) false (eval iter X.env) (some (assign (.Name y py) X.env))) _ _ s
 refine zA (zC (wpAny_comprehension_free (use:=some (assign (.Name y py) X.env)) (Q:=fun _ s'=>SP X b9 D .next s') rfl hs hclos S.kind S.loc ?_) (fun _ s' hq=>zB (zB hq)) fun _ _ e=>e);refine thn (hi b9 s σ H _ I h) fun v s1 h1=>thn h1 fun itv s2 h2=>?_;obtain⟨it,fp,tn,J,H2,rfl,I2,T,st2,f2,hc,hW⟩:=h2;refine VY (RR:=fun acc C=>compPost (model X.prog X.w) X.A X.xe (some (assign (.Name y py) X.env)) (fun _ s'=>SP X b9 D .next s') acc C) hX hN S hc hg ht he hcl1 hcl2 I2 T st2 f2 hW ?_;intro Dl C H' s' m I' fC hn q;obtain⟨a0,a1,_,a3,a4,a5⟩:=fC;show wpAny _ X.A (assign (.Name y py) X.env (.ref Dl)) _ _ s';refine wpAny_assign_Name (VH I' hNd hj hy (v:=.ref Dl) rfl (fun s3 I3 ⟨b,sb,hb⟩=>?_) hf);have hbC:b≠C:=by
  rcases hb with z | z
  ·rw[z];exact(Ne.symm a1)
  ·exact fun e=>a4 y b z e
 refine⟨m,hn.sameBut sb (Ne.symm hbC),fun h' hsb=>?_⟩;exact⟨_,H',I3.turned (t':=s3.toks) (fun c o hb e=>hsb.extBut c o hb e) a0 a1 a3 a4 a5,q⟩
theorem Paired.getL{α β:Type}{F:α→β→Prop}:∀{l₁:List α} {l₂:List β} {i:Nat} {a:α},Paired F l₁ l₂→l₁[i]?=some a→∃ b,l₂[i]?=some b∧F a b
 | _,_,_,_,.nil,e=>by simp at e
 | _,_,0,_,.cons r _,e=>by simp at e;subst e;exact⟨_,rfl,r⟩
 | _,_,i+1,a,.cons _ t,e=>by
  obtain⟨b,h1,h2⟩:=Paired.getL (i:=i) (a:=a) t (by simpa using e)
  exact⟨b,by simpa using h1,h2⟩
theorem RH{P:Program}{w:World}{k:Key}{u:Value}(h:(mixKind P w).is k u=true):RelV (kV k) u:=by
 rcases ZG (k:=k) (v:=u) h with ⟨i,t,rfl,rfl⟩ | ⟨x,t,rfl,rfl⟩
 ·exact⟨t,rfl⟩
 ·exact⟨t,rfl⟩
section
variable {X:Cx}{b9:List (Addr×Obj)}{σ:St}{H:Hp}{s:Shared}
theorem Inv.track{t:Addr}{o:HO}(I:Inv X b9 σ H s)(hn:H t=none)(h0:X.s₀.heap.objs.size≤t)(hL:t≠X.env.locals)(hc:∀ x c,X.env.cells.lookup x=some c→c≠t)(hp:∀ p∈X.pn++b9,p.1≠t)(new:ObjOk X.prog X.w (upd H t o) s.heap t o):Inv X b9 σ (upd H t o) s:=by
 have ne0:∀ b ob,X.s₀.heap.get? b=some ob→b≠t:=fun b ob e=>Nat.ne_of_lt (Nat.lt_of_lt_of_le (Heap.lt_size e) h0);refine⟨I.ok,I.os,I.bare,⟨I.base.keep,I.base.slot,fun b ob e n hx=>?_,I.base.there,fun b xs e=>?_,fun b ob u e=>?_,fun b ps e=>?_⟩,I.loc,I.cell,?_,fun x c e=>?_,fun p hpm=>?_,fun b u e=>?_,I.len,I.hdh.frzs fun b ob u e=>?_⟩
 ·rw[Z1 (ne0 b ob e)];exact I.base.free b ob e n hx
 ·have:=I.base.tups b xs e;rw[Z1 (Z4 this hn)];exact this
 ·have:=I.base.frzs b ob u e;rw[Z1 (Z4 this hn)];exact this
 ·obtain⟨more,e1⟩:=I.base.tbls b ps e;exact⟨more,by rw[Z1 (Z4 e1 hn)];exact e1⟩
 ·rw[Z1 (Ne.symm hL)];exact I.free
 ·rw[Z1 (hc x c e)];exact I.freeC x c e
 ·obtain⟨a,b,c,d,e⟩:=I.pin p hpm;exact⟨a,by rw[Z1 (hp p hpm)];exact b,c,d,e⟩
 ·by_cases hb:b=t
  ·subst hb;rw[Z2] at e;cases e;exact new
  ·rw[Z1 hb] at e;exact(I.hok b u e).stay (fun _ _ _ z=>z) (fun c z=>by rw[Z1 (Z4 z hn)];exact z) fun c xs z=>by rw[Z1 (Z4 z hn)];exact z
 ·rw[Z1 (Z4 e hn)];exact e
theorem Inv.turnedL{h':Heap}{t':Nat}{bw:List Addr}(I:Inv X b9 σ H s)(k:∀ b o,b∉bw→s.heap.get? b=some o→h'.get? b=some o)(hf:∀ b∈bw,FpOk X b9 H b):Inv X b9 σ H { s with heap:=h',toks:=t' }:=by
 have nit:∀ b u,H b=some u→b∉bw:=fun b u e z=>by rw[(hf b z).1] at e;cases e
 refine I.step (g':=s.gens) (d':=s.drawn) (ch:=bw) (fun b hb=>?_) (fun b o _ _ hc e _=>k b o hc e) (fun b o _ _ hc e _=>⟨o.slots,k b o hc e⟩) (fun _ _ _ _ n=>n)
  (fun b o hc e=>⟨o,k b o hc e⟩) (fun _ _ e=>e) (fun _ _ _ e=>e) (fun b ps e=>⟨#[],by rw[e];simp⟩) (fun m hm=>?_) (fun b u e=>?_) I.bare
 ·obtain⟨_,f1,_,f3,f4,f5⟩:=hf b hb;exact⟨f3,f1,f4,f5⟩
 ·obtain⟨o,es,ep,ho,r⟩:=hm;exact⟨o,es,ep,k _ o (fun z=>(hf _ z).2.1 rfl) ho,r⟩
 ·refine(I.hok b u e).stay (fun c v hc q=>k c v ?_ q) (fun _ q=>q) fun _ _ q=>q;rcases hc with z | z
  ·rw[z];exact nit b u e
  ·exact nit c _ z
variable {d:Addr}{kvs:List (Key×V)}
theorem Inv.freeze(I:Inv X b9 σ H s)(e:H d=some (.dK kvs)):∃ o es ep vs,s.heap.get? d=some o∧o.data = .dict es ep∧KV kvs vs∧(d==sysModules)=false∧s.heap.DictAt (mixKind X.prog X.w) d vs ep∧Inv X b9 σ (upd H d (.frz o (.dK kvs))) s:=by
 obtain⟨z,hd,vs,r,dd⟩:=Nt I.hok e;obtain⟨ep,da⟩:=dd.dictAt;obtain⟨o,es,ho,hx,hdt,hrest⟩:=id da;refine⟨o,es,ep,vs,ho,hdt,r,hd,da,?_⟩;have nd:∀{b:Addr} {u:HO},H b=some u→(∀ ks,u ≠ .dK ks)→b≠d:=fun{b u} q hu z=>by rw[z,e] at q;cases q;exact hu _ rfl
 refine I.un (h':=s.heap) (t':=s.toks) ⟨fun b o' q n _ _=>q,fun b o' q n _ _=>⟨o'.slots,q⟩,fun b o' q n _=>?_,fun b o' q _=>⟨o',q⟩,fun b xs q=>?_,fun b o' u q=>?_,fun b ps q=>⟨#[],?_⟩⟩ fun b u q=>?_
 ·rw[Z1 (fun z=>by rw[z,e] at n;cases n)];exact n
 ·rw[Z1 (nd q fun ks z=>by cases z)];exact q
 ·rw[Z1 (nd q fun ks z=>by cases z)];exact q
 ·rw[Z1 (nd q fun ks z=>by cases z)];simp[q]
 ·by_cases hb:b=d
  ·subst hb;rw[Z2] at q;cases q;exact⟨ho,(I.hok b _ e).stay (fun _ _ _ z=>z) (fun c z=>by rw[Z1 (nd z fun ks y=>by cases y)];exact z) fun c xs z=>by rw[Z1 (nd z fun ks y=>by cases y)];exact z⟩
  ·rw[Z1 hb] at q;exact(I.hok b u q).stay (fun _ _ _ z=>z) (fun c z=>by rw[Z1 (nd z fun ks y=>by cases y)];exact z) fun c xs z=>by rw[Z1 (nd z fun ks y=>by cases y)];exact z
theorem Inv.thaw{o:Obj}(I:Inv X b9 σ H s)(e:H d=some (.frz o (.dK kvs)))(h0:∀ o u,X.H₀ d≠some (.frz o u)):Inv X b9 σ (upd H d (.dK kvs)) s:=by
 have hk:=I.hok d _ e;obtain⟨hg,hdk⟩:=(show ObjOk X.prog X.w H s.heap d (.frz o (.dK kvs)) from hk)
 have nd:∀{b:Addr} {u:HO},H b=some u→(∀ o ks,u ≠ .frz o (.dK ks))→b≠d:=fun{b u} q hu z=>by rw[z,e] at q;cases q;exact hu _ _ rfl
 have nn:∀{b:Addr},H b=none→b≠d:=fun{b} q z=>by rw[z,e] at q;cases q
 refine⟨I.ok,I.os,I.bare,⟨I.base.keep,I.base.slot,fun b ob q n hx=>?_,I.base.there,fun b xs q=>?_,fun b ob u q=>?_,fun b ps q=>?_⟩,I.loc,I.cell,?_,fun x c q=>?_,fun p hp=>?_,fun b u q=>?_,I.len,?_⟩
 ·have:=I.base.free b ob q n hx;rw[Z1 (nn this)];exact this
 ·have:=I.base.tups b xs q;rw[Z1 (nd this fun _ _ z=>by cases z)];exact this
 ·have:=I.base.frzs b ob u q
  rw[Z1 (fun z=>by subst z;exact h0 _ _ q)];exact this
 ·obtain⟨more,e1⟩:=I.base.tbls b ps q;exact⟨more,by rw[Z1 (nd e1 fun _ _ z=>by cases z)];exact e1⟩
 ·rw[Z1 (nn I.free)];exact I.free
 ·have:=I.freeC x c q;rw[Z1 (nn this)];exact this
 ·obtain⟨a,b,c,d',e'⟩:=I.pin p hp;exact⟨a,by rw[Z1 (nn b)];exact b,c,d',e'⟩
 ·by_cases hb:b=d
  ·subst hb;rw[Z2] at q;cases q;exact hdk.stay (fun _ _ _ z=>z) (fun c z=>by rw[Z1 (nd z fun _ _ y=>by cases y)];exact z) fun c xs z=>by rw[Z1 (nd z fun _ _ y=>by cases y)];exact z
  ·rw[Z1 hb] at q;exact(I.hok b u q).stay (fun _ _ _ z=>z) (fun c z=>by rw[Z1 (nd z fun _ _ y=>by cases y)];exact z) fun c xs z=>by rw[Z1 (nd z fun _ _ y=>by cases y)];exact z
 ·have nf:∀ x ox (v:Array Value) u,H x=some (.frz ox u)→ox.data = .fields v→x≠d:=fun x ox v u h2 h3 z=>by
   subst z;rw[e] at h2;cases h2;obtain⟨_,_,vs,_,ob,es,ep,g1,_,g2,_⟩:=hdk;rw[hg] at g1;cases g1;rw[h3] at g2;cases g2
  rcases I.hdh with h | ⟨x,ox,v,u,cx,h1,h2,h3,h4,h5⟩
  ·exact .inl h
  ·refine .inr ⟨x,ox,v,u,cx,h1,by rw[Z1 (nf _ _ _ _ h2 h3)];exact h2,h3,h4,?_⟩
   rcases h5 with h5 | ⟨y,oy,vy,uy,y1,y2,y3,y4⟩
   ·exact .inl h5
   ·exact .inr ⟨y,oy,vy,uy,y1,by rw[Z1 (nf _ _ _ _ y2 y3)];exact y2,y3,y4⟩
end
def Itd (d:Addr)(o:Obj)(kvs:List (Key×V)):It :=
 ⟨fun i H=>i<kvs.length∧H d=some (.frz o (.dK kvs)),fun i H x H'=>H'=H∧∃ p,kvs[i]?=some p∧x=kV p.1,fun i H=>kvs.length≤i∧H d=some (.frz o (.dK kvs)),true⟩
theorem Vz{X:Cx}{b9 σ H s}{d:Addr}{kvs:List (Key×V)}{o:Obj}{es:Array DictEntry}{ep:Nat}(I:Inv X b9 σ H s)(hf:H d=some (.frz o (.dK kvs)))(hdt:o.data = .dict es ep):
  ∃ vs,KV kvs vs∧s.heap.DictAt (mixKind X.prog X.w) d vs ep:=by
 obtain⟨hg,_,_,vs,r,o',es',ep',g1,g2,g3,g4⟩:=(show ObjOk X.prog X.w H s.heap d (.frz o (.dK kvs)) from I.hok d _ hf)
 rw[hg] at g1;cases g1;rw[hdt] at g3;cases g3;exact⟨vs,r,o,es,hg,g2,hdt,g4⟩
theorem WY{P:Program}{w:World}{K:Frag}{tg:Expr}{o:Obj}{es:Array DictEntry}{ep:Nat}(d it:Addr)(kvs:List (Key×V))(hdt:o.data = .dict es ep):Turn P w K tg (Itd d o kvs) [it] it (fun i h=>h.IsKeyIter it d i kvs.length ep) where
 mem:=by simp
 obj:=fun i h st b hb=>by
  have e:b=it:=by simpa using hb
  subst e;obtain⟨o,e,c,d⟩:=st;exact⟨o,e,fun v z=>by rw[d] at z;cases z⟩
 keep:=fun i h h' st k=>st.at fun o e=>k it (by simp) o e
 item:=by
  intro X hP hw hK hc i b9 s σ H E I hf st hg;subst hP hw hK;obtain⟨hi,hfz⟩:=hg;obtain⟨vs,r,da⟩:=Vz I hfz hdt;have hlen:kvs.length=vs.length:=Paired.length r;obtain⟨⟨k',u⟩,hu,hk,ru⟩:=Paired.getL (i:=i) (a:=kvs[i]) r (by simp[hi])
  obtain⟨f0,f1,f2,f3,f4,f5⟩:=hf it (by simp)
  rw[hlen] at st;refine wpAny_pyNext_dict_item st da hu fun key h' hkey st' sb=>?_;have I1:Inv X b9 σ H { s with heap:=h' }:=I.turned (t':=s.toks) (fun b o hb e=>(sb.2 b hb).trans e) f0 f1 f3 f4 f5
  obtain⟨o2,e2,c2,d2⟩:=id st';rw[←hlen] at st';refine⟨key,rfl,WC (s:={ s with heap:=h' }) e2 c2 d2 (by decide) ⟨kV kvs[i].1,H,I1,?_,⟨rfl,kvs[i],by simp[hi],rfl⟩,st',fun b hb=>(hf b hb).1⟩⟩
  have hk:kvs[i].1=k':=hk;rw[hk];exact RH hkey
 done:=by
  intro X hP hw hK hc i b9 s σ H E I hf st hg;subst hP hw hK;obtain⟨hi,hfz⟩:=hg;obtain⟨vs,r,da⟩:=Vz I hfz hdt;have hlen:kvs.length=vs.length:=Paired.length r;obtain⟨f0,f1,f2,f3,f4,f5⟩:=hf it (by simp)
  rw[hlen] at st;exact wpAny_pyNext_dict_end (I.ok.hd (hc rfl)) st da (by simp;lia) fun h' eb=>⟨rfl,I.turned (t':=s.toks) (fun b o hb e=>eb b o hb e) f0 f1 f3 f4 f5⟩
 self:=fun _ _ _ _ _ st h=>wpAny_pyIter_keyiter st h
def RM(tl:TE):TI:=fun σ H R=>tl σ H fun x H1=>∃ d kvs,x = .ref d∧H1 d=some (.dK kvs)∧∀ o,R (Itd d o kvs) (upd H1 d (.frz o (.dK kvs)))
theorem Wm{X:Cx}{tg l:Expr}{tl:TE}(hl:PE X l tl)(hc:X.calm=true:=by rfl):PI X tg l (RM tl):=by
 intro b9 s σ H R I h;refine thn (hl b9 s σ H _ I h) fun v s1 ⟨x,H1,I1,r1,q1⟩=>?_;obtain⟨d,kvs,e,hd,q⟩:=q1;subst e;cases (show v = .ref d from r1)
 obtain⟨o,es,ep,vs,ho,hdt,r,hs,da,I2⟩:=I1.freeze hd;refine wpAny_pyIter_dict hs da ?_;have hlen:kvs.length=vs.length:=Paired.length r;refine⟨s1.heap.objs.size,[s1.heap.objs.size],_,_,_,rfl,I2.kept (t':=s1.toks) fun b o e=>Heap.get?_push_of_some _ e,WY d _ kvs hdt,?_,fun b hb=>?_,(fun _=>hc),q o⟩
 ·rw[hlen];exact⟨_,Heap.get?_push_size _ rfl,rfl,rfl⟩
 ·have e:b=s1.heap.objs.size:=by simpa using hb
  subst e;exact I2.fpOk (Nat.le_refl _) (I2.hok.fresh (Nat.le_refl _))
def Ri(X:Cx)(D:Ends):Ends where
 nx:=fun σ H=>∃ d o kvs,H d=some (.frz o (.dK kvs))∧(∀ o u,X.H₀ d≠some (.frz o u))∧D.nx σ (upd H d (.dK kvs))
 bk:=fun σ H=>∃ d o kvs,H d=some (.frz o (.dK kvs))∧(∀ o u,X.H₀ d≠some (.frz o u))∧D.bk σ (upd H d (.dK kvs))
 ct:=fun σ H=>∃ d o kvs,H d=some (.frz o (.dK kvs))∧(∀ o u,X.H₀ d≠some (.frz o u))∧D.ct σ (upd H d (.dK kvs))
 rt:=fun v H=>∃ d o kvs,H d=some (.frz o (.dK kvs))∧(∀ o u,X.H₀ d≠some (.frz o u))∧D.rt v (upd H d (.dK kvs))
theorem Wk{X:Cx}{st:Stmt}{t:TS}(h:PS X st t):PS X st (fun D σ H=>t (Ri X D) σ H):=by
 intro b9 s σ H D I hw;refine thn (h b9 s σ H _ I hw) fun f s1 q=>?_;cases f with
 | next=>obtain⟨σ',H',I',d,o,kvs,e,h0,q⟩:=q;exact⟨σ',_,I'.thaw e h0,q⟩
 | brk=>obtain⟨σ',H',I',d,o,kvs,e,h0,q⟩:=q;exact⟨σ',_,I'.thaw e h0,q⟩
 | cont=>obtain⟨σ',H',I',d,o,kvs,e,h0,q⟩:=q;exact⟨σ',_,I'.thaw e h0,q⟩
 | ret u=>obtain⟨v,σ',H',I',r,d,o,kvs,e,h0,q⟩:=q;exact⟨v,σ',_,I'.thaw e h0,r,q⟩
theorem X4{d:Addr}{o:Obj}{kvs:List (Key×V)}{g:TG}{tb:TS}{D:Ends}{σ:St}{H:Hp}(Pv:Nat→St→Hp→Prop)(h0:Pv 0 σ H)(hl:∀ i σ H,Pv i σ H→H d=some (.frz o (.dK kvs)))(hs:∀ i p σ H,kvs[i]?=some p→Pv i σ H→g (kV p.1) σ H fun σ2 H2=>tb { D with nx:=Pv (i+1),ct:=Pv (i+1),bk:=D.nx } σ2 H2)(hd:∀ σ H,Pv kvs.length σ H→D.nx σ H):
  ∃ W:Nat→Nat→St→Hp→Prop,(∃ m,W 0 m σ H)∧∀ i m σ H,W i m σ H →
   ((Itd d o kvs).stop i H∧D.nx σ H)∨((Itd d o kvs).go i H∧∃ N:St→Hp→Prop,(∀ σ' H',N σ' H'→∃ m',m'<m∧W (i+1) m' σ' H')∧∀ x H',(Itd d o kvs).yld i H x H'→g x σ H' fun σ2 H2=>tb { D with nx:=N,ct:=N,bk:=D.nx } σ2 H2):=by
 refine⟨fun i m σ H=>m=kvs.length-i∧i≤kvs.length∧Pv i σ H,⟨kvs.length,by simp,Nat.zero_le _,h0⟩,?_⟩
 rintro i m σ H ⟨rfl,hi,p⟩;have q:=hl i σ H p;by_cases hlt:i<kvs.length
 ·refine .inr ⟨⟨hlt,q⟩,Pv (i+1),fun σ' H' p'=>⟨kvs.length-(i+1),by lia,rfl,hlt,p'⟩,fun x H' y=>?_⟩
  obtain⟨e,pp,y1,y2⟩:=y;subst e y2;exact hs i pp σ _ y1 p
 ·have e:i=kvs.length:=by lia
  subst e;exact .inl ⟨⟨Nat.le_refl _,q⟩,hd σ H p⟩
section
variable {X:Cx}{b9:List (Addr×Obj)}{σ:St}{H:Hp}{s:Shared}{a:Addr}{kvs:List (Key×V)}{k:Key}{u r:Value}{z:V}{A:Around}{E:Value→Shared→Prop}
theorem R7{Q:Value→Shared→Prop}(I:Inv X b9 σ H s)(e:H a=some (.dK kvs))(ry:RelV (kV k) u)(rz:RelV z r)(hl:kvs.length<zF)(h1:∀ v w' s',valV kvs k=some v→Inv X b9 σ H s'→RelV v w'→Q w' s')(h2:∀ s',valV kvs k=none→Inv X b9 σ (upd H a (.dK (putK kvs k z))) s'→Q r s'):
  wpAny (model X.prog X.w) A (call (.builtin "dict.setdefault") [.ref a,u,r]) Q E s:=by
 obtain⟨zz,hd,vs,rel,dd⟩:=Nt I.hok e;have hz:vs.length≤zF:=by rw[←rel.length];exact zz
 have hlp:(putK kvs k z).length≤zF:=by have:=Jx kvs k z;lia
 refine call_meetsIn PySem.F.slot_dict_setdefault dd.typeIs PySem.F.entry_dict_setdefault (PySem.F.args_dict_setdefault_3 _ _ _) (kt_meets_setdefault (mixKind X.prog X.w) a (UP ry) hd r) ⟨vs,dd,hz,fun v hv=>?_,fun hn h' dd' hs=>?_⟩
 ·have rv:=rel.val k;rw[hv] at rv;cases q:valV kvs k with
  | none=>rw[q] at rv;exact False.elim rv
  | some y=>rw[q] at rv;exact h1 y v _ q (I.tok _) rv
 ·have rv:=rel.val k;rw[hn] at rv;cases q:valV kvs k with
  | some y=>rw[q] at rv;exact False.elim rv
  | none =>
   have he:∃ q,h'.get? a=some q:=let ⟨q,_,_,hq,_⟩:=dd';⟨q,hq⟩
   exact h2 _ q (Qn I (by rw[e];exact True.intro) hs he (Nu hlp hd (rel.put k rz) dd'))
end
def Tq(td ty tx:TE):TE:=fun σ H Q=>td σ H fun x H1=>∃ a,x = .ref a∧IsD H1 a∧ty σ H1 fun y H2=>tx σ H2 fun z H3=>∃ kvs k,H3 a=some (.dK kvs)∧y=kV k∧kvs.length<zF ∧
 (∀ v,valV kvs k=some v→Q v H3)∧(valV kvs k=none→Q z (upd H3 a (.dK (putK kvs k z))))
theorem QO{X:Cx}{o e f:Expr}{c9 cpos:Pos}{td ty tx:TE}(ho:PE X o td)(he:PE X e ty)(hf:PE X f tx)(m:M2 X o "setdefault" c9 e f cpos):PE X (.Call (.Attribute o "setdefault" c9) [e,f] [] cpos) (Tq td ty tx):=by
 intro b9 s σ H Q I h;refine wpAny_Call_method m.base m.few m.line PySem.F.plainAttrs_dict PySem.F.slot_dict_setdefault PySem.F.type_dict_setdefault (thn (ho b9 s σ H _ I h) fun u s1 ⟨x,H1,I1,rx,a,ex,d,q1⟩=>?_);subst ex;obtain rfl:u=Value.ref a:=rx;obtain⟨t1,t2,_⟩:=XS I1 d;refine⟨t1,t2,?_⟩;rw[m.trees];refine Calls.callWith_builtin rfl (Calls.evalArgs_plain (Calls.spliced_cons (thn (he b9 s1 σ H1 _ I1 q1) fun iv s2 ⟨y,H2,I2,ry,q2⟩ =>
  Calls.spliced_cons (thn (hf b9 s2 σ H2 _ I2 q2) fun fv s3 ⟨z,H3,I3,rz,kvs,k,ea,ey,hl,q3,q4⟩=>Calls.spliced_nil ?_))))
 subst ey;exact R7 I3 ea ry rz hl (fun v w' s' hv I' rv=>⟨v,H3,I',rv,q3 v hv⟩) fun s' hn I'=>⟨z,_,I',rz,q4 hn⟩
def Ite (K:Frag)(a:Addr):It :=
 ⟨fun i H=>∃ xs x,SqL K H a xs∧xs[i]?=some x,fun i H x H'=>∃ t y,x = .ref t∧H t=none∧(∀ xs,SqL K H a xs→xs[i]?=some y)∧H'=upd H t (.tup [.int (i:Nat),y]),fun i H=>∃ xs,SqL K H a xs∧xs.length≤i,true⟩
theorem WX{P:Program}{w:World}{K:Frag}{elts:List Expr}{x1}{pos:Pos}(a e it:Addr)(hei:e≠it):Turn P w K (.Tuple elts x1 pos) (Ite K a) [e,it] e (fun i h=>(∃ old,IsEnum h e it (i:Nat) old)∧h.IsListIter it a i) where
 mem:=by simp
 obj:=fun i h st b hb=>by
  obtain⟨⟨old,he⟩,hit⟩:=st;rcases List.mem_cons.mp hb with rfl | hb
  ·exact⟨_,he,fun v z=>by
    have z':Data.fields _=Data.cell v:=z;cases z'⟩
  ·have e:b=it:=by simpa using hb
   subst e;obtain⟨o,e,c,d⟩:=hit;exact⟨o,e,fun v z=>by rw[d] at z;cases z⟩
 keep:=fun i h h' st k=>by
  obtain⟨⟨old,he⟩,hit⟩:=st;exact⟨⟨old,k e (by simp) _ he⟩,hit.at fun o x=>k it (by simp) o x⟩
 item:=by
  intro X hP hw hK hc i b9 s σ H E I hf st hg;subst hP hw hK;obtain⟨⟨old,he⟩,hit⟩:=st;obtain⟨xs,x,hq,hx⟩:=hg;obtain⟨bw,rv,p,hz⟩:=I.list hq;obtain⟨u,hu,ru⟩:=rv.get hx;have ae:a≠e:=fun z=>by
   obtain⟨o,ho,hc,_⟩:=p.isList;rw[z,he] at ho;cases ho;injection hc with hc;exact absurd hc (by decide)
  have ai:a≠it:=fun z=>by
   obtain⟨o,ho,hc,_⟩:=p.isList;obtain⟨o2,ho2,hc2,_⟩:=hit;rw[z,ho2] at ho;cases ho;rw[hc2] at hc;injection hc with hc;exact absurd hc (by decide)
  refine wpAny_pyNext_enum_item he hit p.isList (x:=u) (by simpa using hu) hei fun h' ho hit' hT hsz hk=>?_
  refine⟨_,rfl,wpAny_letOwnedTupleGo_enum (s:={ s with heap:=h',toks:=s.toks+1 }) ho fun h2 he2 hs2=>?_⟩
  have hn:H s.heap.objs.size=none:=I.hok.fresh (Nat.le_refl _);have te:s.heap.objs.size≠e:=Nat.ne_of_gt (Heap.lt_size he);have I1:Inv X b9 σ H { s with heap:=h2,toks:=s.toks+1 }:=I.turnedL (bw:=[e,it]) (fun b o hb e'=>(hs2.2 b fun z=>hb (by simp[z])).trans (hk b o (fun z=>hb (by simp[z])) (fun z=>hb (by simp[z])) e')) hf
  have fp:=I.fpOk (b9:=b9) (b:=s.heap.objs.size) (Nat.le_refl _) hn;have I2:Inv X b9 σ (upd H s.heap.objs.size (.tup [.int (i:Nat),x])) { s with heap:=h2,toks:=s.toks+1 }:=
   I1.track hn I.sz fp.2.1 fp.2.2.2.2.1 fp.2.2.2.2.2 ⟨by show 2≤zF;decide,[.int (i:Nat) s.toks,u],.cons ⟨_,rfl⟩ (.cons ru .nil),⟨_,(hs2.2 _ te).trans hT,rfl,_,rfl⟩⟩
  refine⟨.ref s.heap.objs.size,_,I2,rfl,⟨s.heap.objs.size,x,rfl,hn,fun ys hy=>by rw[I.list_inj hy hq];exact hx,rfl⟩,⟨⟨_,he2⟩,hit'.at fun o y=>(hs2.2 it hei.symm).trans y⟩,fun b hb=>?_⟩
  rw[Z1 (fun z=>?_)];· exact(hf b hb).1
  subst z;rcases List.mem_cons.mp hb with z | z
  ·exact te z
  ·have z:s.heap.objs.size=it:=by simpa using z
   obtain⟨o2,ho2,_⟩:=hit;exact absurd (Heap.lt_size ho2) (by rw[←z];exact Nat.lt_irrefl _)
 done:=by
  intro X hP hw hK hc i b9 s σ H E I hf st hg;subst hP hw hK;obtain⟨⟨old,he⟩,hit⟩:=st;obtain⟨xs,hq,hx⟩:=hg;obtain⟨bw,rv,p,hz⟩:=I.list hq;have hl:=rv.length;exact wpAny_pyNext_enum_end (I.ok.hd (hc rfl)) he hit p.isList (by simp;lia) fun h' eb=>⟨rfl,I.turnedL (t':=s.toks) (bw:=[e,it]) (fun b o hb e'=>eb b o (fun z=>hb (by simp[z])) e') hf⟩
 self:=fun _ _ _ _ _ st h=>let ⟨⟨_,he⟩,_⟩:=st;wpAny_pyIter_enum he h
def RL(K:Frag)(ta:TA):TI:=fun σ H R=>ta σ H fun vs H1=>∃ a,vs=[.ref a]∧(∃ xs,SqL K H1 a xs)∧R (Ite K a) H1
theorem Wl{X:Cx}{elts:List Expr}{x1}{tpos:Pos}{a:Expr}{ta:TA}{p pos:Pos}(hg:Gl X "enumerate")(hm:X.mg "enumerate"=none)(ha:PA X [a] ta)(hs:zG [a] X.env=[(false,eval a X.env)]:=by rfl)(hc:X.calm=true:=by rfl):PI X (.Tuple elts x1 tpos) (.Call (.Name "enumerate" p) [a] [] pos) (RL X.K ta):=by
 intro b9 s σ H R I h;refine Call_ (YT I hg hm boot_enumerate (PyProof.Rows.callWith_type1 (thn (ha pos b9 s σ H _ I h) fun us s1 ⟨vs,H1,I1,r1,q1⟩=>?_) hs rfl));obtain⟨a,rfl,⟨xs,hq⟩,q⟩:=q1;obtain⟨u,rfl,rx⟩:=Ua r1;cases (show u = .ref a from rx)
 obtain⟨bw,rv,pl,hz⟩:=I1.list hq;refine call_enumerate_list pl.isList fun h' he hit hsz hk=>?_;have I2:Inv X b9 σ H1 { s1 with heap:=h' }:=I1.kept (t':=s1.toks) hk
 refine wpAny_pyIter_enum (s:={ s1 with heap:=h' }) he ?_
 refine⟨s1.heap.objs.size+1,[s1.heap.objs.size+1,s1.heap.objs.size],_,_,H1,rfl,I2,WX a (s1.heap.objs.size+1) s1.heap.objs.size (Nat.succ_ne_self _),⟨⟨_,he⟩,hit⟩,fun b hb=>?_,(fun _=>hc),q⟩;have hb':s1.heap.objs.size≤b:=by
  rcases List.mem_cons.mp hb with z | z
  ·rw[z];exact Nat.le_succ _
  ·have z:b=s1.heap.objs.size:=by simpa using z
   rw[z];exact Nat.le_refl _
 exact I1.fpOk hb' (I1.hok.fresh hb')
theorem RQ{K:Frag}{a:Addr}{xs:List V}{g:TG}{tb:TS}{D:Ends}{σ:St}{H:Hp}(Pv:Nat→St→Hp→Prop)(h0:Pv 0 σ H)(hl:∀ i σ H,i≤xs.length→Pv i σ H→SqL K H a xs)(hs:∀ i x t σ H,xs[i]?=some x→Pv i σ H→H t=none→g (.ref t) σ (upd H t (.tup [.int (i:Nat),x])) fun σ2 H2=>tb { D with nx:=Pv (i+1),ct:=Pv (i+1),bk:=D.nx } σ2 H2)(hd:∀ σ H,Pv xs.length σ H→D.nx σ H):
  ∃ W:Nat→Nat→St→Hp→Prop,(∃ m,W 0 m σ H)∧∀ i m σ H,W i m σ H →
   ((Ite K a).stop i H∧D.nx σ H)∨((Ite K a).go i H∧∃ N:St→Hp→Prop,(∀ σ' H',N σ' H'→∃ m',m'<m∧W (i+1) m' σ' H')∧∀ x H',(Ite K a).yld i H x H'→g x σ H' fun σ2 H2=>tb { D with nx:=N,ct:=N,bk:=D.nx } σ2 H2):=by
 refine⟨fun i m σ H=>m=xs.length-i∧i≤xs.length∧Pv i σ H,⟨xs.length,by simp,Nat.zero_le _,h0⟩,?_⟩
 rintro i m σ H ⟨rfl,hi,p⟩;have q:=hl i σ H hi p;by_cases hlt:i<xs.length
 ·refine .inr ⟨⟨xs,xs[i],q,by simp[hlt]⟩,Pv (i+1),fun σ' H' p'=>⟨xs.length-(i+1),by lia,rfl,hlt,p'⟩,fun x H' y=>?_⟩
  obtain⟨t,y,e1,e2,e3,e4⟩:=y;subst e1 e4;exact hs i y t σ H (e3 xs q) p e2
 ·have e:i=xs.length:=by lia
  subst e;exact .inl ⟨⟨xs,q,Nat.le_refl _⟩,hd σ H p⟩
theorem VX{K:Frag}{a:Addr}{xs:List V}{outs:Nat→Option V}{g:TG}{tt:TT}{te:TE}{H1:Hp}{σ0:St}{D:Addr}{Q:VK}(SG:St→Prop)(hD:H1 D=none)(hq:SqL K H1 a xs)(hn:xs.length<zF)(s0:SG σ0)(step:∀(i:Nat) (x:V) (t:Addr) (σc:St) (Hc:Hp) (Yes:V→St→Hp→Prop) (No:St→Hp→Prop),xs[i]?=some x→Same H1 Hc→Hc D≠none→Hc t=some (.tup [.int (i:Nat),x])→SG σc →
   (∀ σ2 H4 v,SG σ2→Same Hc H4→outs i=some v→Yes v σ2 H4)→(∀ σ2 H3,SG σ2→Same Hc H3→outs i=none→No σ2 H3) →
   g (.ref t) σc Hc fun σ2 H2=>tt σ2 H2 fun b H3=>if b=true then te σ2 H3 fun v H4=>Yes v σ2 H4 else No σ2 H3)(fin:∀ Hc,Same H1 Hc→Hc D=some (.lst ((List.range xs.length).filterMap outs))→Q (.ref D) Hc):
  JB (Ite K a) g tt te σ0 H1 D Q:=by
 have sD:∀{Hc:Hp} {o:HO},Same H1 Hc→Same H1 (upd Hc D o):=fun{Hc o} e b u q=>by rw[Z1 (Z4 q hD)];exact e b u q
 refine⟨fun i m acc σc Hc=>m=xs.length-i∧i≤xs.length∧acc=(List.range i).filterMap outs∧Same H1 Hc∧Hc D=some (.lst acc)∧SG σc,⟨xs.length,rfl,Nat.zero_le _,rfl,sD (Same.refl _),Z2,s0⟩,?_⟩;rintro i m acc σc Hc ⟨rfl,hi,rfl,sm,hDc,sg⟩;by_cases hlt:i<xs.length
 ·refine .inr ⟨⟨xs,xs[i],sm.seq hq,by simp[hlt]⟩,fun x H' y=>?_⟩
  obtain⟨t,y,e1,e2,e3,e4⟩:=y;subst e1 e4;have st:Same Hc (upd Hc t (.tup [.int (i:Nat),y])):=fun b o e=>by rw[Z1 (Z4 e e2)];exact e
  have hD2:=st _ _ hDc;refine step i y t σc _ _ _ (e3 xs (sm.seq hq)) (sm.trans st) (by rw[hD2];simp) Z2 sg (fun σ2 H4 v s2 k e=>?_) (fun σ2 H3 s2 k e=>?_)
  ·have hl:((List.range i).filterMap outs).length≤i:=Nat.le_trans (List.length_filterMap_le _ _) (by simp)
   refine⟨k _ _ hD2,Nat.lt_of_le_of_lt hl (Nat.lt_trans hlt hn),xs.length-(i+1),by lia,rfl,hlt,?_,sD ((sm.trans st).trans k),Z2,s2⟩
   rw[UU,e]
  ·refine⟨xs.length-(i+1),by lia,rfl,hlt,?_,(sm.trans st).trans k,k _ _ hD2,s2⟩
   rw[UU,e];simp
 ·have e:i=xs.length:=by lia
  subst e;exact .inl ⟨⟨xs,sm.seq hq,Nat.le_refl _⟩,fin Hc sm hDc⟩
open PySem.W (kla_obj kla_fn CodeHd tabObj envX)
def codeφ(c:Addr)(q:Str):Heap→Prop:=fun h=>h.CodeRec (.ref c) q
def lamφ (q:Addr)(o:Obj):Heap→Prop:=fun h=>h.get? q=some o
theorem VA{pos pos':Pos}{c cv:Value}:∀(l:List Value),TriplesOk l→codeAmong pos' (l++[rawInt pos.line,rawInt pos.col,c])=some cv→codeAmong pos' l=some cv∨cv=c:=by
 intro l h hc
 fun_induction TriplesOk l with
 | case1 =>
  right;simp only[List.nil_append,rawInt,codeAmong] at hc;split at hc
  ·exact(Option.some.inj hc).symm
  ·cases hc
 | case2 a t b u x rest ih =>
  simp only[List.cons_append,codeAmong] at hc ⊢;split at hc
  ·rename_i q;left;rw[if_pos q];exact hc
  ·rename_i q;rw[if_neg q];exact ih h hc
 | case3 l h1 h2=>exact h.elim
def ZP(H:Hp)(P:Addr)(q:Str):Prop:=∃ ps:Array Value,H P=some (.tbl ps)∧TriplesOk ps.toList∧∀ pos cv,codeAmong pos ps.toList=some cv→∃ c,cv = .ref c∧H c=some (.ext (codeφ c q))
def nt:HO→Bool
 | .tbl _=>false
 | _=>true
structure SameN(H H':Hp):Prop where
 at_:∀ b o,nt o=true→H b=some o→H' b=some o
 tb:∀ b,H' b=Option.none→H b=Option.none
instance {H H':Hp}:CoeFun (SameN H H') (fun _=>∀ b o,nt o=true→H b=some o→H' b=some o):=⟨SameN.at_⟩
theorem Same.n{H H':Hp}(s:Same H H'):SameN H H':=⟨fun b o _ e=>s b o e,fun b h=>s.free h⟩
theorem SameN.refl(H:Hp):SameN H H:=⟨fun _ _ _ h=>h,fun _ h=>h⟩
theorem SameN.trans{H H1 H2:Hp}(a:SameN H H1)(b:SameN H1 H2):SameN H H2:=⟨fun c o n h=>b c o n (a c o n h),fun c h=>a.tb c (b.tb c h)⟩
theorem ZP.same{H H':Hp}{P:Addr}{q:Str}(l:ZP H P q)(s:Same H H'):ZP H' P q:=by
 obtain⟨ps,h1,h2,h3⟩:=l;exact⟨ps,s _ _ h1,h2,fun pos cv e=>let ⟨c,e1,e2⟩:=h3 pos cv e;⟨c,e1,s _ _ e2⟩⟩
structure WT(X:Cx)(H:Hp)(q:Addr)(params:Arguments)(body:Expr)(scope:Scope)(qual:Str):Prop where
 ex:∃(cl:List (Str×Addr)) (c:Addr) (pm ctv:Value),H q=some (.ext (lamφ q (kla_obj "<lambda>" qual params body scope cl pm c ctv)))∧H c=some (.ext (codeφ c qual)) ∧
  (∀ x c,cl.lookup x=some c→X.env.cells.lookup x=some c)∧∀ x∈scope.names,x.2 = .free→∃ c,cl.lookup x.1=some c
section
variable {X:Cx}
def tLam (X:Cx)(P:Addr)(params:Arguments)(body:Expr)(scope:Scope):TE:=fun σ H Q=>ZP H P (X.env.qual++"<lambda>")∧∀ q H1,H q=none→SameN H H1→ZP H1 P (X.env.qual++"<lambda>")→WT X H1 q params body scope (X.env.qual++"<lambda>")→Q (.ref q) H1
theorem MQ{params:Arguments}{body:Expr}{scope:Scope}{pos:Pos}{c P:Addr}(hcode:X.env.code = .ref c)(C:CodeHd X.base c P)(B:X.base.BuiltinsAt X.mg P)(hfree:∀ x∈scope.names,x.2 = .free→X.env.scope.names.lookup x.1=some .cell)(hdef:defaultsOf params X.env=([],[]):=by rfl):PE X (.Lambda params body scope pos) (tLam X P params body scope):=by
 intro b9 s σ H Q I h;obtain⟨⟨ps,hP,ht,hcs⟩,k⟩:=h;obtain⟨cl,hclos,hcl1,hcl2⟩:=J3 (scope:=scope) (env:=X.env) fun x hx hf=>I.ok.has x.1 (.inl (hfree x hx hf));have gP:s.heap.get? P=some (tabObj ps):=(show ObjOk X.prog X.w H s.heap P (.tbl ps) from I.hok P _ hP)
 have hgs:s.heap.Ns zE X.mg:=I.ok.mod.glob.keeps I.bk;have hgP:zE≠P:=fun q=>by
  obtain⟨o,es,ep,e,hd,_⟩:=hgs;rw[q,gP] at e;cases e;cases hd
 have hB:s.heap.BuiltinsAt X.mg P:=by
  obtain⟨bm,o,b1,b2,b3,b4,b5,b6⟩:=B;exact⟨bm,o,b1,b2,b3,b4,I.bk _ _ b5,b6⟩
 have nP:∀{b:Addr} {u:HO},H b=some u→nt u=true→b≠P:=fun{b u} q hu z=>by rw[z,hP] at q;cases q;cases hu
 refine PySem.W.kla_eval hdef ?_;cases hf:codeAmong pos ps.toList with
 | some cv =>
  obtain⟨c',rfl,hc'⟩:=hcs pos cv hf;refine PySem.W.kla_makeFunctionHit (mg:=X.mg) hclos I.ok.glob hgs hcode (C.keeps I.bk) gP ht hf hB fun ctv h' tk hk hsz=>?_;have fq:H h'.objs.size=none:=I.hok.fresh hsz;have I1:Inv X b9 σ H { s with heap:=h',toks:=tk }:=I.kept hk
  have gq:=Heap.get?_push_size h' (o:=kla_obj "<lambda>" (X.env.qual++"<lambda>") params body scope cl ((X.mg "__name__").getD .none) c' ctv) rfl;have I2:Inv X b9 σ (upd H h'.objs.size (.ext (lamφ h'.objs.size (kla_obj "<lambda>" (X.env.qual++"<lambda>") params body scope cl ((X.mg "__name__").getD .none) c' ctv)))) { s with heap:=h'.push (kla_obj "<lambda>" (X.env.qual++"<lambda>") params body scope cl ((X.mg "__name__").getD .none) c' ctv),toks:=tk }:=
   I1.laid (t':=tk) (fun b o e=>Heap.get?_push_of_some _ e) (Nat.le_refl _) ⟨gq,⟨_,gq⟩,fun h1 h2 e k=>k _ e⟩
  have sm:Same H (upd H h'.objs.size (.ext (lamφ h'.objs.size (kla_obj "<lambda>" (X.env.qual++"<lambda>") params body scope cl ((X.mg "__name__").getD .none) c' ctv)))):=fun b o e=>by rw[Z1 (Z4 e fq)];exact e
  exact⟨.ref h'.objs.size,_,I2,rfl,k _ _ fq sm.n (ZP.same ⟨ps,hP,ht,hcs⟩ sm) ⟨cl,c',_,_,Z2,sm _ _ hc',hcl1,hcl2⟩⟩
 | none =>
  refine PySem.W.kla_makeFunction (mg:=X.mg) hclos I.ok.glob hgs hcode (C.keeps I.bk) gP ht hf hgP hB fun c' ctv h' tk hx hge hlt hrec htb=>?_;have fc:H c'=none:=I.hok.fresh hge;have fq:H h'.objs.size=none:=I.hok.fresh (Nat.le_of_lt (Nat.lt_of_le_of_lt hge hlt));have ncq:c'≠h'.objs.size:=Nat.ne_of_lt hlt;have npc:P≠c':=Z4 hP fc;have npq:P≠h'.objs.size:=Z4 hP fq;generalize ho:kla_obj "<lambda>" (X.env.qual++"<lambda>") params body scope cl ((X.mg "__name__").getD .none) c' ctv=ob;generalize hps:ps ++ #[rawInt pos.line,rawInt pos.col,.ref c']=ps2 at htb;have gq:=Heap.get?_push_size h' (o:=ob) (by rw[←ho];rfl)
  have keep:∀ b o,b≠P→s.heap.get? b=some o→(h'.push ob).get? b=some o:=fun b o hb e=>Heap.get?_push_of_some _ (hx b o hb e);have eP:(upd (upd (upd H P (.tbl ps2)) c' (.ext (codeφ c' (X.env.qual++"<lambda>")))) h'.objs.size (.ext (lamφ h'.objs.size ob))) P=some (.tbl ps2):=by rw[Z1 npq,Z1 npc,Z2]
  have ec:(upd (upd (upd H P (.tbl ps2)) c' (.ext (codeφ c' (X.env.qual++"<lambda>")))) h'.objs.size (.ext (lamφ h'.objs.size ob))) c'=some (.ext (codeφ c' (X.env.qual++"<lambda>"))):=by rw[Z1 ncq,Z2]
  have eq:(upd (upd (upd H P (.tbl ps2)) c' (.ext (codeφ c' (X.env.qual++"<lambda>")))) h'.objs.size (.ext (lamφ h'.objs.size ob))) h'.objs.size=some (.ext (lamφ h'.objs.size ob)):=Z2;have eo:∀ b,b≠P→b≠c'→b≠h'.objs.size→(upd (upd (upd H P (.tbl ps2)) c' (.ext (codeφ c' (X.env.qual++"<lambda>")))) h'.objs.size (.ext (lamφ h'.objs.size ob))) b=H b:=fun b h1 h2 h3=>by rw[Z1 h3,Z1 h2,Z1 h1]
  generalize (upd (upd (upd H P (.tbl ps2)) c' (.ext (codeφ c' (X.env.qual++"<lambda>")))) h'.objs.size (.ext (lamφ h'.objs.size ob)))=H1 at eP ec eq eo;have sm:SameN H H1:=by
   refine⟨fun b o n e=>by rw[eo b (nP e n) (Z4 e fc) (Z4 e fq)];exact e,fun b hb=>?_⟩
   by_cases h1:b=P
   ·rw[h1,eP] at hb;cases hb
   ·by_cases h2:b=c'
    ·rw[h2];exact fc
    ·by_cases h3:b=h'.objs.size
     ·rw[h3];exact fq
     ·rw[eo b h1 h2 h3] at hb;exact hb
  have un:Un X.fs [] H H1 s.heap (h'.push ob):=by
   refine⟨fun b o q n _ _=>keep b o (fun z=>by rw[z,hP] at n;cases n) q,fun b o q n _ _=>⟨o.slots,keep b o (fun z=>by rw[z,hP] at n;cases n) q⟩,fun b o q n _=>?_,fun b o q _=>?_,fun b xs q=>sm _ _ rfl q,fun b o u q=>sm _ _ rfl q,fun b qs q=>?_⟩
   ·rw[eo b (fun z=>by rw[z,hP] at n;cases n) (Nat.ne_of_lt (Nat.lt_of_lt_of_le (Heap.lt_size q) hge)) (Nat.ne_of_lt (Nat.lt_of_lt_of_le (Heap.lt_size q) (Nat.le_of_lt (Nat.lt_of_le_of_lt hge hlt))))];exact n
   ·by_cases hb:b=P
    ·exact⟨_,hb▸Heap.get?_push_of_some _ htb⟩
    ·exact⟨o,keep b o hb q⟩
   ·by_cases hb:b=P
    ·subst hb;rw[hP] at q;cases q;exact⟨#[rawInt pos.line,rawInt pos.col,.ref c'],by rw[eP,hps]⟩
    ·exact⟨#[],by rw[eo b hb (Z4 q fc) (Z4 q fq),q];simp⟩
  have hok:HOk X.prog X.w H1 (h'.push ob):=fun b u q=>by
   by_cases hb:b=P
   ·subst hb;rw[eP] at q;cases q;exact Heap.get?_push_of_some _ htb
   ·by_cases hb2:b=c'
    ·subst hb2;rw[ec] at q;cases q;have hrec':(h'.push ob).CodeRec (.ref b) (X.env.qual++"<lambda>"):=hrec.push _;obtain⟨c2,oc,vs,t,e2,hoc,r⟩:=id hrec';cases e2;exact⟨hrec',⟨oc,hoc⟩,fun h1 h2 ⟨c3,oc3,vs3,t3,e3,g3,r3⟩ kk=>by cases e3;exact⟨_,oc3,vs3,t3,rfl,kk _ g3,r3⟩⟩
    ·by_cases hb3:b=h'.objs.size
     ·subst hb3;rw[eq] at q;cases q;exact⟨gq,⟨_,gq⟩,fun h1 h2 e kk=>kk _ e⟩
     ·rw[eo b hb hb2 hb3] at q;refine(I.hok b u q).stay (fun x v hx' e=>keep x v ?_ e) (fun x z=>sm _ _ rfl z) fun x xs z=>sm _ _ rfl z;rcases hx' with z | z
      ·rw[z];exact hb
      ·exact nP z rfl
  have I2:Inv X b9 σ H1 { s with heap:=h'.push ob,toks:=tk }:=I.un un hok
  refine⟨.ref h'.objs.size,H1,I2,rfl,k _ _ fq sm ⟨ps2,eP,?_,fun pos' cv e=>?_⟩ ⟨cl,c',_,_,by rw[eq,←ho],ec,hcl1,hcl2⟩⟩
  ·rw[←hps];simpa using TriplesOk_snoc pos.line pos.col (.ref c') ps.toList ht
  ·rw[←hps] at e;rcases VA (pos:=pos) (c:=.ref c') ps.toList ht (by simpa using e) with e | rfl
   ·obtain⟨c2,e1,e2⟩:=hcs pos' cv e;exact⟨c2,e1,sm _ _ rfl e2⟩
   ·exact⟨c',rfl,ec⟩
def Cx.lam(X:Cx)(N:List Str)(scope:Scope)(qual:Str)(cl:List (Str×Addr))(L q c:Addr)(s₀:Shared)(H₀:Hp)(b9:List (Addr×Obj)):Cx where
 prog:=X.prog
 w:=X.w
 K:=X.K
 mg:=X.mg
 base:=X.base
 A:=X.A.in1.in1.deeper (envX qual scope L q (.ref c) cl)
 N:=N
 s₀:=s₀
 H₀:=H₀
 env:=envX qual scope L q (.ref c) cl
 outer:=X.stack
 stack:=envX qual scope L q (.ref c) cl::X.stack
 ex:=[]
 fn:=fun _=>false
 calm:=X.calm
 pn:=X.pn++b9
 xe:=fun _ _=>False
structure Xh(XN:List Str)(outer inner:Scope)(x:Str)(N:List Str)(cap:List (Option Nat)):Prop where
 kind:inner.kind = .function
 co:inner.isCoroutine=false
 gen:inner.isGenerator=false
 nocell:∀ y∈inner.names,y.2 ≠ .cell
 loc:inner.names.lookup x=some .local
 caps:Caps XN outer inner N cap
 nd:(x::N).Nodup
 all:∀ c∈cap,c≠none
theorem Dw{XN N:List Str}{outer scope:Scope}{cap:List (Option Nat)}{x qual:Str}{cl:List (Str×Addr)}{q c:Addr}{b9:List (Addr×Obj)}{σ:St}{H:Hp}{s:Shared}{h1:Heap}{tk:Nat}{u:Value}{v:V}(I:Inv X b9 σ H s)(hX:X.env.scope=outer)(hN:X.N=XN)(S:Xh XN outer scope x N cap)(rv:RelV v u)(hcl1:∀ x c,cl.lookup x=some c→X.env.cells.lookup x=some c)(hcl2:∀ x∈scope.names,x.2 = .free→∃ c,cl.lookup x.1=some c)(hn:h1.Ns s.heap.objs.size (fun y=>([(x,u)]:List (Str×Value)).reverse.lookup y))(keep:∀ b o,s.heap.get? b=some o→h1.get? b=some o):
  Inv (X.lam (x::N) scope qual cl s.heap.objs.size q c s H b9) [] (some v::capσ cap σ) H { s with heap:=h1,toks:=tk }:=by
 subst hX hN;have noA:∀ b:Addr,b∉(X.lam (x::N) scope qual cl s.heap.objs.size q c s H b9).ex:=fun b z=>absurd (show b∈([]:List Addr) from z) (by simp)
 refine⟨⟨I.ok.mod,S.kind,rfl,rfl,Nat.le_refl _,fun y z c h1 h2=>I.ok.inj y z c (hcl1 y c h1) (hcl1 z c h2),fun y hy=>?_,(fun y c h _=>nomatch h),I.ok.hd,Around.frames_deeper (A:=X.A.in1.in1) I.ok.frames,.inr ⟨rfl,rfl⟩,fun b z=>absurd z (noA b),I.bs,Nat.le_trans I.ok.bsz I.sz,fun b _ _=>noA b,fun b z=>absurd z (noA b),I.stack,I.stkFree⟩,
  rfl,I.bare,Un.kept keep,⟨_,hn,fun j y w e1 e2 _=>?_⟩,fun y c e=>?_,I.hok.fresh (Nat.le_refl _),fun y c e=>I.freeC y c (hcl1 y c e),fun p hp=>?_,I.hok.kept keep,?_,I.hdh⟩
 ·have hy:scope.names.lookup y=some .cell∨scope.names.lookup y=some .free:=hy;rcases hy with hy | hy
  ·exact absurd rfl (S.nocell _ (PySem.mem_of_lookup hy))
  ·exact hcl2 _ (PySem.mem_of_lookup hy) rfl
 ·cases j with
  | zero =>
   have e1:x=y:=by simpa[Cx.lam] using e1
   subst e1;have e2:v=w:=by simpa using e2
   subst e2;refine⟨u,rv,.inl ⟨S.loc,?_⟩⟩;simp
  | succ j =>
   have e1:N[j]?=some y:=by simpa[Cx.lam] using e1
   have e2:(capσ cap σ)[j]?=some (some w):=by simpa using e2
   unfold capσ at e2;rw[List.getElem?_map] at e2;cases ec:cap[j]? with
   | none=>rw[ec] at e2;cases e2
   | some cc =>
    rw[ec] at e2;cases cc with
    | none=>cases e2
    | some i =>
     obtain⟨a,b,d⟩:=S.caps.get ec e1;have e3:σ[i]?=some (some w):=by
      cases es:σ[i]? with
      | none=>simp[es] at e2
      | some v'=>simp[es] at e2;rw[e2]
     obtain⟨m0,hn0,hl0⟩:=I.loc;obtain⟨u',r,l⟩:=hl0 i y w a e3 (.inr (.inl b));refine⟨u',r,?_⟩;rcases l with ⟨k,_⟩ | ⟨_,c2,ec',z⟩
     ·have k:X.env.scope.names.lookup y=some .local:=k;rw[b] at k;cases k
     ·obtain⟨c',ec2⟩:=hcl2 (y,.free) (PySem.mem_of_lookup d) rfl;have e5:=hcl1 y c' ec2;rw[ec'] at e5;cases e5;refine .inr ⟨.inr d,c2,ec2,?_⟩;obtain⟨o,ho,hd⟩:=z;exact⟨o,keep _ _ ho,hd⟩
 ·obtain⟨v,o,ho,hd⟩:=I.cell y c (hcl1 y c e);exact⟨v,o,keep _ _ ho,hd⟩
 ·have hp:p∈X.pn++b9++[]:=hp;rw[List.append_nil] at hp;obtain⟨a,b,c,d,e⟩:=I.pin p hp;refine⟨keep _ _ a,b,Nat.ne_of_lt (Heap.lt_size a),fun hf=>?_,e⟩;rcases List.mem_cons.mp (I.stkSub _ hf) with z | z
  ·exact c z
  ·exact d z
 ·show(some v::capσ cap σ).length=(x::N).length;unfold capσ;rw[List.length_cons,List.length_map,S.caps.length];rfl
theorem Nh{XN N:List Str}{outer scope:Scope}{cap:List (Option Nat)}{x qual:Str}{q:Addr}{params:Arguments}{body:Expr}{b9:List (Addr×Obj)}{σ:St}{H:Hp}{s:Shared}{u:Value}{v:V}{te:TE}{Q:V→Prop}(I:Inv X b9 σ H s)(hX:X.env.scope=outer)(hN:X.N=XN)(S:Xh XN outer scope x N cap)(L:WT X H q params body scope qual)(hroom:X.A.depth<recursionLimit)(rv:RelV v u)(hb:∀ cl L' c s₀ H₀ b9,PE (X.lam (x::N) scope qual cl L' q c s₀ H₀ b9) body te)(hbind:∀ cl pm c ctv,bindArgs (kla_fn "<lambda>" qual params body scope cl pm (.ref c) ctv) ⟨[u],[]⟩=pure [(x,u)])(h:te (some v::capσ cap σ) H fun r H'=>H'=H∧Q r):
  wpAny (model X.prog X.w) X.A.in1.in1 (call (.ref q) [u]) (fun r s'=>∃ y,RelV y r∧Q y∧Inv X b9 σ H s') (fun _ _=>False) s:=by
 obtain⟨cl,c,pm,ctv,hq,hc,hcl1,hcl2⟩:=L.ex;have gq:s.heap.get? q=some (kla_obj "<lambda>" qual params body scope cl pm c ctv):=(show ObjOk X.prog X.w H s.heap q (.ext _) from I.hok q _ hq).1
 have gc:s.heap.CodeRec (.ref c) qual:=(show ObjOk X.prog X.w H s.heap c (.ext _) from I.hok c _ hc).1
 refine wpAny_call (PySem.W.kla_callFunE hroom gq rfl S.co S.gen rfl gc ?_);rw[hbind];refine zB (wpAny_newFunctionEnv S.nocell (fun y hy=>?_) (fun h₁ hns hsb=>⟨I.nolimit.fresh _ hsb,?_⟩) S.kind)
 ·have:y=(x,u):=by simpa using hy
  subst this;exact S.loc
 show codeAny _ _ (.expr body (envX qual scope s.heap.objs.size q (.ref c) cl)) _ _;have hk₁:∀ b o,s.heap.get? b=some o→h₁.get? b=some o:=fun b o e=>hsb.extBut b o (Nat.ne_of_lt (Heap.lt_size e)) (Heap.get?_push_of_some _ e);have I1:=Dw (q:=q) (c:=c) (qual:=qual) (tk:=s.toks+([(x,u)]:List (Str×Value)).length) I hX hN S rv hcl1 hcl2 hns hk₁;refine PySem.W.kla_codeExpr (zC (hb cl s.heap.objs.size c s H b9 [] _ _ H _ I1 h) (fun r s' ⟨y,H',I',ry,e,qy⟩=>?_) fun _ _ z=>False.elim z);subst e;exact⟨y,ry,qy,I.call' (ch:=[]) I'.os I'.base I'.hok I'.bare (fun b z=>absurd z (by simp))⟩
end
def WG:Bool→Keyed→Array Keyed→Nat→Nat→Nat→StateT SortSt Sem (Option Nat):=sortPriv% PySem.Builtin.gallop
def QZ:Array Keyed→Array Keyed→StateT SortSt Sem (Array Keyed):=sortPriv% PySem.Builtin.mergeLo
def X0:Array Keyed→Array Keyed→StateT SortSt Sem (Array Keyed):=sortPriv% PySem.Builtin.mergeHi
section
variable {prog:Program}{w:World}{A:Around}{E:Value→Shared→Prop}{s:Shared}
def IntK (p:Keyed):Prop:=∃ n t,p.1 = .int n t
def IntA (a:Array Keyed):Prop:=∀ i (h:i<a.size),IntK a[i]
theorem Zl{st:SortSt}{arr:Array Keyed}{i:Nat}{Q:Keyed→SortSt→Prop}(hi:i<arr.size)(h:Q arr[i] st):wpS (model prog w) A E s (elem' arr i) Q st:=by
 rw[elem'_eq,getElem?_pos arr i hi];exact zI h
abbrev setG(st:SortSt)(g:Nat):SortSt:=SortSt.mk' (kindOf st) (arrOf st) (pendingOf st) g (failedOf st)
theorem merged{a b out:Array Keyed}{ia ib:Nat}(pm:out.toList.Perm (a.toList.take ia++b.toList.take ib)):(out++a.extract ia++b.extract ib).Perm (a++b)∧(out++b.extract ib++a.extract ia).Perm (a++b):=by
 have e1:(a.extract ia).toList=a.toList.drop ia:=by simp;exact List.take_of_length_le (by simp)
 have e2:(b.extract ib).toList=b.toList.drop ib:=by simp;exact List.take_of_length_le (by simp)
 have key:(out.toList++(a.toList.drop ia++b.toList.drop ib)).Perm (a.toList++b.toList):=by
  refine(pm.append_right _).trans ?_;have h1:(a.toList.take ia++a.toList.drop ia)=a.toList:=List.take_append_drop _ _;have h2:(b.toList.take ib++b.toList.drop ib)=b.toList:=List.take_append_drop _ _
  have:(a.toList.take ia++b.toList.take ib++(a.toList.drop ia++b.toList.drop ib)).Perm (a.toList.take ia++a.toList.drop ia++(b.toList.take ib++b.toList.drop ib)):=by
   simp only[List.append_assoc];refine List.Perm.append_left _ ?_;rw[←List.append_assoc,←List.append_assoc];exact List.Perm.append_right _ List.perm_append_comm
  rwa[h1,h2] at this
 constructor
 ·rw[Array.perm_iff_toList_perm,Array.toList_append,Array.toList_append,Array.toList_append,e1,e2,List.append_assoc];exact key
 ·rw[Array.perm_iff_toList_perm,Array.toList_append,Array.toList_append,Array.toList_append,e1,e2,List.append_assoc];exact(List.Perm.append_left _ List.perm_append_comm).trans key
theorem pm_a{a b out:Array Keyed}{ia ib k:Nat}(h:ia+k≤a.size)(pm:out.toList.Perm (a.toList.take ia++b.toList.take ib)):(out++a.extract ia (ia+k)).toList.Perm (a.toList.take (ia+k)++b.toList.take ib):=by
 have e1:(a.extract ia (ia+k)).toList=(a.toList.drop ia).take k:=by simp
 rw[Array.toList_append,e1,List.take_add];refine(pm.append_right _).trans ?_;rw[List.append_assoc,List.append_assoc];exact List.Perm.append_left _ List.perm_append_comm
theorem pm_b{a b out:Array Keyed}{ia ib k:Nat}(h:ib+k≤b.size)(pm:out.toList.Perm (a.toList.take ia++b.toList.take ib)):(out++b.extract ib (ib+k)).toList.Perm (a.toList.take ia++b.toList.take (ib+k)):=by
 have e1:(b.extract ib (ib+k)).toList=(b.toList.drop ib).take k:=by simp
 rw[Array.toList_append,e1,List.take_add,←List.append_assoc];exact pm.append_right _
theorem RA{a b out:Array Keyed}{ia ib:Nat}(h:ia<a.size)(pm:out.toList.Perm (a.toList.take ia++b.toList.take ib)):(out.push a[ia]).toList.Perm (a.toList.take (ia+1)++b.toList.take ib):=by
 have:=pm_a (k:=1) (by lia) pm
 have e:a.extract ia (ia+1) = #[a[ia]]:=by
  apply Array.ext';simp;rw[List.drop_eq_getElem_cons (by simpa using h)];simp
 rw[e] at this;rwa[Array.push_eq_append]
theorem Rz{a b out:Array Keyed}{ia ib:Nat}(h:ib<b.size)(pm:out.toList.Perm (a.toList.take ia++b.toList.take ib)):(out.push b[ib]).toList.Perm (a.toList.take ia++b.toList.take (ib+1)):=by
 have:=pm_b (k:=1) (by lia) pm
 have e:b.extract ib (ib+1) = #[b[ib]]:=by
  apply Array.ext';simp;rw[List.drop_eq_getElem_cons (by simpa using h)];simp
 rw[e] at this;rwa[Array.push_eq_append]
theorem U6{st:SortSt}{g:Nat}{Q:Unit→SortSt→Prop}(h:Q () (setG st g)):wpS (model prog w) A E s ((sortPriv% PySem.Builtin.setMinGallop:Nat→StateT SortSt Sem Unit) g) Q st:=by
 exact wpS_modify h
theorem Wt{a b out:Array Keyed}{na nb:Nat}(ha:na≤a.size)(hb:nb≤b.size)(pm:out.toList.Perm (a.toList.drop na++b.toList.drop nb)):(a.extract 0 na++b.extract 0 nb++out.reverse).Perm (a++b)∧(b.extract 0 nb++a.extract 0 na++out.reverse).Perm (a++b):=by
 have e1:(a.extract 0 na).toList=a.toList.take na:=by simp
 have e2:(b.extract 0 nb).toList=b.toList.take nb:=by simp
 have key:(a.toList.take na++b.toList.take nb++out.toList.reverse).Perm (a.toList++b.toList):=by
  refine(List.Perm.append_left _ ((List.reverse_perm _).trans pm)).trans ?_;have h1:(a.toList.take na++a.toList.drop na)=a.toList:=List.take_append_drop _ _;have h2:(b.toList.take nb++b.toList.drop nb)=b.toList:=List.take_append_drop _ _
  have:(a.toList.take na++b.toList.take nb++(a.toList.drop na++b.toList.drop nb)).Perm (a.toList.take na++a.toList.drop na++(b.toList.take nb++b.toList.drop nb)):=by
   simp only[List.append_assoc];refine List.Perm.append_left _ ?_;rw[←List.append_assoc,←List.append_assoc];exact List.Perm.append_right _ List.perm_append_comm
  rwa[h1,h2] at this
 constructor
 ·rw[Array.perm_iff_toList_perm,Array.toList_append,Array.toList_append,Array.toList_append,Array.toList_reverse,e1,e2];exact key
 ·rw[Array.perm_iff_toList_perm,Array.toList_append,Array.toList_append,Array.toList_append,Array.toList_reverse,e1,e2];exact(List.Perm.append_right _ List.perm_append_comm).trans key
theorem U3{l:List Keyed}{i j:Nat}(h:i≤j):l.drop i=(l.drop i).take (j-i)++l.drop j:=by
 have:=List.take_append_drop (j-i) (l.drop i)
 rw[List.drop_drop,show i+(j-i)=j by lia] at this
 exact this.symm
theorem qm_a{a b out:Array Keyed}{na nb k:Nat}(h:k≤na)(hn:na≤a.size)(pm:out.toList.Perm (a.toList.drop na++b.toList.drop nb)):(out++(a.extract k na).reverse).toList.Perm (a.toList.drop k++b.toList.drop nb):=by
 have e1:(a.extract k na).toList=(a.toList.drop k).take (na-k):=by simp
 rw[Array.toList_append,Array.toList_reverse,e1];have hs:=U3 (l:=a.toList) h;generalize (a.toList.drop k).take (na-k)=X at hs ⊢;rw[hs];refine(pm.append_right _).trans (List.perm_append_comm.trans ?_);rw[List.append_assoc];exact List.Perm.append_right _ (List.reverse_perm _)
theorem qm_b{a b out:Array Keyed}{na nb k:Nat}(h:k≤nb)(hn:nb≤b.size)(pm:out.toList.Perm (a.toList.drop na++b.toList.drop nb)):(out++(b.extract k nb).reverse).toList.Perm (a.toList.drop na++b.toList.drop k):=by
 have e1:(b.extract k nb).toList=(b.toList.drop k).take (nb-k):=by simp
 rw[Array.toList_append,Array.toList_reverse,e1];have hs:=U3 (l:=b.toList) h;generalize (b.toList.drop k).take (nb-k)=X at hs ⊢;rw[hs];refine(pm.append_right _).trans ?_;rw[List.append_assoc];refine List.Perm.append_left _ (List.perm_append_comm.trans ?_);exact List.Perm.append_right _ (List.reverse_perm _)
theorem NC{σ:Type}{M:Model}{st st':σ}{Q:PUnit→σ→Prop}(h:Q ⟨⟩ st'):wpS M A E s (set st':StateT σ Sem PUnit) Q st:=by
 unfold wpS;rw[StateT.run_set];exact zB ⟨rfl,h⟩
theorem Ve:∀(L:List Keyed) (k at_:Nat) (a:Array Keyed),at_+k+L.length≤a.size →
  ((L.zipIdx k).foldl (fun a x=>match x with | (p,j)=>a.setIfInBounds (at_+j) p) a).toList=a.toList.take (at_+k)++L++a.toList.drop (at_+k+L.length)
 | [],k,at_,a,h=>by simp
 | x::L,k,at_,a,h=>by
  rw[List.zipIdx_cons,List.foldl_cons];have h':at_+(k+1)+L.length≤(a.setIfInBounds (at_+k) x).size:=by
   rw[Array.size_setIfInBounds]
   have:(x::L).length=L.length+1:=rfl
   lia
  refine(Ve L (k+1) at_ _ h').trans ?_;have hl:(x::L).length=L.length+1:=rfl;have hi:at_+k<a.toList.length:=by rw[Array.length_toList];lia
  rw[Array.toList_setIfInBounds];have e1:(a.toList.set (at_+k) x).take (at_+(k+1))=a.toList.take (at_+k)++[x]:=by
   rw[show at_+(k+1)=at_+k+1 by lia,List.take_add_one,List.getElem?_set_self hi,List.take_set_of_le (Nat.le_refl _)];rfl
  have e2:(a.toList.set (at_+k) x).drop (at_+(k+1)+L.length)=a.toList.drop (at_+k+(x::L).length):=by
   rw[List.drop_set_of_lt (by lia)];congr 1;lia
  rw[e1,e2];simp
theorem MG{L:List Keyed}{at_ to:Nat}{a:Array Keyed}(h1:at_≤to)(h2:to≤a.size)(hp:L.Perm ((a.toList.drop at_).take (to-at_))):
  ((L.zipIdx).foldl (fun a x=>match x with | (p,j)=>a.setIfInBounds (at_+j) p) a).Perm a:=by
 have hl:L.length=to-at_:=by rw[hp.length_eq,List.length_take,List.length_drop,Array.length_toList];lia
 rw[Array.perm_iff_toList_perm,Ve L 0 at_ a (by lia)]
 have e:a.toList=a.toList.take at_++((a.toList.drop at_).take (to-at_)++a.toList.drop to):=by
  rw[←U3 h1,List.take_append_drop]
 rw[Nat.add_zero,show at_+L.length=to by lia,List.append_assoc]
 refine List.Perm.trans ?_ (List.Perm.of_eq e.symm);exact List.Perm.append_left _ (List.Perm.append_right _ hp)
def ISt (a0:Array Keyed)(p:Array (Nat×Nat×Nat))(st:SortSt):Prop:=(arrOf st).Perm a0∧kindOf st=oneType'∧failedOf st=none∧pendingOf st=p
theorem IntA.perm{a b:Array Keyed}(h:IntA b)(p:a.Perm b):IntA a:=fun i hi=>by
 have hm:a[i]∈b.toList:=(Array.perm_iff_toList_perm.mp p).mem_iff.mp (by simp)
 obtain⟨j,hj,e⟩:=List.getElem_of_mem hm;rw[←e];simpa using h j (by simpa using hj)
theorem IntA.ext{a:Array Keyed}(h:IntA a)(i j:Nat):IntA (a.extract i j):=fun k hk=>by
 rw[Array.getElem_extract];exact h _ _
theorem ISt.arr{st:SortSt}{a0 xs:Array Keyed}{p:Array (Nat×Nat×Nat)}(hI:ISt a0 p st)(h:xs.Perm (arrOf st)):ISt a0 p (setArr st xs):=⟨h.trans hI.1,hI.2.1,hI.2.2.1,hI.2.2.2⟩
theorem XI{n:Nat}(h1:64≤n)(h2:n<128):minRun' n n 0=n / 2+n % 2:=by
 obtain⟨f,hf⟩:∃ f,n=f+2:=⟨n-2,by lia⟩
 have:minRun' (f+2) n 0=n / 2+n % 2:=by
  rw[minRun'_succ,if_neg (by lia),minRun'_succ,if_pos (by lia)]
  have:max 0 (n % 2)=n % 2:=by lia
  rw[this]
 rwa[←hf] at this
end
section
variable {prog:Program}{w:World}{A:Around}{E:Value→Shared→Prop}{s:Shared}
def kv (p:Keyed):Int:=numOf p.1
theorem U8{st:SortSt}{p q:Keyed}{Q:Option Bool→SortSt→Prop}(hk:kindOf st=oneType')(hp:IntK p)(hq:IntK q)(h:Q (some (decide (kv p<kv q))) st):
  wpS (model prog w) A E s (lt' p q) Q st:=by
 obtain⟨n,t,ep⟩:=hp;obtain⟨m,u,eq⟩:=hq;have e1:kv p=n:=by unfold kv;rw[ep];rfl
 have e2:kv q=m:=by unfold kv;rw[eq];rfl
 rw[lt'_eq];refine zH (wpS_get ?_);rw[hk,keyLt'_oneType,ep,eq];refine zH (wpS_lift (wpAny_attempt (oneLt_int ⟨rfl,?_⟩)));rw[e1,e2] at h;exact zI h
def bey (left:Bool)(key:Keyed)(arr:Array Keyed)(base i:Nat):Bool:=match arr[base+i]? with
 | some p=>if left=true then decide (kv p<kv key) else !decide (kv key<kv p)
 | none=>false
theorem U9{st:SortSt}{left:Bool}{key:Keyed}{arr:Array Keyed}{base i:Nat}{Q:Option Bool→SortSt→Prop}(hk:kindOf st=oneType')(hkey:IntK key)(hA:IntA arr)(hi:base+i<arr.size)(h:Q (some (bey left key arr base i)) st):
  wpS (model prog w) A E s (elem' arr (base+i) >>= fun x=>if left=true then lt' x key else lt' key x >>= fun r=>pure (Option.map (fun x=>!x) r)) Q st:=by
 refine zH (Zl hi ?_);unfold bey at h;rw[getElem?_pos arr (base+i) hi] at h;cases left with
 | true=>exact U8 hk (hA _ hi) hkey h
 | false=>exact zH (U8 hk hkey (hA _ hi) (zI h))
theorem Yf{st:SortSt}{left:Bool}{key:Keyed}{arr:Array Keyed}{base n hint:Nat}{Q:Option Nat→SortSt→Prop}(hk:kindOf st=oneType')(hkey:IntK key)(hA:IntA arr)(hb:base+n≤arr.size)(hh:hint<n)(mono:∀ i j,i≤j→j<n→bey left key arr base j=true→bey left key arr base i=true)(h:∀ k,k≤n→(∀ i,i<k→bey left key arr base i=true)→(∀ i,k≤i→i<n→bey left key arr base i=false)→Q (some k) st):
  wpS (model prog w) A E s (WG left key arr base n hint) Q st:=by
 have mono2:∀ i j,i≤j→j<n→bey left key arr base i=false→bey left key arr base j=false:=fun i j hij hj e=>by
  cases e2:bey left key arr base j with
  | false=>rfl
  | true=>rw[mono i j hij hj e2] at e;cases e
 unfold WG;have last:∀ lo hi,lo≤hi→hi≤n→(∀ i,i<lo→bey left key arr base i=true)→(∀ i,hi≤i→i<n→bey left key arr base i=false)→∀(f:Nat→Option (Option Nat)×Nat×Nat→StateT SortSt Sem (ForInStep (Option (Option Nat)×Nat×Nat))) (g:Option (Option Nat)×Nat×Nat→StateT SortSt Sem (Option Nat)),
   (∀ x lo hi (R:ForInStep (Option (Option Nat)×Nat×Nat)→SortSt→Prop),lo≤hi→hi≤n→(lo=hi→R (.done (none,lo,hi)) st)→(lo<hi→bey left key arr base (lo+(hi-lo) / 2)=true→R (.yield (none,lo+(hi-lo) / 2+1,hi)) st)→(lo<hi→bey left key arr base (lo+(hi-lo) / 2)=false→R (.yield (none,lo,lo+(hi-lo) / 2)) st)→wpS (model prog w) A E s (f x (none,lo,hi)) R st)→(∀ lo hi,g (none,lo,hi)=pure (some hi)) →
   wpS (model prog w) A E s (forIn [0:n] (none,lo,hi) f >>= g) Q st:=by
  intro lo hi hle hhi h1 h2 f g hf hg;refine zH (wpS_mono (zJ (I:=fun x c st'=>st'=st∧∃ lo hi,c=(none,lo,hi)∧lo≤hi∧hi≤n∧hi-lo≤n-x∧(∀ i,i<lo→bey left key arr base i=true)∧(∀ i,hi≤i→i<n→bey left key arr base i=false)) (Q:=fun c st'=>st'=st∧∃ hi,c=(none,hi,hi)∧hi≤n∧(∀ i,i<hi→bey left key arr base i=true)∧(∀ i,hi≤i→i<n→bey left key arr base i=false)) ?_ ?_ ⟨rfl,lo,hi,rfl,hle,hhi,by lia,h1,h2⟩) ?_)
  ·rintro x c st' _ hx ⟨rfl,lo,hi,rfl,hle,hhi,hm,h1,h2⟩;refine hf x lo hi _ hle hhi (fun e=>?_) (fun hlt e=>?_) (fun hlt e=>?_)
   ·subst e;exact⟨rfl,lo,rfl,hhi,h1,h2⟩
   ·exact⟨rfl,_,hi,rfl,by lia,hhi,by lia,fun i hi'=>mono i _ (by lia) (by lia) e,h2⟩
   ·exact⟨rfl,lo,_,rfl,by lia,by lia,by lia,h1,fun i g1 g2=>mono2 _ i g1 g2 e⟩
  ·rintro c st' ⟨rfl,lo,hi,rfl,hle,hhi,hm,h1,h2⟩
   have:lo=hi:=by lia
   subst this;exact⟨rfl,lo,rfl,hhi,h1,h2⟩
  ·rintro c st' ⟨rfl,hi,rfl,hhi,h1,h2⟩;rw[hg];exact zI (h _ hhi h1 h2)
 have bin:∀ lo hi (R:ForInStep (Option (Option Nat)×Nat×Nat)→SortSt→Prop),lo≤hi→hi≤n→(lo=hi→R (.done (none,lo,hi)) st)→(lo<hi→bey left key arr base (lo+(hi-lo) / 2)=true→R (.yield (none,lo+(hi-lo) / 2+1,hi)) st)→(lo<hi→bey left key arr base (lo+(hi-lo) / 2)=false→R (.yield (none,lo,lo+(hi-lo) / 2)) st) →
   wpS (model prog w) A E s (if lo≥hi then pure (ForInStep.done (none,lo,hi)) else(elem' arr (base+(lo+(hi-lo) / 2)) >>= fun x=>if left=true then lt' x key else lt' key x >>= fun r=>pure (Option.map (fun x=>!x) r)) >>= fun x=>match x with
    | some more=>if more=true then pure (ForInStep.yield (none,lo+(hi-lo) / 2+1,hi)) else pure (ForInStep.yield (none,lo,lo+(hi-lo) / 2))
    | x=>pure (ForInStep.done (some none,lo,hi))) R st:=by
  intro lo hi R hle hhi r1 r2 r3;by_cases hge:lo≥hi
  ·rw[if_pos hge];exact zI (r1 (by lia))
  ·rw[if_neg hge];refine zH (U9 hk hkey hA (by lia) ?_)
   cases e:bey left key arr base (lo+(hi-lo) / 2) with
   | true=>exact zI (r2 (by lia) e)
   | false=>exact zI (r3 (by lia) e)
 refine zH (U9 hk hkey hA (show base+hint<arr.size by lia) ?_)
 cases e0:bey left key arr base hint with
 | true =>
  refine zH (wpS_mono (zJ (I:=fun x c st'=>st'=st∧∃ l o,c=(none,l,o)∧l<o∧hint+l<n∧bey left key arr base (hint+l)=true∧x+1≤o) (Q:=fun c st'=>st'=st∧∃ l o,c=(none,l,o)∧l<o∧hint+l<n∧bey left key arr base (hint+l)=true∧(o≥n-hint∨bey left key arr base (hint+o)=false)) ?_ ?_ ⟨rfl,0,1,rfl,by lia,by lia,e0,by lia⟩) ?_)
  ·rintro x c st' _ hx ⟨rfl,l,o,rfl,hlo,hln,hl,hxo⟩;show wpS _ _ _ _ (if o≥n-hint then _ else _) _ _;by_cases hge:o≥n-hint
   ·rw[if_pos hge];exact zI ⟨rfl,l,o,rfl,hlo,hln,hl,.inl hge⟩
   ·rw[if_neg hge];refine zH (U9 hk hkey hA (show base+(hint+o)<arr.size by lia) ?_)
    cases e:bey left key arr base (hint+o) with
    | true=>exact zI ⟨rfl,o,2*o+1,rfl,by lia,by lia,e,by lia⟩
    | false=>exact zI ⟨rfl,l,o,rfl,hlo,hln,hl,.inr e⟩
  ·rintro c st' ⟨rfl,l,o,rfl,hlo,hln,hl,hxo⟩;exact⟨rfl,l,o,rfl,hlo,hln,hl,.inl (by lia)⟩
  ·rintro c st' ⟨rfl,l,o,rfl,hlo,hln,hl,hor⟩;refine last _ _ (show hint+l+1≤hint+min o (n-hint) by lia) (show hint+min o (n-hint)≤n by lia) (fun i hi=>mono i _ (by lia) hln hl) (fun i g1 g2=>?_) _ _ (fun x lo hi R=>bin lo hi R) fun _ _=>rfl
   rcases hor with hor | hor
   ·lia
   ·exact mono2 (hint+o) i (by lia) g2 hor
 | false =>
  refine zH (wpS_mono (zJ (I:=fun x c st'=>st'=st∧∃ l o,c=(none,l,o)∧l<o∧l≤hint∧bey left key arr base (hint-l)=false∧x+1≤o) (Q:=fun c st'=>st'=st∧∃ l o,c=(none,l,o)∧l<o∧l≤hint∧bey left key arr base (hint-l)=false∧(o≥hint+1∨bey left key arr base (hint-o)=true)) ?_ ?_ ⟨rfl,0,1,rfl,by lia,by lia,e0,by lia⟩) ?_)
  ·rintro x c st' _ hx ⟨rfl,l,o,rfl,hlo,hln,hl,hxo⟩;show wpS _ _ _ _ (if o≥hint+1 then _ else _) _ _;by_cases hge:o≥hint+1
   ·rw[if_pos hge];exact zI ⟨rfl,l,o,rfl,hlo,hln,hl,.inl hge⟩
   ·rw[if_neg hge];refine zH (U9 hk hkey hA (show base+(hint-o)<arr.size by lia) ?_)
    cases e:bey left key arr base (hint-o) with
    | true=>exact zI ⟨rfl,l,o,rfl,hlo,hln,hl,.inr e⟩
    | false=>exact zI ⟨rfl,o,2*o+1,rfl,by lia,by lia,e,by lia⟩
  ·rintro c st' ⟨rfl,l,o,rfl,hlo,hln,hl,hxo⟩;exact⟨rfl,l,o,rfl,hlo,hln,hl,.inl (by lia)⟩
  ·rintro c st' ⟨rfl,l,o,rfl,hlo,hln,hl,hor⟩;refine last _ _ (show hint+1-min o (hint+1)≤hint-l by lia) (show hint-l≤n by lia) (fun i hi=>?_) (fun i g1 g2=>mono2 (hint-l) i g1 g2 hl) _ _ (fun x lo hi R=>bin lo hi R) fun _ _=>rfl
   rcases hor with hor | hor
   ·lia
   ·exact mono i (hint-o) (by lia) (by lia) hor
def Srt (l:List Keyed):Prop:=l.Pairwise fun x y=>kv x≤kv y
def Below(l m:List Keyed):Prop:=∀ x∈l,∀ y∈m,kv x≤kv y
structure Ok(out l m:List Keyed):Prop where
 o:Srt out
 sl:Srt l
 sm:Srt m
 ol:Below out l
 om:Below out m
theorem Srt.app{l m:List Keyed}(hl:Srt l)(hm:Srt m)(h:Below l m):Srt (l++m):=List.pairwise_append.mpr ⟨hl,hm,h⟩
theorem Srt.of{l m:List Keyed}(h:Srt (l++m)):Srt l∧Srt m∧Below l m:=List.pairwise_append.mp h
theorem Below.app{a l m:List Keyed}(h1:Below a l)(h2:Below a m):Below a (l++m):=fun x hx y hy=>by
 rcases List.mem_append.mp hy with h | h
 ·exact h1 x hx y h
 ·exact h2 x hx y h
theorem Below.appl{a l m:List Keyed}(h1:Below l a)(h2:Below m a):Below (l++m) a:=fun x hx y hy=>by
 rcases List.mem_append.mp hx with h | h
 ·exact h1 x h y hy
 ·exact h2 x h y hy
theorem Ok.left{out c l m:List Keyed}(h:Ok out (c++l) m)(hc:Below c m):Ok (out++c) l m:=by
 obtain⟨s1,s2,s3⟩:=h.sl.of;exact⟨h.o.app s1 fun x hx y hy=>h.ol x hx y (List.mem_append_left _ hy),s2,h.sm,Below.appl (fun x hx y hy=>h.ol x hx y (List.mem_append_right _ hy)) s3,Below.appl h.om hc⟩
theorem Ok.swap{out l m:List Keyed}(h:Ok out l m):Ok out m l:=⟨h.o,h.sm,h.sl,h.om,h.ol⟩
theorem Ok.done{out l m:List Keyed}(h:Ok out l m)(hb:Below l m):Srt (out++l++m):=(h.o.app h.sl h.ol).app h.sm (Below.appl h.om hb)
theorem Below.nil_l{m:List Keyed}:Below [] m:=fun x hx=>by simp at hx
theorem Below.nil_r{m:List Keyed}:Below m []:=fun x _ y hy=>by simp at hy
theorem Below.head{x y:Keyed}{l m:List Keyed}(hl:Srt (y::m))(h:kv x≤kv y):Below [x] (y::m):=fun a ha b hb=>by
 have:a=x:=by simpa using ha
 subst this;rcases List.mem_cons.mp hb with rfl | hb
 ·exact h
 ·exact Int.le_trans h ((List.pairwise_cons.mp hl).1 b hb)
theorem UF{a:Array Keyed}{i:Nat}(h:i<a.size):a.toList.drop i=a[i]::a.toList.drop (i+1):=by
 rw[List.drop_eq_getElem_cons (by simpa using h)];simp
theorem Np(a:Array Keyed)(i k:Nat):(a.extract i (i+k)).toList=(a.toList.drop i).take k:=by simp
theorem U4(a:Array Keyed)(i k:Nat):a.toList.drop i=(a.toList.drop i).take k++a.toList.drop (i+k):=by
 have:=(List.take_append_drop k (a.toList.drop i)).symm
 rwa[List.drop_drop] at this
theorem T4{a:Array Keyed}{out:Array Keyed}{i:Nat}{m:List Keyed}(h:i<a.size)(ok:Ok out.toList (a.toList.drop i) m)(hc:Below [a[i]] m):Ok (out.push a[i]).toList (a.toList.drop (i+1)) m:=by
 rw[UF h] at ok;rw[Array.toList_push];exact Ok.left (c:=[a[i]]) ok hc
theorem T1{a:Array Keyed}{out:Array Keyed}{i k:Nat}{m:List Keyed}(ok:Ok out.toList (a.toList.drop i) m)(hc:Below ((a.toList.drop i).take k) m):Ok (out++a.extract i (i+k)).toList (a.toList.drop (i+k)) m:=by
 rw[U4 a i k] at ok;rw[Array.toList_append,Np];exact ok.left hc
theorem RD{b:Array Keyed}{out:Array Keyed}{i:Nat}{l:List Keyed}(h:i<b.size)(ok:Ok out.toList l (b.toList.drop i))(hc:Below [b[i]] l):Ok (out.push b[i]).toList l (b.toList.drop (i+1)):=(T4 h ok.swap hc).swap
theorem RC{b:Array Keyed}{out:Array Keyed}{i k:Nat}{l:List Keyed}(ok:Ok out.toList l (b.toList.drop i))(hc:Below ((b.toList.drop i).take k) l):Ok (out++b.extract i (i+k)).toList l (b.toList.drop (i+k)):=(T1 ok.swap hc).swap
theorem Jc{b:Array Keyed}{i:Nat}{x:Keyed}(h:i<b.size)(hs:Srt (b.toList.drop i))(hx:kv x≤kv b[i]):Below [x] (b.toList.drop i):=by
 rw[UF h] at hs ⊢;exact Below.head (l:=[]) hs hx
theorem Xk{a:Array Keyed}(h:Srt a.toList){i j:Nat}(hij:i≤j)(hj:j<a.size):kv (a[i]'(by lia))≤kv a[j]:=by
 by_cases e:i=j
 ·subst e;exact Int.le_refl _
 ·have:=List.pairwise_iff_getElem.mp h i j (by simp;lia) (by simpa using hj) (by lia)
  simpa using this
theorem YD{left:Bool}{key:Keyed}{arr:Array Keyed}{base i:Nat}(h:base+i<arr.size):bey left key arr base i=if left=true then decide (kv arr[base+i]<kv key) else !decide (kv key<kv arr[base+i]):=by
 unfold bey;rw[getElem?_pos arr (base+i) h]
theorem Up{left:Bool}{key:Keyed}{arr:Array Keyed}{base n:Nat}(hs:Srt arr.toList)(hn:base+n≤arr.size):∀ i j,i≤j→j<n→bey left key arr base j=true→bey left key arr base i=true:=by
 intro i j hij hj e;have hle:=Xk hs (show base+i≤base+j by lia) (by lia)
 rw[YD (by lia)] at e ⊢
 cases left with
 | true =>
  have:=of_decide_eq_true (show decide (kv arr[base+j]<kv key)=true from e)
  exact decide_eq_true (show kv arr[base+i]<kv key by lia)
 | false =>
  have e:(!decide (kv key<kv arr[base+j]))=true:=e
  have:¬ kv key<kv arr[base+j]:=by simpa using e
  show(!decide (kv key<kv arr[base+i]))=true;rw[decide_eq_false (by lia)];rfl
theorem Ja{a:Array Keyed}{i k:Nat}{x:Keyed}(hx:x∈(a.toList.drop i).take k):∃ j,j<k∧∃ h:i+j<a.size,x=a[i+j]:=by
 obtain⟨j,hj,e⟩:=List.mem_iff_getElem.mp hx;rw[List.length_take,List.length_drop,Array.length_toList] at hj;refine⟨j,by lia,by lia,?_⟩
 rw[←e];simp
theorem Ul{a:Array Keyed}{i:Nat}{x:Keyed}(hx:x∈a.toList.drop i):∃ j,i≤j∧∃ h:j<a.size,x=a[j]:=by
 obtain⟨j,hj,e⟩:=List.mem_iff_getElem.mp hx;rw[List.length_drop,Array.length_toList] at hj;refine⟨i+j,by lia,by lia,?_⟩
 rw[←e];simp
def PMO (a b out:Array Keyed)(ia ib:Nat):Prop:=out.toList.Perm (a.toList.take ia++b.toList.take ib)∧Ok out.toList (a.toList.drop ia) (b.toList.drop ib)
def PmS (a b o:Array Keyed):Prop:=o.Perm (a++b)∧Srt o.toList
theorem V2(a:Array Keyed)(i:Nat):(a.extract i).toList=a.toList.drop i:=by simp;exact List.take_of_length_le (by simp)
theorem X8{a b out:Array Keyed}{ia ib:Nat}(h:PMO a b out ia ib)(e:ib=b.size∨ia=a.size):PmS a b (out++a.extract ia++b.extract ib):=by
 refine⟨(merged h.1).1,?_⟩;rw[Array.toList_append,Array.toList_append,V2,V2];refine h.2.done ?_;rcases e with e | e
 ·rw[show b.toList.drop ib=[] from List.drop_of_length_le (by simp;lia)];exact Below.nil_r
 ·rw[show a.toList.drop ia=[] from List.drop_of_length_le (by simp;lia)];exact Below.nil_l
theorem Ww{a b out:Array Keyed}{ia ib:Nat}(h:PMO a b out ia ib)(e:ia+1=a.size)(hl:∀ j (h:j<b.size) (h2:a.size-1<a.size),kv b[j]≤kv a[a.size-1]):PmS a b (out++b.extract ib++a.extract ia):=by
 refine⟨(merged h.1).2,?_⟩;rw[Array.toList_append,Array.toList_append,V2,V2];refine h.2.swap.done fun x hx y hy=>?_;obtain⟨j,_,hj,rfl⟩:=Ul hx;obtain⟨i,h1,hi,rfl⟩:=Ul hy
 have:i=a.size-1:=by lia
 subst this;exact hl j hj hi
theorem PMO.b1{a b out:Array Keyed}{ia ib:Nat}(h:PMO a b out ia ib)(hb:ib<b.size)(hc:Below [b[ib]] (a.toList.drop ia)):PMO a b (out.push b[ib]) ia (ib+1):=⟨Rz hb h.1,RD hb h.2 hc⟩
theorem PMO.a1{a b out:Array Keyed}{ia ib:Nat}(h:PMO a b out ia ib)(ha:ia<a.size)(hc:Below [a[ia]] (b.toList.drop ib)):PMO a b (out.push a[ia]) (ia+1) ib:=⟨RA ha h.1,T4 ha h.2 hc⟩
theorem PMO.ak{a b out:Array Keyed}{ia ib k:Nat}(h:PMO a b out ia ib)(ha:ia+k≤a.size)(hc:Below ((a.toList.drop ia).take k) (b.toList.drop ib)):PMO a b (out++a.extract ia (ia+k)) (ia+k) ib:=⟨pm_a ha h.1,T1 h.2 hc⟩
theorem PMO.bk{a b out:Array Keyed}{ia ib k:Nat}(h:PMO a b out ia ib)(hb:ib+k≤b.size)(hc:Below ((b.toList.drop ib).take k) (a.toList.drop ia)):PMO a b (out++b.extract ib (ib+k)) ia (ib+k):=⟨pm_b hb h.1,RC h.2 hc⟩
structure MLoS(a b out:Array Keyed)(ia ib:Nat):Prop where
 la:ia+1<a.size
 lb:ib<b.size
 pm:PMO a b out ia ib
def UI(a b:Array Keyed){β:Type}(c:Option (Array Keyed)×β):Prop:=∃ o,c.1=some o∧PmS a b o
theorem Xd{a:Array Keyed}{key:Keyed}{i k n:Nat}{m:List Keyed}(hn:i+n≤a.size)(hk:k≤n)(h:∀ j,j<k→bey false key a i j=true)(hm:Below [key] m):Below ((a.toList.drop i).take k) m:=fun x hx y hy=>by
 obtain⟨j,hj,hs,rfl⟩:=Ja hx;have e:=h j hj;rw[YD hs] at e
 have:¬ kv key<kv a[i+j]:=by simpa using (show(!decide (kv key<kv a[i+j]))=true from e)
 have:=hm key (by simp) y hy
 lia
theorem Xq{a:Array Keyed}{key:Keyed}{i k n:Nat}(hn:i+n=a.size)(h:∀ j,k≤j→j<n→bey false key a i j=false):Below [key] (a.toList.drop (i+k)):=fun x hx y hy=>by
 have:x=key:=by simpa using hx
 subst this;obtain⟨j,hj,hs,rfl⟩:=Ul hy;have e:=h (j-i) (by lia) (by lia)
 have hs':i+(j-i)<a.size:=by lia
 rw[YD hs'] at e
 have:kv x<kv a[i+(j-i)]:=by simpa using (show(!decide (kv x<kv a[i+(j-i)]))=false from e)
 have e2:a[i+(j-i)]=a[j]:=by congr 1;lia
 rw[e2] at this;lia
theorem XZ{b:Array Keyed}{key:Keyed}{i k n:Nat}{m:List Keyed}(hn:i+n≤b.size)(hk:k≤n)(h:∀ j,j<k→bey true key b i j=true)(hm:Below [key] m):Below ((b.toList.drop i).take k) m:=fun x hx y hy=>by
 obtain⟨j,hj,hs,rfl⟩:=Ja hx;have e:=h j hj;rw[YD hs] at e
 have:kv b[i+j]<kv key:=of_decide_eq_true (show decide (kv b[i+j]<kv key)=true from e)
 have:=hm key (by simp) y hy
 lia
theorem VM{b:Array Keyed}{key:Keyed}{i k n:Nat}(hn:i+n=b.size)(h:∀ j,k≤j→j<n→bey true key b i j=false):Below [key] (b.toList.drop (i+k)):=fun x hx y hy=>by
 have:x=key:=by simpa using hx
 subst this;obtain⟨j,hj,hs,rfl⟩:=Ul hy;have e:=h (j-i) (by lia) (by lia)
 have hs':i+(j-i)<b.size:=by lia
 rw[YD hs'] at e
 have:¬ kv b[i+(j-i)]<kv x:=of_decide_eq_false (show decide (kv b[i+(j-i)]<kv x)=false from e)
 have e2:b[i+(j-i)]=b[j]:=by congr 1;lia
 rw[e2] at this;lia
theorem use1{α:Type}{M:Model}{F:Nat→StateT SortSt Sem α}{Q:α→SortSt→Prop}{st:SortSt}{G:Prop}(main:(∀ g,wpS M A E s (F g) Q st)→G)(body:∀ g,wpS M A E s (F g) Q st):G:=main body
theorem use2{α:Type}{M:Model}{F:Array Keyed→Nat→StateT SortSt Sem α}{Q:α→SortSt→Prop}{st:SortSt}{G:Prop}(P:Array Keyed→Nat→Prop)(main:(∀ o g,P o g→wpS M A E s (F o g) Q st)→G)(body:∀ o g,P o g→wpS M A E s (F o g) Q st):G:=main body
theorem Q4{st:SortSt}{a b:Array Keyed}{Q:Array Keyed→SortSt→Prop}(hk:kindOf st=oneType')(ha:IntA a)(hb:IntA b)(ha0:0<a.size)(hb0:0<b.size)(sa:Srt a.toList)(sb:Srt b.toList)(hfst:kv b[0]<kv a[0])(hlast:∀ j (h:j<b.size) (h2:a.size-1<a.size),kv b[j]≤kv a[a.size-1])(h:∀ g o,PmS a b o→Q o (setG st g)):
  wpS (model prog w) A E s (QZ a b) Q st:=by
 unfold QZ;refine zH (wpS_lift (wpAny_rule ⟨rfl,?_⟩));refine zH (Zl hb0 ?_);have sda:∀ i,Srt (a.toList.drop i):=fun i=>List.Pairwise.sublist (List.drop_sublist _ _) sa;have sdb:∀ i,Srt (b.toList.drop i):=fun i=>List.Pairwise.sublist (List.drop_sublist _ _) sb;have pm0:PMO a b #[b[0]] 0 1:=PMO.b1 (out:=#[]) (ia:=0) (ib:=0) ⟨by simp,⟨List.Pairwise.nil,sda 0,sdb 0,Below.nil_l,Below.nil_l⟩⟩ hb0 (Jc ha0 (sda 0) (by lia))
 show wpS _ _ _ _ (if(1==b.size)=true then _ else _) _ _;by_cases h1:1=b.size
 ·rw[if_pos (by simpa using h1)]
  exact zI (h (gallopOf st) _ (X8 pm0 (.inl h1)))
 rw[if_neg (by simpa using h1)]
 by_cases h2:0+1=a.size
 ·rw[if_pos (by simpa using h2)]
  exact zI (h (gallopOf st) _ (Ww pm0 h2 hlast))
 rw[if_neg (by simpa using h2)]
 refine zH (wpS_get ?_);refine zH (wpS_mono (zJ (I:=fun x c st'=>(∃ g,st'=setG st g)∧∃ out ia ib mg,c=(none,out,ia,ib,mg)∧MLoS a b out ia ib∧x≤ia+ib) (Q:=fun c st'=>(∃ g,st'=setG st g)∧UI a b c) ?step ?fin
  ⟨⟨gallopOf st,rfl⟩,_,0,1,_,rfl,⟨by lia,by lia,pm0⟩,by lia⟩) ?post)
 case fin =>
  rintro c st' ⟨_,out,ia,ib,mg,rfl,hM,hx⟩
  have:=hM.la
  have:=hM.lb
  lia
 case post =>
  rintro c st' ⟨⟨g,rfl⟩,o,ho,hp⟩;obtain⟨r,c⟩:=c;obtain rfl:r=some o:=ho;exact zI (h g o hp)
 case step =>
  rintro x c st' _ hx ⟨⟨g,rfl⟩,out,ia,ib,mg,rfl,hM,hxi⟩;refine zH (wpS_mono (zJ (I:=fun y c st'=>st'=setG st g∧∃ out ia' ib' ac bc,c=(none,out,ia',ib',ac,bc)∧MLoS a b out ia' ib'∧ia+ib+y≤ia'+ib') (Q:=fun c st'=>st'=setG st g∧(UI a b c∨∃ out ia' ib' ac bc,c=(none,out,ia',ib',ac,bc)∧MLoS a b out ia' ib'∧ia+ib+1≤ia'+ib')) ?step1 ?fin1
   ⟨rfl,_,ia,ib,_,_,rfl,hM,by lia⟩) ?post1)
  case fin1 =>
   rintro c st' ⟨_,out,ia,ib,_,_,rfl,hM,hx⟩
   have:=hM.la
   have:=hM.lb
   lia
  case step1 =>
   rintro y c st' _ hy ⟨rfl,out,ia',ib',ac,bc,rfl,hM,hxi⟩;have hla:=hM.la;have hlb:=hM.lb;refine zH (Zl hlb (zH (Zl (show ia'<a.size by lia) (zH (U8 hk (hb _ _) (ha _ _) ?_)))))
   have hia:ia'<a.size:=by lia
   show wpS _ _ _ _ (if decide (kv b[ib']<kv a[ia'])=true then _ else _) _ _;cases hr:decide (kv b[ib']<kv a[ia']) with
   | true =>
    refine zH (Zl hlb ?_);have pm:=hM.pm.b1 hlb (Jc hia (sda _) (by have:=of_decide_eq_true hr;lia))
    show wpS _ _ _ _ (if(ib'+1==b.size)=true then _ else _) _ _;by_cases h3:ib'+1=b.size
    ·rw[if_pos (by simpa using h3)]
     exact zI ⟨rfl,.inl ⟨_,rfl,X8 pm (.inl h3)⟩⟩
    rw[if_neg (by simpa using h3)]
    by_cases h4:bc+1≥mg
    ·rw[if_pos h4];exact zI ⟨rfl,.inr ⟨_,ia',ib'+1,_,_,rfl,⟨hla,by lia,pm⟩,by lia⟩⟩
    ·rw[if_neg h4];exact zI ⟨rfl,_,ia',ib'+1,_,_,rfl,⟨hla,by lia,pm⟩,by lia⟩
   | false =>
    refine zH (Zl (show ia'<a.size by lia) ?_)
    have pm:=hM.pm.a1 hia (Jc hlb (sdb _) (by have:=of_decide_eq_false hr;lia))
    show wpS _ _ _ _ (if(ia'+1+1==a.size)=true then _ else _) _ _;by_cases h3:ia'+1+1=a.size
    ·rw[if_pos (by simpa using h3)]
     exact zI ⟨rfl,.inl ⟨_,rfl,Ww pm h3 hlast⟩⟩
    rw[if_neg (by simpa using h3)]
    by_cases h4:ac+1≥mg
    ·rw[if_pos h4];exact zI ⟨rfl,.inr ⟨_,ia'+1,ib',_,_,rfl,⟨by lia,hlb,pm⟩,by lia⟩⟩
    ·rw[if_neg h4];exact zI ⟨rfl,_,ia'+1,ib',_,_,rfl,⟨by lia,hlb,pm⟩,by lia⟩
  case post1 =>
   rintro c st' ⟨rfl,(⟨o,ho,hp⟩ | ⟨out,ia',ib',ac,bc,rfl,hM,hxi'⟩)⟩
   ·obtain⟨r,c⟩:=c;obtain rfl:r=some o:=ho;exact zI ⟨⟨g,rfl⟩,o,rfl,hp⟩
   refine zH (wpS_lift (wpAny_rule ⟨rfl,?_⟩));refine zH (wpS_mono (zJ (I:=fun y c st'=>(∃ g,st'=setG st g)∧∃ out ja jb mg ac bc,c=(none,out,ja,jb,mg,ac,bc)∧MLoS a b out ja jb∧ia'+ib'+y≤ja+jb) (Q:=fun c st'=>(∃ g,st'=setG st g)∧(UI a b c∨∃ out ja jb mg ac bc,c=(none,out,ja,jb,mg,ac,bc)∧MLoS a b out ja jb∧ia'+ib'≤ja+jb)) ?step2 ?fin2
    ⟨⟨g,rfl⟩,_,ia',ib',_,_,_,rfl,hM,by lia⟩) ?post2)
   case fin2 =>
    rintro c st' ⟨_,out,ia,ib,_,_,_,rfl,hM,hx⟩
    have:=hM.la
    have:=hM.lb
    lia
   case post2 =>
    rintro c st' ⟨⟨g2,rfl⟩,(⟨o,ho,hp⟩ | ⟨out,ja,jb,mg2,ac,bc,rfl,hM,hxi2⟩)⟩
    ·obtain⟨r,c⟩:=c;obtain rfl:r=some o:=ho;exact zI ⟨⟨g2,rfl⟩,o,rfl,hp⟩
    ·exact zH (U6 (zI ⟨⟨_,rfl⟩,_,ja,jb,_,rfl,hM,by lia⟩))
   case step2 =>
    rintro y c st' _ hy ⟨⟨g2,rfl⟩,out,ja,jb,mg2,ac,bc,rfl,hM,hxi2⟩;have hla:=hM.la;have hlb:=hM.lb;have hpm:=hM.pm;refine' use1 (fun body=>?main) ?body
    case main =>
     show wpS _ _ _ _ (if mg2>1 then _ else _) _ _;by_cases hm:mg2>1
     ·rw[if_pos hm];generalize mg2-1=g';exact body g'
     ·rw[if_neg hm];exact body mg2
    case body =>
     intro g';clear hM hx hxi hxi' hy h1 h2 ha0 hb0 pm0 hfst;refine zH (U6 ?_);refine zH (Zl hlb ?_);refine zH (Yf hk (hb _ _) ha (show ja+(a.size-ja)≤a.size by lia) (show 0<a.size-ja by lia) (Up sa (show ja+(a.size-ja)≤a.size by lia)) fun k hkn hbe har=>?_)
     have hkn:k≤a.size-ja:=hkn;have hbe:∀ j,j<k→bey false b[jb] a ja j=true:=hbe;have har:∀ j,k≤j→j<a.size-ja→bey false b[jb] a ja j=false:=har;have rst:=Xq (show ja+(a.size-ja)=a.size by lia) har
     have hkn:ja+k≤a.size:=by lia
     refine' use2 (fun out' ja'=>PMO a b out' ja' jb∧ja≤ja'∧ja'+1<a.size∧Below [b[jb]] (a.toList.drop ja')) (fun cont=>?m2) ?cont
     case m2 =>
      show wpS _ _ _ _ (if k>0 then _ else _) _ _;by_cases hk0:k>0
      ·rw[if_pos hk0];have pm:=hpm.ak hkn (Xd (show ja+(a.size-ja)≤a.size by lia) (show k≤a.size-ja by lia) hbe (Jc hlb (sdb _) (Int.le_refl _)))
       show wpS _ _ _ _ (if(ja+k+1==a.size)=true then _ else _) _ _;by_cases h5:ja+k+1=a.size
       ·rw[if_pos (by simpa using h5)]
        exact zI ⟨⟨_,rfl⟩,.inl ⟨_,rfl,Ww pm h5 hlast⟩⟩
       rw[if_neg (by simpa using h5)]
       by_cases h6:ja+k=a.size
       ·rw[if_pos (by simpa using h6)]
        exact zI ⟨⟨_,rfl⟩,.inl ⟨_,rfl,X8 pm (.inr h6)⟩⟩
       rw[if_neg (by simpa using h6)]
       have q:_∧ja≤ja+k∧ja+k+1<a.size∧_:=⟨pm,Nat.le_add_right _ _,by lia,rst⟩
       clear pm h5 h6;generalize out++a.extract ja (ja+k)=out' at q ⊢;generalize ja+k=ja' at q ⊢;exact cont out' ja' q
      ·rw[if_neg hk0];have e:k=0:=by lia
       rw[e] at rst;exact cont out ja ⟨hpm,Nat.le_refl _,hla,rst⟩
     case cont =>
      clear har hbe rst hkn hpm hla;rintro out' ja' ⟨hpm,hle,hla,rst⟩;refine zH (Zl hlb ?_);have pm:=hpm.b1 hlb rst;show wpS _ _ _ _ (if(jb+1==b.size)=true then _ else _) _ _;by_cases h7:jb+1=b.size
      ·rw[if_pos (by simpa using h7)]
       exact zI ⟨⟨_,rfl⟩,.inl ⟨_,rfl,X8 pm (.inl h7)⟩⟩
      rw[if_neg (by simpa using h7)]
      have hlb1:jb+1<b.size:=by lia
      have hJ:ja'<a.size:=by lia
      clear hpm rst h7;refine zH (Zl hJ ?_);refine zH (Yf hk (ha _ _) hb (show jb+1+(b.size-(jb+1))≤b.size by lia) (show 0<b.size-(jb+1) by lia) (Up sb (show jb+1+(b.size-(jb+1))≤b.size by lia)) fun k2 hkn2 hbe2 har2=>?_)
      have hkn2:k2≤b.size-(jb+1):=hkn2;have hbe2:∀ j,j<k2→bey true (a[ja']'hJ) b (jb+1) j=true:=hbe2;have har2:∀ j,k2≤j→j<b.size-(jb+1)→bey true (a[ja']'hJ) b (jb+1) j=false:=har2;have rst2:=VM (show jb+1+(b.size-(jb+1))=b.size by lia) har2
      have hkn2:jb+1+k2≤b.size:=by lia
      refine' use2 (fun out2 jb2=>PMO a b out2 ja' jb2∧jb+1≤jb2∧jb2<b.size∧Below [a[ja']'hJ] (b.toList.drop jb2)) (fun cont2=>?m3) ?cont2
      case m3 =>
       show wpS _ _ _ _ (if k2>0 then _ else _) _ _;by_cases hk2:k2>0
       ·rw[if_pos hk2];have pm:=pm.bk hkn2 (XZ (show jb+1+(b.size-(jb+1))≤b.size by lia) (show k2≤b.size-(jb+1) by lia) hbe2 (Jc hJ (sda _) (Int.le_refl _)))
        show wpS _ _ _ _ (if(jb+1+k2==b.size)=true then _ else _) _ _;by_cases h8:jb+1+k2=b.size
        ·rw[if_pos (by simpa using h8)]
         exact zI ⟨⟨_,rfl⟩,.inl ⟨_,rfl,X8 pm (.inl h8)⟩⟩
        rw[if_neg (by simpa using h8)]
        have q:_∧jb+1≤jb+1+k2∧jb+1+k2<b.size∧_:=⟨pm,Nat.le_add_right _ _,by lia,rst2⟩
        clear pm h8;generalize out'.push b[jb]++b.extract (jb+1) (jb+1+k2)=out2 at q ⊢;generalize jb+1+k2=jb2 at q ⊢;exact cont2 out2 jb2 q
       ·rw[if_neg hk2];have e:k2=0:=by lia
        rw[e] at rst2;exact cont2 _ (jb+1) ⟨pm,Nat.le_refl _,hlb1,rst2⟩
      case cont2 =>
       clear har2 hbe2 rst2 hkn2 pm hlb1;rintro out2 jb2 ⟨pm,hle2,hlt2,rst2⟩;refine zH (Zl hJ ?_);have pm:=pm.a1 hJ rst2;show wpS _ _ _ _ (if(ja'+1+1==a.size)=true then _ else _) _ _;by_cases h9:ja'+1+1=a.size
       ·rw[if_pos (by simpa using h9)]
        exact zI ⟨⟨_,rfl⟩,.inl ⟨_,rfl,Ww pm h9 hlast⟩⟩
       rw[if_neg (by simpa using h9)]
       have l9:ja'+1+1<a.size:=by lia
       have z9:ia'+ib'≤ja'+1+jb2:=by lia
       have y9:ia'+ib'+(y+1)≤ja'+1+jb2:=by lia
       split
       ·exact zI ⟨⟨_,rfl⟩,.inr ⟨_,ja'+1,jb2,_,_,_,rfl,⟨l9,hlt2,pm⟩,z9⟩⟩
       ·exact zI ⟨⟨_,rfl⟩,_,ja'+1,jb2,_,_,_,rfl,⟨l9,hlt2,pm⟩,y9⟩
structure OkH(out l m:List Keyed):Prop where
 o:Srt out.reverse
 sl:Srt l
 sm:Srt m
 ol:Below l out
 om:Below m out
theorem OkH.left{out c l m:List Keyed}(h:OkH out (l++c) m)(hc:Below m c):OkH (out++c.reverse) l m:=by
 obtain⟨s1,s2,s3⟩:=h.sl.of;refine⟨?_,s1,h.sm,?_,?_⟩
 ·rw[List.reverse_append,List.reverse_reverse];exact s2.app h.o fun x hx y hy=>h.ol x (List.mem_append_right _ hx) y (List.mem_reverse.mp hy)
 ·exact Below.app (fun x hx y hy=>h.ol x (List.mem_append_left _ hx) y hy) fun x hx y hy=>s3 x hx y (List.mem_reverse.mp hy)
 ·exact Below.app h.om fun x hx y hy=>hc x hx y (List.mem_reverse.mp hy)
theorem OkH.swap{out l m:List Keyed}(h:OkH out l m):OkH out m l:=⟨h.o,h.sm,h.sl,h.om,h.ol⟩
theorem OkH.done{out l m:List Keyed}(h:OkH out l m)(hb:Below l m):Srt (l++m++out.reverse):=(h.sl.app h.sm hb).app h.o (Below.appl (fun x hx y hy=>h.ol x hx y (List.mem_reverse.mp hy)) fun x hx y hy=>h.om x hx y (List.mem_reverse.mp hy))
def PMH (a b out:Array Keyed)(na nb:Nat):Prop:=out.toList.Perm (a.toList.drop na++b.toList.drop nb)∧OkH out.toList (a.toList.take na) (b.toList.take nb)
theorem Je(a:Array Keyed){k n:Nat}(h:k≤n):a.toList.take n=a.toList.take k++(a.toList.drop k).take (n-k):=by
 conv=>lhs;rw[show n=k+(n-k) by lia,List.take_add]
theorem MY{a out:Array Keyed}{k na:Nat}{m:List Keyed}(h:k≤na)(ok:OkH out.toList (a.toList.take na) m)(hc:Below m ((a.toList.drop k).take (na-k))):OkH (out++(a.extract k na).reverse).toList (a.toList.take k) m:=by
 rw[Je a h] at ok;have e1:(a.extract k na).toList=(a.toList.drop k).take (na-k):=by simp
 rw[Array.toList_append,Array.toList_reverse,e1];exact ok.left hc
theorem PMH.ak{a b out:Array Keyed}{na nb k:Nat}(h:PMH a b out na nb)(hk:k≤na)(hn:na≤a.size)(hc:Below (b.toList.take nb) ((a.toList.drop k).take (na-k))):PMH a b (out++(a.extract k na).reverse) k nb:=⟨qm_a hk hn h.1,MY hk h.2 hc⟩
theorem PMH.bk{a b out:Array Keyed}{na nb k:Nat}(h:PMH a b out na nb)(hk:k≤nb)(hn:nb≤b.size)(hc:Below (a.toList.take na) ((b.toList.drop k).take (nb-k))):PMH a b (out++(b.extract k nb).reverse) na k:=⟨qm_b hk hn h.1,(MY hk h.2.swap hc).swap⟩
theorem WL{a:Array Keyed}{k n:Nat}(h:k<a.size)(hn:k+1=n):(a.extract k n).reverse = #[a[k]]∧(a.toList.drop k).take (n-k)=[a[k]]:=by
 subst hn;have e:(a.toList.drop k).take (k+1-k)=[a[k]]:=by rw[UF h,show k+1-k=1 by lia];rfl
 refine⟨?_,e⟩;apply Array.ext';rw[Array.toList_reverse,show(a.extract k (k+1)).toList=(a.toList.drop k).take (k+1-k) by simp,e];rfl
theorem PMH.a1{a b out:Array Keyed}{na nb k:Nat}(h:PMH a b out na nb)(hk:k<a.size)(hn:k+1=na)(hc:Below (b.toList.take nb) [a[k]]):PMH a b (out.push a[k]) k nb:=by
 obtain⟨e1,e2⟩:=WL hk hn
 have:=h.ak (k:=k) (by lia) (by lia) (by rw[e2];exact hc)
 rw[e1] at this;rwa[Array.push_eq_append]
theorem PMH.b1{a b out:Array Keyed}{na nb k:Nat}(h:PMH a b out na nb)(hk:k<b.size)(hn:k+1=nb)(hc:Below (a.toList.take na) [b[k]]):PMH a b (out.push b[k]) na k:=by
 obtain⟨e1,e2⟩:=WL hk hn
 have:=h.bk (k:=k) (by lia) (by lia) (by rw[e2];exact hc)
 rw[e1] at this;rwa[Array.push_eq_append]
theorem J9{a:Array Keyed}{k:Nat}{x:Keyed}(hx:x∈a.toList.take k):∃ j,j<k∧∃ h:j<a.size,x=a[j]:=by
 obtain⟨j,hj,hs,e⟩:=Ja (a:=a) (i:=0) (k:=k) (by rw[List.drop_zero];exact hx)
 exact⟨j,hj,by lia,by rw[e];congr 1;lia⟩
theorem YN{b:Array Keyed}(sb:Srt b.toList){n i:Nat}(hi:i<b.size)(hn:n≤i+1){m:List Keyed}(h:∀ y∈m,kv b[i]≤kv y):Below (b.toList.take n) m:=fun x hx y hy=>by
 obtain⟨j,hj,hs,rfl⟩:=J9 hx;exact Int.le_trans (Xk sb (show j≤i by lia) hi) (h y hy)
theorem Vm{P:Keyed→Prop}{x:Keyed}(h:P x):∀ y∈[x],P y:=fun y hy=>by
 have:y=x:=by simpa using hy
 subst this;exact h
theorem Nz{a b:Array Keyed}(sb:Srt b.toList){i ja k:Nat}(hi:i<b.size)(hja:ja≤a.size)(h:∀ j,k≤j→j<ja→bey false b[i] a 0 j=false):Below (b.toList.take (i+1)) ((a.toList.drop k).take (ja-k)):=YN sb hi (Nat.le_refl _) fun y hy=>by
 obtain⟨j,hj,hs,rfl⟩:=Ja hy;have e:=h (k+j) (Nat.le_add_right _ _) (by lia)
 rw[YD (by lia)] at e
 have e2:a[0+(k+j)]'(by lia)=a[k+j]:=by congr 1;lia
 rw[e2] at e
 have:kv b[i]<kv a[k+j]:=by simpa using (show(!decide (kv b[i]<kv a[k+j]))=false from e)
 exact Int.le_of_lt this
theorem Wj{a:Array Keyed}{key:Keyed}{k:Nat}(hk:k≤a.size)(h:∀ j,j<k→bey false key a 0 j=true):Below (a.toList.take k) [key]:=fun x hx=>Vm (by
 obtain⟨j,hj,hs,rfl⟩:=J9 hx;have e:=h j hj;rw[YD (by lia)] at e
 have e2:a[0+j]'(by lia)=a[j]:=by congr 1;lia
 rw[e2] at e
 have:¬ kv key<kv a[j]:=by simpa using (show(!decide (kv key<kv a[j]))=true from e)
 show kv a[j]≤kv key;lia)
theorem Ny{a b:Array Keyed}(sa:Srt a.toList){i jb k2:Nat}(hi:i<a.size)(hjb:jb≤b.size)(h:∀ j,k2≤j→j<jb→bey true a[i] b 0 j=false):Below (a.toList.take (i+1)) ((b.toList.drop k2).take (jb-k2)):=YN sa hi (Nat.le_refl _) fun y hy=>by
 obtain⟨j,hj,hs,rfl⟩:=Ja hy;have e:=h (k2+j) (Nat.le_add_right _ _) (by lia)
 rw[YD (by lia)] at e
 have e2:b[0+(k2+j)]'(by lia)=b[k2+j]:=by congr 1;lia
 rw[e2] at e
 have:¬ kv b[k2+j]<kv a[i]:=of_decide_eq_false (show decide (kv b[k2+j]<kv a[i])=false from e)
 exact Int.not_lt.mp this
theorem NU{b:Array Keyed}{key:Keyed}{k:Nat}(hk:k≤b.size)(h:∀ j,j<k→bey true key b 0 j=true):Below (b.toList.take k) [key]:=fun x hx=>Vm (by
 obtain⟨j,hj,hs,rfl⟩:=J9 hx;have e:=h j hj;rw[YD (by lia)] at e
 have e2:b[0+j]'(by lia)=b[j]:=by congr 1;lia
 rw[e2] at e
 have:kv b[j]<kv key:=of_decide_eq_true (show decide (kv b[j]<kv key)=true from e)
 show kv b[j]≤kv key;lia)
theorem X9{a b out:Array Keyed}{na nb:Nat}(h:PMH a b out na nb)(ha:na≤a.size)(hb:nb≤b.size)(e:na=0∨nb=0):PmS a b (a.extract 0 na++b.extract 0 nb++out.reverse):=by
 refine⟨(Wt ha hb h.1).1,?_⟩;have e1:(a.extract 0 na).toList=a.toList.take na:=by simp
 have e2:(b.extract 0 nb).toList=b.toList.take nb:=by simp
 rw[Array.toList_append,Array.toList_append,Array.toList_reverse,e1,e2];refine h.2.done ?_;rcases e with rfl | rfl
 ·exact Below.nil_l
 ·exact Below.nil_r
theorem Wx{a b out:Array Keyed}{na nb:Nat}(h:PMH a b out na nb)(ha:na≤a.size)(hb:nb≤b.size)(e:nb=1)(sa:Srt a.toList)(hf:∀(h0:0<a.size) (h1:0<b.size),kv b[0]<kv a[0]):PmS a b (b.extract 0 nb++a.extract 0 na++out.reverse):=by
 refine⟨(Wt ha hb h.1).2,?_⟩;have e1:(a.extract 0 na).toList=a.toList.take na:=by simp
 have e2:(b.extract 0 nb).toList=b.toList.take nb:=by simp
 rw[Array.toList_append,Array.toList_append,Array.toList_reverse,e1,e2];refine h.2.swap.done fun x hx y hy=>?_;obtain⟨j,hj,hs,rfl⟩:=J9 hx;obtain⟨i,hi,hs2,rfl⟩:=J9 hy
 have:j=0:=by lia
 subst this;have h1:=hf (by lia) hs
 have h2:=Xk sa (show 0≤i by lia) hs2
 lia
structure MHiS(a b out:Array Keyed)(na nb:Nat):Prop where
 la:0<na
 ua:na≤a.size
 lb:1<nb
 ub:nb≤b.size
 pm:PMH a b out na nb
theorem Q5{st:SortSt}{a b:Array Keyed}{Q:Array Keyed→SortSt→Prop}(hk:kindOf st=oneType')(ha:IntA a)(hb:IntA b)(ha0:0<a.size)(hb0:0<b.size)(sa:Srt a.toList)(sb:Srt b.toList)(hfst:∀(h0:0<a.size) (h1:0<b.size),kv b[0]<kv a[0])(hlast:∀ j (h:j<b.size) (h2:a.size-1<a.size),kv b[j]≤kv a[a.size-1])(h:∀ g o,PmS a b o→Q o (setG st g)):
  wpS (model prog w) A E s (X0 a b) Q st:=by
 unfold X0;refine zH (wpS_lift (wpAny_rule ⟨rfl,?_⟩));refine zH (Zl (show a.size-1<a.size by lia) ?_)
 have hla0:a.size-1<a.size:=by lia
 have pm0:PMH a b #[a[a.size-1]] (a.size-1) b.size:=PMH.a1 (out:=#[]) (na:=a.size) (nb:=b.size) ⟨by simp,⟨List.Pairwise.nil,by rw[show a.toList.take a.size=a.toList from List.take_of_length_le (by simp)];exact sa,by rw[show b.toList.take b.size=b.toList from List.take_of_length_le (by simp)];exact sb,Below.nil_r,Below.nil_r⟩⟩ hla0 (by lia) (YN sb (show b.size-1<b.size by lia) (by lia) (Vm (P:=fun y=>kv b[b.size-1]≤kv y) (hlast _ _ hla0)))
 show wpS _ _ _ _ (if(a.size-1==0)=true then _ else _) _ _;by_cases h1:a.size-1=0
 ·rw[if_pos (by simpa using h1)]
  exact zI (h (gallopOf st) _ (by have z:=X9 pm0 (by lia) (by lia) (by lia);exact z))
 rw[if_neg (by simpa using h1)]
 by_cases h2:b.size=1
 ·rw[if_pos (by simpa using h2)]
  exact zI (h (gallopOf st) _ (by have z:=Wx pm0 (by lia) (by lia) (by lia) sa hfst;exact z))
 rw[if_neg (by simpa using h2)]
 refine zH (wpS_get ?_);refine zH (wpS_mono (zJ (I:=fun x c st'=>(∃ g,st'=setG st g)∧∃ out na nb mg,c=(none,na,nb,out,mg)∧MHiS a b out na nb∧x+na+nb≤a.size+b.size) (Q:=fun c st'=>(∃ g,st'=setG st g)∧UI a b c) ?step ?fin
  ⟨⟨gallopOf st,rfl⟩,_,a.size-1,b.size,_,rfl,⟨by lia,by lia,by lia,by lia,pm0⟩,show 0+(a.size-1)+b.size≤a.size+b.size by lia⟩) ?post)
 case fin =>
  rintro c st' ⟨_,out,ia,ib,mg,rfl,hM,hx⟩
  have:=hM.la
  have:=hM.lb
  lia
 case post =>
  rintro c st' ⟨⟨g,rfl⟩,o,ho,hp⟩;obtain⟨r,c⟩:=c;obtain rfl:r=some o:=ho;exact zI (h g o hp)
 case step =>
  rintro x c st' _ hx ⟨⟨g,rfl⟩,out,ia,ib,mg,rfl,hM,hxi⟩;refine zH (wpS_mono (zJ (I:=fun y c st'=>st'=setG st g∧∃ out ia' ib' ac bc,c=(none,ia',ib',out,ac,bc)∧MHiS a b out ia' ib'∧y+ia'+ib'≤ia+ib) (Q:=fun c st'=>st'=setG st g∧(UI a b c∨∃ out ia' ib' ac bc,c=(none,ia',ib',out,ac,bc)∧MHiS a b out ia' ib'∧1+ia'+ib'≤ia+ib)) ?step1 ?fin1
   ⟨rfl,_,ia,ib,_,_,rfl,hM,show 0+ia+ib≤ia+ib by lia⟩) ?post1)
  case fin1 =>
   rintro c st' ⟨_,out,ia,ib,_,_,rfl,hM,hx⟩
   have:=hM.la
   have:=hM.lb
   lia
  case step1 =>
   rintro y c st' _ hy ⟨rfl,out,ia',ib',ac,bc,rfl,hM,hxi⟩;obtain⟨p,rfl⟩:∃ p,ia'=p+1:=⟨ia'-1,(Nat.sub_add_cancel hM.la).symm⟩;obtain⟨q,rfl⟩:∃ q,ib'=q+1+1:=⟨ib'-2,(Nat.sub_add_cancel hM.lb).symm⟩;have hua:=hM.ua;have hub:=hM.ub;have hpm:=hM.pm;clear hM h1 h2 ha0 hb0 hla0 pm0 hlast hx;have hib:q+1<b.size:=hub;have hia:p<a.size:=hua;refine zH (Zl hib (zH (Zl hia (zH (U8 hk (hb _ _) (ha _ _) ?_)))));show wpS _ _ _ _ (if decide (kv b[q+1]<kv a[p])=true then _ else _) _ _;cases hr:decide (kv b[q+1]<kv a[p]) with
   | true =>
    refine zH (Zl hia ?_);have pm:=hpm.a1 hia rfl (YN sb hib (Nat.le_refl _) (Vm (P:=fun y=>kv b[q+1]≤kv y) (Int.le_of_lt (of_decide_eq_true hr))));show wpS _ _ _ _ (if(p==0)=true then _ else _) _ _;by_cases h3:p=0
    ·rw[if_pos (by simpa using h3)]
     exact zI ⟨rfl,.inl ⟨_,rfl,(by have z:=X9 pm (Nat.le_of_lt hia) hub (.inl h3);exact z)⟩⟩
    rw[if_neg (by simpa using h3)]
    by_cases h4:ac+1≥mg
    ·rw[if_pos h4];exact zI ⟨rfl,.inr ⟨_,p,q+1+1,_,_,rfl,⟨Nat.pos_of_ne_zero h3,Nat.le_of_lt hia,Nat.le_add_left _ _,hub,pm⟩,by lia⟩⟩
    ·rw[if_neg h4];exact zI ⟨rfl,_,p,q+1+1,_,_,rfl,⟨Nat.pos_of_ne_zero h3,Nat.le_of_lt hia,Nat.le_add_left _ _,hub,pm⟩,by lia⟩
   | false =>
    refine zH (Zl hib ?_);have pm:=hpm.b1 hib rfl (YN sa hia (Nat.le_refl _) (Vm (P:=fun y=>kv a[p]≤kv y) (Int.not_lt.mp (of_decide_eq_false hr))));show wpS _ _ _ _ (if(q+1==1)=true then _ else _) _ _;by_cases h3:q+1=1
    ·rw[if_pos (by simpa using h3)]
     exact zI ⟨rfl,.inl ⟨_,rfl,(by have z:=Wx pm hua (Nat.le_of_lt hib) h3 sa hfst;exact z)⟩⟩
    rw[if_neg (by simpa using h3)]
    have l3:1<q+1:=by lia
    by_cases h4:bc+1≥mg
    ·rw[if_pos h4];exact zI ⟨rfl,.inr ⟨_,p+1,q+1,_,_,rfl,⟨Nat.succ_pos _,hua,l3,Nat.le_of_lt hib,pm⟩,by lia⟩⟩
    ·rw[if_neg h4];exact zI ⟨rfl,_,p+1,q+1,_,_,rfl,⟨Nat.succ_pos _,hua,l3,Nat.le_of_lt hib,pm⟩,by lia⟩
  case post1 =>
   rintro c st' ⟨rfl,(⟨o,ho,hp⟩ | ⟨out,ia',ib',ac,bc,rfl,hM,hxi'⟩)⟩
   ·obtain⟨r,c⟩:=c;obtain rfl:r=some o:=ho;exact zI ⟨⟨g,rfl⟩,o,rfl,hp⟩
   refine zH (wpS_lift (wpAny_rule ⟨rfl,?_⟩));refine zH (wpS_mono (zJ (I:=fun y c st'=>(∃ g,st'=setG st g)∧∃ out ja jb mg ac bc,c=(none,ja,jb,out,mg,ac,bc)∧MHiS a b out ja jb∧y+ja+jb≤ia'+ib') (Q:=fun c st'=>(∃ g,st'=setG st g)∧(UI a b c∨∃ out ja jb mg ac bc,c=(none,ja,jb,out,mg,ac,bc)∧MHiS a b out ja jb∧ja+jb≤ia'+ib')) ?step2 ?fin2
    ⟨⟨g,rfl⟩,_,ia',ib',_,_,_,rfl,hM,show 0+ia'+ib'≤ia'+ib' by lia⟩) ?post2)
   case fin2 =>
    rintro c st' ⟨_,out,ia,ib,_,_,_,rfl,hM,hx⟩
    have:=hM.la
    have:=hM.lb
    lia
   case post2 =>
    rintro c st' ⟨⟨g2,rfl⟩,(⟨o,ho,hp⟩ | ⟨out,ja,jb,mg2,ac,bc,rfl,hM,hxi2⟩)⟩
    ·obtain⟨r,c⟩:=c;obtain rfl:r=some o:=ho;exact zI ⟨⟨g2,rfl⟩,o,rfl,hp⟩
    ·exact zH (U6 (zI ⟨⟨_,rfl⟩,_,ja,jb,_,rfl,hM,by lia⟩))
   case step2 =>
    rintro y c st' _ hy ⟨⟨g2,rfl⟩,out,ja,jb,mg2,ac,bc,rfl,hM,hxi2⟩;obtain⟨p,rfl⟩:∃ p,ja=p+1:=⟨ja-1,(Nat.sub_add_cancel hM.la).symm⟩;obtain⟨q,rfl⟩:∃ q,jb=q+1+1:=⟨jb-2,(Nat.sub_add_cancel hM.lb).symm⟩;have hua:=hM.ua;have hub:=hM.ub;have hpm:=hM.pm;clear hM h1 h2 ha0 hb0 hla0 pm0 hlast hx hxi hxi' hy;have hib:q+1<b.size:=hub;have hia:p<a.size:=hua;refine' use1 (fun body=>?main) ?body
    case main =>
     show wpS _ _ _ _ (if mg2>1 then _ else _) _ _;by_cases hm:mg2>1
     ·rw[if_pos hm];generalize mg2-1=g';exact body g'
     ·rw[if_neg hm];exact body mg2
    case body =>
     intro g';dsimp only[Nat.add_one_sub_one];refine zH (U6 ?_);refine zH (Zl hib ?_);refine zH (Yf hk (hb _ _) ha (show 0+(p+1)≤a.size by rw[Nat.zero_add];exact hua) (Nat.lt_succ_self p) (Up sa (show 0+(p+1)≤a.size by rw[Nat.zero_add];exact hua)) fun k hkn hbe har=>?_)
     have hkn:k≤p+1:=hkn;have hbe:∀ j,j<k→bey false b[q+1] a 0 j=true:=hbe;have har:∀ j,k≤j→j<p+1→bey false b[q+1] a 0 j=false:=har;have rst:=Wj (Nat.le_trans hkn hua) hbe;refine' use2 (fun out' na=>PMH a b out' na (q+1+1)∧0<na∧na≤p+1∧Below (a.toList.take na) [b[q+1]]) (fun cont=>?m2) ?cont
     case m2 =>
      dsimp only;show wpS _ _ _ _ (if p+1-k>0 then _ else _) _ _;by_cases hk0:p+1-k>0
      ·rw[if_pos hk0];have pm:=hpm.ak hkn hua (Nz sb hib hua har);show wpS _ _ _ _ (if(k==0)=true then _ else _) _ _;by_cases h6:k=0
       ·rw[if_pos (by simpa using h6)]
        exact zI ⟨⟨_,rfl⟩,.inl ⟨_,rfl,(by have z:=X9 pm (Nat.le_trans hkn hua) hub (.inl h6);exact z)⟩⟩
       rw[if_neg (by simpa using h6)]
       have q4:_∧0<k∧k≤p+1∧_:=⟨pm,Nat.pos_of_ne_zero h6,hkn,rst⟩;clear pm h6 hk0;generalize out++(a.extract k (p+1)).reverse=out' at q4 ⊢;generalize k=na at q4 ⊢;exact cont out' na q4
      ·rw[if_neg hk0];have e:k=p+1:=by lia
       rw[e] at rst ⊢;exact cont out (p+1) ⟨hpm,Nat.succ_pos _,Nat.le_refl _,rst⟩
     case cont =>
      clear har hbe rst hkn hpm;rintro out' na ⟨hpm,hn0,hnp,rst⟩;obtain⟨n,rfl⟩:∃ n,na=n+1:=⟨na-1,(Nat.sub_add_cancel hn0).symm⟩;refine zH (Zl hib ?_);have pm:=hpm.b1 hib rfl rst;clear hpm rst;have hnu:n+1≤a.size:=Nat.le_trans hnp hua;show wpS _ _ _ _ (if(q+1==1)=true then _ else _) _ _;by_cases h7:q+1=1
      ·rw[if_pos (by simpa using h7)]
       exact zI ⟨⟨_,rfl⟩,.inl ⟨_,rfl,(by have z:=Wx pm hnu (Nat.le_of_lt hib) h7 sa hfst;exact z)⟩⟩
      rw[if_neg (by simpa using h7)]
      refine zH (Zl (show n<a.size from hnu) ?_)
      refine zH (Yf hk (ha _ _) hb (show 0+(q+1)≤b.size by rw[Nat.zero_add];exact Nat.le_of_lt hib) (Nat.lt_succ_self q) (Up sb (show 0+(q+1)≤b.size by rw[Nat.zero_add];exact Nat.le_of_lt hib)) fun k2 hkn2 hbe2 har2=>?_)
      have hJ:n<a.size:=hnu;have hkn2:k2≤q+1:=hkn2;have hbe2:∀ j,j<k2→bey true (a[n]'hJ) b 0 j=true:=hbe2;have har2:∀ j,k2≤j→j<q+1→bey true (a[n]'hJ) b 0 j=false:=har2;have rst2:=NU (Nat.le_trans hkn2 (Nat.le_of_lt hib)) hbe2;refine' use2 (fun out2 m=>PMH a b out2 (n+1) m∧1<m∧m≤q+1∧Below (b.toList.take m) [a[n]'hJ]) (fun cont2=>?m3) ?cont2
      case m3 =>
       dsimp only;show wpS _ _ _ _ (if q+1-k2>0 then _ else _) _ _;by_cases hk2:q+1-k2>0
       ·rw[if_pos hk2];have pm:=pm.bk hkn2 (Nat.le_of_lt hib) (Ny sa hJ (Nat.le_of_lt hib) har2);show wpS _ _ _ _ (if(k2==1)=true then _ else _) _ _;by_cases h8:k2=1
        ·rw[if_pos (by simpa using h8)]
         exact zI ⟨⟨_,rfl⟩,.inl ⟨_,rfl,(by have z:=Wx pm hnu (Nat.le_trans hkn2 (Nat.le_of_lt hib)) h8 sa hfst;exact z)⟩⟩
        rw[if_neg (by simpa using h8)]
        by_cases h10:k2=0
        ·rw[if_pos (by simpa using h10)]
         exact zI ⟨⟨_,rfl⟩,.inl ⟨_,rfl,(by have z:=X9 pm hnu (Nat.le_trans hkn2 (Nat.le_of_lt hib)) (.inr h10);exact z)⟩⟩
        rw[if_neg (by simpa using h10)]
        have l2:1<k2:=by lia
        have q4:_∧1<k2∧k2≤q+1∧_:=⟨pm,l2,hkn2,rst2⟩;clear pm h8 h10 l2 hk2;generalize out'.push b[q+1]++(b.extract k2 (q+1)).reverse=out2 at q4 ⊢;generalize k2=m at q4 ⊢;exact cont2 out2 m q4
       ·rw[if_neg hk2];have e:k2=q+1:=by lia
        rw[e] at rst2 ⊢;have l2:1<q+1:=by lia
        have q5:PMH a b (out'.push b[q+1]) (n+1) (q+1)∧1<q+1∧q+1≤q+1∧Below (b.toList.take (q+1)) [a[n]'hJ]:=⟨pm,l2,Nat.le_refl _,rst2⟩;have q6:=cont2 (out'.push b[q+1]) (q+1) q5;exact q6
      case cont2 =>
       clear har2 hbe2 rst2 hkn2 pm h7;rintro out2 m ⟨pm,l2,hm2,rst2⟩;refine zH (Zl hJ ?_);have pm:=pm.a1 hJ rfl rst2;have hmb:m≤b.size:=Nat.le_trans hm2 (Nat.le_of_lt hib);show wpS _ _ _ _ (if(n==0)=true then _ else _) _ _;by_cases h9:n=0
       ·rw[if_pos (by simpa using h9)]
        exact zI ⟨⟨_,rfl⟩,.inl ⟨_,rfl,(by have z:=X9 pm (Nat.le_of_lt hJ) hmb (.inl h9);exact z)⟩⟩
       rw[if_neg (by simpa using h9)]
       have z9:n+m≤ia'+ib':=by lia
       have y9:y+1+n+m≤ia'+ib':=by lia
       split
       ·exact zI ⟨⟨_,rfl⟩,.inr ⟨_,n,m,_,_,_,rfl,⟨Nat.pos_of_ne_zero h9,Nat.le_of_lt hJ,l2,hmb,pm⟩,z9⟩⟩
       ·exact zI ⟨⟨_,rfl⟩,_,n,m,_,_,_,rfl,⟨Nat.pos_of_ne_zero h9,Nat.le_of_lt hJ,l2,hmb,pm⟩,y9⟩
def SoTo (xs:Array Keyed)(lo n:Nat):Prop:=∀ i j,i≤j→j<n→K xs (lo+i)≤K xs (lo+j)
def NoInc(xs:Array Keyed)(lo n:Nat):Prop:=∀ i j,i≤j→j<n→K xs (lo+j)≤K xs (lo+i)
structure IK(a0:Array Keyed)(p:Array (Nat×Nat×Nat))(lo:Nat)(a1:Array Keyed)(st:SortSt):Prop where
 i:ISt a0 p st
 k:∀ k,k<lo→K (arrOf st) k=K a1 k
theorem SoTo.snoc{xs:Array Keyed}{lo x:Nat}(h:SoTo xs lo x)(hx:1≤x)(hle:K xs (lo+x-1)≤K xs (lo+x)):SoTo xs lo (x+1):=fun i j hij hj=>by
 by_cases hjx:j<x
 ·exact h i j hij hjx
 ·have e:j=x:=by lia
  subst e;by_cases e:i=j
  ·subst e;exact Int.le_refl _
  ·have:=h i (j-1) (by lia) (by lia)
   rw[show lo+(j-1)=lo+j-1 by lia] at this
   exact Int.le_trans this hle
theorem NoInc.snoc{xs:Array Keyed}{lo x:Nat}(h:NoInc xs lo x)(hx:1≤x)(hle:K xs (lo+x)≤K xs (lo+x-1)):NoInc xs lo (x+1):=fun i j hij hj=>by
 by_cases hjx:j<x
 ·exact h i j hij hjx
 ·have e:j=x:=by lia
  subst e;by_cases e:i=j
  ·subst e;exact Int.le_refl _
  ·have:=h i (j-1) (by lia) (by lia)
   rw[show lo+(j-1)=lo+j-1 by lia] at this
   exact Int.le_trans hle this
theorem NoInc.of{xs ys:Array Keyed}{lo n:Nat}(h:NoInc xs lo n)(e:∀ k,K ys k=K xs k):NoInc ys lo n:=fun i j hij hj=>by rw[e,e];exact h i j hij hj
theorem SoTo.one(xs:Array Keyed)(lo:Nat):SoTo xs lo 1:=fun i j hij hj=>by
 have:i=j:=by lia
 subst this;exact Int.le_refl _
theorem NoInc.one(xs:Array Keyed)(lo:Nat):NoInc xs lo 1:=fun i j hij hj=>by
 have:i=j:=by lia
 subst this;exact Int.le_refl _
theorem K_at{xs:Array Keyed}{i:Nat}(hi:i<xs.size):K xs i=kv xs[i]:=by
 unfold K;rw[getElem?_pos xs i hi];rfl
theorem YJ{st:SortSt}{a0:Array Keyed}{p:Array (Nat×Nat×Nat)}{i j:Nat}{Q:Option Bool→SortSt→Prop}(hA:IntA a0)(hI:ISt a0 p st)(hi:i<a0.size)(hj:j<a0.size)(h:Q (some (decide (K (arrOf st) i<K (arrOf st) j))) st):
  wpS (model prog w) A E s (ltAt' i j) Q st:=by
 obtain⟨hp,hk,hf,hpd⟩:=hI;have hsz:(arrOf st).size=a0.size:=hp.size_eq;have hA1:IntA (arrOf st):=hA.perm hp;rw[ltAt'_eq];refine zH (wpS_get ?_);rw[K_at (show i<(arrOf st).size by lia),K_at (show j<(arrOf st).size by lia)] at h
 exact zH (Zl (show i<(arrOf st).size by lia) (zH (Zl (show j<(arrOf st).size by lia) (U8 hk (hA1 _ _) (hA1 _ _) h))))
theorem U7{st:SortSt}{a0 a1:Array Keyed}{p:Array (Nat×Nat×Nat)}{lo i j:Nat}{Q:Unit→SortSt→Prop}(hI:IK a0 p lo a1 st)(hi:lo≤i)(hj:j≤a0.size)(h:∀ st',IK a0 p lo a1 st'→arrOf st'=mirror (arrOf st) i j ((j-i) / 2)→Q () st'):
  wpS (model prog w) A E s (reverseSlice' i j) Q st:=by
 rw[reverseSlice'_eq];refine wpS_modify (h _ ⟨hI.i.arr (mirror_perm _ _ _ _),fun k hk=>?_⟩ rfl);show K (mirror (arrOf st) i j ((j-i) / 2)) k=_;rw[K_mirror (by rw[hI.i.1.size_eq];exact hj),if_neg (by lia)]
 exact hI.k k hk
theorem JM{st:SortSt}{a0 a1:Array Keyed}{p:Array (Nat×Nat×Nat)}{lo nrem:Nat}{Q:Option Nat→SortSt→Prop}(hA:IntA a0)(hI:IK a0 p lo a1 st)(hn:lo+nrem≤a0.size)(h1:1≤nrem)(h:∀ m st',IK a0 p lo a1 st'→1≤m→m≤nrem→SoTo (arrOf st') lo m→Q (some m) st'):
  wpS (model prog w) A E s (countRun' lo nrem) Q st:=by
 unfold countRun';refine zH (wpS_mono (zJ (I:=fun x c st'=>st'=st∧c=(none,x)∧SoTo (arrOf st) lo x) (Q:=fun c st'=>st'=st∧∃ x,1≤x∧x≤nrem∧c=(none,x)∧SoTo (arrOf st) lo x∧(x=nrem∨K (arrOf st) (lo+x)<K (arrOf st) (lo+x-1))) ?step ?fin ⟨rfl,rfl,SoTo.one _ _⟩) ?post)
 case fin =>
  rintro c st' ⟨rfl,rfl,hs⟩;rw[show max 1 nrem=nrem by lia] at hs ⊢
  exact⟨rfl,_,h1,by lia,rfl,hs,.inl rfl⟩
 case step =>
  rintro x c st' hx1 hx2 ⟨rfl,rfl,hs⟩;refine zH (YJ hA hI.i (show lo+x<a0.size by lia) (show lo+x-1<a0.size by lia) ?_)
  cases hr:decide (K (arrOf st') (lo+x)<K (arrOf st') (lo+x-1)) with
  | true=>exact zI ⟨rfl,x,hx1,by lia,rfl,hs,.inr (of_decide_eq_true hr)⟩
  | false=>exact zI ⟨rfl,rfl,hs.snoc hx1 (Int.not_lt.mp (of_decide_eq_false hr))⟩
 case post =>
  rintro c st' ⟨rfl,n,hn1,hn2,rfl,hs,hor⟩;show wpS _ _ _ _ (if(n==nrem)=true then _ else _) _ _;by_cases h2:n=nrem
  ·rw[if_pos (by simpa using h2)]
   exact zI (h _ _ hI hn1 hn2 hs)
  rw[if_neg (by simpa using h2)]
  have hlt:=hor.resolve_left h2;refine' (fun(desc:∀ st2,IK a0 p lo a1 st2→NoInc (arrOf st2) lo (n+1)→wpS (model prog w) A E s _ Q st2)=>?main) ?desc
  case main =>
   show wpS _ _ _ _ (if n>1 then _ else _) _ _;by_cases hgt:n>1
   ·rw[if_pos hgt];refine zH (YJ hA hI.i (show lo<a0.size by lia) (show lo+n-1<a0.size by lia) ?_)
    cases hr:decide (K (arrOf st') lo<K (arrOf st') (lo+n-1)) with
    | true=>exact zI (h _ _ hI hn1 hn2 hs)
    | false =>
     have hr:=of_decide_eq_false hr;have all:∀ k,lo≤k→k<lo+n→K (arrOf st') k=K (arrOf st') (lo+n-1):=fun k g1 g2=>by
      have a1:=hs 0 (k-lo) (by lia) (by lia)
      have a2:=hs (k-lo) (n-1) (by lia) (by lia)
      rw[show lo+(k-lo)=k by lia] at a1 a2
      rw[show lo+(n-1)=lo+n-1 by lia] at a2
      rw[Nat.add_zero] at a1;lia
     refine zH (U7 hI (Nat.le_refl _) (show lo+n≤a0.size by lia) fun st2 hI2 e2=>?_)
     refine desc st2 hI2 ?_;have hsz:lo+n≤(arrOf st').size:=by rw[hI.i.1.size_eq];lia
     have eK:∀ k,K (arrOf st2) k=K (arrOf st') k:=fun k=>by rw[e2];exact K_mirror_equal hsz all k
     refine NoInc.snoc (fun i j hij hj=>?_) hn1 ?_
     ·rw[eK,eK,all _ (by lia) (by lia),all (lo+i) (by lia) (by lia)];exact Int.le_refl _
     ·rw[eK,eK];exact Int.le_of_lt hlt
   ·rw[if_neg hgt];have e1:n=1:=by lia
    subst e1;exact desc st' hI (NoInc.snoc (NoInc.one _ _) hn1 (Int.le_of_lt hlt))
  case desc =>
   intro st2 hI2 hN2;refine zH (wpS_lift (wpAny_rule ⟨rfl,?_⟩));refine zH (wpS_mono (zJ (a:=n+1) (b:=nrem) (I:=fun x c st'=>IK a0 p lo a1 st'∧∃ q,c=(none,x,q)∧NoInc (arrOf st') lo x∧q+1≤x∧(∀ i,lo+x-(q+1)≤i→i<lo+x→K (arrOf st') i=K (arrOf st') (lo+x-1))) (Q:=fun c st'=>IK a0 p lo a1 st'∧∃ m q,n+1≤m∧m≤nrem∧c=(none,m,q)∧NoInc (arrOf st') lo m∧q+1≤m∧(∀ i,lo+m-(q+1)≤i→i<lo+m→K (arrOf st') i=K (arrOf st') (lo+m-1))) ?_ ?_ ⟨hI2,0,rfl,hN2,by lia,fun i g1 g2=>by congr 1;lia⟩) ?_)
   ·rintro x c st3 hx1 hx2 ⟨hI3,q,rfl,hN3,hq,he⟩;have hsz:lo+x≤(arrOf st3).size:=by rw[hI3.i.1.size_eq];lia
    refine zH (YJ hA hI3.i (show lo+x<a0.size by lia) (show lo+x-1<a0.size by lia) ?_)
    cases hr:decide (K (arrOf st3) (lo+x)<K (arrOf st3) (lo+x-1)) with
    | true =>
     have hN4:=hN3.snoc (by lia) (Int.le_of_lt (of_decide_eq_true hr))
     show wpS _ _ _ _ (if q>0 then _ else _) _ _;split
     ·refine zH (U7 hI3 (show lo≤lo+x-(q+1) by lia) (show lo+x≤a0.size by lia) fun st4 hI4 e4=>zI ⟨hI4,0,rfl,hN4.of fun k=>?_,by lia,fun i g1 g2=>by congr 1;lia⟩)
      rw[e4];exact K_mirror_equal hsz he k
     ·exact zI ⟨hI3,0,rfl,hN4,by lia,fun i g1 g2=>by congr 1;lia⟩
    | false =>
     have hr:=of_decide_eq_false hr;refine zH (YJ hA hI3.i (show lo+x-1<a0.size by lia) (show lo+x<a0.size by lia) ?_)
     cases hr2:decide (K (arrOf st3) (lo+x-1)<K (arrOf st3) (lo+x)) with
     | true=>exact zI ⟨hI3,x,q,by lia,by lia,rfl,hN3,hq,he⟩
     | false =>
      have hr2:=of_decide_eq_false hr2;have ex:K (arrOf st3) (lo+x)=K (arrOf st3) (lo+x-1):=by lia
      refine zI ⟨hI3,q+1,rfl,hN3.snoc (by lia) (by lia),by lia,fun i g1 g2=>?_⟩
      rw[show lo+(x+1)-1=lo+x by lia]
      by_cases e:i=lo+x
      ·rw[e]
      ·rw[ex];exact he i (by lia) (by lia)
   ·rintro c st3 ⟨hI3,q,rfl,hN3,hq,he⟩;rw[show max (n+1) nrem=nrem by lia] at hN3 hq he ⊢
    exact⟨hI3,nrem,q,by lia,by lia,rfl,hN3,hq,he⟩
   ·rintro c st3 ⟨hI3,m,q,hm1,hm2,rfl,hN3,hq,he⟩;have hsz:lo+m≤(arrOf st3).size:=by rw[hI3.i.1.size_eq];lia
    refine' (fun(tail:∀ st4,IK a0 p lo a1 st4→NoInc (arrOf st4) lo m→wpS (model prog w) A E s _ Q st4)=>?main2) ?tail
    case main2 =>
     show wpS _ _ _ _ (if q>0 then _ else _) _ _;by_cases hq0:q>0
     ·rw[if_pos hq0];refine zH (U7 hI3 (show lo≤lo+m-(q+1) by lia) (show lo+m≤a0.size by lia) fun st4 hI4 e4=>?_)
      exact tail st4 hI4 (hN3.of fun k=>by rw[e4];exact K_mirror_equal hsz he k)
     ·rw[if_neg hq0];exact tail st3 hI3 hN3
    case tail =>
     intro st4 hI4 hN4;refine zH (U7 hI4 (Nat.le_refl _) (show lo+m≤a0.size by lia) fun st5 hI5 e5=>?_)
     have hsz4:lo+m≤(arrOf st4).size:=by rw[hI4.i.1.size_eq];lia
     have hs5:SoTo (arrOf st5) lo m:=fun i j hij hj=>by
      rw[e5,K_mirror hsz4,K_mirror hsz4,if_pos (by lia),if_pos (by lia)]
      have:=hN4 (m-1-j) (m-1-i) (by lia) (by lia)
      rw[show lo+(m-1-j)=lo+(lo+m)-1-(lo+j) by lia,show lo+(m-1-i)=lo+(lo+m)-1-(lo+i) by lia] at this
      exact this
     refine zH (wpS_mono (zJ (a:=m) (b:=nrem) (I:=fun x c st'=>st'=st5∧c=(none,x)∧SoTo (arrOf st5) lo x) (Q:=fun c st'=>st'=st5∧∃ x,1≤x∧x≤nrem∧c=(none,x)∧SoTo (arrOf st5) lo x) ?_ ?_ ⟨rfl,rfl,hs5⟩) ?_)
     ·rintro x c st6 hx1 hx2 ⟨rfl,rfl,hs6⟩;refine zH (YJ hA hI5.i (show lo+x<a0.size by lia) (show lo+x-1<a0.size by lia) ?_)
      cases hr:decide (K (arrOf st6) (lo+x)<K (arrOf st6) (lo+x-1)) with
      | true=>exact zI ⟨rfl,x,by lia,by lia,rfl,hs6⟩
      | false=>exact zI ⟨rfl,rfl,hs6.snoc (by lia) (Int.not_lt.mp (of_decide_eq_false hr))⟩
     ·rintro c st6 ⟨rfl,rfl,hs6⟩;rw[show max m nrem=nrem by lia] at hs6 ⊢
      exact⟨rfl,nrem,by lia,by lia,rfl,hs6⟩
     ·rintro c st6 ⟨rfl,x,hx1,hx2,rfl,hs6⟩;exact zI (h _ _ hI5 hx1 hx2 hs6)
theorem Qw{st:SortSt}{a0 a1:Array Keyed}{p:Array (Nat×Nat×Nat)}{lo n ok:Nat}{Q:Bool→SortSt→Prop}(hA:IntA a0)(hI:IK a0 p lo a1 st)(hn:lo+n≤a0.size)(hok:ok≤n)(hs:SoTo (arrOf st) lo ok)(h:∀ st',IK a0 p lo a1 st'→SoTo (arrOf st') lo n→Q true st'):
  wpS (model prog w) A E s (binarySort' lo n ok) Q st:=by
 unfold binarySort';refine zH (wpS_mono (zJ (I:=fun k c st'=>c=(none,())∧IK a0 p lo a1 st'∧SoTo (arrOf st') lo (min k n)) (Q:=fun c st'=>c=(none,())∧IK a0 p lo a1 st'∧SoTo (arrOf st') lo n) ?_ ?_ ⟨rfl,hI,fun i j hij hj=>?_⟩) ?_)
 ·rintro k c st' hk1 hk2 ⟨rfl,hI',hs'⟩;rw[show min k n=k by lia] at hs'
  refine zH (wpS_mono (zJ (I:=fun x c st''=>st''=st'∧∃ l r,c=(none,l,r)∧l≤r∧r≤k∧r-l≤k-x∧(∀ i,i<l→K (arrOf st') (lo+i)≤K (arrOf st') (lo+k))∧(∀ i,r≤i→i<k→K (arrOf st') (lo+k)<K (arrOf st') (lo+i)))
   (Q:=fun c st''=>st''=st'∧∃ l r,c=(none,l,r)∧l≤k∧(∀ i,i<l→K (arrOf st') (lo+i)≤K (arrOf st') (lo+k))∧(∀ i,l≤i→i<k→K (arrOf st') (lo+k)<K (arrOf st') (lo+i))) ?_ ?_ ⟨rfl,0,k,rfl,by lia,by lia,by lia,fun i hi=>by lia,fun i g1 g2=>by lia⟩) ?_)
  ·rintro x c st'' _ hx ⟨rfl,l,r,rfl,hlr,hrk,hm,hlo,hhi⟩;show wpS _ _ _ _ (if l≥r then _ else _) _ _;by_cases hge:l≥r
   ·rw[if_pos hge]
    have:l=r:=by lia
    subst this;exact zI ⟨rfl,l,l,rfl,hrk,hlo,hhi⟩
   ·rw[if_neg hge];refine zH (YJ hA hI'.i (show lo+k<a0.size by lia) (show lo+(l+r) / 2<a0.size by lia) ?_)
    cases hr:decide (K (arrOf st'') (lo+k)<K (arrOf st'') (lo+(l+r) / 2)) with
    | true=>exact zI ⟨rfl,l,(l+r) / 2,rfl,by lia,by lia,by lia,hlo,fun i g1 g2=>Int.lt_of_lt_of_le (of_decide_eq_true hr) (hs' _ _ g1 g2)⟩
    | false=>exact zI ⟨rfl,(l+r) / 2+1,r,rfl,by lia,by lia,by lia,fun i g1=>Int.le_trans (hs' i ((l+r) / 2) (by lia) (by lia)) (Int.not_lt.mp (of_decide_eq_false hr)),hhi⟩
  ·rintro c st'' ⟨rfl,l,r,rfl,hlr,hrk,hm,hlo,hhi⟩
   have:l=r:=by lia
   subst this;exact⟨rfl,l,l,rfl,hrk,hlo,hhi⟩
  ·rintro c st'' ⟨rfl,l,r,rfl,hlk,hlo,hhi⟩;show wpS _ _ _ _ (moveDown' (lo+k) (lo+l) >>= _) _ _;rw[moveDown'_eq];have hks:lo+k<(arrOf st'').size:=by rw[hI'.i.1.size_eq];lia
   have e:lo+k-(lo+l)=k-l:=by lia
   have eB:∀ i,K (bubble (arrOf st'') (lo+k) (lo+k-(lo+l))) i=if i=lo+l then K (arrOf st'') (lo+k) else if lo+l<i∧i≤lo+k then K (arrOf st'') (i-1) else K (arrOf st'') i:=fun i=>by
    rw[K_bubble hks (by lia),show lo+k-(lo+k-(lo+l))=lo+l by lia]
   refine zH (wpS_modify (zI ⟨rfl,⟨hI'.i.arr (bubble_perm _ _ _),fun i hi=>?_⟩,?_⟩))
   ·show K (bubble (arrOf st'') (lo+k) (lo+k-(lo+l))) i=_;rw[eB,if_neg (by lia),if_neg (by lia)]
    exact hI'.k i hi
   ·rw[show min (k+1) n=k+1 by lia]
    intro i j hij hj;show K (bubble (arrOf st'') (lo+k) (lo+k-(lo+l))) (lo+i)≤K (bubble (arrOf st'') (lo+k) (lo+k-(lo+l))) (lo+j);rw[eB,eB];have back:∀ z,0<z→lo+z-1=lo+(z-1):=fun z hz=>by lia
    by_cases i1:i=l
    ·subst i1;rw[if_pos rfl];by_cases j1:j=i
     ·subst j1;rw[if_pos rfl];exact Int.le_refl _
     ·rw[if_neg (by lia)]
      by_cases j2:j≤k
      ·rw[if_pos (by lia),back j (by lia)];exact Int.le_of_lt (hhi _ (by lia) (by lia))
      ·lia
    ·rw[if_neg (by lia:¬ lo+i=lo+l)]
     by_cases i2:l<i
     ·rw[if_pos (by lia),if_neg (by lia),if_pos (by lia),back i (by lia),back j (by lia)]
      exact hs' _ _ (by lia) (by lia)
     ·rw[if_neg (by lia)]
      by_cases j1:j=l
      ·subst j1;rw[if_pos rfl];exact hlo _ (by lia)
      ·rw[if_neg (by lia)]
       by_cases j2:l<j
       ·rw[if_pos (by lia),back j (by lia)];exact hs' _ _ (by lia) (by lia)
       ·rw[if_neg (by lia)];exact hs' _ _ (by lia) (by lia)
 ·rintro c st' ⟨rfl,hI',hs'⟩;rw[show min (max (max ok 1) n) n=n by lia] at hs'
  exact⟨rfl,hI',hs'⟩
 ·by_cases h0:ok=0
  ·have:i=j:=by lia
   subst this;exact Int.le_refl _
  ·exact hs i j hij (by lia)
 ·rintro c st' ⟨rfl,hI',hs'⟩;exact zI (h _ hI' hs')
theorem SoTo.bey{left:Bool}{key:Keyed}{arr:Array Keyed}{base n:Nat}(hs:SoTo arr base n)(hn:base+n≤arr.size):∀ i j,i≤j→j<n→bey left key arr base j=true→bey left key arr base i=true:=by
 intro i j hij hj e;have hle:=hs i j hij hj;rw[K_at (show base+i<arr.size by lia),K_at (show base+j<arr.size by lia)] at hle
 have hle:kv (arr[base+i]'(by lia))≤kv (arr[base+j]'(by lia)):=hle
 rw[YD (by lia)] at e ⊢
 cases left with
 | true =>
  have:=of_decide_eq_true (show decide (kv (arr[base+j]'(by lia))<kv key)=true from e)
  exact decide_eq_true (show kv (arr[base+i]'(by lia))<kv key by lia)
 | false =>
  have e:(!decide (kv key<kv (arr[base+j]'(by lia))))=true:=e
  have:¬ kv key<kv (arr[base+j]'(by lia)):=by simpa using e
  show(!decide (kv key<kv (arr[base+i]'(by lia))))=true
  rw[decide_eq_false (by lia)];rfl
theorem SoTo.srt{xs:Array Keyed}{lo n:Nat}(h:SoTo xs lo n)(hn:lo+n≤xs.size):Srt ((xs.toList.drop lo).take n):=by
 refine List.pairwise_iff_getElem.mpr fun i j hi hj hij=>?_;rw[List.length_take,List.length_drop,Array.length_toList] at hi hj
 have:=h i j (by lia) (by lia)
 rw[K_at (show lo+i<xs.size by lia),K_at (show lo+j<xs.size by lia)] at this
 simpa[kv] using this
theorem MH{L:List Keyed}{at_ to:Nat}{a:Array Keyed}(h1:at_≤to)(h2:to≤a.size)(hl:L.length=to-at_):
  ((L.zipIdx).foldl (fun a x=>match x with | (p,j)=>a.setIfInBounds (at_+j) p) a).toList=a.toList.take at_++L++a.toList.drop to:=by
 rw[Ve L 0 at_ a (by lia),Nat.add_zero,show at_+L.length=to by lia]
theorem Q6{st:SortSt}{a0:Array Keyed}{n1 n2 pw z:Nat}{Q:Bool→SortSt→Prop}(hA:IntA a0)(hI:ISt a0 #[(0,n1,pw),(n1,n2,z)] st)(h1:0<n1)(h2:0<n2)(hn:n1+n2=a0.size)(hs1:SoTo (arrOf st) 0 n1)(hs2:SoTo (arrOf st) n1 n2)(h:∀ st',ISt a0 #[(0,n1+n2,pw)] st'→Srt (arrOf st').toList→Q true st'):
  wpS (model prog w) A E s (mergeAt' 0) Q st:=by
 obtain⟨hp,hk,hf,hpd⟩:=hI;unfold mergeAt';refine zH (wpS_get ?_);have e0:(pendingOf st)[0]?=some (0,n1,pw):=by rw[hpd];rfl
 have e1:(pendingOf st)[0+1]?=some (n1,n2,z):=by rw[hpd];rfl
 have hsz:(arrOf st).size=a0.size:=hp.size_eq;have hA1:IntA (arrOf st):=hA.perm hp;have epd:((pendingOf st).setIfInBounds 0 (0,n1+n2,pw)).eraseIdxIfInBounds (0+1) = #[(0,n1+n2,pw)]:=by
  rw[hpd];apply Array.ext';simp[Array.eraseIdxIfInBounds]
 rw[e0,e1];show wpS _ _ _ _ (set (SortSt.mk' (kindOf st) (arrOf st) (((pendingOf st).setIfInBounds 0 (0,n1+n2,pw)).eraseIdxIfInBounds (0+1)) (gallopOf st) (failedOf st)) >>= _) _ _;rw[epd];refine zH (NC ?_);have hk1:kindOf (SortSt.mk' (kindOf st) (arrOf st) #[(0,n1+n2,pw)] (gallopOf st) (failedOf st))=oneType':=hk;have hI1:ISt a0 #[(0,n1+n2,pw)] (SortSt.mk' (kindOf st) (arrOf st) #[(0,n1+n2,pw)] (gallopOf st) (failedOf st)):=⟨hp,hk,hf,rfl⟩;have hn1:n1<(arrOf st).size:=by lia
 refine zH (Zl hn1 ?_);refine zH (Yf hk1 (hA1 _ _) hA1 (show 0+n1≤(arrOf st).size by lia) h1 (hs1.bey (show 0+n1≤(arrOf st).size by lia)) fun k hkn hbe har=>?_)
 have hbe:∀ i,i<k→bey false ((arrOf st)[n1]'hn1) (arrOf st) 0 i=true:=hbe;have har:∀ i,k≤i→i<n1→bey false ((arrOf st)[n1]'hn1) (arrOf st) 0 i=false:=har;have sA:Srt ((arrOf st).toList.take n1):=by have:=hs1.srt (by lia);rwa[List.drop_zero] at this
 have sB:Srt ((arrOf st).toList.drop n1):=by
  have:=hs2.srt (by lia)
  rwa[List.take_of_length_le (by rw[List.length_drop,Array.length_toList];lia)] at this
 have lowA:Below ((arrOf st).toList.take k) ((arrOf st).toList.drop n1):=fun x hx y hy=>by
  have a1:=Wj (show k≤(arrOf st).size by lia) hbe x hx _ (List.mem_singleton.mpr rfl)
  have a2:=Jc hn1 sB (Int.le_refl _) _ (List.mem_singleton.mpr rfl) y hy;lia
 show wpS _ _ _ _ (if(n1-k==0)=true then _ else _) _ _;by_cases h3:n1-k=0
 ·rw[if_pos (by simpa using h3)]
  refine zI (h _ hI1 ?_);show Srt (arrOf st).toList;rw[show k=n1 by lia] at lowA
  have:=sA.app sB lowA
  rwa[List.take_append_drop] at this
 rw[if_neg (by simpa using h3)]
 have hl1:n1-1<(arrOf st).size:=by lia
 have hl2:0+k+(n1-k)-1=n1-1:=by lia
 refine zH (Zl (show 0+k+(n1-k)-1<(arrOf st).size by lia) ?_)
 refine zH (Yf hk1 (hA1 _ _) hA1 (show n1+n2≤(arrOf st).size by lia) (show n2-1<n2 by lia) (hs2.bey (show n1+n2≤(arrOf st).size by lia)) fun m hmn hbe2 har2=>?_)
 have har2:∀ i,m≤i→i<n2→bey true ((arrOf st)[n1-1]'hl1) (arrOf st) n1 i=false:=by
  have har2:∀ i,m≤i→i<n2→bey true ((arrOf st)[0+k+(n1-k)-1]'(by lia)) (arrOf st) n1 i=false:=har2
  simpa only[hl2] using har2
 have hbe2:∀ i,i<m→bey true ((arrOf st)[n1-1]'hl1) (arrOf st) n1 i=true:=by
  have hbe2:∀ i,i<m→bey true ((arrOf st)[0+k+(n1-k)-1]'(by lia)) (arrOf st) n1 i=true:=hbe2
  simpa only[hl2] using hbe2
 have topA:∀ x∈(arrOf st).toList.take n1,kv x≤kv ((arrOf st)[n1-1]'hl1):=fun x hx=>by
  obtain⟨j,hj,hs,rfl⟩:=J9 hx
  have:=hs1 j (n1-1) (by lia) (by lia)
  rw[K_at (show 0+j<(arrOf st).size by lia),K_at (show 0+(n1-1)<(arrOf st).size by lia)] at this
  simpa[kv] using this
 have highB:Below ((arrOf st).toList.take n1) ((arrOf st).toList.drop (n1+m)):=fun x hx y hy=>by
  have a1:=topA x hx;have a2:=VM (show n1+n2=(arrOf st).size by lia) har2 _ (List.mem_singleton.mpr rfl) y hy
  lia
 show wpS _ _ _ _ (if(m==0)=true then _ else _) _ _;by_cases h4:m=0
 ·rw[if_pos (by simpa using h4)]
  refine zI (h _ hI1 ?_);show Srt (arrOf st).toList;rw[h4] at highB
  have:=sA.app sB highB
  rwa[List.take_append_drop] at this
 rw[if_neg (by simpa using h4)]
 have sx:((arrOf st).extract (0+k) n1).size=n1-k:=by rw[Array.size_extract];lia
 have sy:((arrOf st).extract n1 (n1+m)).size=m:=by rw[Array.size_extract];lia
 have x1:((arrOf st).extract (0+k) n1).toList=((arrOf st).toList.drop k).take (n1-k):=by simp
 have x2:((arrOf st).extract n1 (n1+m)).toList=((arrOf st).toList.drop n1).take m:=by simp
 obtain⟨-,sX,bX⟩:=Srt.of (show Srt ((arrOf st).toList.take k++((arrOf st).toList.drop k).take (n1-k)) by rw[←Je _ (show k≤n1 by lia)];exact sA)
 obtain⟨sY,sB2,bY⟩:=Srt.of (show Srt (((arrOf st).toList.drop n1).take m++(arrOf st).toList.drop (n1+m)) by rw[←U4];exact sB)
 have sA1:Srt ((arrOf st).toList.take k):=List.Pairwise.sublist (by rw[show(arrOf st).toList.take k=((arrOf st).toList.take n1).take k by rw[List.take_take];congr 1;lia];exact List.take_sublist _ _) sA
 have inX:∀ x∈((arrOf st).toList.drop k).take (n1-k),x∈(arrOf st).toList.take n1:=fun x hx=>by rw[Je _ (show k≤n1 by lia)];exact List.mem_append_right _ hx
 have inA:∀ x∈(arrOf st).toList.take k,x∈(arrOf st).toList.take n1:=fun x hx=>by rw[Je _ (show k≤n1 by lia)];exact List.mem_append_left _ hx
 have inY:∀ x∈((arrOf st).toList.drop n1).take m,x∈(arrOf st).toList.drop n1:=fun x hx=>by rw[U4 _ n1 m];exact List.mem_append_left _ hx
 have fin:∀ g (o:Array Keyed),PmS ((arrOf st).extract (0+k) n1) ((arrOf st).extract n1 (n1+m)) o→Q true (SortSt.mk' (kindOf st) (o.toList.zipIdx.foldl (fun a x=>match x with | (p,j)=>a.setIfInBounds (0+k+j) p) (arrOf st)) #[(0,n1+n2,pw)] g (failedOf st)):=by
  intro g o ⟨ho,so⟩;have hol:=Array.perm_iff_toList_perm.mp ho;rw[Array.toList_append,x1,x2] at hol;have hlen:o.toList.length=n1+m-(0+k):=by
   rw[hol.length_eq,List.length_append,List.length_take,List.length_take,List.length_drop,List.length_drop,Array.length_toList];lia
  refine h _ ⟨(MG (L:=o.toList) (at_:=0+k) (to:=n1+m) (by lia) (by lia) ?_).trans hp,hk,hf,rfl⟩ ?_
  ·refine hol.trans (List.Perm.of_eq ?_);rw[show n1+m-(0+k)=(n1-k)+m by lia,List.take_add,List.drop_drop,Nat.zero_add,show k+(n1-k)=n1 by lia]
  ·show Srt (o.toList.zipIdx.foldl (fun a x=>match x with | (p,j)=>a.setIfInBounds (0+k+j) p) (arrOf st)).toList
   rw[MH (at_:=0+k) (to:=n1+m) (by lia) (by lia) hlen,Nat.zero_add]
   have mo:∀ x∈o.toList,x∈((arrOf st).toList.drop k).take (n1-k)∨x∈((arrOf st).toList.drop n1).take m:=fun x hx=>List.mem_append.mp (hol.mem_iff.mp hx);refine(sA1.app so fun x hx y hy=>?_).app sB2 (Below.appl (fun x hx y hy=>?_) fun x hx y hy=>?_)
   ·rcases mo y hy with q | q
    ·exact bX x hx y q
    ·exact lowA x hx y (inY y q)
   ·exact highB x (inA x hx) y hy
   ·rcases mo x hx with q | q
    ·exact highB x (inX x q) y hy
    ·exact bY x q y hy
 have hfst:∀(g0:0<((arrOf st).extract (0+k) n1).size) (g1:0<((arrOf st).extract n1 (n1+m)).size),kv ((arrOf st).extract n1 (n1+m))[0]<kv ((arrOf st).extract (0+k) n1)[0]:=fun g0 g1=>by
  have e:=har k (Nat.le_refl _) (by lia)
  rw[YD (by lia)] at e
  have:kv ((arrOf st)[n1]'hn1)<kv ((arrOf st)[0+k]'(by lia)):=by simpa using (show(!decide (kv ((arrOf st)[n1]'hn1)<kv ((arrOf st)[0+k]'(by lia))))=false from e)
  rw[Array.getElem_extract,Array.getElem_extract];simpa using this
 have hlast:∀ j (g:j<((arrOf st).extract n1 (n1+m)).size) (g2:((arrOf st).extract (0+k) n1).size-1<((arrOf st).extract (0+k) n1).size),kv ((arrOf st).extract n1 (n1+m))[j]≤kv ((arrOf st).extract (0+k) n1)[((arrOf st).extract (0+k) n1).size-1]:=fun j g g2=>by
  rw[sy] at g;have e:=hbe2 j g;rw[YD (by lia)] at e
  have:kv ((arrOf st)[n1+j]'(by lia))<kv ((arrOf st)[n1-1]'hl1):=of_decide_eq_true (show decide (kv ((arrOf st)[n1+j]'(by lia))<kv ((arrOf st)[n1-1]'hl1))=true from e)
  rw[Array.getElem_extract,Array.getElem_extract];have e3:(arrOf st)[0+k+(((arrOf st).extract (0+k) n1).size-1)]'(by rw[sx];lia)=(arrOf st)[n1-1]'hl1:=by congr 1;rw[sx];lia
  rw[e3];exact Int.le_of_lt this
 have sX':Srt ((arrOf st).extract (0+k) n1).toList:=by rw[x1];exact sX
 have sY':Srt ((arrOf st).extract n1 (n1+m)).toList:=by rw[x2];exact sY
 have px:0<((arrOf st).extract (0+k) n1).size:=by rw[sx];lia
 have py:0<((arrOf st).extract n1 (n1+m)).size:=by rw[sy];lia
 show wpS _ _ _ _ (if n1-k≤m then _ else _) _ _;split
 ·refine zH (Q4 hk1 (hA1.ext _ _) (hA1.ext _ _) px py sX' sY' (hfst px py) hlast fun g o ho=>?_);refine zH (wpS_modify (zH (wpS_get (zI ?_))))
  have:=fin g o ho
  rw[show true=(failedOf st).isNone by rw[hf];rfl] at this
  exact this
 ·refine zH (Q5 hk1 (hA1.ext _ _) (hA1.ext _ _) px py sX' sY' hfst hlast fun g o ho=>?_);refine zH (wpS_modify (zH (wpS_get (zI ?_))))
  have:=fin g o ho
  rw[show true=(failedOf st).isNone by rw[hf];rfl] at this
  exact this
def TwoS (a0:Array Keyed)(st:SortSt):Prop:=∃ n1 n2 pw,0<n1∧0<n2∧n1+n2=a0.size∧ISt a0 #[(0,n1,pw),(n1,n2,0)] st∧SoTo (arrOf st) 0 n1∧SoTo (arrOf st) n1 n2
def OneS (a0:Array Keyed)(st:SortSt):Prop:=∃ pw,ISt a0 #[(0,a0.size,pw)] st∧Srt (arrOf st).toList
theorem IK.zero{a0:Array Keyed}{p:Array (Nat×Nat×Nat)}{st:SortSt}(h:ISt a0 p st):IK a0 p 0 a0 st:=⟨h,fun k hk=>by lia⟩
theorem SoTo.whole{xs:Array Keyed}{n:Nat}(h:SoTo xs 0 n)(hn:n=xs.size):Srt xs.toList:=by
 have:=h.srt (by lia)
 rwa[List.drop_zero,List.take_of_length_le (by rw[Array.length_toList];lia)] at this
theorem SoTo.keep{xs ys:Array Keyed}{n:Nat}(h:SoTo xs 0 n)(e:∀ k,k<n→K ys k=K xs k):SoTo ys 0 n:=fun i j hij hj=>by
 rw[e _ (by lia),e _ (by lia)];exact h i j hij hj
theorem VC{st:SortSt}{a0:Array Keyed}{Q:Unit→SortSt→Prop}(hA:IntA a0)(hI:ISt a0 #[] st)(h64:64≤a0.size)(h128:a0.size<128)(h:∀ st',(arrOf st').Perm a0→failedOf st'=none→Srt (arrOf st').toList→Q () st'):
  wpS (model prog w) A E s sortRuns' Q st:=by
 rw[sortRuns'_eq];refine zH (wpS_get ?_);dsimp only;have hsz:(arrOf st).size=a0.size:=hI.1.size_eq;simp only[hsz,XI h64 h128];generalize hM:a0.size / 2+a0.size % 2=M;refine zH (wpS_mono (zJ
  (I:=fun x c st'=>(x=0∧c=(none,0)∧ISt a0 #[] st')∨(x=1∧∃ n1,c=(none,n1)∧0<n1∧n1<a0.size∧M≤n1∧ISt a0 #[(0,n1,0)] st'∧SoTo (arrOf st') 0 n1)∨(1≤x∧c=(none,a0.size)∧(TwoS a0 st'∨OneS a0 st')))
  (Q:=fun c st'=>c=(none,a0.size)∧(TwoS a0 st'∨OneS a0 st')) ?step ?fin (.inl ⟨rfl,rfl,hI⟩)) ?post)
 case fin =>
  rintro c st' (⟨hx,_,_⟩ | ⟨hx,_⟩ | ⟨_,hc,hD⟩)
  ·lia
  ·lia
  ·exact⟨hc,hD⟩
 case step =>
  rintro x c st' _ hx (⟨rfl,rfl,hB'⟩ | ⟨rfl,n1,rfl,hn1,hn1s,hMn,hB',hs1⟩ | ⟨hx1,rfl,hD⟩)
  ·dsimp only;rw[if_neg (by lia)]
   simp only[Nat.sub_zero,Nat.zero_add];refine zH (JM hA (IK.zero hB') (by lia) (by lia) fun m st2 hB2 hm1 hm2 hs2=>?_)
   dsimp only;have done:∀ st3 n,ISt a0 #[] st3→ISt a0 #[(0,n,0)] (setPending st3 ((pendingOf st3).push (0,n,0))):=fun st3 n hI3=>⟨hI3.1,hI3.2.1,hI3.2.2.1,by show(pendingOf st3).push _=_;rw[hI3.2.2.2];rfl⟩
   by_cases hlt:m<M
   ·rw[if_pos hlt];refine zH (wpS_lift (wpAny_rule ⟨rfl,?_⟩));refine zH (Qw hA hB2 (by lia) (by lia) hs2 fun st3 hB3 hs3=>?_)
    simp only[Bool.not_true,Bool.false_eq_true,if_false];refine zH (wpS_get ?_);have hb:(pendingOf st3).back?=none:=by rw[hB3.i.2.2.2];rfl
    rw[hb];dsimp only;rw[show min a0.size M=M by lia] at hs3 ⊢
    exact zH (wpS_modify (zI (.inr (.inl ⟨trivial,M,rfl,by lia,by lia,by lia,done _ _ hB3.i,hs3⟩))))
   ·rw[if_neg hlt];refine zH (wpS_get ?_);have hb:(pendingOf st2).back?=none:=by rw[hB2.i.2.2.2];rfl
    rw[hb];dsimp only;have hd:=done st2 m hB2.i;by_cases e:m=a0.size
    ·subst e;exact zH (wpS_modify (zI (.inr (.inr ⟨Nat.le_refl _,rfl,.inr ⟨0,hd,hs2.whole hB2.i.1.size_eq.symm⟩⟩))))
    ·exact zH (wpS_modify (zI (.inr (.inl ⟨trivial,m,rfl,by lia,by lia,by lia,hd,hs2⟩))))
  ·dsimp only;rw[if_neg (by lia)]
   refine zH (JM (a1:=arrOf st') hA ⟨hB',fun _ _=>rfl⟩ (by lia) (by lia) fun m st2 hB2 hm1 hm2 hs2=>?_)
   dsimp only;by_cases hlt:m<M
   ·rw[if_pos hlt];refine zH (wpS_lift (wpAny_rule ⟨rfl,?_⟩));refine zH (Qw hA hB2 (by lia) (by lia) hs2 fun st3 hB3 hs3=>?_)
    simp only[Bool.not_true,Bool.false_eq_true,if_false];have hb:(pendingOf st3).back?=some (0,n1,0):=by rw[hB3.i.2.2.2];rfl
    refine zH (wpS_get ?_);rw[hb];dsimp only;refine zH (wpS_mono (zJ (I:=fun _ c st''=>st''=st3∧c=(none,())) (Q:=fun c st''=>st''=st3∧c=(none,())) ?_ (fun _ _ hh=>hh) ⟨rfl,rfl⟩) ?_)
    ·rintro x c st'' _ _ ⟨rfl,rfl⟩;refine zH (wpS_get ?_);rw[if_neg (by rw[hB3.i.2.2.2];show ¬ (1>1);lia)]
     exact zI ⟨rfl,rfl⟩
    ·rintro c st'' ⟨rfl,rfl⟩;dsimp only;refine zH (wpS_modify (zH (wpS_modify (zI (.inr (.inr ⟨by lia,by rw[show n1+min (a0.size-n1) M=a0.size by lia],.inl ⟨n1,min (a0.size-n1) M,power' a0.size (2*0+n1) (2*0+n1+n1+min (a0.size-n1) M) a0.size,hn1,by lia,by lia,⟨hB3.i.1,hB3.i.2.1,hB3.i.2.2.1,?_⟩,hs1.keep hB3.k,hs3⟩⟩))))))
     show((pendingOf st'').modify ((pendingOf st'').size-1) _).push (n1,min (a0.size-n1) M,0)=_;rw[hB3.i.2.2.2];rfl
   ·rw[if_neg hlt];have hb:(pendingOf st2).back?=some (0,n1,0):=by rw[hB2.i.2.2.2];rfl
    refine zH (wpS_get ?_);rw[hb];dsimp only;refine zH (wpS_mono (zJ (I:=fun _ c st''=>st''=st2∧c=(none,())) (Q:=fun c st''=>st''=st2∧c=(none,())) ?_ (fun _ _ hh=>hh) ⟨rfl,rfl⟩) ?_)
    ·rintro x c st'' _ _ ⟨rfl,rfl⟩;refine zH (wpS_get ?_);rw[if_neg (by rw[hB2.i.2.2.2];show ¬ (1>1);lia)]
     exact zI ⟨rfl,rfl⟩
    ·rintro c st'' ⟨rfl,rfl⟩;dsimp only;refine zH (wpS_modify (zH (wpS_modify (zI (.inr (.inr ⟨by lia,by rw[show n1+m=a0.size by lia],.inl ⟨n1,m,power' a0.size (2*0+n1) (2*0+n1+n1+m) a0.size,hn1,by lia,by lia,⟨hB2.i.1,hB2.i.2.1,hB2.i.2.2.1,?_⟩,hs1.keep hB2.k,hs2⟩⟩))))))
     show((pendingOf st'').modify ((pendingOf st'').size-1) _).push (n1,m,0)=_;rw[hB2.i.2.2.2];rfl
  ·dsimp only;rw[if_pos (Nat.le_refl _)];exact zI ⟨rfl,hD⟩
 case post =>
  rintro c st' ⟨rfl,hD⟩;dsimp only;refine zH (wpS_mono (zJ (I:=fun x c st''=>c=(none,())∧((x=0∧TwoS a0 st'')∨OneS a0 st'')) (Q:=fun c st''=>c=(none,())∧OneS a0 st'') ?_ ?_ ⟨rfl,hD.imp (fun z=>⟨rfl,z⟩) id⟩) ?_)
  ·rintro x c st'' _ _ ⟨rfl,(⟨rfl,n1,n2,pw,h1,h2,hn,hT,hs1,hs2⟩ | ⟨pw,hO,hs⟩)⟩
   ·refine zH (wpS_get ?_);rw[if_neg (by rw[hT.2.2.2];show ¬ (2≤1);lia)]
    have hz2:(pendingOf st'').size=2:=by rw[hT.2.2.2];rfl
    simp only[hz2];refine zH (Q6 hA hT h1 h2 hn hs1 hs2 fun st3 h3 hs3=>?_);rw[hn] at h3;exact zI ⟨rfl,.inr ⟨pw,h3,hs3⟩⟩
   ·refine zH (wpS_get ?_);rw[if_pos (by rw[hO.2.2.2];show 1≤1;lia)]
    exact zI ⟨rfl,pw,hO,hs⟩
  ·rintro c st'' ⟨hc,(⟨hx,_⟩ | hO)⟩
   ·lia
   ·exact⟨hc,hO⟩
  ·rintro c st'' ⟨rfl,pw,hO,hs⟩;exact zI (h _ hO.1 hO.2.2.1 hs)
end
open PySem.W (kla_obj kla_fn CodeHd tabObj envX)
section
variable {prog:Program}{w:World}{A:Around}{E:Value→Shared→Prop}{s:Shared}
theorem Mp{st:SortSt}{kS a:Addr}{b:Bool}{keys:Array Value}{e e1:Nat}{P:PySem.Fin→Shared→Prop}(hk:s.heap.get? kS=some (seqObj "list" keys e))(ha:s.heap.get? a=some (seqObj "list" #[] e1))(hka:kS≠a)(hz:keys.size≤1000)(hz2:(arrOf st).size≤1000)(hfl:failedOf st=none)(h:∀ h' c,(∀ x o,x≠kS→x≠a→s.heap.get? x=some o→h'.get? x=some o)→h'.get? a=some (seqObj "list" (if b then((arrOf st).map (·.2)).reverse else(arrOf st).map (·.2)) c)→P (.done (.ret .none)) { s with heap:=h' }):
  wpAny (model prog w) A (ksk_tail a b e1 (.ref kS) st) P E s:=by
 have hout:(if b then((arrOf st).map (·.2)).reverse else(arrOf st).map (·.2)).size≤1000:=by
  cases b with
  | false=>simp only[Bool.false_eq_true,if_false,Array.size_map];exact hz2
  | true=>simp only[if_true,Array.size_reverse,Array.size_map];exact hz2
 have s1:=Heap.SameBut.update s.heap kS (Obj.mapSeq fun _=>(#[]:Array Value));have na1:(s.heap.update kS (Obj.mapSeq fun _=>(#[]:Array Value))).get? a=some (seqObj "list" #[] e1):=(s1.2 a hka.symm).trans ha;have s2:=Heap.SameBut.update (s.heap.update kS (Obj.mapSeq fun _=>(#[]:Array Value))) a (Obj.mapSeq fun _=>if b then((arrOf st).map (·.2)).reverse else(arrOf st).map (·.2));have key:∀ out:Array Value,∃ c2,((s.heap.update kS (Obj.mapSeq fun _=>(#[]:Array Value))).update a (Obj.mapSeq fun _=>out)).get? a=some (seqObj "list" out c2):=fun out=>⟨_,get?_update_seq na1 fun _=>out⟩;obtain⟨c2,hc2⟩:=key (if b then((arrOf st).map (·.2)).reverse else(arrOf st).map (·.2));unfold ksk_tail
 try dsimp only
 refine zA (listUpdate_at hk rfl ?_ (by rw[sizeLine_eq];lia) (Nat.zero_le _))
 refine zA (wpAny_letGo ?_);refine zA (seqEpoch_at na1 rfl ?_);refine zA (listUpdate_at na1 rfl ?_ (Nat.zero_le _) (Nat.le_trans hout (by rw[sizeLine_eq];lia)))
 rw[hfl];simp only[bne_self_eq_false,Bool.false_eq_true,if_false];exact zB (h _ c2 (fun x o h1 h2 q=>(s2.2 x h2).trans ((s1.2 x h1).trans q)) hc2)
theorem NK{kS a:Addr}{b:Bool}{keys:Array Value}{vs:List Value}{kz:List Int}{e e1:Nat}{P:PySem.Fin→Shared→Prop}(hk0:s.heap.get? kS=some (seqObj "list" keys e))(ha0:s.heap.get? a=some (seqObj "list" #[] e1))(hka:kS≠a)(hk:IntsAre keys.toList kz)(hlen:kz.length=vs.length)(h64:vs.length<128)(h:∀ h' out c,(∀ x o,x≠kS→x≠a→s.heap.get? x=some o→h'.get? x=some o)→h'.get? a=some (seqObj "list" out c)→out.toList.Perm vs→P (.done (.ret .none)) { s with heap:=h' }):
  wpAny (model prog w) A (ksk_end a b vs.toArray e1 (.ref kS) keys) P E s:=by
 have hsz:keys.size=vs.length:=by
  have h1:=hk.length;rw[Array.length_toList] at h1;lia
 have hzs:(keys.zip vs.toArray).size=vs.length:=by rw[Array.size_zip,hsz,List.size_toArray,Nat.min_self]
 have step:∀ t:Sem PySem.Fin,wpAny (model prog w) A t P E s→wpAny (model prog w) A (if b=true then(do let _ ← rule "list.sort.reverse";t) else t) P E s:=by
  intro t ht;split
  ·exact zA (wpAny_rule ht)
  ·exact ht
 have hstart:(if b=true then(keys.zip vs.toArray).reverse else keys.zip vs.toArray).Perm (keys.zip vs.toArray):=by
  cases b with
  | false=>exact Array.Perm.refl _
  | true=>exact Array.perm_iff_toList_perm.mpr (by rw[if_pos rfl,Array.toList_reverse];exact List.reverse_perm _)
 have hzl:((keys.zip vs.toArray).map (·.2)).toList=vs:=by
  rw[Array.toList_map,Array.toList_zip];exact List.map_snd_zip (by show vs.toArray.size≤keys.size;rw[hsz,List.size_toArray];exact Nat.le_refl _)
 have fin:∀(st:SortSt),(arrOf st).Perm (keys.zip vs.toArray)→failedOf st=none→wpAny (model prog w) A (ksk_tail a b e1 (.ref kS) st) P E s:=fun st hp hf =>
  Mp hk0 ha0 hka (by lia) (by rw[hp.size_eq,hzs];lia) hf fun h' c kp ha'=>h h' _ c kp ha' (by
   have p1:((arrOf st).map (·.2)).toList.Perm vs:=by
    have:=(Array.perm_iff_toList_perm.mp hp).map Prod.snd
    rw[←Array.toList_map,←Array.toList_map,hzl] at this;exact this
   cases b with
   | false=>exact p1
   | true=>rw[if_pos rfl,Array.toList_reverse];exact(List.reverse_perm _).trans p1)
 unfold ksk_end
 try dsimp only
 refine step _ ?_;by_cases h2:vs.toArray.size<2
 ·rw[if_pos h2,if_pos h2];refine zA (zB ?_);rw[StateT.run_pure];refine zA (zB ?_)
  try dsimp only
  exact fin (SortSt.mk' general' (if b=true then(keys.zip vs.toArray).reverse else keys.zip vs.toArray) #[] 7 none) hstart rfl
 ·rw[if_neg h2,if_neg h2];rw[List.size_toArray] at h2;rw[ksk_kind hk (by rw[hsz];lia)]
  refine zA (zB ?_);refine zA (zC (show wpS (model prog w) A E s sortRuns' (fun _ st'=>(arrOf st').Perm (keys.zip vs.toArray)∧failedOf st'=none) (SortSt.mk' oneType' (if b=true then(keys.zip vs.toArray).reverse else keys.zip vs.toArray) #[] 7 none) from ?_) ?_ fun _ _ e=>e)
  ·have hi:=ksk_intKeys (vs:=vs) hk;by_cases h3:vs.length<64
   ·exact wpS_sortRuns (a₀:=keys.zip vs.toArray) hi ⟨hstart,rfl,rfl,rfl⟩ (by rw[hzs];lia) (by rw[hzs];exact h3) fun st' a1 a2 a3=>⟨a1,a2⟩
   ·exact VC (a0:=keys.zip vs.toArray) (fun i hi'=>hi _ (by rw[←Array.getElem_toList];exact List.getElem_mem _)) ⟨hstart,rfl,rfl,rfl⟩ (by rw[hzs];lia) (by rw[hzs];exact h64) fun st' a1 a2 _=>⟨a1,a2⟩
  rintro⟨⟨⟩,st'⟩ s' ⟨rfl,hp,hf⟩
  try dsimp only
  exact fin st' hp hf
end
section
variable {X:Cx}{b9:List (Addr×Obj)}{σ:St}{H:Hp}{s:Shared}{A:Around}{E:Value→Shared→Prop}
theorem Inv.repin{pl pl':List (Addr×Obj)}{k:Addr}{h':Heap}{t':Nat}(I:Inv X (b9++pl) σ H s)(f:FpOk X b9 H k)(keep:∀ b o,b≠k→s.heap.get? b=some o→h'.get? b=some o)(hp:∀ p∈pl',h'.get? p.1=some p.2∧FpOk X b9 H p.1∧∀ v,p.2.data ≠ .cell v):Inv X (b9++pl') σ H { s with heap:=h',toks:=t' }:=by
 have I1:Inv X b9 σ H { s with heap:=h',toks:=t' }:=I.unpinned.turned keep f.1 f.2.1 f.2.2.2.1 f.2.2.2.2.1 f.2.2.2.2.2
 refine I1.pins_of fun p hpm=>?_;rcases List.mem_append.mp hpm with z | z
 ·exact I1.pin p (List.mem_append_right _ z)
 ·obtain⟨a,b,c⟩:=hp p z;exact⟨a,b.1,b.2.1,b.2.2.1,c⟩
theorem Mq{f:Value}{b:Bool}{vs:List Value}{kS a:Addr}{e1:Nat}{P:PySem.Fin→Shared→Prop}(I:Inv X (b9++[(kS,seqObj "list" #[] 0),(a,seqObj "list" #[] e1)]) σ H s)(hka:kS≠a)(fk:FpOk X b9 H kS)(fa:FpOk X b9 H a)(h64:vs.length<128)(turn:∀ v∈vs,∀(pl:List (Addr×Obj)) (s':Shared),Inv X (b9++pl) σ H s'→wpAny (model X.prog X.w) A (call f [v]) (fun r s''=>(∃ k t,r = .int k t)∧Inv X (b9++pl) σ H s'') (fun _ _=>False) s')(h:∀ s' out c,Inv X (b9++[(a,seqObj "list" out c)]) σ H s'→out.toList.Perm vs→P (.done (.ret .none)) s'):
  wpAny (model X.prog X.w) A (ksk_rest a f b vs.toArray e1 (.ref kS)) P E s:=by
 unfold ksk_rest;refine zA (wpAny_rule ?_)
 first
  | rw[List.forIn_toArray]
  | (rw[←Array.forIn_toList];simp only[List.toList_toArray])
  | rw[←Array.forIn_toList]
 refine zA (ksk_fold (fun i s'=>∃ kA e kz,Inv X (b9++[(kS,seqObj "list" kA e),(a,seqObj "list" #[] e1)]) σ H s'∧IntsAre kA.toList kz∧kz.length=i) vs 0 s
  ⟨#[],0,[],I,by simpa using IntsAre.nil,rfl⟩ ?step ?done)
 case step =>
  rintro j x s' hx ⟨kA,e,kz,I',hk,hl⟩;simp only[Nat.zero_add] at hl ⊢;have hj:j<vs.length:=(List.getElem?_eq_some_iff.mp hx).1;have hz:kA.size≤vs.length:=by
   have h1:=hk.length;rw[Array.length_toList] at h1;lia
  refine zA (wpAny_attempt (zC (turn x (List.mem_of_getElem? hx) _ s' I') (fun v s'' he=>?_) fun _ _ hF=>hF.elim));obtain⟨⟨k,t2,rfl⟩,I2⟩:=he
  try dsimp only
  have nk:=(I2.pin (kS,seqObj "list" kA e) (List.mem_append_right _ (List.mem_append_right _ (.head _)))).1;have na:=(I2.pin (a,seqObj "list" #[] e1) (List.mem_append_right _ (List.mem_append_right _ (.tail _ (.head _))))).1;have s1:=Heap.SameBut.update s''.heap kS (Obj.mapSeq (·.push (.int k t2)));obtain⟨c2,hc2⟩:∃ c2,(s''.heap.update kS (Obj.mapSeq (·.push (.int k t2)))).get? kS=some (seqObj "list" (kA.push (.int k t2)) c2):=⟨_,get?_update_seq nk (·.push (.int k t2))⟩;have ea:(kA.push (Value.int k t2)).toList=kA.toList++[Value.int k t2]:=by simp
  refine zA (listUpdate_at nk rfl ?_ (by rw[sizeLine_eq];lia) (Nat.le_trans (Nat.le_of_eq (Array.size_push ..)) (by rw[sizeLine_eq];lia)))
  refine zB ⟨rfl,kA.push (.int k t2),c2,kz++[k],I2.repin (t':=s''.toks) fk (fun b o hb q=>(s1.2 b hb).trans q) (fun p hp=>?_),by rw[ea];exact ksk_snoc hk,by rw[List.length_append,hl];rfl⟩
  rcases List.mem_cons.mp hp with rfl | hp
  ·exact⟨hc2,fk,fun v z=>by cases z⟩
  ·have:p=(a,seqObj "list" #[] e1):=by simpa using hp
   subst this;exact⟨(s1.2 a hka.symm).trans na,fa,fun v z=>by cases z⟩
 case done =>
  rintro s' ⟨kA,e,kz,I',hk,hl⟩;have nk:=(I'.pin (kS,seqObj "list" kA e) (List.mem_append_right _ (List.mem_append_right _ (.head _)))).1;have na:=(I'.pin (a,seqObj "list" #[] e1) (List.mem_append_right _ (List.mem_append_right _ (.tail _ (.head _))))).1
  try dsimp only
  refine zA (listItems_at nk rfl ?_);refine NK nk na hka hk (by lia) h64 fun h' out c kp ha' hp=>?_
  have I1:Inv X b9 σ H { s' with heap:=h' }:=I'.unpinned.turnedL (t':=s'.toks) (bw:=[kS,a]) (fun x o hx q=>kp x o (fun z=>hx (by simp[z])) (fun z=>hx (by simp[z])) q) fun x hx=>by
   rcases List.mem_cons.mp hx with rfl | hx
   ·exact fk
   ·have:x=a:=by simpa using hx
    subst this;exact fa
  refine h _ out c (I1.pins_of fun p hpm=>?_) hp;rcases List.mem_append.mp hpm with z | z
  ·exact I1.pin p (List.mem_append_right _ z)
  ·have:p=(a,seqObj "list" out c):=by simpa using z
   subst this;exact⟨ha',fa.1,fa.2.1,fa.2.2.1,fun v z=>by cases z⟩
theorem Xl{l:Addr}{ns:List Int}{f:Value}{b:Bool}{kw:List (Str×Value)}{Q:Value→Shared→Prop}(I:Inv X b9 σ H s)(hq:SqL X.K H l (ns.map V.int))(h64:ns.length<128)(ha1:argsOk "sorted" ⟨[.ref l],kw⟩)(ha2:∀ x,argsOk "list.sort" ⟨[.ref x],kw⟩)(ht:∀ x,Builtin.«list.sort» ⟨[.ref x],kw⟩=ksk_tree x f b)(turn:∀ n t,n∈ns→∀(pl:List (Addr×Obj)) (s':Shared),Inv X (b9++pl) σ H s'→wpAny (model X.prog X.w) X.A.in1.in1 (call f [.int n t]) (fun r s''=>(∃ k t,r = .int k t)∧Inv X (b9++pl) σ H s'') (fun _ _=>False) s')(h:∀(D:Addr) (ms:List Int) s',ms.Perm ns→H D=none→Inv X b9 σ (upd H D (.lst (ms.map V.int))) s'→Q (.ref D) s'):
  wpAny (model X.prog X.w) X.A (call (.builtin "sorted") [.ref l] kw) Q E s:=by
 obtain⟨vs,r',pl0,hz⟩:=I.list hq;have hi:IntsAre vs ns:=Vv r';have hl:=pl0.isList;have hlen:=hi.length;refine call_function_entry_kw kind_sorted plain_sorted entry_sorted ha1 ?_;unfold Builtin.«sorted»;refine zA (m:=checkCount "sorted" 1 1 _) (zB ?_);refine zA (collect_list hl ?_ (by rw[sizeLine_eq];lia))
 refine zA (wpAny_newList ?_ (by rw[sizeLine_eq];lia))
 have hsz:((s.heap.push (seqObj "list" #[] 0)).update s.heap.objs.size (Obj.mapSeq (·++vs.toArray))).objs.size=s.heap.objs.size+1:=by
  rw[Heap.size_update,size_push']
 have hoL:(((s.heap.push (seqObj "list" #[] 0)).update s.heap.objs.size (Obj.mapSeq (·++vs.toArray))).push (seqObj "list" vs.toArray 0)).get? (s.heap.objs.size+1)=some (seqObj "list" vs.toArray 0):=by
  rw[←hsz];exact Heap.get?_push_size _ rfl
 have keep:∀ b o,s.heap.get? b=some o→(((s.heap.push (seqObj "list" #[] 0)).update s.heap.objs.size (Obj.mapSeq (·++vs.toArray))).push (seqObj "list" vs.toArray 0)).get? b=some o:=fun b o q=>by
  have hlt:b<s.heap.objs.size:=Heap.lt_size q;rw[Heap.get?_push_ne _ _ _ (by rw[hsz];exact Nat.ne_of_lt (Nat.lt_succ_of_lt hlt)),Heap.get?_update_ne _ _ _ _ (Nat.ne_of_lt hlt),Heap.get?_push_ne _ _ _ (Nat.ne_of_lt hlt)]
  exact q
 have hsz2:(((s.heap.push (seqObj "list" #[] 0)).update s.heap.objs.size (Obj.mapSeq (·++vs.toArray))).push (seqObj "list" vs.toArray 0)).objs.size=s.heap.objs.size+2:=by rw[size_push',hsz]
 show wpAny _ _ _ _ _ { s with heap:=((s.heap.push (seqObj "list" #[] 0)).update s.heap.objs.size (Obj.mapSeq (·++vs.toArray))).push (seqObj "list" vs.toArray 0) }
 rw[hsz];generalize ((s.heap.push (seqObj "list" #[] 0)).update s.heap.objs.size (Obj.mapSeq (·++vs.toArray))).push (seqObj "list" vs.toArray 0)=G at hoL keep hsz2 ⊢;refine zA (zD (wpAny_call_entry_kw slot_list_sort ⟨_,hoL,rfl⟩ entry_list_sort ?body (ha2 _)))
 case body =>
  have ht':=ht (s.heap.objs.size+1);show wpAny (model X.prog X.w) X.A.in1.in1 (Builtin.«list.sort» ⟨[.ref (s.heap.objs.size+1)],kw⟩) _ _ _;rw[ht'];have s1:=Heap.SameBut.update G (s.heap.objs.size+1) (Obj.mapSeq fun _=>(#[]:Array Value));obtain⟨e1,ho1⟩:∃ e1,(G.update (s.heap.objs.size+1) (Obj.mapSeq fun _=>(#[]:Array Value))).get? (s.heap.objs.size+1)=some (seqObj "list" #[] e1):=⟨_,get?_update_seq hoL fun _=>#[]⟩;unfold ksk_tree;refine zA (listItems_at hoL rfl ?_);refine zA (listUpdate_at hoL rfl ?_ (by rw[List.size_toArray,sizeLine_eq];lia) (Nat.zero_le _))
  refine zA (seqEpoch_at ho1 rfl ?_);refine zA (wpAny_newTuple ?_ (by show vs.length≤_;rw[sizeLine_eq];lia))
  refine zA (wpAny_newList ?_ (Nat.zero_le _));refine zD ?_;have hkS:((G.update (s.heap.objs.size+1) (Obj.mapSeq fun _=>(#[]:Array Value))).push (seqObj "tuple" vs.toArray 0)).objs.size=s.heap.objs.size+3:=by rw[size_push',Heap.size_update,hsz2]
  have keep2:∀ b o,s.heap.get? b=some o→(((G.update (s.heap.objs.size+1) (Obj.mapSeq fun _=>(#[]:Array Value))).push (seqObj "tuple" vs.toArray 0)).push (seqObj "list" #[] 0)).get? b=some o:=fun b o q =>
   Heap.get?_push_of_some _ (Heap.get?_push_of_some _ ((s1.2 b (Nat.ne_of_lt (Nat.lt_succ_of_lt (Heap.lt_size q)))).trans (keep b o q)))
  have g1:(((G.update (s.heap.objs.size+1) (Obj.mapSeq fun _=>(#[]:Array Value))).push (seqObj "tuple" vs.toArray 0)).push (seqObj "list" #[] 0)).get? (s.heap.objs.size+3)=some (seqObj "list" #[] 0):=by
   rw[←hkS];exact Heap.get?_push_size _ rfl
  have g2:(((G.update (s.heap.objs.size+1) (Obj.mapSeq fun _=>(#[]:Array Value))).push (seqObj "tuple" vs.toArray 0)).push (seqObj "list" #[] 0)).get? (s.heap.objs.size+1)=some (seqObj "list" #[] e1):=
   Heap.get?_push_of_some _ (Heap.get?_push_of_some _ ho1)
  have fa:FpOk X b9 H (s.heap.objs.size+1):=I.fpOk (Nat.le_succ _) (I.hok.fresh (Nat.le_succ _));have fk:FpOk X b9 H (s.heap.objs.size+3):=I.fpOk (by lia) (I.hok.fresh (by lia))
  have e3:(Value.ref ((G.update (s.heap.objs.size+1) (Obj.mapSeq fun _=>(#[]:Array Value))).push (seqObj "tuple" vs.toArray 0)).objs.size)=Value.ref (s.heap.objs.size+3):=by rw[hkS]
  show wpAny _ _ (ksk_rest (s.heap.objs.size+1) f b vs.toArray e1 (Value.ref ((G.update (s.heap.objs.size+1) (Obj.mapSeq fun _=>(#[]:Array Value))).push (seqObj "tuple" vs.toArray 0)).objs.size)) _ _ _;rw[e3];have I1:Inv X b9 σ H { s with heap:=((G.update (s.heap.objs.size+1) (Obj.mapSeq fun _=>(#[]:Array Value))).push (seqObj "tuple" vs.toArray 0)).push (seqObj "list" #[] 0) }:=I.kept (t':=s.toks) keep2
  have I2:Inv X (b9++[(s.heap.objs.size+3,seqObj "list" #[] 0),(s.heap.objs.size+1,seqObj "list" #[] e1)]) σ H { s with heap:=((G.update (s.heap.objs.size+1) (Obj.mapSeq fun _=>(#[]:Array Value))).push (seqObj "tuple" vs.toArray 0)).push (seqObj "list" #[] 0) }:=I1.pins_of fun p hpm=>by
   rcases List.mem_append.mp hpm with z | z
   ·exact I1.pin p (List.mem_append_right _ z)
   ·rcases List.mem_cons.mp z with rfl | z
    ·exact⟨g1,fk.1,fk.2.1,fk.2.2.1,fun v z=>by cases z⟩
    ·have:p=(s.heap.objs.size+1,seqObj "list" #[] e1):=by simpa using z
     subst this;exact⟨g2,fa.1,fa.2.1,fa.2.2.1,fun v z=>by cases z⟩
  refine Mq I2 (show s.heap.objs.size+3≠s.heap.objs.size+1 by lia) fk fa (by lia) (fun v hv pl s' I'=>?_) fun s' out c I' hp=>⟨_,rfl,?_⟩
  ·obtain⟨n,t,rfl,hn⟩:∃ n t,v = .int n t∧n∈ns:=by
    obtain⟨i,hiv,e⟩:=List.mem_iff_getElem.mp hv;obtain⟨t,ht2⟩:=hi.get i (ns[i]'(by lia)) (by simp)
    rw[List.getElem?_eq_getElem hiv,e] at ht2;exact⟨_,t,Option.some.inj ht2,List.getElem_mem _⟩
   exact turn n t hn pl s' I'
  ·have hI:IntsAre out.toList (out.toList.map numOf):=intsAre_map _ fun v hv=>hi.all v (hp.mem_iff.mp hv);have hms:(out.toList.map numOf).Perm ns:=by
    have:=hp.map numOf
    rwa[hi.nums] at this
   have ga:=(I'.pin (s.heap.objs.size+1,seqObj "list" out c) (List.mem_append_right _ (List.mem_append_right _ (.head _)))).1;have I3:Inv X b9 σ (upd H (s.heap.objs.size+1) (.lst ((out.toList.map numOf).map V.int))) s' :=
    I'.unpinned.track fa.1 (by have:=I.sz;lia) fa.2.1 fa.2.2.2.2.1 fa.2.2.2.2.2 ⟨by rw[List.length_map,List.length_map];have:=hp.length_eq;rw[sizeLine_eq];lia,out.toList,c,Ur hI,by simpa using ga⟩
   exact zB ⟨_,rfl,h _ _ s' hms fa.1 I3⟩
end
section
variable {X:Cx}
def Mi(X:Cx)(cap:List (Option Nat))(te:TE)(params:Arguments)(body:Expr)(scope:Scope)(qual:Str)(ta tk:TA)(more:List V):TE:=fun σ H Q=>ta σ H fun vs H1=>tk σ H1 fun zs H2=>∃(l:Addr) (ns:List Int) (q:Addr),vs=[.ref l]∧zs = .ref q::more∧SqL X.K H2 l (ns.map V.int)∧ns.length<128∧WT X H2 q params body scope qual ∧
 (∀ n∈ns,te (some (.int n)::capσ cap σ) H2 fun r H'=>H'=H2∧∃ k,r = .int k)∧∀(D:Addr) (ms:List Int),ms.Perm ns→H2 D=none→Q (.ref D) (upd H2 D (.lst (ms.map V.int)))
theorem VL{XN N:List Str}{outer scope:Scope}{cap:List (Option Nat)}{x qual:Str}{params:Arguments}{body:Expr}{te:TE}{b9:List (Addr×Obj)}{σ:St}{H:Hp}{s:Shared}{l q:Addr}{ns:List Int}{b:Bool}{kw:List (Str×Value)}{Q:VK}(S:Xh XN outer scope x N cap)(hX:X.env.scope=outer)(hN:X.N=XN)(hroom:X.A.depth<recursionLimit)(hb:∀ q cl L' c s₀ H₀ b9,PE (X.lam (x::N) scope qual cl L' q c s₀ H₀ b9) body te)(hbind:∀ u cl pm c ctv,bindArgs (kla_fn "<lambda>" qual params body scope cl pm (.ref c) ctv) ⟨[u],[]⟩=pure [(x,u)])(I:Inv X b9 σ H s)(hq:SqL X.K H l (ns.map V.int))(h64:ns.length<128)(L:WT X H q params body scope qual)(ha1:argsOk "sorted" ⟨[.ref l],kw⟩)(ha2:∀ x,argsOk "list.sort" ⟨[.ref x],kw⟩)(ht:∀ x,Builtin.«list.sort» ⟨[.ref x],kw⟩=ksk_tree x (.ref q) b)(ht2:∀ n∈ns,te (some (.int n)::capσ cap σ) H fun r H'=>H'=H∧∃ k,r = .int k)(h:∀(D:Addr) (ms:List Int),ms.Perm ns→H D=none→Q (.ref D) (upd H D (.lst (ms.map V.int)))):
  wpAny (model X.prog X.w) X.A (call (.builtin "sorted") [.ref l] kw) (EP X b9 σ Q) X.xe s:=by
 refine Xl I hq h64 ha1 ha2 ht (fun n t hn pl s' I'=>?_) fun D ms s' hp hD I'=>⟨.ref D,_,I',rfl,h D ms hp hD⟩;refine zC (Nh (v:=.int n) I' hX hN S L hroom ⟨t,rfl⟩ (hb q) (hbind _) (ht2 n hn)) (fun r s'' ⟨y,ry,⟨k,hk⟩,I2⟩=>?_) fun _ _ z=>z;subst hk;obtain⟨t2,rfl⟩:=(show ∃ t2,r=Value.int k t2 from ry)
 exact⟨⟨k,t2,rfl⟩,I2⟩
def T9:List Keyword→Option (Arguments×Expr×Scope)
 | ⟨_,.Lambda a b s _,_⟩::_=>some (a,b,s)
 | _=>none
theorem MO{XN N:List Str}{outer scope:Scope}{cap:List (Option Nat)}{x:Str}{params:Arguments}{body:Expr}{te:TE}{e:Expr}{ta tk:TA}{p pos:Pos}{kws:List Keyword}(_:T9 kws=some (params,body,scope))(S:Xh XN outer scope x N cap)(hroom:X.A.depth<recursionLimit)(hb:∀ q cl L' c s₀ H₀ b9,PE (X.lam (x::N) scope (X.env.qual++"<lambda>") cl L' q c s₀ H₀ b9) body te)(hbind:∀ u cl pm c ctv,bindArgs (kla_fn "<lambda>" (X.env.qual++"<lambda>") params body scope cl pm (.ref c) ctv) ⟨[u],[]⟩=pure [(x,u)])(hg:Gl X "sorted")(hm:X.mg "sorted"=none)(ha:PA X [e] ta)(hk:PK X kws tk)(hks:(backToKw pos (keywordEach kws X.env)).filterMap (·.1)=[Str.ofString "key"]:=by rfl)(hX:X.env.scope=outer:=by rfl)(hN:X.N=XN:=by rfl)(he:backTo pos (zG [e] X.env)=(false,eval e X.env)::backTo pos (zG [] X.env):=by rfl)(hplain:(backTo pos (zG [e] X.env)).any (·.1)=false:=by rfl)(hall:(backToKw pos (keywordEach kws X.env)).all (·.1.isSome)=true:=by rfl)(hkw:(backToKw pos (keywordEach kws X.env)).any (·.1.isNone)=false:=by rfl):
  PE X (.Call (.Name "sorted" p) [e] kws pos) (Mi X cap te params body scope (X.env.qual++"<lambda>") ta tk []):=by
 intro b9 s σ H Q I h;refine wpAny_Call_Name_kw (YT I hg hm boot_sorted (PyProof.Rows.callWith_kw (thn (ha pos b9 s σ H _ I h) fun us s1 ⟨vs,H1,I1,r1,q1⟩=>thn (hk pos b9 s1 σ H1 _ I1 q1) fun ws s2 ⟨zs,H2,I2,rz,l,ns,q,e1,e2,hq,h64,L,ht2,hD⟩=>?_) he hplain hall hkw));subst e1 e2;obtain⟨u,rfl,ru⟩:=Ua r1;cases (show u = .ref l from ru)
 obtain⟨z,rfl,rzz⟩:=Ua rz;cases (show z = .ref q from rzz)
 rw[hks];exact VL (b:=false) S hX hN hroom hb hbind I2 hq h64 L (ksk_s1 _ _) (fun x=>ksk_l1 _ _) (fun x=>ksk_t1 q x) ht2 hD
theorem MN{XN N:List Str}{outer scope:Scope}{cap:List (Option Nat)}{x:Str}{params:Arguments}{body:Expr}{te:TE}{e:Expr}{ta tk:TA}{p pos:Pos}{kws:List Keyword}(_:T9 kws=some (params,body,scope))(S:Xh XN outer scope x N cap)(hroom:X.A.depth<recursionLimit)(hb:∀ q cl L' c s₀ H₀ b9,PE (X.lam (x::N) scope (X.env.qual++"<lambda>") cl L' q c s₀ H₀ b9) body te)(hbind:∀ u cl pm c ctv,bindArgs (kla_fn "<lambda>" (X.env.qual++"<lambda>") params body scope cl pm (.ref c) ctv) ⟨[u],[]⟩=pure [(x,u)])(hg:Gl X "sorted")(hm:X.mg "sorted"=none)(ha:PA X [e] ta)(hk:PK X kws tk)(hks:(backToKw pos (keywordEach kws X.env)).filterMap (·.1)=[Str.ofString "key",Str.ofString "reverse"]:=by rfl)(hX:X.env.scope=outer:=by rfl)(hN:X.N=XN:=by rfl)(he:backTo pos (zG [e] X.env)=(false,eval e X.env)::backTo pos (zG [] X.env):=by rfl)(hplain:(backTo pos (zG [e] X.env)).any (·.1)=false:=by rfl)(hall:(backToKw pos (keywordEach kws X.env)).all (·.1.isSome)=true:=by rfl)(hkw:(backToKw pos (keywordEach kws X.env)).any (·.1.isNone)=false:=by rfl):
  PE X (.Call (.Name "sorted" p) [e] kws pos) (Mi X cap te params body scope (X.env.qual++"<lambda>") ta tk [.bl true]):=by
 intro b9 s σ H Q I h;refine wpAny_Call_Name_kw (YT I hg hm boot_sorted (PyProof.Rows.callWith_kw (thn (ha pos b9 s σ H _ I h) fun us s1 ⟨vs,H1,I1,r1,q1⟩=>thn (hk pos b9 s1 σ H1 _ I1 q1) fun ws s2 ⟨zs,H2,I2,rz,l,ns,q,e1,e2,hq,h64,L,ht2,hD⟩=>?_) he hplain hall hkw));subst e1 e2;obtain⟨u,rfl,ru⟩:=Ua r1;cases (show u = .ref l from ru)
 obtain⟨z,y,rfl,rzz,ry⟩:=Mc rz;cases (show z = .ref q from rzz)
 cases (show y = .bool true from ry)
 rw[hks];exact VL (b:=true) S hX hN hroom hb hbind I2 hq h64 L (ksk_s2 _ _ _) (fun x=>ksk_l2 _ _ _) (fun x=>ksk_t2 q x true) ht2 hD
end
open PySem.W (InstAt findIn specialIn takesIn mroIn clsIn findObj looks_find looks_findIn looks_mroIn KitX kitOne)
structure Yu(K:Frag)(C:Addr):Prop where
 cls:∃ cd,clsIn K C=some cd
 ga:findIn K (.ref C) "__getattribute__"=some (some (.builtin "BaseException.__getattribute__"))
 gr:findIn K (.ref C) "__getattr__"=some none
 cl:findIn K (.ref C) "__class__"=some (some (.builtin "object.__class__"))
 get:specialIn K (.builtin "object.__class__") "__get__"=some (some (.builtin "getset_descriptor.__get__"))
 tk:takesIn K (.builtin "object.__class__")=some true
 mro:mroIn K C (.type "object")=some true
 bexc:mroIn K C (.type "BaseException")=some true
section
variable {prog:Program}{w:World}{A:Around}{E:Value→Shared→Prop}{s:Shared}{K:Frag}{x C:Addr}{ox:Obj}{odo:Option Obj}
theorem Nq(O:Yu K C):findObj K C odo "__class__"=some (.bind (.builtin "getset_descriptor.__get__") (.builtin "object.__class__")):=by
 obtain⟨cd,hc⟩:=O.cls;unfold findObj;rw[hc,Option.bind_some,O.cl,Option.bind_some];simp[O.get,O.tk]
theorem VW{M:Model}{nm:Value}{Q:Unit→Shared→Prop}(X:K.In s.heap)(I:InstAt s.heap x ox C odo)(O:Yu K C)(hq:Q () s):wpAny M A (checkBuiltinCall "BaseException.__getattribute__" ⟨[.ref x,nm],[]⟩) Q E s:=by
 obtain⟨hh,g,d,t,os⟩:=s;have L0:=I.type (M:=M);have L4:=looks_mroIn (M:=M) X O.bexc;have hk:builtinKind "BaseException.__getattribute__"=some .slot:=by decide +kernel
 have hsplit:splitId "BaseException.__getattribute__"=some ("BaseException","__getattribute__"):=by decide +kernel
 have LI:PySem.W.Looks M hh (isInstance (.ref x) (.type "BaseException")) true:=L0.andThen L4;have hargs:=PySem.F.args_bexc_ga (.ref x) nm;simp only[checkBuiltinCall,hk,hsplit];refine zA (LI.at ?_)
 repeat (first | assumption | wp_step)
theorem M0{Q:Option Value→Shared→Prop}(X:K.In s.heap)(I:InstAt s.heap x ox C odo)(O:Yu K C)(h:Q (some (.ref C)) { s with toks:=s.toks+1 }):wpAny (model prog w) A (getAttr? (.ref x) "__class__") Q E s:=by
 obtain⟨hh,g,d,t,os⟩:=s;have L0:=I.type (M:=model prog w);have L1:=looks_findIn (M:=model prog w) X O.ga;have L2:=looks_findIn (M:=model prog w) X O.gr;have L3:=looks_find (M:=model prog w) X I (Nq (odo:=odo) O);have L4:=looks_mroIn (M:=model prog w) X O.bexc;unfold getAttr? getAttrBy? getAttrBy;refine zA (wpAny_mkText (zA (wpAny_attempt (zD (zA (L0.at (zA (L1.at ?_))))))));have hne:(onTheHeap (Value.ref C)&&Value.builtin "BaseException.__getattribute__"==Value.builtin "object.__getattribute__")=false:=by
  rw[show(Value.builtin "BaseException.__getattribute__"==Value.builtin "object.__getattribute__")=false from by decide +kernel,Bool.and_false]
 dsimp only;rw[hne];show wpAny _ _ (getAttrByItsOwn _ _ _ _ _ _) _ _ _;unfold getAttrByItsOwn;refine zA ?_;show wpAny _ _ (typeLookup (.ref C) "__getattr__") _ _ _;refine L2.at (zA (wpAny_attempt (zD ?_)));unfold callGetattribute boundAndCalled;rw[if_neg (by simp)]
 refine zA (wpAny_of_eq (PySem.F.attr_ValueError.ga.bind (.ref x)) ?_);refine wpAny_call (codeAny_call_builtin PySem.F.attr_ValueError.ga.plain PySem.F.entry_bexc_ga ?_);have fin:wpAny (model prog w) A.in1 (Builtin.«object.__getattribute__» ⟨[.ref x,.str "__class__" t],[]⟩) (fun f s'=>match f with | .done (.ret v)=>wpAny (model prog w) A (handedOut v) (fun v s''=>Q (some v) s'') (fun _ _=>False) s' | _=>False) (fun _ _=>False) ⟨hh,g,d,t+1,os⟩:=by
  unfold Builtin.«object.__getattribute__»;refine zA (zB (zA (zB (zA (L0.at (zA (L3.at ?_)))))));show wpAny _ _ (holding [Value.builtin "object.__class__"] (call (.builtin "getset_descriptor.__get__") [.builtin "object.__class__",.ref x,.ref C]) >>= fun v=>ret v) _ _ _;refine zA (zD (wpAny_call (PySem.W.class_get (s:=⟨hh,g,d,t+1,os⟩) (ox:=ox) (od:=odo) X I O.mro ?_)));exact zB (handed_on rfl h)
 refine VW X I O (zC fin (fun f s' z=>?_) fun _ _ z=>z.elim);rcases f with (_ | _ | _ | _) | _ <;> first | exact z.elim | skip
 exact zC z (fun v s'' hv=>zB hv) fun _ _ z=>z.elim
end
open PySem.W (InstAt findIn specialIn takesIn mroIn clsIn findObj looks_find looks_findIn looks_mroIn KitX kitOne Looks)
abbrev Um:List Value:=[.type "ValueError",.type "Exception",.type "BaseException",.type "object"]
section
variable {prog:Program}{w:World}{A:Around}{E:Value→Shared→Prop}{h:Heap}{g:Array GenState}{d:Drawn}{t:Nat}{os:OsState}{C N f:Addr}{nm q:Str}{bs bm:List Value}{hdct:Bool}{sn:List Str}{sub:List Value}{ab:Bool}{col:Option Bool}{dd:Option Addr}{k0 k1 k2 k3 k5:Option Value}{rest:List Value}
theorem GZ{iv:Value}(T:OwnTail h Um bm){Q:Fin→Shared→Prop}(hC:h.get? C=some (excClassObj nm q C N bs bm hdct sn sub ab col dd k0 k1 k2 k3 k5 "ValueError.__new__"))(hi:Looks (model prog w) h (typeLookup (.ref C) "__init__") (some iv))(hb:∀ self,Looks (model prog w) h (bindSpecial iv self) (iv,[self]))(hrest:rest.length≤zF)(hq:codeAny (model prog w) A (.call iv ⟨.ref (h.objs.size+1)::rest,[]⟩) (fun r s'=>match r with | .ok (.ret v)=>v = .none∧Q (.done (.ret (.ref (h.objs.size+1)))) s' | .ok _=>False | .error e=>E e s')
   ⟨(h.push { cls:=.type "tuple",data:=.seq rest.toArray }).push { cls:=.ref C,data:=.fields #[.ref h.objs.size,.none,.none,.none,.bool false,.none] },g,d,t,os⟩):
  wpAny (model prog w) A (Builtin.«type.__call__» ⟨.ref C::rest,[]⟩) Q E ⟨h,g,d,t,os⟩:=by
 have F:=PySem.F.excBase_ValueError;have hBn:Um.contains (.type "ValueError")=true:=by decide +kernel
 repeat (first | with_reducible refine wpAny_loadPart_at hC ?_ | with_reducible refine wpAny_madeBy_exc hC ?_ | wp_step)
 refine codeAny_call_builtin_code (Code.quiet_builtin _ F.quiet) (wpAny_check_new_subU F hBn T hC ?_);refine codeAny_exc_new_subU F hBn F T hC ?_ hrest;show wpAny _ _ _ _ _ _;have kp:∀ b o,h.get? b=some o→((h.push { cls:=.type "tuple",data:=.seq rest.toArray }).push { cls:=.ref C,data:=.fields #[.ref h.objs.size,.none,.none,.none,.bool false,.none] }).get? b=some o:=fun b o e=>Heap.get?_push_of_some _ (Heap.get?_push_of_some _ e);have hC₁:=kp _ _ hC;have hget:((h.push { cls:=.type "tuple",data:=.seq rest.toArray }).push
   { cls:=.ref C,data:=.fields #[.ref h.objs.size,.none,.none,.none,.bool false,.none] }).get? (h.objs.size+1)=some
   { cls:=.ref C,data:=.fields #[.ref h.objs.size,.none,.none,.none,.bool false,.none] }:=by heap_get
 have hcC:(Value.ref C::bm).contains (.ref C)=true:=by simp
 have i1:=hi.keeps kp;have b1:=(hb (.ref (h.objs.size+1))).keeps kp;unfold isInstance
 repeat (first | with_reducible refine wpAny_loadPart_at hget ?_ | (with_reducible refine wpAny_isSubtype_exc hC₁ ?_;rw[hcC]) | wp_step)
 show wpAny _ _ (typeLookup (.ref C) _) _ _ _;refine i1.here ?_;refine zD (zA (b1.here ?_));refine zA (wpAny_call (codeAny_mono hq fun r s' z=>?_));rcases r with e | (v | _ | _ | _) <;> first | exact z | exact z.elim | skip
 obtain⟨rfl,z⟩:=z;obtain⟨hh',g',d',t',os'⟩:=s'
 wp_walk
 exact z
end
section
variable {prog:Program}{w:World}{A:Around}{R:Result→Shared→Prop}{h:Heap}{g:Array GenState}{d:Drawn}{t:Nat}{os:OsState}{C N f:Addr}{nm q:Str}{bs tl:List Value}{hdct:Bool}{sn:List Str}{sub:List Value}{ab:Bool}{col:Option Bool}{dd:Option Addr}{k0 k1 k2 k3 k5:Option Value}{vs:List Value}
theorem X7{iv:Value}(hC:h.get? C=some (excClassObj nm q C N bs tl hdct sn sub ab col dd k0 k1 k2 k3 k5 "ValueError.__new__"))(T:OwnTail h Um tl)(hi:Looks (model prog w) h (typeLookup (.ref C) "__init__") (some iv))(hb:∀ self,Looks (model prog w) h (bindSpecial iv self) (iv,[self]))(hrest:vs.length≤zF)(hq:codeAny (model prog w) (A.under (.builtin "type.__call__" ⟨.ref C::vs,[]⟩)) (.call iv ⟨.ref (h.objs.size+1)::vs,[]⟩) (InitBack (h.objs.size+1) R)
   ⟨(h.push { cls:=.type "tuple",data:=.seq vs.toArray }).push { cls:=.ref C,data:=.fields #[.ref h.objs.size,.none,.none,.none,.bool false,.none] },g,d,t,os⟩):
  codeAny (model prog w) A (.call (.ref C) ⟨vs,[]⟩) R ⟨h,g,d,t,os⟩:=by
 have f1:=tc_lookup;have f2:=tc_bind (.ref C);have hT:(⟨h,g,d,t,os⟩:Shared).TypeIs (.ref C) "type":=⟨_,hC,rfl⟩;refine codeAny_of_tree ?_;show wpAny _ _ (callAny (.ref C) _) _ _ _
 repeat (any_goals (first | assumption | with_reducible refine wpAny_loadPart_at hC ?_ | wp_step))
 refine⟨rfl,?_⟩;refine codeAny_call_builtin_at (Code.quiet_builtin _ (by decide +kernel)) entry_typeCall (wpAny_check_type_call_sub hC (GZ T hC hi hb hrest ?_))
 refine codeAny_mono hq fun r s' z=>?_;rcases r with e | (v | _ | _ | _) <;> exact z
end
structure ExcI(K:Frag)(C f:Addr):Prop where
 ex:∃(tl:List Value) (N:Addr) (nm q:Str) (bs:List Value) (sn:List Str) (sub:List Value) (ab:Bool) (col:Option Bool) (dd:Option Addr) (k0 k1 k2 k3 k5:Option Value),
  K.lookup C=some (excClassObj nm q C N bs tl true sn sub ab col dd k0 k1 k2 k3 k5 "ValueError.__new__")∧(∀ h:Heap,K.In h→OwnTail h Um tl)∧∀ self,refuseLoop self "__setattr__" tl=pure ()
 init:findIn K (.ref C) "__init__"=some (some (.ref f))
 fn:isFn K (.ref f)=true
 kp:keepIn K (.ref C)=true
 sa:findIn K (.ref C) "__setattr__"=some (some (.builtin "object.__setattr__"))
 mo:mroIn K C (.type "object")=some true
def exφC (e C:Addr)(dd:Option Addr)(cs:Value×Value):Heap→Prop:=fun h=>∃ a0,h.get? e=some (ExcObjC (.ref C) (.ref a0) dd .none cs)
abbrev exφ(e C:Addr)(dd:Option Addr):Heap→Prop:=exφC e C dd cs0
theorem Vy{P:Program}{w:World}{H:Hp}{h:Heap}{e C:Addr}{a0:Addr}{dd:Option Addr}{cs:Value×Value}(g:h.get? e=some (ExcObjC (.ref C) (.ref a0) dd .none cs)):ObjOk P w H h e (.ext (exφC e C dd cs)):=⟨⟨a0,g⟩,⟨_,g⟩,fun h1 h2 ⟨a,q⟩ k=>⟨a,k _ q⟩⟩
section
variable {prog:Program}{w:World}{A:Around}{E:Value→Shared→Prop}{s:Shared}{K:Frag}{x C f:Addr}{name:Str}{v a0:Value}
theorem Ru{Q:Unit→Shared→Prop}(X:K.In s.heap)(O:ExcI K C f)(n:Yn K C name)(hx:s.heap.get? x=some (ExcObj (.ref C) a0 none .none))(h:∀ h',h'.get? x=some (ExcObj (.ref C) a0 (some s.heap.objs.size) .none)→h'.Ns1 s.heap.objs.size (fun y=>if y=name then some v else none)→(∀ b o,b≠x→s.heap.get? b=some o→h'.get? b=some o)→Q () { s with heap:=h',toks:=s.toks+2 }):
  wpAny (model prog w) A (setAttr (.ref x) name v) Q E s:=by
 have I:InstAt s.heap x (ExcObj (.ref C) a0 none .none) C none:=⟨hx,rfl,rfl,trivial⟩;obtain⟨tl,N,nm,q,bs,sn,sub,ab,col,dd,k0,k1,k2,k3,k5,hC,T,hrf⟩:=O.ex;refine set_plain X I O.sa ?_;have SF:=PySem.F.store_object;have hc:clsIn K C=some { name:=nm,bases:=bs,mro:=.ref C::tl,ns:=N,qualname:=q,hasDict:=true,slotNames:=sn,subclasses:=sub,abstract:=ab,collection:=col }:=by unfold clsIn;rw[hC]
 have sub':Looks (model prog w) s.heap (isInstance (.ref x) (.type "object")) true:=I.type.andThen (looks_mroIn X O.mo);refine codeAny_call_builtin SF.slot.plain SF.entry (@PySem.W.check_slot (model prog w) _ _ { s with toks:=s.toks+1 } "object.__setattr__" "object" "__setattr__" (.ref x) [.str name s.toks,v] [] _ SF.kind SF.split sub' (SF.args (.ref x) (.str name s.toks) v) ?_)
 have hm:Looks (model prog w) s.heap (mroOf (.ref C)) (.ref C::tl):=(looks_clsIn X hc).andThen .now;have L3:Looks (model prog w) s.heap (Builtin.ObjectAttr.storeTaker? none) none:=.now;rw[PySem.W.osa_eq,refuse_eq];refine zA (zA (Looks.here (s:={ s with toks:=s.toks+1 }) I.type (zA (Looks.here (s:={ s with toks:=s.toks+1 }) hm ?_))))
 rw[refuseLoop_ref,hrf];refine zB (zA (Looks.here (s:={ s with toks:=s.toks+1 }) I.type (zA (Looks.here (s:={ s with toks:=s.toks+1 }) (looks_findIn X n) (zA (Looks.here (s:={ s with toks:=s.toks+1 }) L3 ?_))))))
 dsimp only;refine zA (zB (zA (zA (wpAny_loadPart hx (zA (Looks.here (s:={ s with toks:=s.toks+1 }) (looks_clsIn X hc) ?_))))))
 dsimp only;have hxs:x≠s.heap.objs.size:=Nat.ne_of_lt (Heap.lt_size hx);have hx₁:(s.heap.push { cls:=.type "dict",data:=.dict #[] }).get? x=some (ExcObj (.ref C) a0 none .none):=Heap.get?_push_of_some _ hx;refine zA (wpAny_alloc' (zA (wpAny_update' hx₁ (zB ?_))));have hx₂:((s.heap.push { cls:=.type "dict",data:=.dict #[] }).update x fun o=>{ cls:=o.cls,dict:=some s.heap.objs.size,data:=o.data,slots:=o.slots }).get? x=some (ExcObj (.ref C) a0 (some s.heap.objs.size) .none):=Heap.get?_update_self _ hx₁ rfl;have hgd:((s.heap.push { cls:=.type "dict",data:=.dict #[] }).update x fun o=>{ cls:=o.cls,dict:=some s.heap.objs.size,data:=o.data,slots:=o.slots }).get? s.heap.objs.size
  =some { cls:=.type "dict",data:=.dict #[] }:=(Heap.get?_update_ne _ _ _ _ hxs.symm).trans (Heap.get?_push_at rfl rfl)
 have hnd:((s.heap.push { cls:=.type "dict",data:=.dict #[] }).update x fun o=>{ cls:=o.cls,dict:=some s.heap.objs.size,data:=o.data,slots:=o.slots }).Ns s.heap.objs.size (fun _=>none):=
  ⟨_,#[],_,hgd,rfl,fun e he=>absurd he (by simp),fun _=>rfl⟩
 have hkp:∀ b o,b≠x→s.heap.get? b=some o→((s.heap.push { cls:=.type "dict",data:=.dict #[] }).update x fun o=>{ cls:=o.cls,dict:=some s.heap.objs.size,data:=o.data,slots:=o.slots }).get? b=some o:=fun b o hb e =>
  (Heap.get?_update_ne _ _ _ _ hb).trans (Heap.get?_push_of_some _ e)
 show wpAny _ _ (Builtin.ObjectAttr.storeInDict s.heap.objs.size (.str name s.toks) name v) _ _ _;unfold Builtin.ObjectAttr.storeInDict Builtin.ObjectAttr.newKeyGuard;refine zA (zB (zA (wpAny_nsSet1 (Heap.Ns1.of_empty hnd) fun h' hn' hs=>?_)));obtain⟨oD,esD,epD,hoD,hdD,hcD⟩:=hn'.count (Within.cons name v Within.nil);refine zA (wpAny_lookBehind hoD (by rw[hdD];exact pastItsLine_dict (Nat.le_trans hcD (by rw[List.length_cons,List.length_nil,sizeLine_eq];lia))) ?_)
 refine zB ?_;exact h h' ((hs.2 x hxs).trans hx₂) hn' fun b o hb e=>(hs.2 b (Nat.ne_of_lt (Heap.lt_size e))).trans (hkp b o hb e)
end
def unt (H:Hp)(e:Addr):Hp:=fun b=>if b=e then none else H b
theorem Jn{H:Hp}{e b:Addr}(h:b≠e):unt H e b=H b:=by unfold unt;rw[if_neg h]
theorem Jm{H:Hp}{e:Addr}:unt H e e=none:=by unfold unt;rw[if_pos rfl]
section
variable {X:Cx}{b9:List (Addr×Obj)}{σ:St}{H:Hp}{s:Shared}{e C f C0:Addr}{name:Str}{A:Around}{E:Value→Shared→Prop}{dd:Option Addr}
theorem Jy{cs:Value×Value}(I:Inv X b9 σ H s)(he:H e=some (.ext (exφC e C dd cs))):∃ a0,s.heap.get? e=some (ExcObjC (.ref C) (.ref a0) dd .none cs):=(show ObjOk X.prog X.w H s.heap e (.ext (exφC e C dd cs)) from I.hok e _ he).1
theorem Inv.unt{φ:Heap→Prop}(I:Inv X b9 σ H s)(he:H e=some (.ext φ))(h0:∀ u,X.H₀ e=some u→∃ φ,u = .ext φ):Inv X b9 σ (unt H e) s:=by
 have n:∀ b u,H b=some u→(∀ φ,u ≠ .ext φ)→L2.unt H e b=some u:=fun b u q hu=>by
  rw[Jn (fun z=>by subst z;rw[he] at q;cases q;exact hu _ rfl)];exact q
 refine⟨I.ok,I.os,I.bare,⟨I.base.keep,I.base.slot,fun b o q m hx=>?_,I.base.there,fun b xs q=>n _ _ (I.base.tups b xs q) (fun _ z=>nomatch z),fun b o u q=>n _ _ (I.base.frzs b o u q) (fun _ z=>nomatch z),fun b ps q=>?_⟩,I.loc,I.cell,?_,fun x c q=>?_,fun p hp=>?_,fun b o q=>?_,I.len,I.hdh.frzs fun b o u q=>n _ _ q (fun _ z=>nomatch z)⟩
 ·have:=I.base.free b o q m hx
  unfold L2.unt;split
  ·rfl
  ·exact this
 ·obtain⟨more,q1⟩:=I.base.tbls b ps q;exact⟨more,n _ _ q1 (fun _ z=>nomatch z)⟩
 ·have:=I.free
  unfold L2.unt;split
  ·rfl
  ·exact this
 ·have:=I.freeC x c q
  unfold L2.unt;split
  ·rfl
  ·exact this
 ·obtain⟨a,b,c⟩:=I.pin p hp;refine⟨a,?_,c⟩;unfold L2.unt;split
  ·rfl
  ·exact b
 ·by_cases hb:b=e
  ·subst hb;rw[Jm] at q;cases q
  ·rw[Jn hb] at q;exact(I.hok b o q).stay (fun _ _ _ z=>z) (fun c z=>n _ _ z (fun _ y=>nomatch y)) fun c xs z=>n _ _ z (fun _ y=>nomatch y)
theorem WZ{y:V}{u:Value}{Q:Unit→Shared→Prop}(I:Inv X b9 σ H s)(he:H e=some (.ext (exφ e C none)))(O:ExcI X.K C f)(n:Yn X.K C name)(ry:RelV y u)(h:∀ dx s',H dx=none→Inv X b9 σ (upd (upd H dx (.xd [(name,y)])) e (.ext (exφ e C (some dx)))) s'→Q () s'):wpAny (model X.prog X.w) A (setAttr (.ref e) name u) Q E s:=by
 obtain⟨a0,hx⟩:=Jy I he;refine Ru I.kIn O n hx fun h' g1 g2 kp=>h s.heap.objs.size _ (I.hok.fresh (Nat.le_refl _)) ?_;have old:(h'.update e fun _=>ExcObj (.ref C) (.ref a0) none .none).get? e=some (ExcObj (.ref C) (.ref a0) none .none):=Heap.get?_update_self _ g1 rfl;have oth:∀ b,b≠e→(h'.update e fun _=>ExcObj (.ref C) (.ref a0) none .none).get? b=h'.get? b:=fun b hb=>Heap.get?_update_other _ _ (Ne.symm hb);have nes:s.heap.objs.size≠e:=Nat.ne_of_gt (Heap.lt_size hx);have I1:Inv X b9 σ (upd H s.heap.objs.size (.xd [(name,y)])) { s with heap:=h'.update e fun _=>ExcObj (.ref C) (.ref a0) none .none,toks:=s.toks+2 }:=by
  refine I.laid (t':=s.toks+2) (fun b o q=>?_) (Nat.le_refl _) ?_
  ·by_cases hb:b=e
   ·subst hb;rw[hx] at q;cases q;exact old
   ·rw[oth b hb];exact kp b o hb q
  ·obtain⟨oD,es,ep,q1,q2⟩:=g2;refine⟨_,⟨oD,es,ep,(oth _ nes).trans q1,q2⟩,fun g=>?_⟩;show RelO (List.lookup g [(name,y)]) (if g=name then some u else none);by_cases hg:g=name
   ·subst hg;rw[if_pos rfl];simp;exact ry
   ·rw[if_neg hg]
    have:(g==name)=false:=by simpa using hg
    simp[List.lookup,this];exact trivial
 have he1:(upd H s.heap.objs.size (.xd [(name,y)])) e=some (.ext (exφ e C none)):=by rw[Z1 nes.symm];exact he
 exact I1.write (x:=e) (e:=e) (h':=h') (t':=s.toks+2) (by rw[he1];exact True.intro) (.inl rfl) (fun b o hb q=>by rw[oth b hb] at q;exact q) ⟨_,g1⟩ (Vy g1)
end
section
variable {X:Cx}{k:Nat}{e C f C0:Addr}{fd:FuncData}{ps:List Str}{sp:Sp}{x m:Str}{name:Str}{o value:Expr}{ta tv:TE}{pos pos' p c9:Pos}{e₀:Expr}{es:List Expr}{t:TA}
def Rx(K:Frag)(ta tv:TE)(f:Str):TS:=fun D σ H=>tv σ H fun y H1=>ta σ H1 fun x H2=>∃ e C g,x = .ref e∧H2 e=some (.ext (exφ e C none))∧ExcI K C g∧Yn K C f ∧
 ∀ dx,H2 dx=none→D.nx σ (upd (upd H2 dx (.xd [(f,y)])) e (.ext (exφ e C (some dx))))
theorem NZ(ha:PE X o ta)(hv:PE X value tv)(hs:swapsWith value (some (.Attribute o name pos')) pos.line X.env=pure false):PS X (.Assign [.Attribute o name pos'] value pos) (Rx X.K ta tv name):=by
 intro b9 s σ H D I h;refine plainObj_wpAny_Assign_Attribute (thn (hv b9 s σ H _ I h) fun u s1 ⟨y,H1,I1,ry,q⟩=>thn (ha b9 s1 σ H1 _ I1 q) fun ov s2 ⟨x,H2,I2,rx,a,C,g,ex,ea,O,n,q2⟩=>?_) hs;subst ex;obtain rfl:ov=Value.ref a:=rx;exact WZ I2 ea O n ry fun dx s3 hd I3=>⟨σ,_,I3,q2 dx hd⟩
structure Tg(K:Frag)(C0:Addr):Prop where
 ga:specialIn K (.ref C0) "__getattribute__"=some (some (.builtin "type.__getattribute__"))
 rd:readsIn K C0 (.type "type")=true
 fi:findCls K (.ref C0) (.type "type") "__init__"=some (.val (.builtin "ValueError.__init__"))
theorem Qt:JQ X (.builtin "ValueError.__init__") (fun xs H Q=>∃(e C g:Addr) (rest:List V),xs = .ref e::rest∧H e=some (.ext (exφ e C none))∧ExcI X.K C g∧rest.length≤zF∧Q .non H):=by
 intro b9 s σ H xs us Q I r h;obtain⟨e,C,g,rest,rfl,he,O,hz,q⟩:=h;cases r with
 | cons r1 r2 =>
  rename_i u us;obtain rfl:u=Value.ref e:=r1;obtain⟨a0,hx⟩:=Jy I he;obtain⟨tl,N,nm,qn,bs,sn,sub,ab,col,dd,k0,k1,k2,k3,k5,hC,T,hrf⟩:=O.ex;have F:=PySem.F.excBase_ValueError;have hCs:=I.kIn _ _ hC;have Ts:=T _ I.kIn;have hzu:us.length≤zF:=by rw[←Vals.length r2];exact hz
  have fin:∀ t' h',(∀ b o,b≠e→s.heap.get? b=some o→h'.get? b=some o)→(∃ a1,h'.get? e=some (ExcObj (.ref C) (.ref a1) none .none))→EP X b9 σ Q Value.none { s with heap:=h',toks:=t' }:=fun t' h' kp ⟨a1,g1⟩=>by
   have I1:Inv X b9 σ (upd H e (.ext (exφ e C none))) { s with heap:=h',toks:=t' }:=I.write (x:=e) (e:=e) (by rw[he];exact True.intro) (.inl rfl) kp ⟨_,g1⟩ (Vy g1)
   have eH:upd H e (.ext (exφ e C none))=H:=by
    funext b;unfold upd;split
    ·rename_i z;rw[z,he]
    ·rfl
   rw[eH] at I1;exact⟨.non,H,I1,rfl,q⟩
  obtain⟨h0,g0,d0,t0,os0⟩:=s;refine wpAny_call (codeAny_call_builtin F.init.plain F.initEntry (wpAny_check_init_subU F Ts hCs hx rfl ?_))
  wp_walk
  have hxp:(h0.push { cls:=Value.type "tuple",data:=Data.seq us.toArray }).get? e=some (ExcObj (.ref C) (.ref a0) none .none):=Heap.get?_push_of_some _ hx;exact fin t0 _ (fun b o hb q=>(Heap.get?_update_other _ _ (Ne.symm hb)).trans (Heap.get?_push_of_some _ q)) ⟨h0.objs.size,Heap.get?_update_self _ hxp rfl⟩
theorem QQ{pl:Sem Bool}(hg:Gl X x)(hm:X.mg x=some (.ref C0))(B:Tg X.K C0)(ha:PA X (e₀::es) t)(hdb:(x==("__debug__":Str))=false:=by decide)(hst:zG (e₀::es) X.env=(false,eval e₀ X.env)::zG es X.env:=by rfl)(hpl:(backTo pos (zG es X.env)).any (·.1)=false:=by rfl)(ht:eval (.Call (.Attribute (.Name x p) "__init__" c9) (e₀::es) [] pos) X.env=(do
   let ov ← eval (.Name x p) X.env
   standAt c9.atName
   let (f,first) ← holding [ov] (getMethod ov "__init__" pl)
   callWith pos f first (backTo pos (zG (e₀::es) X.env)) (backToKw pos (keywordEach [] X.env))):=by rfl):
  PE X (.Call (.Attribute (.Name x p) "__init__" c9) (e₀::es) [] pos) (tCB (fun xs H Q=>∃(e C g:Addr) (rest:List V),xs = .ref e::rest∧H e=some (.ext (exφ e C none))∧ExcI X.K C g∧rest.length≤zF∧Q .non H) t):=by
 intro b9 s σ H Q I h;refine methodCall_KW (pl:=pl) (YY I hg hm ?_ hdb) ht;refine PySem.W.method_cls I.kIn B.ga (PySem.W.cls_value I.kIn B.rd B.fi rfl ?_);exact PyProof.Rows.callWith_builtin1 (thn (ha pos b9 _ σ H _ (I.tok _) h) fun us s1 ⟨vs,H1,I1,r1,q1⟩=>Qt b9 s1 σ H1 vs us Q I1 r1 q1) hst hpl
def Tp(K:Frag)(C:Addr)(sp:Sp)(E:XK)(t:TA):TE:=fun σ H Q=>t σ H fun vs H1=>vs.length≤zF∧∀ e,H1 e=none→sp (.ref e::vs) (upd H1 e (.ext (exφ e C none))) (fun v H2=>v = .non∧Q (.ref e) H2) E
theorem Inv.madeX{b9 σ H s}{us:List Value}(I:Inv X b9 σ H s):Inv X b9 σ (upd H (s.heap.objs.size+1) (.ext (exφ (s.heap.objs.size+1) C none)))
  { s with heap:=(s.heap.push { cls:=.type "tuple",data:=.seq us.toArray }).push { cls:=.ref C,data:=.fields #[.ref s.heap.objs.size,.none,.none,.none,.bool false,.none] } }:=by
 have I1:Inv X b9 σ H { s with heap:=s.heap.push { cls:=.type "tuple",data:=.seq us.toArray } }:=I.kept (t':=s.toks) fun b o q=>Heap.get?_push_of_some _ q
 have e2:((s.heap.push { cls:=.type "tuple",data:=.seq us.toArray }).push { cls:=.ref C,data:=.fields #[.ref s.heap.objs.size,.none,.none,.none,.bool false,.none] }).get? (s.heap.objs.size+1)=some (ExcObj (.ref C) (.ref s.heap.objs.size) none .none):=by
  have:=Heap.get?_push_size (s.heap.push { cls:=.type "tuple",data:=.seq us.toArray }) (o:={ cls:=.ref C,data:=.fields #[.ref s.heap.objs.size,.none,.none,.none,.bool false,.none] }) rfl
  rwa[Heap.size_push] at this
 exact I1.laid (a:=s.heap.objs.size+1) (t':=s.toks) (fun b o q=>Heap.get?_push_of_some _ q) (Nat.le_of_eq (Heap.size_push _ _)) (Vy e2)
theorem QN{CX:CXT}{E:XK}(O:ExcI X.K C f)(F:FnOk X.prog X.w X.K X.mg X.base CX k f fd ps sp)(hr:Room (k+1) X.A)(hg:Gl X x)(hm:X.mg x=some (.ref C))(hb:Binds X.K fd ps [])(hx:Passes CX X E)(ha:PA X (e₀::es) t)(hdb:(x==("__debug__":Str))=false:=by decide)(he:zG (e₀::es) X.env=(false,eval e₀ X.env)::zG es X.env:=by rfl)(hpl:(backTo pos (zG es X.env)).any (·.1)=false:=by rfl)(hcc:CX.calm=true→X.calm=true:=by first | exact fun _=>rfl | exact fun z=>nomatch z):
  PE X (.Call (.Name x p) (e₀::es) [] pos) (Tp X.K C sp E t):=by
 intro b9 s σ H Q I h;refine wpAny_Call_Name_kw (YY I hg hm ?_ hdb);refine callWith_K (h₀:=X.base) I.ok.mod.kin O.kp (thn (ha pos b9 s σ H _ I h) fun us s1 ⟨vs,H1,I1,r,hz,q⟩=>⟨I1.kIn,?_⟩) he hpl;obtain⟨tl,N,nm,qn,bs,sn,sub,ab,col,dd,k0,k1,k2,k3,k5,hC,T,hrf⟩:=O.ex;have hq:=q (s1.heap.objs.size+1) (I1.hok.fresh (Nat.le_succ _));have I2:=Inv.madeX (C:=C) (us:=us) I1;have r2:Vals (V.ref (s1.heap.objs.size+1)::vs) (Value.ref (s1.heap.objs.size+1)::us):=.cons rfl r;have hl:(Value.ref (s1.heap.objs.size+1)::us++[]).length=ps.length:=by
  rw[List.append_nil];have e:=r2.length;rw[F.len _ _ _ _ hq] at e;exact e.symm
 have hbd:=hb _ (Value.ref (s1.heap.objs.size+1)::us) I2.kIn hl;rw[List.append_nil] at hbd;refine wpAny_call ?_;have fin:=F.run _ X.stack _ _ ⟨Value.ref (s1.heap.objs.size+1)::us,[]⟩ (Value.ref (s1.heap.objs.size+1)::us) _ _ E (hr.make C us []) (fun z=>I.ok.hd (hcc z)) (I2.env0.make C us []) hbd r2 hq;have L1:=looks_findIn (M:=model X.prog X.w) I1.kIn O.init;have L2:=fun self=>bind_fn (M:=model X.prog X.w) I1.kIn (f:=f) self (beq_iff_eq.mp O.fn);refine X7 (I1.kIn _ _ hC) (T _ I1.kIn) L1 L2 (by show us.length≤zF;rw[←r.length];exact hz) (codeAny_mono fin fun r s' hq'=>?_)
 cases r with
 | error e=>exact hx b9 σ _ _ e s' I2 hq'
 | ok fl =>
  cases fl with
  | ret u =>
   obtain⟨v,H',I3,rv,ev,q3⟩:=I2.after hq';subst ev;exact⟨rv,⟨V.ref (s1.heap.objs.size+1),H',I3,rfl,q3⟩⟩
  | next=>exact False.elim hq'
  | brk=>exact False.elim hq'
  | cont=>exact False.elim hq'
end
section
variable {M:Model}{A:Around}{E:Value→Shared→Prop}{env:Env}{nm q:Str}{C N:Addr}{bs bm:List Value}{hdct:Bool}{sn:List Str}{sub:List Value}{ab:Bool}{col:Option Bool}{dd:Option Addr}{k0 k1 k2 k3 k5:Option Value}{newId:String}
theorem UY{s:Shared}{x:Sem Value}{Q:Flow→Shared→Prop}(hbase:bm.contains (.type "BaseException")=true)(hh:A.handled=none)(h:wpAny M A x (fun v s₁=>∃ e a0 d,v = .ref e∧s₁.heap.get? C=some (excClassObj nm q C N bs bm hdct sn sub ab col dd k0 k1 k2 k3 k5 newId)∧s₁.heap.get? e=some (ExcObj (.ref C) a0 d .none)∧E (.ref e) s₁) E s):
  wpAny M A (raiseStmt env (some x) none) Q E s:=by
 have hcB:(Value.ref C::bm).contains (.type "BaseException")=true:=by rw[List.contains_cons,hbase,Bool.or_true]
 unfold raiseStmt;refine zA (zC h (fun v s₁ h₁=>?_) fun _ _ x=>x);obtain⟨e,t,d0,rfl,hC,he,hE⟩:=h₁;obtain⟨hp,g,d,tk,os⟩:=s₁
 delta ExcObj ExcObjC at he
 repeat (first | with_reducible refine wpAny_loadPart_at he ?_ | with_reducible refine wpAny_loadPart_at hC ?_ | (with_reducible refine wpAny_isSubtype_exc hC ?_;rw[hcB]) | wp_step)
 exact wpAny_raiseNew_none hh hE
end
def Wa(X:Cx)(E:XK):Prop:=∀(b9:List (Addr×Obj)) (σ:St) (H:Hp) (s:Shared) (e C:Addr) (dd:Option Addr),Inv X b9 σ H s→H e=some (.ext (exφ e C dd))→X.H₀ e=none→E (.ref C) dd (unt H e)→X.xe (.ref e) s
section
variable {X:Cx}{E:XK}{call:Expr}{te:TE}{pos:Pos}{x:Str}{p cpos:Pos}{args:List Expr}
theorem Ga{C f:Addr}(O:ExcI X.K C f)(hr:Wa X E)(hc:X.calm=true)(he:PE X (.Call (.Name x p) args [] cpos) te):
  PS X (.Raise (some (.Call (.Name x p) args [] cpos)) none pos) (fun D σ H=>te σ H fun v H1=>∃ e dd,v = .ref e∧H1 e=some (.ext (exφ e C dd))∧X.H₀ e=none∧E (.ref C) dd (unt H1 e)):=by
 intro b9 s σ H D I h;obtain⟨tl,N,nm,qn,bs,sn,sub,ab,col,dd,k0,k1,k2,k3,k5,hC,T,hrf⟩:=O.ex;rw[arm_exec_Raise];have F:=PySem.F.excBase_ValueError;have hb:tl.contains (.type "BaseException")=true:=(T _ I.kIn).hasType F.hasBase;have key:∀{y:Sem Value},y=(eval (.Call (.Name x p) args [] cpos) X.env >>= fun v=>standAt pos >>= fun _=>pure v)∨y=eval (.Call (.Name x p) args [] cpos) X.env→wpAny (model X.prog X.w) X.A y (fun v s₁=>∃ e a0 d,v = .ref e∧s₁.heap.get? C=some (excClassObj nm qn C N bs tl true sn sub ab col dd k0 k1 k2 k3 k5 "ValueError.__new__")∧s₁.heap.get? e=some (ExcObj (.ref C) a0 d .none)∧X.xe (.ref e) s₁) X.xe s:=by
  have base:=thn (Q':=fun v s₁=>∃ e a0 d,v = .ref e∧s₁.heap.get? C=some (excClassObj nm qn C N bs tl true sn sub ab col dd k0 k1 k2 k3 k5 "ValueError.__new__")∧s₁.heap.get? e=some (ExcObj (.ref C) a0 d .none)∧X.xe (.ref e) s₁) (he b9 s σ H _ I h) fun u s1 ⟨v,H1,I1,rv,e,dd',ev,hx,h0,q⟩=>by
   subst ev;obtain rfl:u=Value.ref e:=rv;obtain⟨a0,g⟩:=Jy I1 hx;exact⟨e,_,_,rfl,I1.kIn _ _ hC,g,hr b9 σ H1 s1 e C dd' I1 hx h0 q⟩
  rintro y (rfl | rfl)
  ·exact zA (zC base (fun v s3 h3=>zA (wpAny_standAt (zB h3))) fun _ _ z=>z)
  ·exact base
 first
  | exact zA (wpAny_standAt (UY hb (I.ok.hd hc) (key (.inl rfl))))
  | exact zA (wpAny_standAt (UY hb (I.ok.hd hc) (key (.inr rfl))))
end
section
variable {bx:Bool}{P:Program}{w:World}{K:Frag}{mg:Str→Option Value}{base:Heap}{N:List Str}{qual:Str}{scope:Scope}{f:Addr}{cd:Value}{A:Around}{outer:List Env}{s₀:Shared}{H₀:Hp}{E:XK}
theorem ZY:Wa (cxOf (CXq bx P w) P w K mg base N qual scope f cd A outer s₀ H₀ E) E:=by
 intro b9 σ H s x C dd I hx h0 q;have I':=I.unt hx (fun u z=>by rw[h0] at z;cases z)
 obtain⟨a0,gx⟩:=Jy I hx;have nfr:x∉frs (envOfC qual scope s₀.heap.objs.size f cd::outer):=fun hm=>by
  have:=I.stkFree x hm
  rw[hx] at this;cases this
 have hin:∀ env∈(envOfC qual scope s₀.heap.objs.size f cd::outer),∀ a,env.frame=some a→a∈x::frs (envOfC qual scope s₀.heap.objs.size f cd::outer):=fun env he a ha=>List.mem_cons_of_mem _ (List.mem_filterMap.mpr ⟨env,he,ha⟩);have hB:HOk P w (unt H x) (hideAll s.heap (x::frs (envOfC qual scope s₀.heap.objs.size f cd::outer))):=fun a o e=>(I'.hok a o e).stay (fun b u hb eb=>hideAll_get _ eb fun hm=>by
   rcases List.mem_cons.mp hm with z | z
   ·subst z;rcases hb with y | y
    ·subst y;rw[Jm] at e;cases e
    ·rw[Jm] at y;cases y
   ·have n:=I'.stkFree b z;rcases hb with y | y
    ·rw[y,e] at n;cases n
    ·rw[y] at n;cases n) (fun _ z=>z) fun _ _ z=>z
 have cov0:∀ b o,s₀.heap.get? b=some o→b∉frs outer→∃ ob,(hideAll s.heap (x::frs (envOfC qual scope s₀.heap.objs.size f cd::outer))).get? b=some ob:=fun b o e hb=>by
  obtain⟨o1,e1⟩:=I.base.there b o e (by intro z;cases z)
  refine⟨o1,hideAll_get _ e1 fun hm=>?_⟩;rcases List.mem_cons.mp hm with z | hm
  ·subst z
   have:=I.base.free b o e h0 (by intro z;cases z)
   rw[hx] at this;cases this
  ·rcases List.mem_cons.mp (I.stkSub b hm) with z | z
   ·exact absurd (Nat.lt_of_lt_of_le (Heap.lt_size e) I.ok.above) (by rw[z];exact Nat.lt_irrefl _)
   ·exact hb z
 have fresh:(hideAll s.heap (x::frs (envOfC qual scope s₀.heap.objs.size f cd::outer))).get? x=none:=hideAll_none _ (by simp)
 refine Ng (L:=s₀.heap.objs.size) (B:=hideAll s.heap (x::frs (envOfC qual scope s₀.heap.objs.size f cd::outer))) I.ok.frames rfl (PySem.W.funFrames_hide I.stack hin) gx (fun b o e=>of_hideAll _ e) fresh fun h2 fl up=>?_;exact UC I'.os I'.bare I'.base I'.ok.funs I'.ok.frf (fun b o e=>of_hideAll _ e) fl (.inl rfl) hB cov0 (fun b o _ e n=>up b o e n) q
end
open PySem.W (InstAt KitX kitOne findIn looks_findIn looks_find)
def excφ (x C:Addr)(dd:Option Addr):Heap→Prop:=fun h=>∃ a0 tb cs,h.get? x=some (ExcObjC (.ref C) a0 dd tb cs)
def Held (bx:Bool)(H:Hp)(x C:Addr)(dd:Option Addr):Prop:=∃ a0 tb cs,H x=some (.frz (ExcObjC (.ref C) a0 dd tb cs) (.ext (excφ x C dd)))∧CxB bx H cs.1
section
variable {prog:Program}{w:World}{A:Around}{E:Value→Shared→Prop}{s:Shared}{K:Frag}{x C:Addr}{ox:Obj}{od:Obj}{name:Str}{v:Value}
theorem Nr{expr:Bool}{Q:Value→Shared→Prop}(X:K.In s.heap)(I:InstAt s.heap x ox C (some od))(O:Yu K C)(hh:hasDictIn K C=true)(n:findIn K (.ref C) name=some none)(hl:lookIn name od=some (some v))(hv:handedIn v=true)(h:Q v { s with toks:=s.toks+1 }):wpAny (model prog w) A (getAttr (.ref x) name expr) Q E s:=by
 obtain⟨hp,g,d,t,os⟩:=s;have L0:=I.type (M:=model prog w);have L1:=looks_findIn (M:=model prog w) X O.ga;have L2:=PySem.W.looks_hook (M:=model prog w) (mc:=.ref C) X (r:=none) (by rw[if_pos (show onTheHeap (Value.ref C)=true from rfl)];exact O.gr)
 have L3:=looks_find (M:=model prog w) X I (findObj_own hh n rfl hl);refine zA (wpAny_mkText (zD (zA (L0.at (zA (L1.at ?_))))));dsimp only;rw[show(onTheHeap (Value.ref C)&&Value.builtin "BaseException.__getattribute__"==Value.builtin "object.__getattribute__")=false from by rw[show(Value.builtin "BaseException.__getattribute__"==Value.builtin "object.__getattribute__")=false from by decide +kernel,Bool.and_false],if_neg (by decide)]
 refine zA (L2.at (zA (wpAny_attempt (zD ?_))));unfold callGetattribute;rw[show(expr&&onTheHeap (Value.builtin "BaseException.__getattribute__"))=false from Bool.and_false _,if_neg (by decide)]
 unfold boundAndCalled;refine zA (wpAny_of_eq (PySem.F.attr_ValueError.ga.bind (.ref x)) ?_);refine wpAny_call (codeAny_call_builtin PySem.F.attr_ValueError.ga.plain PySem.F.entry_bexc_ga ?_);have fin:wpAny (model prog w) A.in1 (Builtin.«object.__getattribute__» ⟨[.ref x,.str name t],[]⟩) (fun f s'=>match f with | .done (.ret v)=>wpAny (model prog w) A (handedOut v) Q E s' | _=>False) (fun _ _=>False) ⟨hp,g,d,t+1,os⟩:=by
  unfold Builtin.«object.__getattribute__»;refine zA (zB (zA (zB (zA (L0.at (zA (L3.at ?_)))))));exact zB (handed_on hv h)
 refine VW X I O (zC fin (fun f s' z=>?_) fun _ _ z=>z.elim);rcases f with (_ | _ | _ | _) | _ <;> first | exact z.elim | exact z
end
section
variable {X:Cx}{o:Expr}{name:Str}{ta:TE}{pos:Pos}
def Rj(K:Frag)(ta:TE)(f:Str):TE:=fun σ H Q=>ta σ H fun v H1=>∃ x C dx fs y,v = .ref x∧(∃ bx,Held bx H1 x C (some dx))∧H1 dx=some (.xd fs)∧fs.lookup f=some y∧Yu K C∧hasDictIn K C=true∧Yn K C f∧Q y H1
theorem D7(he:PE X o ta)(hb:attributeBase o name X.env (eval o X.env)=eval o X.env):PE X (.Attribute o name pos) (Rj X.K ta name):=by
 intro b9 s σ H Q I h;refine WP hb (thn (he b9 s σ H _ I h) fun u s1 ⟨v,H1,I1,rv,x,C,dx,fs,y,ev,⟨bx,a0,tb,cs,hx,_⟩,hd,l,O,hh,n,q⟩=>?_);subst ev;obtain rfl:u=Value.ref x:=rv;have gx:s1.heap.get? x=some (ExcObjC (.ref C) a0 (some dx) tb cs):=(show ObjOk X.prog X.w H1 s1.heap x (.frz _ _) from I1.hok x _ hx).1
 obtain⟨mA,ns,r⟩:=(show ObjOk X.prog X.w H1 s1.heap dx (.xd fs) from I1.hok dx _ hd)
 obtain⟨od,ho,hl⟩:=UB ns;obtain⟨uu,hu,ru⟩:=RelO.some_of (v:=y) (o:=mA name) (by rw[←l];exact r name)
 exact Nr I1.kIn ⟨gx,rfl,rfl,ho⟩ O hh n (by rw[hl,hu]) (VV ru) ⟨y,H1,I1.tok _,ru,q⟩
end
def Cx.handE(X:Cx)(x:Addr)(R:Value→Shared→Prop):Cx:={ X with A:=X.A.mark (some (.ref x)),calm:=false,xe:=R }
abbrev Cx.hand(X:Cx)(x:Addr):Cx:=X.handE x fun _ _=>False
section
variable {X:Cx}{b9:List (Addr×Obj)}{σ:St}{H:Hp}{s:Shared}
theorem Inv.hand{R:Value→Shared→Prop}{C:Addr}{dd:Option Addr}(I:Inv X b9 σ H s){x:Addr}{bx:Bool}(hx:Held bx H x C dd):Inv (X.handE x R) b9 σ H s :=
 ⟨⟨I.ok.mod,I.ok.kind,I.ok.glob,I.ok.blt,I.ok.above,I.ok.inj,I.ok.has,I.ok.cab,(fun z=>nomatch z),I.ok.frames,I.ok.stk,I.ok.exf,I.ok.bs,I.ok.bsz,I.ok.noex,I.ok.exfs,I.ok.funs,I.ok.frf⟩,I.os,I.bare,I.base,I.loc,I.cell,I.free,I.freeC,I.pin,I.hok,I.len,let ⟨_,_,_,e,c⟩:=hx;.inr ⟨x,_,_,_,_,rfl,e,rfl,rfl,c.ok⟩⟩
theorem Inv.unhand{R:Value→Shared→Prop}{x:Addr}(I:Inv (X.handE x R) b9 σ H s)(hd:X.calm=true→X.A.handled=none)(hh:HdH X.A H):Inv X b9 σ H s :=
 ⟨⟨I.ok.mod,I.ok.kind,I.ok.glob,I.ok.blt,I.ok.above,I.ok.inj,I.ok.has,I.ok.cab,hd,I.ok.frames,I.ok.stk,I.ok.exf,I.ok.bs,I.ok.bsz,I.ok.noex,I.ok.exfs,I.ok.funs,I.ok.frf⟩,I.os,I.bare,I.base,I.loc,I.cell,I.free,I.freeC,I.pin,I.hok,I.len,hh⟩
theorem Inv.gone{h':Heap}{m':Str→Option Value}{t':Nat}(I:Inv X b9 σ H s)(hn:h'.Ns X.env.locals m')(sb:Heap.SameBut X.env.locals s.heap h'):Inv X b9 (σ.map fun _=>none) H { s with heap:=h',toks:=t' }:=by
 have k:∀ b o,b≠X.env.locals→s.heap.get? b=some o→h'.get? b=some o:=fun b o hb e=>sb.extBut b o hb e;have ne:∀ b o,X.s₀.heap.get? b=some o→b≠X.env.locals:=fun b o e=>Nat.ne_of_lt (Nat.lt_of_lt_of_le (Heap.lt_size e) I.ok.above);refine⟨I.ok,I.os,I.bare,⟨fun b o e n hb hx=>k b o (ne b o e) (I.base.keep b o e n hb hx),fun b o e n hb hx=>?_,I.base.free,fun b o e hx=>?_,I.base.tups,I.base.frzs,I.base.tbls⟩,⟨m',hn,fun i x v _ e2 _=>?_⟩,fun x c e=>?_,I.free,I.freeC,fun p hp=>?_,fun b o e=>?_,by rw[List.length_map];exact I.len,I.hdh⟩
 ·obtain⟨sl,e1⟩:=I.base.slot b o e n hb hx;exact⟨sl,k b _ (ne b o e) e1⟩
 ·obtain⟨o1,e1⟩:=I.base.there b o e hx;exact⟨o1,k b _ (ne b o e) e1⟩
 ·rw[List.getElem?_map] at e2;cases es:σ[i]? with
  | none=>rw[es] at e2;cases e2
  | some v'=>rw[es] at e2;cases e2
 ·obtain⟨v,o,ho,hd⟩:=I.cell x c e;exact⟨v,o,k _ _ (I.cne x c e) ho,hd⟩
 ·obtain⟨a,b,c,d,e⟩:=I.pin p hp;exact⟨k _ _ c a,b,c,d,e⟩
 ·refine(I.hok b o e).stay (fun c u hc q=>k c u (fun z=>?_) q) (fun _ q=>q) fun _ _ q=>q;have hf:=I.free;rw[←z] at hf;rcases hc with w | w
  ·rw[w,e] at hf;cases hf
  ·rw[w] at hf;cases hf
theorem ObjOk.there{P:Program}{w:World}{h:Heap}{a:Addr}{o:HO}(x:ObjOk P w H h a o):∃ ob,h.get? a=some ob:=by
 cases o with
 | lst xs=>obtain⟨_,_,_,_,e⟩:=x;exact⟨_,e⟩
 | tup xs=>obtain⟨_,_,_,o,e,_⟩:=x;exact⟨_,e⟩
 | dK kvs=>obtain⟨_,_,_,_,o,_,_,e,_⟩:=x;exact⟨_,e⟩
 | dT kvs=>obtain⟨_,_,_,_,o,_,_,e,_⟩:=x;exact⟨_,e⟩
 | set S n=>obtain⟨o,_,_,_,e,_⟩:=x;exact⟨_,e⟩
 | ins C dx fs=>obtain⟨_,_,_,e,_⟩:=x;exact⟨_,e⟩
 | own y=>exact x
 | xd fs=>obtain⟨_,⟨_,_,_,e,_⟩,_⟩:=x;exact⟨_,e⟩
 | rng lo hi=>obtain⟨_,_,_,e⟩:=x;exact⟨_,e⟩
 | frz ob u=>obtain⟨e,_⟩:=x;exact⟨_,e⟩
 | tbl ps=>exact⟨_,x⟩
 | met f y=>exact⟨_,x⟩
 | ext φ=>exact x.2.1
end
def PEX (bx:Bool)(X:Cx)(e:Expr)(t:St→Hp→VK→XK→Prop):Prop :=
 ∀(b9:List (Addr×Obj)) (s:Shared) (σ:St) (H:Hp) (Q:VK) (E:XK),Inv X b9 σ H s→t σ H Q E →
  wpAny (model X.prog X.w) X.A (eval e X.env) (EP X b9 σ Q) (fun v s'=>∃ Hc sc,Inv X b9 σ Hc sc∧CXq bx X.prog X.w X.stack Hc sc E v s') s
section
variable {bx:Bool}{X:Cx}{k:Nat}{f C C0:Addr}{fd:FuncData}{ps:List Str}{sp:Sp}{x n cx:Str}{p pos p1 np hpos:Pos}{e:Expr}{es:List Expr}{t:TA}
theorem QK(F:FnOk X.prog X.w X.K X.mg X.base (CXq bx X.prog X.w) k f fd ps sp)(hr:Room k X.A)(hg:Gl X x)(hm:X.mg x=some (.ref f))(hk:keepIn X.K (.ref f)=true)(hb:Binds X.K fd ps [])(ha:PA X.nox (e::es) t)(hcalm:X.calm=true:=by rfl)(hdb:(x==("__debug__":Str))=false:=by decide)(he:zG (e::es) X.env=(false,eval e X.env)::zG es X.env:=by rfl)(hpl:(backTo pos (zG es X.env)).any (·.1)=false:=by rfl):
  PEX bx X (.Call (.Name x p) (e::es) [] pos) (fun σ H Q E=>t σ H fun vs H1=>sp vs H1 Q E):=by
 intro b9 s σ H Q E I h;refine wpAny_Call_Name_kw (YY I hg hm ?_ hdb);refine callWith_K (h₀:=X.base) I.ok.mod.kin hk (zC (ha pos b9 s σ H _ (I.wish _) h) (fun us s1 ⟨vs,H1,I1,r,q⟩=>⟨I1.kIn,?_⟩) fun _ _ z=>z.elim) he hpl;have I1:Inv X b9 σ H1 s1:=I1.unwish;have hl:us.length=ps.length:=by rw[←r.length];exact F.len _ _ _ _ q
 have hbd:=hb s1 us I1.kIn (by rw[List.append_nil];exact hl)
 rw[List.append_nil] at hbd;refine wpAny_call (codeAny_mono (F.run X.A X.stack s1 H1 ⟨us,[]⟩ us vs Q E hr (fun _=>I1.ok.hd hcalm) I1.env0 hbd r q) fun r' s' hq=>?_);cases r' with
 | error e=>exact⟨H1,s1,I1,hq⟩
 | ok fl =>
  cases fl with
  | ret u=>exact I1.after hq
  | next=>exact False.elim hq
  | brk=>exact False.elim hq
  | cont=>exact False.elim hq
structure ExcM(K:Frag)(C C0:Addr):Prop where
 c:∃(tl:List Value) (N:Addr) (nm q:Str) (bs:List Value) (hdct:Bool) (sn:List Str) (sub:List Value) (ab:Bool) (col:Option Bool) (dd:Option Addr) (k0 k1 k2 k3 k5:Option Value) (newId:String),
  K.lookup C=some (excClassObj nm q C N bs tl hdct sn sub ab col dd k0 k1 k2 k3 k5 newId)∧(Value.ref C::tl).contains (.ref C0)=true
 c0:∃(tl:List Value) (N:Addr) (nm q:Str) (bs:List Value) (hdct:Bool) (sn:List Str) (sub:List Value) (ab:Bool) (col:Option Bool) (dd:Option Addr) (k0 k1 k2 k3 k5:Option Value) (newId:String),
  K.lookup C0=some (excClassObj nm q C0 N bs tl hdct sn sub ab col dd k0 k1 k2 k3 k5 newId)∧tl.contains (.type "BaseException")=true
theorem X6{M:Model}{A:Around}{E:Value→Shared→Prop}{K:Frag}{s:Shared}{y:Addr}{oe:Obj}{Q:Bool→Shared→Prop}(Z:ExcM K C C0)(KX:K.In s.heap)(he:s.heap.get? y=some oe)(hc:oe.cls = .ref C)(hq:Q true s):wpAny M A (excMatches (.ref y) (.ref C0)) Q E s:=by
 obtain⟨tl,N,nm,q,bs,hdct,sn,sub,ab,col,dd,k0,k1,k2,k3,k5,newId,hC,hin⟩:=Z.c;obtain⟨tl',N',nm',q',bs',hdct',sn',sub',ab',col',dd',k0',k1',k2',k3',k5',newId',hC0,hb0⟩:=Z.c0;obtain⟨h,g,d,t,os⟩:=s;have gC:=KX _ _ hC;have gC0:=KX _ _ hC0;have hcB:(Value.ref C0::tl').contains (.type "BaseException")=true:=by rw[List.contains_cons,hb0,Bool.or_true]
 have fT:=tc_notTuple;unfold excMatches
 repeat (first | (with_reducible refine wpAny_loadPart_at he ?_;rw[hc]) | with_reducible refine wpAny_loadPart_at gC0 ?_ | (with_reducible refine wpAny_isSubtype_exc gC0 ?_;rw[hcB]) | (with_reducible refine wpAny_isSubtype_exc gC ?_;rw[hin]) | wp_step)
 exact hq
theorem Wb{fs:List Addr}{Hc H':Hp}{g h h2 B:Heap}(un:Un fs [] Hc H' g h)(st:B.StaysIn h)(st2:B.StaysIn h2)(cov:∀ b o,g.get? b=some o→b∉fs→∃ ob,B.get? b=some ob)(up:h.UpToSlots h2)(fr:∀ b∈fs,∃ o,g.get? b=some o∧∀ vs,o.data ≠ .fields vs)(ff:∀ b∈fs,Hc b=none):Un fs [] Hc H' g h2:=by
 have same:∀ b o,g.get? b=some o→b∉fs→∀ o',h.get? b=some o'→h2.get? b=some o':=fun b o e hb o' e'=>by
  obtain⟨ob,eb⟩:=cov b o e hb
  have:=st b ob eb
  rw[e'] at this;cases this;exact st2 b _ eb
 have slot:∀ b o,g.get? b=some o→b∈fs→∃ sl,h2.get? b=some { o with slots:=sl }:=fun b o e hb=>by
  obtain⟨sl,e1⟩:=un.slot b o e (ff b hb) hb (by simp)
  obtain⟨o2,e2,hnf⟩:=fr b hb;rw[e] at e2;cases e2;obtain⟨sl',e3⟩:=up b _ e1 hnf;exact⟨sl',e3⟩
 refine⟨fun b o e n hb hx=>same b o e hb o (un.keep b o e n hb hx),fun b o e n hb hx=>slot b o e hb,un.free,fun b o e hx=>?_,un.tups,un.frzs,un.tbls⟩;by_cases hb:b∈fs
 ·obtain⟨sl,e1⟩:=slot b o e hb;exact⟨_,e1⟩
 ·obtain⟨o1,e1⟩:=un.there b o e hx;exact⟨o1,same b o e hb o1 e1⟩
def tTry (bx:Bool)(i:Nat)(K:Frag)(C0:Addr)(tc:St→Hp→VK→XK→Prop)(tb:V→St→St)(th:Addr→TS):TS:=fun D σ H=>tc σ H (fun v H1=>D.nx (tb v σ) H1) fun cls d H1=>∃ C,cls = .ref C∧ExcM K C C0∧∀ x H2,H1 x=none→(∀ b,b≠x→H2 b=H1 b)→Held bx H2 x C d →
 th x { nx:=fun _ _=>False,rt:=D.rt } (σ.set i (some (.ref x))) H2
theorem lands{R:Addr→Value→Shared→Prop}{b₀:Stmt}{suite:List Stmt}{i:Nat}{th:Addr→TS}{D:Ends}{b9:List (Addr×Obj)}{σ:St}{Hc:Hp}{sc:Shared}{v:Value}{s':Shared}{rest:List ExceptHandler}(hN:X.N.Nodup)(hi:X.N[i]?=some n)(hl:X.env.scope.names.lookup n=some .local)(hg:Gl X cx)(hm:X.mg cx=some (.ref C0))(hth:∀ x,PSs (X.handE x (R x)) (b₀::suite) (th x))(hR:∀ x v s6,R x v s6→AsSuiteRaised (model X.prog X.w) (X.A.mark (some (.ref x))) X.env n hpos (notedBy (model X.prog X.w) (X.A.mark (some (.ref x))) X.env fun y s'=>cameBackBy (model X.prog X.w) X.A X.env X.xe y s') v s6)(hcm:X.calm=true)(hst:X.stack=X.env::X.outer)(hfr:X.env.frame=some X.env.locals)(hcd:(cx==("__debug__":Str))=false)(I:Inv X b9 σ Hc sc)(h:CXq bx X.prog X.w X.stack Hc sc (fun cls d H1=>∃ C,cls = .ref C∧ExcM X.K C C0∧∀ x H2,H1 x=none→(∀ b,b≠x→H2 b=H1 b)→Held bx H2 x C d→th x { nx:=fun _ _=>False,rt:=D.rt } (σ.set i (some (.ref x))) H2) v s'):
  wpAny (model X.prog X.w) X.A (noteFrame v X.env) (fun _ s₂=>wpAny (model X.prog X.w) X.A (setFlight v none) (fun _ s₃=>wpAny (model X.prog X.w) X.A (handleBy v X.env (.ExceptHandler (some (.Name cx np)) (some n) (b₀::suite) hpos::rest)) (SP X b9 D) X.xe s₃) X.xe s₂) X.xe s':=by
 obtain⟨x,cls,dd,H',rfl,os,bare,un,hok,⟨B,a0,cs,fl,hcx,hB,cov⟩,C,rfl,Z,q⟩:=h;have frames:X.A.frames=some (X.env::X.outer):=by rw[←hst];exact I.ok.frames
 rw[hst] at fl;refine N6 frames hfr fl fun h1 f1 u1=>Vt (s:={ s' with heap:=h1 }) f1 fun h2 f2 u2=>?_
 have up2:=u1.trans u2;have fr:∀ b∈frs X.stack,∃ o,sc.heap.get? b=some o∧∀ vs,o.data ≠ .fields vs:=fun b hb=>(I.stack.mem hb).2;have un2:Un (frs X.stack) [] Hc H' sc.heap h2:=Wb un fl.1 f2.1 cov up2 fr I.stkFree;have hx0:H' x=none:=by
  cases e:H' x with
  | none=>rfl
  | some o =>
   obtain⟨ob,e1⟩:=ObjOk.there (hB x o e);rw[fl.2.1] at e1;cases e1
 have cxu:∀ o,CxB bx (upd H' x o) cs.1:=fun o=>hcx.frzs fun b o' u e=>by rw[Z1 (Z4 e hx0)];exact e
 have track:∀(hh:Heap) (flv:Value),FlyX B (X.env::X.outer) x (.ref C) a0 dd cs flv hh→Un (frs X.stack) [] Hc H' sc.heap hh→∃ T,hh.get? x=some (ExcObjC (.ref C) a0 dd (.ref T) cs)∧Inv X b9 σ (upd H' x (.frz (ExcObjC (.ref C) a0 dd (.ref T) cs) (.ext (excφ x C dd)))) { s' with heap:=hh }:=fun hh flv f3 un3=>by
  obtain⟨T3,oT3,ts3,gx3,_,_,_,_,_⟩:=f3.2.2.2;refine⟨T3,gx3,?_⟩;have nsc:∀ b o,sc.heap.get? b=some o→b≠x:=fun b o e z=>by
   subst z;by_cases hb:b∈frs X.stack
   ·obtain⟨o2,e2,hnf⟩:=fr b hb;obtain⟨sl,e3⟩:=un3.slot b o2 e2 (I.stkFree b hb) hb (by simp)
    rw[gx3] at e3
    have:=congrArg Obj.data (Option.some.inj e3)
    exact hnf _ this.symm
   ·obtain⟨ob,e1⟩:=cov b o e hb;rw[f3.2.1] at e1;cases e1
  have un4:Un (frs X.stack) [] Hc (upd H' x (.frz (ExcObjC (.ref C) a0 dd (.ref T3) cs) (.ext (excφ x C dd)))) sc.heap hh :=
   ⟨un3.keep,un3.slot,fun b o e n hx=>by rw[Z1 (nsc b o e)];exact un3.free b o e n hx,un3.there,fun b xs e=>by rw[Z1 (Z4 (un3.tups b xs e) hx0)];exact un3.tups b xs e,fun b o u e=>by rw[Z1 (Z4 (un3.frzs b o u e) hx0)];exact un3.frzs b o u e,
    fun b ps e=>by obtain⟨more,e1⟩:=un3.tbls b ps e;exact⟨more,by rw[Z1 (Z4 e1 hx0)];exact e1⟩⟩
  have hok4:HOk X.prog X.w (upd H' x (.frz (ExcObjC (.ref C) a0 dd (.ref T3) cs) (.ext (excφ x C dd)))) hh:=fun b o e=>by
   by_cases hb:b=x
   ·subst hb;rw[Z2] at e;cases e;exact⟨gx3,⟨_,_,_,gx3⟩,⟨_,gx3⟩,fun g1 g2 ⟨a1,tb,c1,e1⟩ k=>⟨a1,tb,c1,k _ e1⟩⟩
   ·rw[Z1 hb] at e;exact(hB.kept f3.1 b o e).stay (fun _ _ _ z=>z) (fun c z=>by rw[Z1 (Z4 z hx0)];exact z) fun c xs z=>by rw[Z1 (Z4 z hx0)];exact z
  exact I.call' (ch:=[]) os un4 hok4 bare (fun b z=>absurd z (by simp))
 obtain⟨T2,gx2,I2⟩:=track h2 _ f2 un2;refine wpAny_handleBy_cons (codeAny_handlers_test ?_) (by intro z;cases z)
 refine YY (X:=X.hand x) (I2.hand (bx:=bx) ⟨a0,_,_,Z2,cxu _⟩) hg hm ?_ hcd;refine X6 Z I2.kIn gx2 rfl ?_;refine codeAny_handlers_suite_as ?_;refine Vt (s:={ s' with heap:=h2 }) f2 fun h3 f3 u3=>?_
 have un3:Un (frs X.stack) [] Hc H' sc.heap h3:=Wb un fl.1 f3.1 cov (up2.trans u3) fr I.stkFree;obtain⟨T3,gx3,I4⟩:=track h3 _ f3 un3;have hheld:Held bx (upd H' x (.frz (ExcObjC (.ref C) a0 dd (.ref T3) cs) (.ext (excφ x C dd)))) x C dd:=⟨a0,_,_,Z2,cxu _⟩;refine Ub (X:=X.handE x (R x)) (I4.hand hheld) hN hi (.inl hl) (v:=.ref x) rfl (fun s5 I5=>?_) (.inr hl);refine zC (hth x b9 s5 _ _ { nx:=fun _ _=>False,rt:=D.rt } I5 (q x _ hx0 (fun b hb=>Z1 hb) hheld)) (fun fl s6 q6=>?_) fun v s6 z=>hR x v s6 z;cases fl with
 | next=>obtain⟨_,_,_,z⟩:=q6;exact z.elim
 | brk=>obtain⟨_,_,_,z⟩:=q6;exact z.elim
 | cont=>obtain⟨_,_,_,z⟩:=q6;exact z.elim
 | ret u =>
  obtain⟨v6,σ6,H6,I6,r6,z6⟩:=q6;have I6:Inv X b9 σ6 H6 s6:=I6.unhand I.ok.hd (.inl (I.ok.hd hcm));obtain⟨m6,hn6,_⟩:=I6.loc;refine wpAny_nameGoes hl hn6 (by rw[I.ok.kind];rfl) fun h7 m7 hn7 sb7=>?_
  exact⟨v6,_,H6,I6.gone hn7 sb7,r6,z6⟩
end
section
variable {X:Cx}
theorem MX:OpR X (compareOp .Is) (fun x y H Q=>∃ b c,x = .bl b∧y = .bl c∧Q (.bl (b==c)) H):=by
 intro b9 s σ H x y v u Q I rx ry h;obtain⟨b,c,rfl,rfl,q⟩:=h;cases rx;cases ry;exact PyProof.Rows.is_bool ⟨.bl (b==c),H,I,rfl,q⟩
end
open PySem.W (CodeHd tabObj)
theorem Gw{P:Program}{w:World}{K:Frag}{mg mb:Str→Option Value}{CX:CXT}{k:Nat}{fa a c Pt:Addr}{fd:FuncData}{x:Str}{sp:Sp}{s₁:Shared}{vs:List Value}{ns:List Int}(KX:K.In s₁.heap)(hns:s₁.heap.Ns zE mg)(hb:s₁.heap.Ns builtinsNs mb)(hbb:∀ x:Str,x≠"__name__"→mb x=bootBuiltins x)(hlim:s₁.heap.NoLimit)(hg:s₁.gens = #[])(hC:CodeHd s₁.heap c Pt)(hP:s₁.heap.get? Pt=some (tabObj #[]))(hKP:K.lookup Pt=none)(hbm:∃ bm ob,mg "__builtins__"=some (.ref bm)∧bm≠builtinsNs∧s₁.heap.get? bm=some ob∧ob.cls = .type "module"∧ob.dict=some builtinsNs∧ob.data = .plain)(ha:s₁.heap.get? a=some { cls:=.type "list",data:=.seq vs.toArray })(hi:IntsAre vs ns)(hl:ns.length≤zF)(hr:Room k callerA)(F:∀ base:Heap,K.In base→base.Ns zE mg→CodeHd base c Pt→base.BuiltinsAt mg Pt→FnOk P w K mg base CX k fa fd [x] sp)(hbind:∀(s:Shared) (u:Value),BindsTo s fd ⟨[u],[]⟩ [(x,u)])(hsp:∀ H:Hp,SqL K H a (ns.map V.int)→H Pt=some (.tbl #[])→sp [.ref a] H (fun v _=>v = .bl true) fun _ _ _=>False)(hCX:∀ H e s',CX [] H s₁ (fun _ _ _=>False) e s'→False):
  codeAny (model P w) callerA (.call (.ref fa) ⟨[.ref a],[]⟩) (fun r s'=>r = .ok (.ret (.bool true))∧OldK s₁.heap s'.heap∧s'.os=s₁.os∧AllBare s'.gens) s₁:=by
 have rv:=Ur hi;have lenV:=hi.length;have naP:a≠Pt:=fun z=>by rw[z,hP] at ha;cases ha
 have core:∀ H:Hp,H Pt=some (.tbl #[])→(∀ b,b≠Pt→H b=none∨∃ o xs,H b=some (.frz o (.lst xs)))→SqL K H a (ns.map V.int)→HOk P w H s₁.heap→(∀ b,H b≠none→b=a∨b=Pt)→(H a≠none→K.lookup a=none) →
   codeAny (model P w) callerA (.call (.ref fa) ⟨[.ref a],[]⟩) (fun r s'=>r = .ok (.ret (.bool true))∧OldK s₁.heap s'.heap∧s'.os=s₁.os∧AllBare s'.gens) s₁:=by
  intro H hHP hO hS hok hA hK;have base_of:∀{b:Addr} {o:Obj},s₁.heap.get? b=some o→H b=none→(hidT s₁.heap H).get? b=some o:=fun e n=>Nj e n;have no_of:∀{b:Addr} {o:Obj},s₁.heap.get? b=some o→(∀ bw n,o.data ≠ .seq bw n)→(∀ fs,o.data ≠ .fields fs)→H b=none:=fun{b o} e d1 d2=>by
   cases q:H b with
   | none=>rfl
   | some u =>
    rcases hA b (by rw[q];simp) with e' | e'
    ·subst e';rw[ha] at e;cases e;exact absurd rfl (d1 _ _)
    ·subst e';rw[hP] at e;cases e;exact absurd rfl (d2 _)
  have nsK:∀{b:Addr} {m:Str→Option Value},s₁.heap.Ns b m→(hidT s₁.heap H).Ns b m:=fun{b m} ⟨o,es,ep,e,d,r⟩=>⟨o,es,ep,base_of e (no_of e (by rw[d];simp) (by rw[d];simp)),d,r⟩
  have hKb:K.In (hidT s₁.heap H):=fun b o e=>base_of (KX b o e) (by
   cases q:H b with
   | none=>rfl
   | some u =>
    rcases hA b (by rw[q];simp) with e' | e'
    ·subst e';rw[hK (by rw[q];simp)] at e;cases e
    ·subst e';rw[hKP] at e;cases e)
  have hM:Mod K mg (hidT s₁.heap H):=⟨hKb,nsK hns,⟨mb,nsK hb,hbb⟩,let ⟨mc,h1,h2⟩:=hlim;⟨mc,nsK h1,h2⟩⟩
  have hCb:CodeHd (hidT s₁.heap H) c Pt:=by
   obtain⟨o,vs',file,tf,flags,tg,inF,text,tt,e1,e2,r⟩:=hC;have ncP:c≠Pt:=r.2.2.2.2.2.2.2;refine⟨o,vs',file,tf,flags,tg,inF,text,tt,base_of e1 ?_,e2,r⟩;cases q:H c with
   | none=>rfl
   | some u =>
    rcases hA c (by rw[q];simp) with e' | e'
    ·subst e';rw[ha] at e1;cases e1;exact absurd (show Value.type "list" = .type "code" from e2) (by decide +kernel)
    ·exact absurd e' ncP
  have hBb:(hidT s₁.heap H).BuiltinsAt mg Pt:=by
   obtain⟨bm,ob,b1,b2,b3,b4,b5,b6⟩:=hbm;refine⟨bm,ob,b1,b2,fun z=>?_,fun z=>?_,base_of b3 (no_of b3 (by rw[b6];simp) (by rw[b6];simp)),b4,b5,b6⟩
   ·obtain⟨o,es,ep,e,d,_⟩:=hns;rw[z,e] at b3;cases b3;rw[d] at b6;cases b6
   ·rw[z,hP] at b3;cases b3;cases b6
  have e0:Env0 P w K mg (hidT s₁.heap H) callerA [] s₁ H:=⟨rfl,hM,fun b o e=>Dh e,Nat.le_of_eq (GQ _ _),trivial,fun b hb=>absurd (show b∈([]:List Addr) from hb) (by simp),hok,.of_eq hg,.inl rfl⟩
  refine codeAny_mono ((F _ hKb (nsK hns) hCb hBb).run callerA [] s₁ H ⟨[.ref a],[]⟩ [.ref a] [.ref a] _ _ hr (fun _=>rfl) e0 (hbind s₁ (.ref a)) (.cons rfl .nil) (hsp H hS hHP)) fun r s' h=>?_;cases r with
  | error e=>exact(hCX H e s' h).elim
  | ok fl =>
   cases fl with
   | next=>exact False.elim h
   | brk=>exact False.elim h
   | cont=>exact False.elim h
   | ret u =>
    obtain⟨v,H',os,bare,un,hok',r',q⟩:=h;have q':v = .bl true:=q;subst q';obtain rfl:u=Value.bool true:=r';obtain⟨more,hmore⟩:=un.tbls Pt _ hHP;have gP:s'.heap.get? Pt=some { cls:=.none,data:=.fields (#[]++more) }:=(show ObjOk P w H' s'.heap Pt (.tbl (#[]++more)) from hok' Pt _ hmore)
    have kept:∀ b o,b≠Pt→s₁.heap.get? b=some o→s'.heap.get? b=some o:=fun b o nb e=>by
     cases q:H b with
     | none=>exact un.keep b o e q (by intro z;exact absurd (show b∈([]:List Addr) from z) (by simp)) (by simp)
     | some u =>
      rcases hO b nb with z | ⟨ob,xs,z⟩
      ·rw[q] at z;cases z
      ·have z2:=un.frzs b ob _ z;obtain⟨e1,_⟩:=hok b _ z;obtain⟨e2,_⟩:=hok' b _ z2;rw[e] at e1;cases e1;exact e2
    refine⟨rfl,⟨fun b o e=>?_,fun b o e=>?_⟩,os,bare⟩
    ·by_cases nb:b=Pt
     ·subst nb;rw[hP] at e;cases e;exact .inr (.inl ⟨(hC.tab hP).isCodeTable,rfl,#[],more,rfl,gP⟩)
     ·exact .inl (kept b o nb e)
    ·by_cases nb:b=Pt
     ·exact⟨_,nb▸gP⟩
     ·exact⟨o,kept b o nb e⟩
 have tblOk:∀ H:Hp,ObjOk P w H s₁.heap Pt (.tbl #[]):=fun H=>hP;cases hk:K.lookup a with
 | some o =>
  have e:=KX a o hk;rw[ha] at e;cases e;refine core (fun b=>if b=Pt then some (.tbl #[]) else none) (if_pos rfl) (fun b nb=>.inl (if_neg nb)) (.inr ⟨_,vs.toArray,_,hk,rfl,rfl,rfl,by rw[List.size_toArray,lenV];exact hl,by simpa using rv⟩) (fun b u z=>?_) (fun b z=>?_) fun z=>absurd (if_neg naP) z
  ·by_cases hb:b=Pt
   ·have z':=(if_pos hb).symm.trans z;cases z';subst hb;exact tblOk _
   ·have z':=(if_neg hb).symm.trans z;cases z'
  ·by_cases hb:b=Pt
   ·exact .inr hb
   ·exact absurd (if_neg hb) z
 | none =>
  refine core (fun b=>if b=Pt then some (.tbl #[]) else if b=a then some (.frz { cls:=.type "list",data:=.seq vs.toArray } (.lst (ns.map V.int))) else none) (if_pos rfl) (fun b nb=>?_) (.inl (.inr ⟨{ cls:=.type "list",data:=.seq vs.toArray },(if_neg naP).trans (if_pos rfl)⟩)) (fun b u z=>?_) (fun b z=>?_) fun _=>hk
  ·by_cases hb:b=a
   ·exact .inr ⟨_,_,(if_neg nb).trans (if_pos hb)⟩
   ·exact .inl ((if_neg nb).trans (if_neg hb))
  ·by_cases hbP:b=Pt
   ·have z':=(if_pos hbP).symm.trans z;cases z';subst hbP;exact tblOk _
   ·by_cases hb:b=a
    ·have z':=((if_neg hbP).trans (if_pos hb)).symm.trans z;cases z';subst hb;exact⟨ha,by rw[List.length_map];exact hl,vs,_,rv,ha⟩
    ·have z':=((if_neg hbP).trans (if_neg hb)).symm.trans z;cases z'
  ·by_cases hbP:b=Pt
   ·exact .inr hbP
   ·by_cases hb:b=a
    ·exact .inl hb
    ·exact absurd ((if_neg hbP).trans (if_neg hb)) z
theorem M9{l:OpenLaw}{n k:Nat}{q:Program}{loose:List Str}{XP:(Str→Option Value)→Heap→Prop}{YP:World→Heap→Prop}{d d0:DefRec}{K:Params→Frag}{CX:World→CXT}{sp:World→Sp}{x x0:Str}{c Pt:Addr}(hn:l.most=some n)(hn2:n≤zF)(hdf:d.params.defaults=[])(hr:Room k callerA)(hY:∀(w:World) (h:Heap),YP w h→(K w.params).In h)(hrec:(recsOf q).find? (fun e=>e.name==x0)=some d0)(htab:∀ w:World,tabIn (K w.params) x0=some (c,Pt))(hno:∀ w:World,(K w.params).lookup Pt=none)(F:∀(w:World) (mg:Str→Option Value) (fa:Addr) (h:Heap),(K w.params).In h→h.Ns zE mg→mg d.name=some (.ref fa) →
   ∃ fd:FuncData,(∀(s:Shared) (u:Value),BindsTo s fd ⟨[u],[]⟩ [(x,u)]) ∧
    ∀ base:Heap,(K w.params).In base→base.Ns zE mg→CodeHd base c Pt→base.BuiltinsAt mg Pt→FnOk l.prog w (K w.params) mg base (CX w) k fa fd [x] (sp w))(hsp:∀(w:World) (H:Hp) (a:Addr) (ns:List Int),ns.length≤n→SqL (K w.params) H a (ns.map V.int)→H Pt=some (.tbl #[])→sp w [.ref a] H (fun v _=>v = .bl true) fun _ _ _=>False)(hCX:∀(w:World) (H:Hp) (s:Shared) (e:Value) (s':Shared),CX w [] H s (fun _ _ _=>False) e s'→False):
  PySem.W.WalkO q loose XP YP l.row.toRowW d [] (fun f vs=>PySem.call f vs):=by
 refine Att.attach_call hn hdf fun w s₀ s₁ mg mb fa o pm cd bu a vs ns G Y ho hd hcd hmg hobj hints hlen hg=>?_;have KX:=hY w _ Y;obtain⟨fd,hb,hF⟩:=F w mg fa _ KX G.T.g hmg;obtain⟨hC,hP⟩:=PySem.W.tab_of G.T KX hrec (htab w);exact Gw KX G.T.g G.T.b G.T.builtins G.T.nolimit hg hC hP (hno w) G.T.bmain hobj hints (Nat.le_trans hlen hn2) hr hF hb (fun H hS hT=>hsp w H a ns hlen hS hT) fun H e s'=>hCX w H s₁ e s'
open PySem.W (InstAt KitX kitOne findIn looks_findIn looks_find)
section
variable {M:Model}{A:Around}{EE:Value→Shared→Prop}{s:Shared}{B:Heap}{env:Env}{outer l:List Env}{L x:Addr}{cls a0 tb fl:Value}{dd:Option Addr}{cs:Value×Value}{Q:Unit→Shared→Prop}
theorem Wp(hf:env.frame=some L)(hx:FlyX B l x cls a0 dd cs (rawInt L) s.heap)(k:Q () s):wpAny M A (noteFrame (.ref x) env) Q EE s:=by
 obtain⟨hk,hn,hl,T,oT,ts,hx,hnT,hTx,hT,hdT,h3⟩:=hx;unfold noteFrame;simp only[hf];refine zA (wpAny_field hx rfl (x:=.ref T) rfl ?_);rw[if_pos (show(Value.ref T != Value.none)=true from by simp)]
 refine zA (wpAny_field hT hdT h3 ?_);rw[if_pos (show(rawInt L==rawInt L)=true from by simp)]
 exact zB k
theorem Tc(hx:FlyX B l x cls a0 dd cs fl s.heap)(k:∀ h',FlyX B l x cls a0 dd cs (rawInt L) h'→s.heap.UpToSlots h'→Q () { s with heap:=h' }):wpAny M A (setFlight (.ref x) (some L)) Q EE s:=by
 obtain⟨hk,hn,hl,T,oT,ts,hx,hnT,hTx,hT,hdT,h3⟩:=hx;have sz:3<ts.size:=(Array.getElem?_eq_some_iff.mp h3).1;have oth:∀ b,b≠T→(s.heap.update T (Obj.mapFields (·.setIfInBounds 3 (rawInt L)))).get? b=s.heap.get? b:=fun b hb=>Heap.get?_update_other _ _ (Ne.symm hb);have norec:∀ b o,s.heap.get? b=some o→(∀ vs,o.data ≠ .fields vs)→b≠T:=fun b o e hnf z=>by
  rw[z,hT] at e;cases e;exact hnf ts hdT
 unfold setFlight;refine zA (wpAny_field hx rfl (x:=.ref T) rfl ?_);rw[if_pos (show(Value.ref T != Value.none)=true from by simp)]
 refine wpAny_setField hT hdT sz (k _ ⟨fun b o e=>(oth b fun z=>by rw[z,hnT] at e;cases e).trans (hk b o e),hn,hl.of_keeps fun b o e hnf=>⟨o,(oth b (norec b o e hnf)).trans e,rfl⟩,T,_,_,(oth x (Ne.symm hTx)).trans hx,hnT,hTx,Heap.get?_update_self _ hT (Obj.isFreed_of_fields (Obj.data_mapFields hdT _)),Obj.data_mapFields hdT _,by simp[sz]⟩
  fun b o e hnf=>⟨o.slots,(oth b (norec b o e hnf)).trans e⟩)
theorem FlyX.tbs(hx:FlyX B l x cls a0 dd cs fl s.heap):∃ T,s.heap.get? x=some (ExcObjC cls a0 dd (.ref T) cs):=by
 obtain⟨hk,hn,hl,T,oT,ts,hx,_⟩:=hx;exact⟨T,hx⟩
theorem FlyX.local{h h':Heap}{D:Addr}{m:Str→Option Value}(hx:FlyX B (env::l) x cls a0 dd cs fl h)(hD:B.get? D=none)(hn:h.Ns D m){m':Str→Option Value}(hn':h'.Ns D m')(sb:Heap.SameBut D h h'):FlyX B l x cls a0 dd cs fl h':=by
 obtain⟨hk,hnx,⟨_,_,hl⟩,T,oT,ts,hx,hnT,hTx,hT,hdT,h3⟩:=hx;obtain⟨oD,es,ep,gD,dD,_⟩:=id hn;obtain⟨oD',es',ep',gD',dD',_⟩:=id hn';have nx:x≠D:=fun z=>by rw[z,gD] at hx;cases hx;cases dD
 have nT:T≠D:=fun z=>by rw[z,gD] at hT;cases hT;rw[dD] at hdT;cases hdT
 refine⟨fun b o e=>(sb.2 b fun z=>by rw[z,hD] at e;cases e).trans (hk b o e),hnx,?_,T,oT,ts,(sb.2 x nx).trans hx,hnT,hTx,(sb.2 T nT).trans hT,hdT,h3⟩
 clear hx hT
 induction l with
 | nil=>trivial
 | cons e r ih =>
  obtain⟨h1,⟨L,o,h2,h3,h4,h5⟩,h6⟩:=hl;refine⟨h1,?_,ih h6⟩;by_cases z:L=D
  ·subst z;exact⟨L,oD',h2,h3,gD',fun vs q=>by rw[dD'] at q;cases q⟩
  ·exact⟨L,o,h2,h3,(sb.2 L z).trans h4,h5⟩
end
section
variable {bx:Bool}{P:Program}{w:World}{K:Frag}{mg:Str→Option Value}{base:Heap}{N:List Str}{qual:Str}{scope:Scope}{f:Addr}{cd:Value}{A:Around}{outer:List Env}{s₀:Shared}{H₀:Hp}{E:XK}
def U5(X:Cx)(n:Str)(hpos:Pos)(x:Addr):Value→Shared→Prop :=
 AsSuiteRaised (model X.prog X.w) (X.A.mark (some (.ref x))) X.env n hpos (notedBy (model X.prog X.w) (X.A.mark (some (.ref x))) X.env fun y s'=>cameBackBy (model X.prog X.w) X.A X.env X.xe y s')
theorem NI{n:Str}{hpos:Pos}{y:Addr}{R:Value→Shared→Prop}{b9:List (Addr×Obj)}{σ:St}{H:Hp}{s:Shared}{x C:Addr}{dd:Option Addr}{cs:Value×Value}(hl:(envOfC qual scope s₀.heap.objs.size f cd).kindOf n=some .local)(I:Inv ((cxOf (CXq bx P w) P w K mg base N qual scope f cd A outer s₀ H₀ E).handE y R) b9 σ H s)(hx:H x=some (.ext (exφC x C dd cs)))(h0:H₀ x=none)(hcx:CxB bx (unt H x) cs.1)(q:E (.ref C) dd (unt H x)):
  U5 (cxOf (CXq bx P w) P w K mg base N qual scope f cd A outer s₀ H₀ E) n hpos y (.ref x) s:=by
 have I':=I.unt hx (fun u (z:H₀ x=some u)=>by rw[h0] at z;cases z)
 obtain⟨a0,gx⟩:=Jy I hx;have hin:∀ env∈(envOfC qual scope s₀.heap.objs.size f cd::outer),∀ a,env.frame=some a→a∈x::frs (envOfC qual scope s₀.heap.objs.size f cd::outer):=fun env he a ha=>List.mem_cons_of_mem _ (List.mem_filterMap.mpr ⟨env,he,ha⟩);have hB:HOk P w (unt H x) (hideAll s.heap (x::frs (envOfC qual scope s₀.heap.objs.size f cd::outer))):=fun a o e=>(I'.hok a o e).stay (fun b u hb eb=>hideAll_get _ eb fun hm=>by
   rcases List.mem_cons.mp hm with z | z
   ·subst z;rcases hb with y | y
    ·subst y;rw[Jm] at e;cases e
    ·rw[Jm] at y;cases y
   ·have n:=I'.stkFree b z;rcases hb with y | y
    ·rw[y,e] at n;cases n
    ·rw[y] at n;cases n) (fun _ z=>z) fun _ _ z=>z
 have ibase:Un (frs outer) [] H₀ H s₀.heap s.heap:=I.base;have cov0:∀ b o,s₀.heap.get? b=some o→b∉frs outer→∃ ob,(hideAll s.heap (x::frs (envOfC qual scope s₀.heap.objs.size f cd::outer))).get? b=some ob:=fun b o e hb=>by
  obtain⟨o1,e1⟩:=ibase.there b o e (by intro z;cases z)
  refine⟨o1,hideAll_get _ e1 fun hm=>?_⟩;rcases List.mem_cons.mp hm with z | hm
  ·subst z
   have:=ibase.free b o e h0 (by intro z;cases z)
   rw[hx] at this;cases this
  ·rcases List.mem_cons.mp (I.stkSub b hm) with z | z
   ·exact absurd (Nat.lt_of_lt_of_le (Heap.lt_size e) I.ok.above) (by rw[z];exact Nat.lt_irrefl _)
   ·exact hb z
 have fresh:(hideAll s.heap (x::frs (envOfC qual scope s₀.heap.objs.size f cd::outer))).get? x=none:=hideAll_none _ (by simp)
 have freshL:(hideAll s.heap (x::frs (envOfC qual scope s₀.heap.objs.size f cd::outer))).get? s₀.heap.objs.size=none:=hideAll_none _ (List.mem_cons_of_mem _ (List.mem_filterMap.mpr ⟨_,List.mem_cons_self,rfl⟩));have stB:(hideAll s.heap (x::frs (envOfC qual scope s₀.heap.objs.size f cd::outer))).StaysIn s.heap:=fun b o e=>of_hideAll _ e;have fl0:=PySem.W.funFrames_hide I.stack hin;generalize hideAll s.heap (x::frs (envOfC qual scope s₀.heap.objs.size f cd::outer))=B at hB cov0 fresh freshL stB fl0;unfold U5;refine Wq (L:=s₀.heap.objs.size) (B:=B) I.ok.frames rfl fl0 gx stB fresh fun h1 f1 u1=>?_;obtain⟨m,hn,_⟩:=I.loc;have hn:s.heap.Ns s₀.heap.objs.size m:=hn;refine wpAny_nameGoes hl (u1.ns hn) (by have hk:scope.kind=_:=I.ok.kind;show((scope.kind == .class || (scope.kind == .module&&_))=false);rw[hk];rfl) fun h2 m2 hn2 sb2=>?_
 have f2:FlyX B outer x (.ref C) (.ref a0) dd cs (rawInt s₀.heap.objs.size) h2:=f1.local freshL (u1.ns hn) hn2 sb2;obtain⟨T2,g2⟩:=f2.tbs (s:={ s with heap:=h2 })
 unfold PySem.passOn;refine zA (wpAny_field (s:={ s with heap:=h2,toks:=s.toks+1 }) g2 rfl (x:=.ref T2) rfl ?_)
 rw[if_neg (show ¬ ((Value.ref T2==Value.none)=true) from Bool.false_ne_true)]
 refine zA (Tc (s:={ s with heap:=h2,toks:=s.toks+1 }) (L:=s₀.heap.objs.size) f2 fun h3 f3 u3=>wpAny_throw ?_)
 refine Wp (s:={ s with heap:=h3,toks:=s.toks+1 }) (L:=s₀.heap.objs.size) rfl f3 ?_
 obtain⟨T3,g3⟩:=f3.tbs (s:={ s with heap:=h3 })
 unfold cameBackBy;refine zA (wpAny_field (s:={ s with heap:=h3,toks:=s.toks+1 }) g3 rfl (x:=.ref T3) rfl ?_)
 rw[if_neg (show ¬ ((Value.ref T3==Value.none)=true) from Bool.false_ne_true)]
 refine Tc (s:={ s with heap:=h3,toks:=s.toks+1 }) (L:=s₀.heap.objs.size) f3 fun h4 f4 u4=>?_
 show wpAny _ _ (leaving _ _) _ _ _;unfold leaving;refine zA (Wp (s:={ s with heap:=h4,toks:=s.toks+1 }) (L:=s₀.heap.objs.size) rfl f4 ?_)
 refine Vt (s:={ s with heap:=h4,toks:=s.toks+1 }) f4 fun h5 f5 u5=>?_
 refine UC (s:=s) (t':=s.toks+1) I'.os I'.bare I'.base I'.ok.funs I'.ok.frf stB f5 hcx hB cov0 (fun b o hb e hnf=>?_) q;have nb:b≠s₀.heap.objs.size:=fun z=>by
  obtain⟨_,o2,e2,_⟩:=(show s₀.heap.FunFrames _ outer from I.ok.funs).mem hb
  rw[z] at e2;exact absurd (Heap.lt_size e2) (Nat.lt_irrefl _)
 obtain⟨sl1,e1⟩:=u1 b o e hnf;obtain⟨sl2,e2⟩:=((u3.trans u4).trans u5) b _ ((sb2.2 b nb).trans e1) hnf;exact⟨sl2,e2⟩
end
theorem HdS.pins{A:Around}{h:Heap}(x:HdS A h):∃ ps:List (Addr×Obj),(∀ p∈ps,h.get? p.1=some p.2∧∃ v cx,p.2.data = .fields v∧v[2]?=some cx)∧∀ h':Heap,(∀ p∈ps,h'.get? p.1=some p.2)→HdS A h':=by
 rcases x with x | ⟨a,h1,o,v,cx,e1,e2,e3,e4⟩
 ·exact⟨[],by simp,fun _ _=>.inl x⟩
 ·rcases e4 with e4 | ⟨y,o',v',f1,f2,f3,f4,f5⟩
  ·refine⟨[(a,o)],fun p hp=>?_,fun h' k=>.inr ⟨a,h1,o,v,cx,k (a,o) (by simp),e2,e3,.inl e4⟩⟩
   have:p=(a,o):=by simpa using hp
   subst this;exact⟨e1,v,cx,e2,e3⟩
  ·refine⟨[(a,o),(y,o')],fun p hp=>?_,fun h' k=>.inr ⟨a,h1,o,v,cx,k (a,o) (by simp),e2,e3,.inr ⟨y,o',v',f1,f2,k (y,o') (by simp),f4,f5⟩⟩⟩
   rcases List.mem_cons.mp hp with z | hp
   ·subst z;exact⟨e1,v,cx,e2,e3⟩
   ·have:p=(y,o'):=by simpa using hp
    subst this;exact⟨f3,v',_,f4,f5⟩
section
variable {prog:Program}{w:World}{A:Around}{EE:Value→Shared→Prop}{s:Shared}
theorem Walks.listH{ps:List (Addr×Obj)}(hh:∀ h':Heap,(∀ p∈ps,h'.get? p.1=some p.2)→HdS A h')(I ax:Addr)(hne:ax≠I)(nI:∀ p∈ps,p.1≠I)(items:Array Value):
  Walks prog w A I (I::ax::ps.map (·.1)) [I] items.size (fun i v=>items[i]?=some v) (fun i h=>h.IsListIter I ax i∧h.IsList ax items∧∀ p∈ps,h.get? p.1=some p.2) where
 sub:=fun b hb=>by simp at hb;simp[hb]
 frame:=fun _ _ _ st hk=>⟨st.1.at fun o e=>hk I (by simp) o e,st.2.1.at fun o e=>hk ax (by simp) o e,fun p hp=>hk p.1 (by simp only[List.mem_cons];exact .inr (.inr (List.mem_map.mpr ⟨p,hp,rfl⟩))) _ (st.2.2 p hp)⟩
 item:=fun i s Q E hi st hQ=>by
  refine wpAny_pyNext_list_item st.1 st.2.1 (x:=items[i]) (by simp[hi]) fun h' hit' hs'=>?_
  exact hQ _ h' s.toks (by simp[hi]) ⟨hit',st.2.1.extBut hs'.extBut hne,fun p hp=>hs'.extBut _ _ (nI p hp) (st.2.2 p hp)⟩ fun b o hb e=>hs'.extBut b o (fun h=>hb (by simp[h])) e
 done:=fun s Q E st hQ=>VS (hh _ st.2.2) st.1 st.2.1 (by simp) fun h' he'=>hQ h' s.toks fun b o hb e=>he' b o (fun h=>hb (by simp[h])) e
 self:=fun _ _ _ _ st hQ=>wpAny_pyIter_listiter st.1 hQ
theorem ME{it l:Addr}{Q:Option Value→Shared→Prop}(hh:HdS A s.heap)(hit:s.heap.IsRevIter it l (-1))(hQ:∀ h',Heap.ExtBut it s.heap h'→Q none { s with heap:=h' }):wpAny (model prog w) A (pyNext (.ref it)) Q EE s:=by
 rcases hh with hh | ⟨x,h1,h2⟩
 ·exact wpAny_pyNext_rev_end hh hit hQ
 obtain⟨o,ho,hc,hd⟩:=id hit;unfold pyNext;refine zA (wpAny_attempt (wpAny_callSpecial?_slot (name:=Str.ofString "__next__") hit.typeIs PySem.F.slot_lri_next
  (wpAny_call_entry PySem.F.slot_lri_next hit.typeIs PySem.F.entry_lri_next ?_ (PySem.F.args_lri_next_1 _))))
 unfold Builtin.«list_reverseiterator.__next__»;refine zA (wpAny_of_eq (a:=(Value.ref it,[])) rfl ?_)
 try dsimp only
 refine zA (wpAny_field ho hd (x:=rawInt (-1)) rfl ?_);show wpAny _ _ (if(-1:Int)<0 then _ else _) _ _ s;rw[if_pos (by decide)]
 refine zA (wpAny_rule ?_)
 first
 | show wpAny _ _ (newExc (.type "StopIteration") [] >>= _) _ _ _
 | (refine zA ?_;show wpAny _ _ (newExc (.type "StopIteration") [] >>= _) _ _ _)
 refine zC (Qb (it:=it) (EE:=EE) (Q:=Q) (s:=s) (h1:=s.heap) h1 h2 fun h' k=>hQ h' fun b o hb e=>k b o e) (fun _ _ z=>False.elim z) fun e s1 h1=>?_;refine zA (zC h1 (fun b s2 h2=>?_) fun _ _ z=>z);cases b with
 | true=>exact zB h2
 | false=>exact False.elim h2
theorem Walks.revH{ps:List (Addr×Obj)}(hh:∀ h':Heap,(∀ p∈ps,h'.get? p.1=some p.2)→HdS A h')(I l:Addr)(hne:l≠I)(nI:∀ p∈ps,p.1≠I)(items:Array Value):
  Walks prog w A I (I::l::ps.map (·.1)) [I] items.size (fun i v=>items[items.size-1-i]?=some v) (fun i h=>i≤items.size∧h.IsRevIter I l ((items.size:Int)-1-(i:Int))∧h.IsList l items∧∀ p∈ps,h.get? p.1=some p.2) where
 sub:=fun b hb=>by simp at hb;simp[hb]
 frame:=fun _ _ _ x hk=>⟨x.1,x.2.1.at fun o e=>hk I (by simp) o e,x.2.2.1.at fun o e=>hk l (by simp) o e,fun p hp=>hk p.1 (by simp only[List.mem_cons];exact .inr (.inr (List.mem_map.mpr ⟨p,hp,rfl⟩))) _ (x.2.2.2 p hp)⟩
 item:=fun i s Q E hi x hQ=>by
  have e:(items.size:Int)-1-(i:Int)=((items.size-1-i:Nat):Int):=by lia
  have hit:=x.2.1;rw[e] at hit;have hx:items[items.size-1-i]?=some (items[items.size-1-i]'(by lia)):=Array.getElem?_eq_getElem (by lia)
  refine wpAny_pyNext_rev_item hit x.2.2.1 hx fun h' hit' hs'=>?_;have e2:((items.size-1-i:Nat):Int)-1=(items.size:Int)-1-((i+1:Nat):Int):=by lia
  rw[e2] at hit';exact hQ _ h' s.toks hx ⟨hi,hit',x.2.2.1.at fun o eo=>(hs'.2 l hne).trans eo,fun p hp=>(hs'.2 _ (nI p hp)).trans (x.2.2.2 p hp)⟩ fun b o hb eo=>hs'.extBut b o (fun h=>hb (by simp[h])) eo
 done:=fun s Q E x hQ=>by
  have e:(items.size:Int)-1-(items.size:Int) = -1:=by lia
  have hit:=x.2.1;rw[e] at hit;exact ME (hh _ x.2.2.2) hit fun h' he'=>hQ h' s.toks fun b o hb eo=>he' b o (fun h=>hb (by simp[h])) eo
 self:=fun _ _ _ _ x hQ=>wpAny_pyIter_revIter x.2.1 hQ
theorem XO:typeLookup (.type "list_reverseiterator") "__len__"=pure none:=by rw[typeLookup_type,builtinLookup_eq_fast];kernel_rfl
theorem Nc:typeLookup (.type "list_reverseiterator") "__length_hint__"=pure (some (.builtin "list_reverseiterator.__length_hint__")):=by rw[typeLookup_type,builtinLookup_eq_fast];kernel_rfl
theorem Do:isSubtype (.type "list_reverseiterator") (.type "list_reverseiterator")=pure true:=by rw[isSubtype_type];kernel_rfl
theorem VB{Q:Value→Shared→Prop}{ps:List (Addr×Obj)}(hh:∀ h':Heap,(∀ p∈ps,h'.get? p.1=some p.2)→HdS A h')(hps:∀ p∈ps,s.heap.get? p.1=some p.2)(I l:Addr)(hne:l≠I)(nI:∀ p∈ps,p.1≠I)(items:Array Value)(hI:s.heap.IsRevIter I l ((items.size:Int)-1))(hl:s.heap.IsList l items)(hn:items.size≤zF)(hQ:∀ h' tk acc' c',(∀ b o,b≠I→s.heap.get? b=some o→h'.get? b=some o)→h'.get? s.heap.objs.size=some { cls:=.type "list",dict:=none,data:=.seq acc' c',slots:=#[] }→ItemsOf (fun i v=>items[items.size-1-i]?=some v) acc' items.size →
   Q (.ref s.heap.objs.size) { s with heap:=h',toks:=tk }):wpAny (model prog w) A (call (.type "list") [.ref I]) Q EE s:=by
 have hIlt:I<s.heap.objs.size:=by obtain⟨_,e,_⟩:=hI;exact Heap.lt_size e
 have hllt:l<s.heap.objs.size:=by obtain⟨_,e,_⟩:=hl;exact Heap.lt_size e
 have hSI:s.heap.objs.size≠I:=Nat.ne_of_gt hIlt;have W:=(Walks.revH (prog:=prog) (w:=w) (A:=A.in1.in1) (ps:=ps) hh I l hne nI items).toS;have hSf:s.heap.objs.size∉I::l::ps.map (·.1):=fun hm=>by
  rcases List.mem_cons.mp hm with z | hm
  ·exact hSI z
  ·rcases List.mem_cons.mp hm with z | hm
   ·exact absurd hllt (by rw[←z];exact Nat.lt_irrefl _)
   ·obtain⟨p,hp,e⟩:=List.mem_map.mp hm;exact absurd (Heap.lt_size (hps p hp)) (by rw[e];exact Nat.lt_irrefl _)
 refine callType_codes (Q₁:=fun obj s₁=>obj = .ref s.heap.objs.size∧s₁={ s with heap:=s.heap.push { cls:=.type "list",data:=.seq #[] } }) F.called_list (F.typeCall_list_1 _) F.entry_list_init
  (code_list_new _ ⟨rfl,rfl⟩) fun obj s₁ h₁=>?_
 obtain⟨rfl,rfl⟩:=h₁;have hS:(s.heap.push { cls:=.type "list",data:=.seq #[] }).get? s.heap.objs.size=some { cls:=.type "list",data:=.seq #[] }:=Heap.get?_push_size _ rfl;refine⟨⟨_,hS,rfl⟩,F.args_list_init_2 _ _,?_⟩;have kp0:∀ b o,s.heap.get? b=some o→(s.heap.push { cls:=.type "list",data:=.seq #[] }).get? b=some o:=fun b o e=>Heap.get?_push_of_some _ e;have st0:0≤items.size∧(s.heap.push { cls:=.type "list",data:=.seq #[] }).IsRevIter I l ((items.size:Int)-1-((0:Nat):Int))∧(s.heap.push { cls:=.type "list",data:=.seq #[] }).IsList l items∧∀ p∈ps,(s.heap.push { cls:=.type "list",data:=.seq #[] }).get? p.1=some p.2 :=
  ⟨Nat.zero_le _,by rw[show(items.size:Int)-1-((0:Nat):Int)=(items.size:Int)-1 from by lia];exact hI.at fun o e=>kp0 _ _ e,hl.at fun o e=>kp0 _ _ e,fun p hp=>kp0 _ _ (hps p hp)⟩
 have old:∀ b o,s.heap.get? b=some o→b≠s.heap.objs.size:=fun b o e=>Nat.ne_of_lt (Heap.lt_size e);generalize hg:s.heap.push { cls:=.type "list",data:=.seq #[] }=g at hS kp0 st0;show wpAny _ A.in1.in1 (do let old ← Builtin.List.listItems (.ref s.heap.objs.size);Builtin.List.listUpdate (.ref s.heap.objs.size) (fun _=>#[]);letGo old.toList.reverse;Builtin.List.listExtendWith (.ref s.heap.objs.size) (.ref I) .none) _ _ { s with heap:=g }
 refine zA ?_;unfold Builtin.List.listItems;refine zA (wpAny_seqItems (s:={ s with heap:=g }) hS rfl (zB ?_))
 show wpAny _ A.in1.in1 (updateSeq s.heap.objs.size (fun _=>#[]) >>= fun _=>letGo (#[]:Array Value).toList.reverse >>= fun _=>Builtin.List.listExtendWith (.ref s.heap.objs.size) (.ref I) .none) _ _ { s with heap:=g }
 refine zA (wpAny_updateSeq (s:={ s with heap:=g }) hS rfl ?_)
 have hS₂:=Heap.get?_update_self (Obj.mapSeq (fun _=>(#[]:Array Value))) hS rfl;have oth:∀ b o,b≠s.heap.objs.size→g.get? b=some o→(g.update s.heap.objs.size (Obj.mapSeq (fun _=>(#[]:Array Value)))).get? b=some o :=
  fun b o hb e=>(Heap.get?_update_other _ _ (Ne.symm hb)).trans e
 refine zA (wpAny_letGo ?_);have st1:=W.frame 0 { s with heap:=g } (g.update s.heap.objs.size (Obj.mapSeq (fun _=>(#[]:Array Value)))) s.toks st0 (Nat.le_refl _) fun b hb o e=>oth b o (fun h=>hSf (h▸hb)) e
 have kp1:∀ b o,s.heap.get? b=some o→(g.update s.heap.objs.size (Obj.mapSeq (fun _=>(#[]:Array Value)))).get? b=some o:=fun b o e=>oth b o (old b o e) (kp0 b o e);generalize g.update s.heap.objs.size (Obj.mapSeq (fun _=>(#[]:Array Value)))=g1 at hS₂ st1 kp1;have st1:0≤items.size∧g1.IsRevIter I l ((items.size:Int)-1-((0:Nat):Int))∧g1.IsList l items∧∀ p∈ps,g1.get? p.1=some p.2:=st1;have tI:Shared.TypeIs { s with heap:=g1 } (.ref I) "list_reverseiterator":=st1.2.1.typeIs
 have h1:Builtin.List.listSameRef (.ref s.heap.objs.size) (.ref I)=false:=by simp[Builtin.List.listSameRef,hSI]
 have h2:(Value.type "list_reverseiterator"==Value.type "list")=false:=by decide
 have h3:(Value.type "list_reverseiterator"==Value.type "tuple")=false:=by decide
 unfold Builtin.List.listExtendWith;refine zA (wpAny_typeOf tI ?_);simp only[h1,h2,h3,Bool.or_false,Bool.false_eq_true,if_false];refine zA (W.self 0 { s with heap:=g1 } _ _ st1 ?_)
 refine zA (zD ?_);unfold Builtin.List.listLengthHint;refine zA (wpAny_specialOf tI XO ?_);show wpAny _ A.in1.in1 (specialOf (Value.ref I) (Str.ofString "__length_hint__") >>= _) _ _ _;refine zA (wpAny_specialOf tI Nc ?_);dsimp only;rw[show splitId "list_reverseiterator.__length_hint__"=some ("list_reverseiterator","__length_hint__") from by decide +kernel]
 dsimp only;refine zA (wpAny_isInstance (s:={ s with heap:=g1 }) tI Do ?_)
 rw[if_neg (by decide)]
 refine wpAny_ite_split (fun _=>?_) (fun h=>absurd (by decide +kernel) h)
 rw[if_neg (by decide +kernel)]
 refine zB ?_;refine wpAny_ite_split (fun h=>absurd h (by decide +kernel)) (fun _=>?_)
 refine zB ⟨plainId_quiet F.plain_extend_loop _,codeAny_extend_loopS W hn _ hSf _ items.size 0 _ _ _ rfl (Nat.zero_le _) st1 hS₂ (ItemsOf.nil _) fun s' acc' c' hm hS' hacc=>?_⟩;rw[Moved.eq_with hm];refine⟨rfl,hQ s'.heap s'.toks acc' c' (fun b o hb e=>hm.heap b o (fun hmem=>?_) (kp1 b o e)) hS' hacc⟩;rcases List.mem_cons.mp hmem with e' | hmem
 ·exact old b o e e'
 ·exact hb (by simpa using hmem)
end
section
variable {X:Cx}{e:Expr}{te:TE}{p p2 pos pos2:Pos}
theorem Xv(hgL:Gl X "list")(hmL:X.mg "list"=none)(hgR:Gl X "reversed")(hmR:X.mg "reversed"=none)(he:PE X e te)(hs:zG [e] X.env=[(false,eval e X.env)]:=by rfl)(hs2:zG [.Call (.Name "reversed" p2) [e] [] pos2] X.env=[(false,eval (.Call (.Name "reversed" p2) [e] [] pos2) X.env)]:=by rfl):
  PE X (.Call (.Name "list" p) [.Call (.Name "reversed" p2) [e] [] pos2] [] pos) (fun σ H Q=>te σ H fun v H1=>∃ l ys,v = .ref l∧SqL X.K H1 l ys∧∀ b,H1 b=none→Q (.ref b) (upd H1 b (.lst ys.reverse))):=by
 intro b9 s σ H Q I h;refine wpAny_Call_Name_kw (YT I hgL hmL boot_list ?_ (by decide) (by decide))
 refine PyProof.Rows.callWith_type1 ?_ hs2 rfl;rw[hs2];show wpAny _ _ (spliced ((false,eval (.Call (.Name "reversed" p2) [e] [] pos2) X.env)::backTo pos [])) _ _ s;refine Calls.spliced_cons ?_;refine wpAny_Call_Name_kw (YT I hgR hmR boot_reversed ?_ (by decide) (by decide))
 refine PyProof.Rows.callWith_type1 ?_ hs rfl;rw[hs];show wpAny _ _ (spliced ((false,eval e X.env)::backTo pos2 [])) _ _ s;refine Calls.spliced_cons (thn (he b9 s σ H _ I h) fun u s1 ⟨v,H1,I1,rv,l,ys,ev,hq,q⟩=>?_);subst ev;obtain rfl:u=Value.ref l:=rv;refine Calls.spliced_nil ?_;obtain⟨bw,r',pl,hz⟩:=I1.list hq;have hlen:=r'.length;refine call_reversed_list pl.isList ?_;refine Calls.spliced_nil ?_;have kp0:∀ b o,s1.heap.get? b=some o→(s1.heap.push (revObj l ((bw.toArray.size:Int)-1))).get? b=some o:=fun b o e=>Heap.get?_push_of_some _ e;have hI:(s1.heap.push (revObj l ((bw.toArray.size:Int)-1))).IsRevIter s1.heap.objs.size l ((bw.toArray.size:Int)-1):=⟨_,Heap.get?_push_size _ rfl,rfl,rfl⟩;have lt:∀ b o,s1.heap.get? b=some o→b≠s1.heap.objs.size:=fun b o e=>Nat.ne_of_lt (Heap.lt_size e);obtain⟨ps,hps,hh⟩:=I1.hdS.pins;have hne:l≠s1.heap.objs.size:=by obtain⟨_,gl,_⟩:=pl.isList;exact lt _ _ gl
 refine VB (s:={ s1 with heap:=s1.heap.push (revObj l ((bw.toArray.size:Int)-1)) }) hh (fun p hp=>kp0 _ _ (hps p hp).1) s1.heap.objs.size l hne (fun p hp=>lt _ _ (hps p hp).1) bw.toArray hI (pl.isList.push _) (by rw[List.size_toArray,←hlen];exact hz) fun h' tk acc' c' kp gb hacc=>?_
 have hl2:Vals ys.reverse acc'.toList:=by
  refine UL ?_ fun i x u e1 e2=>?_
  ·have z:=hacc.1;have z2:acc'.toList.length=acc'.size:=Array.length_toList;have z3:bw.toArray.size=bw.length:=List.size_toArray ..;rw[List.length_reverse];lia
  ·have e2':acc'[i]?=some u:=by rw[←Array.getElem?_toList];exact e2
   have hP:=hacc.2 i u e2';have hi:i<ys.length:=by have:=(List.getElem?_eq_some_iff.mp e1).1;rwa[List.length_reverse] at this
   rw[List.getElem?_reverse hi] at e1;rw[List.getElem?_toArray,List.size_toArray,←hlen] at hP;obtain⟨u',e3,r3⟩:=r'.get e1;rw[hP] at e3;cases e3;exact r3
 have hsz:(s1.heap.push (revObj l ((bw.toArray.size:Int)-1))).objs.size=s1.heap.objs.size+1:=Heap.size_push ..;refine⟨.ref _,_,I1.laid (a:=(s1.heap.push (revObj l ((bw.toArray.size:Int)-1))).objs.size) (o:=.lst ys.reverse) (t':=tk) (fun b o e=>kp b o (lt b o e) (kp0 b o e)) (by rw[hsz];exact Nat.le_succ _) ?_,rfl,q _ (I1.hok.fresh (by rw[hsz];exact Nat.le_succ _))⟩
 exact⟨by rw[List.length_reverse];exact hz,acc'.toList,c',hl2,gb⟩
theorem X1{K:Frag}{x C:Addr}{ox:Obj}{odo:Option Obj}(O:Yu K C):PySem.W.KitX K (.ref x) (.ref C) (fun h=>PySem.W.InstAt h x ox C odo) where
 ty:=fun _ _ _ I=>I.type
 it:=fun _ _ X _=>by
  obtain⟨cdD,hcD⟩:=O.cls;unfold clsIn at hcD;split at hcD
  ·rename_i c' d' cd' sl' ho;intro A' Q' E' s' k q;unfold isType loadHead;exact zA (wpAny_loadPart (k _ _ (X _ _ ho)) (zB q))
  ·cases hcD
 ne:=fun h tp dd bw n sl X htp=>by
  obtain⟨cdD,hcD⟩:=O.cls;refine Bool.eq_false_iff.mpr fun q=>?_;have e:C=tp:=Value.ref.inj (beq_iff_eq.mp q);subst e;unfold clsIn at hcD;split at hcD
  ·rename_i c' d' cd' sl' ho;have z:=(X _ _ ho).symm.trans htp;cases z
  ·cases hcD
 ca:=fun X I k=>M0 X I O k
end
section
variable {prog:Program}{w:World}{A:Around}{E:Value→Shared→Prop}{env:Env}{nm q:Str}{C N:Addr}{bs bm:List Value}{hdct:Bool}{sn:List Str}{sub:List Value}{ab:Bool}{col:Option Bool}{dd:Option Addr}{k0 k1 k2 k3 k5:Option Value}{newId:String}
theorem NV{s:Shared}{x c:Sem Value}{y:Addr}{Q:Flow→Shared→Prop}(hbase:bm.contains (.type "BaseException")=true)(hh:A.handled=some (.ref y))(hcn:∀{Q':Value→Shared→Prop} {s'},Q' .none s'→wpAny (model prog w) A c Q' E s')(h:wpAny (model prog w) A x (fun v s₁=>∃ e a0 d,v = .ref e∧s₁.heap.get? C=some (excClassObj nm q C N bs bm hdct sn sub ab col dd k0 k1 k2 k3 k5 newId)∧s₁.heap.get? e=some (ExcObj (.ref C) a0 d .none)∧Ch s₁.heap y∧(∀ z,(y=z∨∃ o v,s₁.heap.get? y=some o∧o.data = .fields v∧v[2]?=some (.ref z))→z≠e) ∧
   ∀ h',h'.get? e=some (ExcObjC (.ref C) a0 d .none (.ref y,.bool true))→(∀ b,b≠e→h'.get? b=s₁.heap.get? b)→E (.ref e) { s₁ with heap:=h' }) E s):
  wpAny (model prog w) A (raiseStmt env (some x) (some c)) Q E s:=by
 have hcB:(Value.ref C::bm).contains (.type "BaseException")=true:=by rw[List.contains_cons,hbase,Bool.or_true]
 unfold raiseStmt;refine zA (zC h (fun v s₁ h₁=>?_) fun _ _ x=>x);obtain⟨e,t,d0,rfl,hC,he,hy,nw,hE⟩:=h₁;obtain⟨hp,g,d,tk,os⟩:=s₁;dsimp only;refine zA (zD (hcn ?_))
 delta ExcObj ExcObjC at he
 repeat (first | with_reducible refine wpAny_loadPart_at he ?_ | with_reducible refine wpAny_loadPart_at hC ?_ | (with_reducible refine wpAny_isSubtype_exc hC ?_;rw[hcB]) | wp_step)
 have nC:C≠e:=fun z=>by rw[z,he] at hC;cases hC
 have e2:((hp.update e (Obj.mapFields fun x=>x.setIfInBounds 3 Value.none)).update e (Obj.mapFields fun x=>x.setIfInBounds 4 (Value.bool true))).get? e=some { cls:=.ref C,dict:=d0,data:=.fields #[t,.none,.none,.none,.bool true,.none],slots:=#[] }:=Heap.get?_update_self _ (Heap.get?_update_self _ he rfl) rfl;have oth:∀ b,b≠e→((hp.update e (Obj.mapFields fun x=>x.setIfInBounds 3 Value.none)).update e (Obj.mapFields fun x=>x.setIfInBounds 4 (Value.bool true))).get? b=hp.get? b:=fun b hb=>(Heap.get?_update_other _ _ (Ne.symm hb)).trans (Heap.get?_update_other _ _ (Ne.symm hb));have c2:=(oth C nC).trans hC;generalize (hp.update e (Obj.mapFields fun x=>x.setIfInBounds 3 Value.none)).update e (Obj.mapFields fun x=>x.setIfInBounds 4 (Value.bool true))=h2 at e2 oth c2
 repeat (first | with_reducible refine wpAny_loadPart_at e2 ?_ | with_reducible refine wpAny_loadPart_at c2 ?_ | wp_step)
 have hy2:Ch h2 y:=by
  obtain⟨o,v,cx,g1,g2,g3,g4⟩:=hy;refine⟨o,v,cx,(oth y (nw y (.inl rfl))).trans g1,g2,g3,?_⟩;rcases g4 with z | ⟨z,o',v',z1,z2,z3,z4⟩
  ·exact .inl z
  ·exact .inr ⟨z,o',v',z1,z2,(oth z (nw z (.inr ⟨o,v,g1,g2,by rw[g3,z1]⟩))).trans z3,z4⟩
 refine Vc hh hy2 (fun z _ _ hz=>nw z ?_) e2 rfl (by show 2<6;decide) ?_
 ·rcases hz with z1 | ⟨o,v,z1,z2⟩
  ·exact .inl z1
  ·exact .inr ⟨o,v,(oth y (nw y (.inl rfl))).symm.trans z1,z2⟩
 ·exact hE _ (Heap.get?_update_self _ e2 rfl) fun b hb=>(Heap.get?_update_other _ _ (Ne.symm hb)).trans (oth b hb)
end
section
variable {bx:Bool}{P:Program}{w:World}{K:Frag}{mg:Str→Option Value}{base:Heap}{N:List Str}{qual:Str}{scope:Scope}{f0:Addr}{cd:Value}{A:Around}{outer:List Env}{s₀:Shared}{H₀:Hp}{E:XK}
theorem Gb{C f y:Addr}{n x:Str}{hpos p cpos kp pos:Pos}{j}{args:List Expr}{te:TE}(O:ExcI K C f)(hb:bx=true)(hl:(envOfC qual scope s₀.heap.objs.size f0 cd).kindOf n=some .local)(he:PE ((cxOf (CXq bx P w) P w K mg base N qual scope f0 cd A outer s₀ H₀ E).handE y (U5 (cxOf (CXq bx P w) P w K mg base N qual scope f0 cd A outer s₀ H₀ E) n hpos y)) (.Call (.Name x p) args [] cpos) te):
  PS ((cxOf (CXq bx P w) P w K mg base N qual scope f0 cd A outer s₀ H₀ E).handE y (U5 (cxOf (CXq bx P w) P w K mg base N qual scope f0 cd A outer s₀ H₀ E) n hpos y)) (.Raise (some (.Call (.Name x p) args [] cpos)) (some (.Constant .none j kp)) pos)
   (fun D σ H=>te σ H fun v H1=>∃ e dd C1 dd1,v = .ref e∧H1 e=some (.ext (exφ e C dd))∧H₀ e=none∧Held false H1 y C1 dd1∧E (.ref C) dd (unt H1 e)):=by
 intro b9 s σ H D I h;obtain⟨tl,NN,nm,qn,bs,sn,sub,ab,col,dd,k0,k1,k2,k3,k5,hC,T,hrf⟩:=O.ex;rw[arm_exec_Raise];have hbm:tl.contains (.type "BaseException")=true:=(T _ I.kIn).hasType PySem.F.excBase_ValueError.hasBase;have hh:((cxOf (CXq bx P w) P w K mg base N qual scope f0 cd A outer s₀ H₀ E).handE y (U5 (cxOf (CXq bx P w) P w K mg base N qual scope f0 cd A outer s₀ H₀ E) n hpos y)).A.handled=some (.ref y):=rfl;refine zA (wpAny_standAt ?_);refine NV (C:=C) (nm:=nm) (q:=qn) (N:=NN) (bs:=bs) (bm:=tl) (hdct:=true) (sn:=sn) (sub:=sub) (ab:=ab) (col:=col) (dd:=dd) (k0:=k0) (k1:=k1) (k2:=k2) (k3:=k3) (k5:=k5) (newId:="ValueError.__new__") hbm hh (fun{Q' s'} q=>zA (Constant_none (zA (wpAny_standAt (zB q))))) ?_;refine zA (zC (he b9 s σ H _ I h) (fun u s1 z=>zA (wpAny_standAt (zB ?_))) fun _ _ z=>z);obtain⟨v,H1,I1,rv,e,dd',C1,dd1,ev,hx,h0,⟨b0,tb,cs,hy,hcx⟩,q⟩:=z;subst ev;obtain rfl:u=Value.ref e:=rv;obtain⟨a0,g⟩:=Jy I1 hx;have gy:s1.heap.get? y=some (ExcObjC (.ref C1) b0 dd1 tb cs):=(show ObjOk P w H1 s1.heap y (.frz _ _) from I1.hok y _ hy).1
 have hcs:cs.1 = .none:=hcx.elim id fun z=>nomatch z.1;have hye:y≠e:=fun z=>by rw[z,hx] at hy;cases hy
 refine⟨e,_,_,rfl,I1.kIn _ _ hC,g,⟨_,_,_,gy,rfl,(show(#[b0,tb,cs.1,Value.none,cs.2,Value.none]:Array Value)[2]?=some cs.1 from rfl),.inl hcs⟩,fun z hz=>?_,fun h' g' oth=>?_⟩
 ·rcases hz with rfl | ⟨o,v,z1,z2,z3⟩
  ·exact hye
  ·rw[gy] at z1;cases z1;cases z2;have z3:some cs.1=some (Value.ref z):=z3;rw[hcs] at z3;cases z3
 have I2:=I1.write (x:=e) (e:=e) (h':=h') (t':=s1.toks) (o:=.ext (exφC e C dd' (.ref y,.bool true))) (by rw[hx];exact True.intro) (.inl rfl) (fun b o hb q=>(oth b hb).trans q) ⟨_,g'⟩ (Vy g')
 have eu:unt (upd H1 e (.ext (exφC e C dd' (.ref y,.bool true)))) e=unt H1 e:=by
  funext b;unfold unt;split
  ·rfl
  ·rename_i z;rw[Z1 z]
 have hyu:unt (upd H1 e (.ext (exφC e C dd' (.ref y,.bool true)))) e y=some (.frz (ExcObjC (.ref C1) b0 dd1 tb cs) (.ext (excφ y C1 dd1))):=by rw[eu,Jn hye];exact hy
 exact NI hl I2 Z2 h0 (.inr ⟨hb,.inr ⟨y,_,_,_,rfl,hyu,rfl,(show some cs.1=some Value.none by rw[hcs])⟩⟩) (by rw[eu];exact q)
end
section
variable {bx:Bool}{P:Program}{w:World}{K:Frag}{mg:Str→Option Value}{base:Heap}{N:List Str}{qual:Str}{scope:Scope}{f0:Addr}{cd:Value}{A:Around}{outer:List Env}{s₀:Shared}{H₀:Hp}{E:XK}
theorem D0{b0:Bool}{C0:Addr}{n y cx:Str}{b₀:Stmt}{suite:List Stmt}{i j:Nat}{py pos p1 np hpos:Pos}{th:Addr→TS}{call:Expr}{tc:St→Hp→VK→XK→Prop}(hcall:PEX b0 (cxOf (CXq bx P w) P w K mg base N qual scope f0 cd A outer s₀ H₀ E) call tc)(hN:N.Nodup)(hj:N[j]?=some y)(hy:Loc scope y)(hi:N[i]?=some n)(hl:scope.names.lookup n=some .local)(hg:Gl (cxOf (CXq bx P w) P w K mg base N qual scope f0 cd A outer s₀ H₀ E) cx)(hm:mg cx=some (.ref C0))(hth:∀ x,PSs ((cxOf (CXq bx P w) P w K mg base N qual scope f0 cd A outer s₀ H₀ E).handE x (U5 (cxOf (CXq bx P w) P w K mg base N qual scope f0 cd A outer s₀ H₀ E) n hpos x)) (b₀::suite) (th x))(hs:swapsWith call (some (.Name y py)) p1.line (envOfC qual scope s₀.heap.objs.size f0 cd)=pure false:=by rfl)(hcd:(cx==("__debug__":Str))=false:=by decide):
  PS (cxOf (CXq bx P w) P w K mg base N qual scope f0 cd A outer s₀ H₀ E) (.Try [.Assign [.Name y py] call p1] [.ExceptHandler (some (.Name cx np)) (some n) (b₀::suite) hpos] [] [] pos) (tTry b0 i K C0 tc (fun v σ=>σ.set j (some v)) th):=by
 intro b9 s σ H D I h;refine wpAny_Try_except (wpAny_execs_cons (wpAny_Assign_Name (zC (hcall b9 s σ H _ _ I h) (fun v s1 ⟨z,H1,I1,r1,q1⟩=>?_) fun v s1 ⟨Hc,sc,Ic,hx⟩=>lands (X:=cxOf (CXq bx P w) P w K mg base N qual scope f0 cd A outer s₀ H₀ E) (R:=fun x=>U5 (cxOf (CXq bx P w) P w K mg base N qual scope f0 cd A outer s₀ H₀ E) n hpos x) hN hi hl hg hm hth (fun _ _ _ z=>z) rfl rfl rfl hcd Ic hx) hs));exact Ub I1 hN hj hy r1 (fun s2 I2=>wpAny_execs_nil (wpAny_execs_nil ⟨_,H1,I2,q1⟩)) (.inl rfl)
end
section
variable {bx:Bool}{X:Cx}{k i:Nat}{f:Addr}{fd:FuncData}{ps:List Str}{sp:Sp}{x:Str}{p pos:Pos}{e:Expr}{es:List Expr}{t:TA}
end
section
variable {X:Cx}
end
section
variable {prog:Program}{w:World}{A:Around}{E:Value→Shared→Prop}{s:Shared}
end
section
variable {prog:Program}{w:World}{A:Around}{E:Value→Shared→Prop}{s:Shared}
end
section
variable {prog:Program}{w:World}{A:Around}{E:Value→Shared→Prop}{s:Shared}
end
section
variable {prog:Program}{w:World}{A:Around}{E:Value→Shared→Prop}{s:Shared}
end
section
variable {prog:Program}{w:World}{A:Around}{E:Value→Shared→Prop}{s:Shared}
end
section
variable {X:Cx}{b9:List (Addr×Obj)}{σ:St}{H:Hp}{s s':Shared}
end
section
variable {X:Cx}
end
open PySem.W (InstAt findIn specialIn takesIn mroIn clsIn findObj looks_find looks_findIn looks_mroIn KitX kitOne Looks)
def ExcE (K:Frag)(C:Addr):Prop :=
 ∃(tl:List Value) (N:Addr) (nm q:Str) (bs:List Value) (sn:List Str) (sub:List Value) (ab:Bool) (col:Option Bool) (dd:Option Addr) (k0 k1 k2 k3 k5:Option Value),
  K.lookup C=some (excClassObj nm q C N bs tl true sn sub ab col dd k0 k1 k2 k3 k5 "ValueError.__new__")∧(∀ h:Heap,K.In h→OwnTail h Um tl)∧∀ self,refuseLoop self "__setattr__" tl=pure ()
structure ExcP(K:Frag)(C:Addr):Prop where
 ex:ExcE K C
 init:findIn K (.ref C) "__init__"=some (some (.builtin "ValueError.__init__"))
 kp:keepIn K (.ref C)=true
def Ml(C:Addr)(t:TA):TE:=fun σ H Q=>t σ H fun vs H1=>vs.length≤zF∧∀ e,H1 e=none→Q (.ref e) (upd H1 e (.ext (exφ e C none)))
theorem NF{H:Hp}{e:Addr}{o:HO}(h:H e=none):unt (upd H e o) e=H:=by
 funext b;unfold unt upd;split
 ·rename_i z;rw[z,h]
 ·rfl
section
variable {X:Cx}{x:Str}{C:Addr}{e₀:Expr}{es:List Expr}{t:TA}{p pos:Pos}
theorem Yj(O:ExcP X.K C)(hg:Gl X x)(hm:X.mg x=some (.ref C))(ha:PA X (e₀::es) t)(hdb:(x==("__debug__":Str))=false:=by decide)(he:zG (e₀::es) X.env=(false,eval e₀ X.env)::zG es X.env:=by rfl)(hpl:(backTo pos (zG es X.env)).any (·.1)=false:=by rfl):
  PE X (.Call (.Name x p) (e₀::es) [] pos) (Ml C t):=by
 intro b9 s σ H Q I h;refine wpAny_Call_Name_kw (YY I hg hm ?_ hdb);refine callWith_K (h₀:=X.base) I.ok.mod.kin O.kp (thn (ha pos b9 s σ H _ I h) fun us s1 hq=>?_) he hpl;obtain⟨vs,H1,I1,r,hz,q⟩:=hq;refine⟨I1.kIn,?_⟩;obtain⟨tl,N,nm,qn,bs,sn,sub,ab,col,dd,k0,k1,k2,k3,k5,hC,T,hrf⟩:=O.ex;have hq:=q (s1.heap.objs.size+1) (I1.hok.fresh (Nat.le_succ _));have I2:=Inv.madeX (C:=C) (us:=us) I1;have F:=PySem.F.excBase_ValueError;have L1:=looks_findIn (M:=model X.prog X.w) I1.kIn O.init;have hzu:us.length≤zF:=by rw[←r.length];exact hz
 have Ts:=T _ I2.kIn;have hCs:=I2.kIn _ _ hC;have he2:upd H1 (s1.heap.objs.size+1) (.ext (exφ (s1.heap.objs.size+1) C none)) (s1.heap.objs.size+1)=some (.ext (exφ (s1.heap.objs.size+1) C none)):=Z2;obtain⟨a0,hx⟩:=Jy I2 he2;refine wpAny_call ?_;refine X7 (I1.kIn _ _ hC) (T _ I1.kIn) L1 (fun self=>Looks.of_pure (F.init.bind self)) hzu ?_;obtain⟨h0,g0,d0,t0,os0⟩:=s1;refine codeAny_call_builtin F.init.plain F.initEntry (wpAny_check_init_subU F Ts hCs hx rfl ?_);have fin:∀ h',(∀ b o,b≠h0.objs.size+1→((h0.push { cls:=.type "tuple",data:=.seq us.toArray }).push { cls:=.ref C,data:=.fields #[.ref h0.objs.size,.none,.none,.none,.bool false,.none] }).get? b=some o→h'.get? b=some o)→(∃ a1,h'.get? (h0.objs.size+1)=some (ExcObj (.ref C) (.ref a1) none .none))→EP X b9 σ Q (Value.ref (h0.objs.size+1)) ⟨h',g0,d0,t0,os0⟩:=fun h' kp hg=>by
  obtain⟨a1,g1⟩:=hg;have I3:Inv X b9 σ (upd (upd H1 (h0.objs.size+1) (.ext (exφ (h0.objs.size+1) C none))) (h0.objs.size+1) (.ext (exφ (h0.objs.size+1) C none))) ⟨h',g0,d0,t0,os0⟩:=I2.write (t':=t0) (x:=h0.objs.size+1) (e:=h0.objs.size+1) (by rw[he2];exact True.intro) (.inl rfl) kp ⟨_,g1⟩ (Vy g1)
  have eH:upd (upd H1 (h0.objs.size+1) (.ext (exφ (h0.objs.size+1) C none))) (h0.objs.size+1) (.ext (exφ (h0.objs.size+1) C none))=upd H1 (h0.objs.size+1) (.ext (exφ (h0.objs.size+1) C none)):=by
   funext b;unfold upd;split <;> rfl
  rw[eH] at I3;exact⟨.ref _,_,I3,rfl,hq⟩
 wp_walk
 exact⟨rfl,fin _ (fun b o hb q=>(Heap.get?_update_other _ _ (Ne.symm hb)).trans (Heap.get?_push_of_some _ q)) ⟨_,Heap.get?_update_self _ (Heap.get?_push_of_some _ hx) rfl⟩⟩
end
section
variable {X:Cx}{E:XK}{te:TE}{pos:Pos}{x:Str}{p cpos:Pos}{args:List Expr}
theorem Y9{C:Addr}(O:ExcE X.K C)(hr:Wa X E)(hc:X.calm=true)(he:PE X (.Call (.Name x p) args [] cpos) te):
  PS X (.Raise (some (.Call (.Name x p) args [] cpos)) none pos) (fun D σ H=>te σ H fun v H1=>∃ e dd,v = .ref e∧H1 e=some (.ext (exφ e C dd))∧X.H₀ e=none∧E (.ref C) dd (unt H1 e)):=by
 intro b9 s σ H D I h;obtain⟨tl,N,nm,qn,bs,sn,sub,ab,col,dd,k0,k1,k2,k3,k5,hC,T,hrf⟩:=O;rw[arm_exec_Raise];have F:=PySem.F.excBase_ValueError;have hb:tl.contains (.type "BaseException")=true:=(T _ I.kIn).hasType F.hasBase;have key:∀{y:Sem Value},y=(eval (.Call (.Name x p) args [] cpos) X.env >>= fun v=>standAt pos >>= fun _=>pure v)∨y=eval (.Call (.Name x p) args [] cpos) X.env→wpAny (model X.prog X.w) X.A y (fun v s₁=>∃ e a0 d,v = .ref e∧s₁.heap.get? C=some (excClassObj nm qn C N bs tl true sn sub ab col dd k0 k1 k2 k3 k5 "ValueError.__new__")∧s₁.heap.get? e=some (ExcObj (.ref C) a0 d .none)∧X.xe (.ref e) s₁) X.xe s:=by
  have base:=thn (Q':=fun v s₁=>∃ e a0 d,v = .ref e∧s₁.heap.get? C=some (excClassObj nm qn C N bs tl true sn sub ab col dd k0 k1 k2 k3 k5 "ValueError.__new__")∧s₁.heap.get? e=some (ExcObj (.ref C) a0 d .none)∧X.xe (.ref e) s₁) (he b9 s σ H _ I h) fun u s1 hq=>by
   obtain⟨v,H1,I1,rv,e,dd',ev,hx,h0,q⟩:=hq;subst ev;obtain rfl:u=Value.ref e:=rv;obtain⟨a0,g⟩:=Jy I1 hx;exact⟨e,_,_,rfl,I1.kIn _ _ hC,g,hr b9 σ H1 s1 e C dd' I1 hx h0 q⟩
  rintro y (rfl | rfl)
  ·exact zA (zC base (fun v s3 h3=>zA (wpAny_standAt (zB h3))) fun _ _ z=>z)
  ·exact base
 first
  | exact zA (wpAny_standAt (UY hb (I.ok.hd hc) (key (.inl rfl))))
  | exact zA (wpAny_standAt (UY hb (I.ok.hd hc) (key (.inr rfl))))
end
theorem raised{C:Addr}{H H0:Hp}{E:XK}{x:Str}{σ:St}(h0:∀ e,H e=none→H0 e=none)(k:E (.ref C) none H):
  Ml C (Yd (tC (.str x)) tNil) σ H fun v H1=>∃ e dd,v = .ref e∧H1 e=some (.ext (exφ e C dd))∧H0 e=none∧E (.ref C) dd (unt H1 e):=
 ⟨by show 1≤zF;decide +kernel,fun e he=>⟨e,none,rfl,Z2,h0 e he,by rw[NF he];exact k⟩⟩
section
variable {X:Cx}
theorem Yb:JQ X (.builtin "isinstance") (fun xs H Q=>∃(x C:Addr) (d:Option Addr) (cv:V) (c:Value) (b:Bool),xs=[.ref x,cv]∧(∀ u,RelV cv u→u=c)∧(∃ bx,Held bx H x C d)∧(∀ dx,d=some dx→∃ fs,H dx=some (.xd fs))∧Yu X.K C∧PySem.W.kitOne X.K (.ref C) c=some b∧Q (.bl b) H):=by
 intro b9 s σ H xs us Q I r h;obtain⟨x,C,d,cv,c,b,rfl,hcv,⟨_,a0,tb,cs,hx,_⟩,hd,O,e,q⟩:=h;obtain⟨u,v,rfl,rx,rv⟩:=Mc r;obtain rfl:u=Value.ref x:=rx;cases hcv v rv;have gx:s.heap.get? x=some (ExcObjC (.ref C) a0 d tb cs):=(show ObjOk X.prog X.w H s.heap x (.frz _ _) from I.hok x _ hx).1
 cases d with
 | none=>exact kia_one (X1 (odo:=none) O) I.kIn ⟨gx,rfl,rfl,True.intro⟩ e (fun z=>nomatch z) fun tk=>⟨.bl b,H,I.tok tk,rfl,q⟩
 | some dx =>
  obtain⟨fs,hdx⟩:=hd dx rfl;obtain⟨mA,ns,_⟩:=(show ObjOk X.prog X.w H s.heap dx (.xd fs) from I.hok dx _ hdx)
  obtain⟨od,ho,hl⟩:=UB ns;exact kia_one (X1 (odo:=some od) O) I.kIn ⟨gx,rfl,rfl,ho⟩ e (fun z=>nomatch z) fun tk=>⟨.bl b,H,I.tok tk,rfl,q⟩
end
section
variable {X:Cx}{bx:Bool}{C0:Addr}{n cx:Str}{np hpos pos p1:Pos}
theorem D6{b₀:Stmt}{suite:List Stmt}{i:Nat}{th:Addr→TS}{call:Expr}{tc:St→Hp→VK→XK→Prop}(hcall:PEX bx X call tc)(hN:X.N.Nodup)(hi:X.N[i]?=some n)(hl:X.env.scope.names.lookup n=some .local)(hg:Gl X cx)(hm:X.mg cx=some (.ref C0))(hth:∀ x,PSs (X.hand x) (b₀::suite) (th x))(hcm:X.calm=true:=by rfl)(hst:X.stack=X.env::X.outer:=by rfl)(hfr:X.env.frame=some X.env.locals:=by rfl)(hs:swapsWith call none p1.line X.env=pure false:=by rfl)(hcd:(cx==("__debug__":Str))=false:=by decide):
  PS X (.Try [.Expr call p1] [.ExceptHandler (some (.Name cx np)) (some n) (b₀::suite) hpos] [] [] pos) (tTry bx i X.K C0 tc (fun _ σ=>σ) th):=by
 intro b9 s σ H D I h;refine wpAny_Try_except (wpAny_execs_cons (wpAny_Expr_any (zC (hcall b9 s σ H _ _ I h) (fun v s1 hq=>?_) fun v s1 hq=>?_) I.quiet hs))
 ·obtain⟨z,H1,I1,r1,q1⟩:=hq;exact wpAny_execs_nil (wpAny_execs_nil ⟨_,H1,I1,q1⟩)
 ·obtain⟨Hc,sc,Ic,hx⟩:=hq;exact lands (R:=fun _ _ _=>False) hN hi hl hg hm hth (fun _ _ _ z=>z.elim) hcm hst hfr hcd Ic hx
end
section
variable {prog:Program}{w:World}{A:Around}{EE:Value→Shared→Prop}{s:Shared}
theorem Xr{it h0:Addr}{x left step:Int}{Q:Option Value→Shared→Prop}(hh:A.handled=some (.ref h0))(g0:Ch s.heap h0)(hit:IsRangeIter s.heap it x left step)(hleft:left≤0)(hQ:∀ h',Heap.ExtBut it s.heap h'→Q none { s with heap:=h' }):wpAny (model prog w) A (pyNext (.ref it)) Q EE s:=by
 have hT:s.TypeIs (.ref it) "range_iterator":=⟨_,hit,rfl⟩;unfold pyNext;refine zA (wpAny_attempt (wpAny_callSpecial?_slot (name:=Str.ofString "__next__") hT PySem.F.slot_range_iterator_next
  (wpAny_call_entry PySem.F.slot_range_iterator_next hT PySem.F.entry_range_iterator_next ?_ (PySem.F.args_range_iterator_next_1 _))))
 show wpAny _ _ (field (.ref it) 0 >>= _) _ _ s;refine zA (wpAny_field hit rfl (x:=rawInt x) rfl ?_);show wpAny _ _ (field (.ref it) 1 >>= _) _ _ s;refine zA (wpAny_field hit rfl (x:=rawInt left) rfl ?_);show wpAny _ _ (field (.ref it) 2 >>= _) _ _ s;refine zA (wpAny_field hit rfl (x:=rawInt step) rfl ?_);show wpAny _ _ (if left≤0 then _ else _) _ _ s;rw[if_pos hleft];refine zA (wpAny_rule ?_);refine zA ?_;show wpAny _ _ (newExc (.type "StopIteration") [] >>= _) _ _ _;refine zC (Qb (it:=it) (EE:=EE) (Q:=Q) (h1:=s.heap) hh g0 fun h' k=>hQ h' fun b o hb e=>k b o e) (fun _ _ z=>z.elim) fun e s1 h1=>?_;refine zA (zC h1 (fun b s2 h2=>?_) fun _ _ z=>z);cases b with
 | true=>exact zB h2
 | false=>exact False.elim h2
theorem Xs{it:Addr}{x left step:Int}{Q:Option Value→Shared→Prop}(hh:HdS A s.heap)(hit:IsRangeIter s.heap it x left step)(hleft:left≤0)(hQ:∀ h',Heap.ExtBut it s.heap h'→Q none { s with heap:=h' }):wpAny (model prog w) A (pyNext (.ref it)) Q EE s:=by
 rcases hh with hh | ⟨x,h1,h2⟩
 ·exact wpAny_pyNext_range_end hh hit hleft hQ
 ·exact Xr h1 h2 hit hleft hQ
end
def Itrh (lo:Int)(n:Nat):It:=⟨fun i _=>i<n,fun i H x H'=>H'=H∧x = .int (lo+i),fun i _=>n≤i,false⟩
theorem Qz{P:Program}{w:World}{K:Frag}{tg:Expr}(it:Addr)(lo:Int)(n:Nat):Turn P w K tg (Itrh lo n) [it] it (fun i h=>IsRangeIter h it (lo+(i:Nat)*1) ((n:Int)-(i:Nat)) 1) where
 mem:=by simp
 obj:=fun i h st b hb=>by
  have e:b=it:=by simpa using hb
  subst e;exact⟨_,st,fun v z=>by
   have z':Data.fields _=Data.cell v:=z;cases z'⟩
 keep:=fun i h h' st k=>k it (by simp) _ st
 item:=by
  intro X hP hw hK hc i b9 s σ H E I hf st hg;subst hP hw hK;obtain⟨f0,f1,f2,f3,f4,f5⟩:=hf it (by simp)
  have hg:i<n:=hg;refine wpAny_pyNext_range_item st (by lia) fun h' st' sb=>?_
  have I1:Inv X b9 σ H { s with heap:=h',toks:=s.toks+1 }:=I.turned (fun b o hb e=>(sb.2 b hb).trans e) f0 f1 f3 f4 f5
  have st2:IsRangeIter h' it (lo+((i+1:Nat):Int)*1) ((n:Int)-((i+1:Nat):Int)) 1:=by
   have e1:lo+(i:Int)*1+1=lo+((i+1:Nat):Int)*1:=by lia
   have e2:(n:Int)-(i:Int)-1=(n:Int)-((i+1:Nat):Int):=by lia
   rw[←e1,←e2];exact st'
  refine⟨_,rfl,WC (s:={ s with heap:=h',toks:=s.toks+1 }) (n:="range_iterator") st2 rfl rfl (by decide) ⟨.int (lo+i),H,I1,⟨s.toks,?_⟩,⟨rfl,rfl⟩,st2,fun b hb=>(hf b hb).1⟩⟩
  rw[Int.mul_one]
 done:=by
  intro X hP hw hK hc i b9 s σ H E I hf st hg;subst hP hw hK;obtain⟨f0,f1,f2,f3,f4,f5⟩:=hf it (by simp)
  exact Xs I.hdS st (by have:n≤i:=hg;lia) fun h' eb=>⟨rfl,I.turned (t':=s.toks) (fun b o hb e=>eb b o hb e) f0 f1 f3 f4 f5⟩
 self:=fun _ _ _ _ _ st h=>wpAny_pyIter_rangeiter st h
section
variable {X:Cx}{tg:Expr}
theorem G9{b9 σ H s}{R:It→Hp→Prop}{E:Value→Shared→Prop}{lo hi:Int}{t u v:Tok}{tk:Nat}(I:Inv X b9 σ H s)(h1:-(2 ^ 62)≤lo)(h2:lo<2 ^ 62)(h3:-(2 ^ 62)≤hi)(h4:hi<2 ^ 62)(q:R (Itrh lo (hi-lo).toNat) H):wpAny (model X.prog X.w) X.A (pyIter (.ref s.heap.objs.size)) (PIE X b9 σ tg R) E { s with heap:=s.heap.push { cls:=.type "range",data:=.fields #[.int lo t,.int hi u,.int 1 v] },toks:=tk }:=by
 refine wpAny_pyIter_range (IsRange.new ..) (small_one h1 h2 h3 h4) ?_;have I1:Inv X b9 σ H { s with heap:=s.heap.push { cls:=.type "range",data:=.fields #[.int lo t,.int hi u,.int 1 v] },toks:=tk }:=I.kept fun b o e=>Heap.get?_push_of_some _ e
 refine⟨(s.heap.push { cls:=.type "range",data:=.fields #[.int lo t,.int hi u,.int 1 v] }).objs.size,[(s.heap.push { cls:=.type "range",data:=.fields #[.int lo t,.int hi u,.int 1 v] }).objs.size],_,_,H,rfl,
  I1.kept (t':=tk) fun b o e=>Heap.get?_push_of_some _ e,Qz _ lo (hi-lo).toNat,?_,fun b hb=>?_,(fun z=>nomatch z),q⟩
 ·have e1:lo+((0:Nat):Int)*1=lo:=by simp
  have e2:(((hi-lo).toNat:Nat):Int)-((0:Nat):Int)=Builtin.Range.rangeSize lo hi 1:=by rw[rangeSize_one];split <;> lia
  show IsRangeIter _ _ (lo+((0:Nat):Int)*1) ((((hi-lo).toNat:Nat):Int)-((0:Nat):Int)) 1;rw[e1,e2];exact Heap.get?_push_size _ rfl
 ·have e:b=(s.heap.push { cls:=.type "range",data:=.fields #[.int lo t,.int hi u,.int 1 v] }).objs.size:=by simpa using hb
  subst e;exact I1.fpOk (Nat.le_refl _) (I1.hok.fresh (Nat.le_refl _))
def RI(ta:TA):TI:=fun σ H R=>ta σ H fun vs H1=>∃ j:Int,vs=[.int j]∧-(2 ^ 62)≤j∧j<2 ^ 62∧R (Itrh 0 j.toNat) H1
theorem Gd{a:Expr}{ta:TA}{p pos:Pos}(hg:Gl X "range")(hm:X.mg "range"=none)(ha:PA X [a] ta)(hs:zG [a] X.env=[(false,eval a X.env)]:=by rfl):PI X tg (.Call (.Name "range" p) [a] [] pos) (RI ta):=by
 intro b9 s σ H R I h;refine Call_ (YT I hg hm boot_range (PyProof.Rows.callWith_type1 (thn (ha pos b9 s σ H _ I h) fun us s1 hq=>?_) hs rfl));obtain⟨vs,H1,I1,r1,q1⟩:=hq;obtain⟨j,e,q1,q2,q⟩:=q1;subst e;cases r1 with
 | cons r rr =>
  cases rr;obtain⟨t,rfl⟩:=r;exact call_range_1 (G9 I1 (by lia) (by lia) q1 q2 (by simpa using q))
end
theorem Xc{n:Nat}{outs:Nat→Option V}{g:TG}{tt:TT}{te:TE}{H1:Hp}{σ0:St}{D:Addr}{Q:VK}(SG:St→Prop)(hD:H1 D=none)(hn:n<zF)(s0:SG σ0)(step:∀(i:Nat) (σc:St) (Hc:Hp) (Yes:V→St→Hp→Prop) (No:St→Hp→Prop),i<n→Same H1 Hc→Hc D≠none→SG σc →
   (∀ σ2 H4 v,SG σ2→Same Hc H4→outs i=some v→Yes v σ2 H4)→(∀ σ2 H3,SG σ2→Same Hc H3→outs i=none→No σ2 H3) →
   g (.int (i:Nat)) σc Hc fun σ2 H2=>tt σ2 H2 fun b H3=>if b=true then te σ2 H3 fun v H4=>Yes v σ2 H4 else No σ2 H3)(fin:∀ Hc,Same H1 Hc→Hc D=some (.lst ((List.range n).filterMap outs))→Q (.ref D) Hc):
  JB (Itrh 0 n) g tt te σ0 H1 D Q:=by
 refine Qo (J:=Itrh 0 n) (n:=n) (item:=fun i=>.int (i:Nat)) SG hD hn (fun i Hc hi _=>hi) (fun i Hc x H' _ _ y=>⟨y.1,by rw[y.2];congr 1;lia⟩) (fun Hc _=>Nat.le_refl _) s0 step fin
end L2
namespace At
open PySem L2
def top (i:Nat):Stmt:=PySem.Challenge.pw_atmost_k08_refused.main.body.getD i (.Pass ⟨0,0,0,0⟩)
def topB (i:Nat):Stmt:=(PySem.Challenge.pw_atmost_k08_refused.main.body.drop 50).getD i (.Pass ⟨0,0,0,0⟩)
abbrev Zq:Stmt:=JK (top 7) 0
abbrev J2:Stmt:=top 9
abbrev Yy:Stmt:=top 10
abbrev UX:Stmt:=top 11
abbrev Jr:Stmt:=top 12
abbrev Qh:Stmt:=top 13
abbrev Yr:Stmt:=top 14
abbrev JH:Stmt:=top 15
abbrev Vb:Stmt:=top 16
abbrev Ue:Stmt:=top 17
abbrev Jq:Stmt:=top 18
abbrev J7:Stmt:=top 19
abbrev QE:Stmt:=top 20
abbrev Va:Stmt:=top 21
abbrev ZX:Stmt:=top 23
abbrev Y0:Stmt:=top 24
abbrev Zk:Stmt:=top 25
abbrev ZF:Stmt:=JK (top 26) 0
abbrev ZE:Stmt:=JK (top 26) 1
abbrev Zm:Stmt:=JK (top 26) 2
abbrev Zs:Stmt:=JK (top 26) 3
abbrev Zr:Stmt:=JK (top 26) 4
abbrev ZR:Stmt:=top 27
abbrev JE:Stmt:=top 30
abbrev Yx:Stmt:=top 33
abbrev J6:Stmt:=top 34
abbrev J5:Stmt:=top 35
abbrev JF:Stmt:=top 48
abbrev JG:Stmt:=top 49
abbrev Jf:Stmt:=topB 0
abbrev UW:Stmt:=topB 1
abbrev Jg:Stmt:=topB 3
abbrev YQ:Stmt:=topB 4
abbrev Yq:Stmt:=topB 5
abbrev ZS:Stmt:=topB 6
abbrev Y1:Stmt:=topB 7
abbrev ZT:Stmt:=topB 8
abbrev ZU:Stmt:=topB 9
abbrev Y2:Stmt:=topB 10
abbrev sLaw:Stmt:=topB 11
end At
namespace At
open PySem L2 PyProof.Rows
section
variable {P:Program}{w:World}{K:Frag}{mg:Str→Option Value}{base:Heap}
structure G1(K:Frag)(mg:Str→Option Value):Prop where
 isi:mg "isinstance"=none
 int:mg "int"=none
 bool:mg "bool"=none
 tuple:mg "tuple"=none
 list:mg "list"=none
 len:mg "len"=none
 all:mg "all"=none
 any:mg "any"=none
 sum:mg "sum"=none
 range:mg "range"=none
 enumerate:mg "enumerate"=none
 sorted:mg "sorted"=none
 max:mg "max"=none
 min:mg "min"=none
 kii:PySem.W.kitOne K (.type "int") (.type "int")=some true
 kib:PySem.W.kitOne K (.type "int") (.type "bool")=some false
 ktt:PySem.W.kitOne K (.type "tuple") (.type "tuple")=some true
 kll:PySem.W.kitOne K (.type "list") (.type "list")=some true
 kbb:PySem.W.kitOne K (.type "bool") (.type "bool")=some true
structure Def(K:Frag)(mg:Str→Option Value)(x:Str)(st:Stmt)(ps:List Str)(f:Addr)(fd:FuncData):Prop where
 fn:Fun K x x st f fd
 at_:mg x=some (.ref f)
 bd:Binds K fd ps []
def VG(s:Say):HO:=.tup [.int s.1,.int s.2.1,.int s.2.2]
structure JA(H:Hp)(ps:List Addr)(ss:List Say):Prop where
 len:ps.length=ss.length
 at_:∀(i:Nat) p s,ps[i]?=some p→ss[i]?=some s→H p=some (VG s)
theorem JA.same{H H':Hp}{ps:List Addr}{ss:List Say}(h:JA H ps ss)(e:Same H H'):JA H' ps ss:=⟨h.len,fun i p s a b=>e _ _ (h.at_ i p s a b)⟩
theorem JA.get{H:Hp}{ps:List Addr}{ss:List Say}(h:JA H ps ss){i:Nat}{s:Say}(e:ss[i]?=some s):∃ p,ps[i]?=some p∧H p=some (VG s):=by
 have hi:i<ps.length:=by rw[h.len];exact(List.getElem?_eq_some_iff.mp e).1
 exact⟨ps[i],by simp[hi],h.at_ i _ s (by simp[hi]) e⟩
structure SaysAt(H:Hp)(a:Addr)(ss:List Say):Prop where
 ex:∃ ps,H a=some (.lst (ps.map V.ref))∧JA H ps ss
theorem SaysAt.same{H H':Hp}{a:Addr}{ss:List Say}(h:SaysAt H a ss)(e:Same H H'):SaysAt H' a ss:=by
 obtain⟨ps,h1,h2⟩:=h.ex;exact⟨ps,e _ _ h1,h2.same e⟩
structure GK(K:Frag):Prop where
 nI:PySem.W.kitOne K (.type "NoneType") (.type "int")=some false
 bI:PySem.W.kitOne K (.type "bool") (.type "int")=some true
 sI:PySem.W.kitOne K (.type "str") (.type "int")=some false
 lI:PySem.W.kitOne K (.type "list") (.type "int")=some false
 tI:PySem.W.kitOne K (.type "tuple") (.type "int")=some false
 dI:PySem.W.kitOne K (.type "dict") (.type "int")=some false
 nT:PySem.W.kitOne K (.type "NoneType") (.type "tuple")=some false
 bT:PySem.W.kitOne K (.type "bool") (.type "tuple")=some false
 iT:PySem.W.kitOne K (.type "int") (.type "tuple")=some false
 sT:PySem.W.kitOne K (.type "str") (.type "tuple")=some false
 lT:PySem.W.kitOne K (.type "list") (.type "tuple")=some false
 dT:PySem.W.kitOne K (.type "dict") (.type "tuple")=some false
 nL:PySem.W.kitOne K (.type "NoneType") (.type "list")=some false
 bL:PySem.W.kitOne K (.type "bool") (.type "list")=some false
 iL:PySem.W.kitOne K (.type "int") (.type "list")=some false
 sL:PySem.W.kitOne K (.type "str") (.type "list")=some false
 tL:PySem.W.kitOne K (.type "tuple") (.type "list")=some false
 dL:PySem.W.kitOne K (.type "dict") (.type "list")=some false
inductive Kn(H:Hp):V→Prop where
 | non:Kn H .non
 | bl (b:Bool):Kn H (.bl b)
 | int (i:Int):Kn H (.int i)
 | str (x:Str):Kn H (.str x)
 | lst {a:Addr} {xs:List V} (e:H a=some (.lst xs)):Kn H (.ref a)
 | tup {a:Addr} {xs:List V} (e:H a=some (.tup xs)):Kn H (.ref a)
 | dK {a:Addr} {kvs:List (Key×V)} (e:H a=some (.dK kvs)):Kn H (.ref a)
def isW:V→Bool
 | .int _=>true
 | _=>false
def isI:V→Bool
 | .int _=>true
 | .bl _=>true
 | _=>false
def tupV (H:Hp):V→Option (List V)
 | .ref a=>match H a with
  | some (.tup xs)=>some xs
  | _=>none
 | _=>none
def lstV (H:Hp):V→Option (List V)
 | .ref a=>match H a with
  | some (.lst xs)=>some xs
  | _=>none
 | _=>none
theorem Kn.same{H H':Hp}{v:V}(k:Kn H v)(s:Same H H'):Kn H' v:=by
 cases k with
 | non=>exact .non
 | bl b=>exact .bl b
 | int i=>exact .int i
 | str x=>exact .str x
 | lst e=>exact .lst (s _ _ e)
 | tup e=>exact .tup (s _ _ e)
 | dK e=>exact .dK (s _ _ e)
theorem Q9{H:Hp}{a:Addr}{xs:List V}(e:H a=some (.tup xs)):tupV H (.ref a)=some xs:=by show(match H a with | some (.tup xs)=>some xs | _=>none)=_;rw[e]
theorem YF{H:Hp}{a:Addr}{xs:List V}(e:H a=some (.lst xs)):lstV H (.ref a)=some xs:=by show(match H a with | some (.lst xs)=>some xs | _=>none)=_;rw[e]
theorem Dg{H:Hp}{v:V}{xs:List V}(h:tupV H v=some xs):∃ a,v = .ref a∧H a=some (.tup xs):=by
 unfold tupV at h;split at h
 ·split at h
  ·cases h;exact⟨_,rfl,by assumption⟩
  ·cases h
 ·cases h
theorem V0{H:Hp}{v:V}{xs:List V}(h:lstV H v=some xs):∃ a,v = .ref a∧H a=some (.lst xs):=by
 unfold lstV at h;split at h
 ·split at h
  ·cases h;exact⟨_,rfl,by assumption⟩
  ·cases h
 ·cases h
theorem Kn.askI{H:Hp}{v:V}(k:Kn H v)(Z:GK K)(G:G1 K mg):∃ t,TyOf K H v t∧PySem.W.kitOne K t (.type "int")=some (isI v):=by
 cases k with
 | non=>exact⟨_,.non,Z.nI⟩
 | bl b=>exact⟨_,.bl b,Z.bI⟩
 | int i=>exact⟨_,.int i,G.kii⟩
 | str x=>exact⟨_,.str x,Z.sI⟩
 | lst e=>exact⟨_,.lst e,Z.lI⟩
 | tup e=>exact⟨_,.tup e,Z.tI⟩
 | dK e=>exact⟨_,.dK e,Z.dI⟩
theorem Kn.askT{H:Hp}{v:V}(k:Kn H v)(Z:GK K)(G:G1 K mg):∃ t,TyOf K H v t∧PySem.W.kitOne K t (.type "tuple")=some (tupV H v).isSome:=by
 cases k with
 | non=>exact⟨_,.non,Z.nT⟩
 | bl b=>exact⟨_,.bl b,Z.bT⟩
 | int i=>exact⟨_,.int i,Z.iT⟩
 | str x=>exact⟨_,.str x,Z.sT⟩
 | lst e=>exact⟨_,.lst e,by show _=some (match H _ with | some (.tup xs)=>some xs | _=>none:Option (List V)).isSome;rw[e];exact Z.lT⟩
 | tup e=>exact⟨_,.tup e,by show _=some (match H _ with | some (.tup xs)=>some xs | _=>none:Option (List V)).isSome;rw[e];exact G.ktt⟩
 | dK e=>exact⟨_,.dK e,by show _=some (match H _ with | some (.tup xs)=>some xs | _=>none:Option (List V)).isSome;rw[e];exact Z.dT⟩
theorem Kn.askL{H:Hp}{v:V}(k:Kn H v)(Z:GK K)(G:G1 K mg):∃ t,TyOf K H v t∧PySem.W.kitOne K t (.type "list")=some (lstV H v).isSome:=by
 cases k with
 | non=>exact⟨_,.non,Z.nL⟩
 | bl b=>exact⟨_,.bl b,Z.bL⟩
 | int i=>exact⟨_,.int i,Z.iL⟩
 | str x=>exact⟨_,.str x,Z.sL⟩
 | lst e=>exact⟨_,.lst e,by show _=some (match H _ with | some (.lst xs)=>some xs | _=>none:Option (List V)).isSome;rw[e];exact G.kll⟩
 | tup e=>exact⟨_,.tup e,by show _=some (match H _ with | some (.lst xs)=>some xs | _=>none:Option (List V)).isSome;rw[e];exact Z.tL⟩
 | dK e=>exact⟨_,.dK e,by show _=some (match H _ with | some (.lst xs)=>some xs | _=>none:Option (List V)).isSome;rw[e];exact Z.dL⟩
def spWhole:Sp:=fun vs H Q _=>∃ v:V,vs=[v]∧Kn H v∧Q (.bl (isW v)) H
theorem NO:Zd ["value"] ["value"] (defScope J2):=fs7
theorem Jt{f:Addr}{fd:FuncData}(D:Def K mg "is_whole" J2 ["value"] f fd)(Z:GK K)(G:G1 K mg):FnOk P w K mg base CX0 1 f fd ["value"] spWhole:=by
 refine D.fn.ok NO (fun vs H Q E h=>?_) (fun bf A outer s H vs Q E hr h=>?_)
 ·obtain⟨i,rfl,_⟩:=h;rfl
 ·obtain⟨v,rfl,kn,k⟩:=h;refine⟨_,Z9 (Zj (JW (Zh Yh (by rfl) G.isi boot_isinstance (Z0 (pv 0) (Z0 (Vg (by rfl) G.int boot_int) Z3)))
   (Vh (TC (Zh Yh (by rfl) G.isi boot_isinstance (Z0 (pv 0) (Z0 (Vg (by rfl) G.bool boot_bool) Z3))))))),?_⟩
  obtain⟨t,ty,kit⟩:=kn.askI Z G;refine⟨_,rfl,_,_,_,_,_,rfl,ty,rfl,kit,_,rfl,?_⟩;cases kn with
  | int i=>exact iteT ⟨_,rfl,_,_,_,_,_,rfl,.int i,rfl,G.kib,false,rfl,k⟩
  | bl b=>exact iteT ⟨_,rfl,_,_,_,_,_,rfl,.bl b,rfl,G.kbb,true,rfl,k⟩
  | _=>exact iteF k
def cntV (c:Int):V→Bool
 | .int i=>cnt c i
 | _=>false
def spCounted:Sp:=fun vs H Q _=>∃(c:Int) (v:V),vs=[.int c,v]∧Kn H v∧Q (.bl (cntV c v)) H
theorem G6:Zd ["count","value"] ["count","value"] (defScope Yy):=fs7
theorem Jj{f g:Addr}{fd gd:FuncData}(D:Def K mg "is_counted" Yy ["count","value"] f fd)(DW:Def K mg "is_whole" J2 ["value"] g gd)(Z:GK K)(G:G1 K mg):FnOk P w K mg base CX0 2 f fd ["count","value"] spCounted:=by
 have GW:FnOk P w K mg base CX0 1 g gd ["value"] spWhole:=Jt DW Z G;refine D.fn.ok G6 (fun vs H Q E h=>?_) (fun bf A outer s H vs Q E hr h=>?_)
 ·obtain⟨c,i,rfl,_⟩:=h;rfl
 ·obtain⟨c,v,rfl,kn,k⟩:=h;refine⟨_,Z9 (Zj (JW (Za GW hr (by rfl) DW.at_ DW.fn.kp DW.bd .nil Zo (Z0 (pv 1) Z3)) (Vh (MS MW VP Z8 (pv 1) (pv 0))))),?_⟩
  refine⟨_,rfl,v,rfl,kn,_,rfl,?_⟩;cases kn with
  | int i =>
   refine iteT ?_;refine⟨_,rfl,_,_,rfl,rfl,_,rfl,?_⟩;have k:Q (.bl (cnt c i)) H:=k;unfold cnt at k;refine ite2 (fun h0=>?_) (fun h0=>?_)
   ·rw[h0,Bool.true_and] at k;exact⟨_,rfl,_,_,rfl,rfl,k⟩
   ·rw[Bool.eq_false_iff.mpr h0,Bool.false_and] at k;exact k
  | _=>exact iteF k
def sayV (H:Hp)(c:Int)(v:V):Bool:=match tupV H v with
 | some [x,y,z]=>cntV c x&&(cntV c y&&isW z)
 | _=>false
def Kn1 (H:Hp)(v:V):Prop:=Kn H v∧∀ xs,tupV H v=some xs→xs.length≤1000∧∀ x∈xs,Kn H x
def spSaying:Sp:=fun vs H Q _=>∃(c:Int) (v:V),vs=[.int c,v]∧Kn1 H v∧Q (.bl (sayV H c v)) H
theorem Ms:Zd ["count","value"] ["count","value"] (defScope UX):=fs7
theorem Gg{f fc fw:Addr}{fd dc dw:FuncData}(D:Def K mg "is_saying" UX ["count","value"] f fd)(DC:Def K mg "is_counted" Yy ["count","value"] fc dc)(DW:Def K mg "is_whole" J2 ["value"] fw dw)(Z:GK K)(G:G1 K mg):FnOk P w K mg base CX0 3 f fd ["count","value"] spSaying:=by
 have GC:FnOk P w K mg base CX0 2 fc dc ["count","value"] spCounted:=Jj DC DW Z G;have GW:FnOk P w K mg base CX0 2 fw dw ["value"] spWhole:=(Jt DW Z G).mono (by decide)
 refine D.fn.ok Ms (fun vs H Q E h=>?_) (fun bf A outer s H vs Q E hr h=>?_)
 ·obtain⟨c,p,rfl,_⟩:=h;rfl
 ·obtain⟨c,v,rfl,⟨kn,kx⟩,k⟩:=h;refine⟨_,Z5 (ZJ (PW.pt (QI (ZM (ZI (Zh Yh (by rfl) G.isi boot_isinstance (Z0 (pv 1) (Z0 (Vg (by rfl) G.tuple boot_tuple) Z3)))))
    (Vd (ZK Wo (Zh Ya (by rfl) G.len PySem.boot_len (Z0 (pv 1) Z3)) Z8 (nomark _))))) (Z9 (Zj Yc)) Zp)
   (Z9 (Zj (JW (Za GC hr (by rfl) DC.at_ DC.fn.kp DC.bd .nil Zo (Z0 (pv 0) (Z0 (Zx ZW (pv 1) Z8 (fun _ _=>rfl)) Z3)))
    (JW (Za GC hr (by rfl) DC.at_ DC.fn.kp DC.bd .nil Zo (Z0 (pv 0) (Z0 (Zx ZW (pv 1) Z8 (fun _ _=>rfl)) Z3)))
     (Vh (Za GW hr (by rfl) DW.at_ DW.fn.kp DW.bd .nil Zo (Z0 (Zx ZW (pv 1) Z8 (fun _ _=>rfl)) Z3))))))),?_⟩
  obtain⟨t,ty,kit⟩:=kn.askT Z G;refine⟨_,rfl,_,_,_,_,_,rfl,ty,rfl,kit,_,rfl,?_⟩;cases et:tupV H v with
  | none =>
   have e:sayV H c v=false:=by unfold sayV;rw[et]
   rw[e] at k;exact iteT k
  | some xs =>
   obtain⟨p,rfl,hp⟩:=Dg et;obtain⟨hz,hx⟩:=kx xs et;refine iteF ?_;refine⟨_,rfl,p,_,rfl,.inr (SqT.of hp),rfl,_,rfl,?_⟩;by_cases hl:xs.length=3
   ·obtain⟨x,y,z,rfl⟩:∃ x y z,xs=[x,y,z]:=by
     match xs,hl with
     | [x,y,z],_=>exact⟨x,y,z,rfl⟩
    have e:sayV H c (.ref p)=(cntV c x&&(cntV c y&&isW z)):=by unfold sayV;rw[et]
    rw[e] at k;refine iteF ?_;refine⟨_,rfl,_,rfl,p,_,_,_,rfl,rfl,SqT.of hp,rfl,c,x,rfl,hx x (by simp),_,rfl,?_⟩
    refine ite2 (fun h0=>?_) (fun h0=>?_)
    ·rw[h0,Bool.true_and] at k;refine⟨_,rfl,_,rfl,p,_,_,_,rfl,rfl,SqT.of hp,rfl,c,y,rfl,hx y (by simp),_,rfl,?_⟩
     refine ite2 (fun h1=>?_) (fun h1=>?_)
     ·rw[h1,Bool.true_and] at k;exact⟨_,rfl,p,_,_,_,rfl,rfl,SqT.of hp,rfl,z,rfl,hx z (by simp),k⟩
     ·rw[Bool.eq_false_iff.mpr h1,Bool.false_and] at k;exact k
    ·rw[Bool.eq_false_iff.mpr h0,Bool.false_and] at k;exact k
   ·have e:sayV H c (.ref p)=false:=by
     unfold sayV;rw[et];split
     ·rename_i hh;cases hh;exact absurd rfl hl
     ·rfl
    rw[e] at k;refine ite2 (fun h0=>k) (fun h0=>absurd ?_ hl);rw[YG] at h0;simp at h0;lia
def cOk:V→Bool
 | .int c=>decide (1≤c)
 | _=>false
def ssV (H:Hp)(c:Int)(v:V):Bool:=match lstV H v with
 | some xs=>xs.all (sayV H c)
 | _=>false
def Kn2 (H:Hp)(v:V):Prop:=Kn H v∧∀ xs,lstV H v=some xs→∀ x∈xs,Kn1 H x
structure XC(K:Frag)(mg:Str→Option Value)(x:Str)(C:Addr):Prop where
 p:ExcP K C
 at_:mg x=some (.ref C)
def Yw(cC cS:Addr):Sp:=fun vs H Q E=>∃(u v:V),vs=[u,v]∧Kn H u∧Kn2 H v∧(cOk u=false→E (.ref cC) none H)∧(∀ c,u = .int c→1≤c→(ssV H c v=false→E (.ref cS) none H)∧(ssV H c v=true→Q .non H))
theorem QD:Zd ["count","sayings","saying"] ["count","sayings"] (defScope Yr):=fs7
theorem Gn{f fs fc fw cC cS:Addr}{fd ds dc dw:FuncData}(D:Def K mg "check_sayings" Yr ["count","sayings"] f fd)(DS:Def K mg "is_saying" UX ["count","value"] fs ds)(DC:Def K mg "is_counted" Yy ["count","value"] fc dc)(DW:Def K mg "is_whole" J2 ["value"] fw dw)(XA:XC K mg "BadCount" cC)(XB:XC K mg "BadSayings" cS)(Z:GK K)(G:G1 K mg):FnOk P w K mg base (CXr P w) 4 f fd ["count","sayings"] (Yw cC cS):=by
 have GS:FnOk P w K mg base CX0 3 fs ds ["count","value"] spSaying:=Gg DS DC DW Z G;have GW:FnOk P w K mg base CX0 3 fw dw ["value"] spWhole:=(Jt DW Z G).mono (by decide)
 refine D.fn.okR QD (fun vs H Q E h=>?_) (fun bf A outer s H vs Q E hr h=>?_)
 ·obtain⟨c,a,rfl,_⟩:=h;rfl
 ·obtain⟨u,v,rfl,ku,kv,k1,k2⟩:=h;have hr3:Room 3 _:=hr.mono (by decide)
  refine⟨_,Z5 (ZJ (PW.pt (QI (ZM (ZI (Za GW hr3 (by rfl) DW.at_ DW.fn.kp DW.bd .nil Zo (Z0 (pv 0) Z3)))) (Vd (ZK VP (pv 0) Z8 (nomark _))))) (Z9 (Y9 XA.p.ex ZY rfl (Yj XA.p (by rfl) XA.at_ (Z0 YB Z3)))) Zp)
   (Z5 (ZJ (ZM (ZI (Zh Yh (by rfl) G.isi boot_isinstance (Z0 (pv 1) (Z0 (Vg (by rfl) G.list boot_list) Z3))))) (Z9 (Y9 XB.p.ex ZY rfl (Yj XB.p (by rfl) XB.at_ (Z0 YB Z3)))) Zp)
   (Z9 (YR PassesOwn.leaving rfl (Zt (pv 1)) (Zg (i:=2) QD.nd rfl (Or.inl rfl))
    (Z9 (ZJ (ZM (ZI (Za GS hr3 (by rfl) DS.at_ DS.fn.kp DS.bd .nil Zo (Z0 (pv 0) (Z0 (pv 2) Z3))))) (Z9 (Y9 XB.p.ex ZY rfl (Yj XB.p (by rfl) XB.at_ (Z0 YB Z3)))) Zp))))),?_⟩
  refine⟨_,rfl,u,rfl,ku,_,rfl,?_⟩;cases eu:isW u with
  | false =>
   have e1:cOk u=false:=by cases ku <;> first | rfl | cases eu
   exact iteT (raised (fun _ z=>z) (k1 e1))
  | true =>
   obtain⟨c,rfl⟩:∃ c,u = .int c:=by cases ku <;> first | exact⟨_,rfl⟩ | cases eu
   refine iteF ?_;refine⟨_,rfl,_,_,rfl,rfl,_,rfl,?_⟩;by_cases hc:c<1
   ·rw[decide_eq_true hc];exact iteT (raised (fun _ z=>z) (k1 (decide_eq_false (by lia))))
   ·rw[decide_eq_false hc];refine iteF ?_;obtain⟨k2,k3⟩:=k2 c rfl (by lia)
    obtain⟨t,ty,kit⟩:=kv.1.askL Z G;refine⟨_,rfl,_,_,_,_,_,rfl,ty,rfl,kit,_,rfl,?_⟩;cases el:lstV H v with
    | none =>
     exact iteT (raised (fun _ z=>z) (k2 (by unfold ssV;rw[el])))
    | some xs =>
     obtain⟨a,rfl,ha⟩:=V0 el;have e0:ssV H c (.ref a)=xs.all (sayV H c):=by unfold ssV;rw[el]
     rw[e0] at k2 k3;refine iteF ?_;refine⟨_,rfl,a,rfl,⟨_,SqL.of ha⟩,Yz (K:=K) (a:=a) (xs:=xs) (fun i σ H2=>H2=H∧(∃(v:Option V),σ=[some (.int c),some (.ref a),v])∧(xs.take i).all (sayV H c)=true)
      ⟨rfl,⟨none,rfl⟩,rfl⟩ (fun i σ H2 _ ⟨e,_⟩=>by rw[e];exact SqL.of ha) ?_ ?_⟩
     ·rintro i y σ H2 hi ⟨rfl,⟨v,rfl⟩,hall⟩;refine⟨_,rfl,_,rfl,c,y,rfl,kv.2 xs el y (List.mem_of_getElem? hi),_,rfl,?_⟩;cases hb:sayV H2 c y with
      | false =>
       refine iteT (raised (fun _ z=>z) (k2 ?_));refine Bool.eq_false_iff.mpr fun z=>?_;rw[List.all_eq_true.mp z y (List.mem_of_getElem? hi)] at hb;cases hb
      | true =>
       refine iteF ⟨rfl,⟨_,rfl⟩,?_⟩;rw[List.take_add_one,hi,List.all_append,hall];simp[hb]
     ·rintro σ H2 ⟨rfl,⟨v,rfl⟩,hall⟩;rw[List.take_length] at hall;exact k3 hall
def Ref (cC cS:Addr)(u v:V)(H:Hp)(E:XK)(G:Int→Prop):Prop:=Kn H u∧Kn2 H v∧(cOk u=false→E (.ref cC) none H)∧(∀ c,u = .int c→1≤c→(ssV H c v=false→E (.ref cS) none H)∧(ssV H c v=true→G c))
def V8(cC cS cN:Addr):Sp:=fun vs H Q E=>∃(u v e:V),vs=[u,v,e]∧Ref cC cS u v H E fun c=>Kn H e∧(isW e=false→E (.ref cN) none H)∧(isW e=true→Q .non H)
theorem Mx:Zd ["count","sayings","end"] ["count","sayings","end"] (defScope Yx):=fs7
theorem Gp{f fs fw cC cS cN:Addr}{fd ds dw:FuncData}(D:Def K mg "check_end" Yx ["count","sayings","end"] f fd)(DS:Def K mg "check_sayings" Yr ["count","sayings"] fs ds)(GS:FnOk P w K mg base (CXr P w) 4 fs ds ["count","sayings"] (Yw cC cS))(DW:Def K mg "is_whole" J2 ["value"] fw dw)(XN:XC K mg "BadNumber" cN)(Z:GK K)(G:G1 K mg):FnOk P w K mg base (CXr P w) 5 f fd ["count","sayings","end"] (V8 cC cS cN):=by
 have GW:FnOk P w K mg base CX0 4 fw dw ["value"] spWhole:=(Jt DW Z G).mono (by decide)
 refine D.fn.okR Mx (fun vs H Q E h=>?_) (fun bf A outer s H vs Q E hr h=>?_)
 ·obtain⟨_,_,_,rfl,_⟩:=h;rfl
 ·obtain⟨u,v,e,rfl,hR⟩:=h;have hr4:Room 4 _:=hr.mono (by decide)
  refine⟨_,Z5 (ZB (Za GS hr4 (by rfl) DS.at_ DS.fn.kp DS.bd .nil Zn (Z0 (pv 0) (Z0 (pv 1) Z3))))
   (Z9 (ZJ (ZM (ZI (Za GW hr4 (by rfl) DW.at_ DW.fn.kp DW.bd .nil Zo (Z0 (pv 2) Z3)))) (Z9 (Y9 XN.p.ex ZY rfl (Yj XN.p (by rfl) XN.at_ (Z0 YB Z3)))) Zp)),?_⟩
  refine⟨_,rfl,_,rfl,u,v,rfl,hR.1,hR.2.1,hR.2.2.1,fun c eu hc=>⟨(hR.2.2.2 c eu hc).1,fun hs=>?_⟩⟩;obtain⟨ke,k1,k2⟩:=(hR.2.2.2 c eu hc).2 hs;refine⟨_,rfl,e,rfl,ke,_,rfl,?_⟩;cases he:isW e with
  | false=>exact iteT (raised (fun _ z=>z) (k1 he))
  | true=>exact iteF (k2 he)
def hgtV (H:Hp)(c:Int)(v:V):Bool:=match lstV H v with
 | some xs=>decide ((xs.length:Int)=c)&&xs.all isW
 | _=>false
def KnL (H:Hp)(v:V):Prop:=Kn H v∧∀ xs,lstV H v=some xs→xs.length≤1000∧∀ x∈xs,Kn H x
def VI:Sp:=fun vs H Q _=>∃(c:Int) (v:V),vs=[.int c,v]∧KnL H v∧∀ H',Same H H'→Q (.bl (hgtV H c v)) H'
theorem G5:Zd ["count","value"] ["count","value"] (defScope Jr):=fs7
theorem XE{f fw:Addr}{fd dw:FuncData}(D:Def K mg "are_heights" Jr ["count","value"] f fd)(DW:Def K mg "is_whole" J2 ["value"] fw dw)(Z:GK K)(G:G1 K mg):FnOk P w K mg base CX0 2 f fd ["count","value"] VI:=by
 have GW:FnOk P w K mg base CX0 1 fw dw ["value"] spWhole:=Jt DW Z G;refine D.fn.ok G5 (fun vs H Q E h=>?_) (fun bf A outer s H vs Q E hr h=>?_)
 ·obtain⟨c,a,rfl,_⟩:=h;rfl
 ·obtain⟨c,v,rfl,⟨kn,kx⟩,k⟩:=h;refine⟨_,Z5 (ZJ (PW.pt (QI (ZM (ZI (Zh Yh (by rfl) G.isi boot_isinstance (Z0 (pv 1) (Z0 (Vg (by rfl) G.list boot_list) Z3)))))
    (Vd (ZK Wo (Zh Ya (by rfl) G.len PySem.boot_len (Z0 (pv 1) Z3)) (pv 0) (nomark _))))) (Z9 (Zj Yc)) Zp)
   (Z9 (Zj (Zh (ZQ rfl) (by rfl) G.all boot_all (Z0
    (ZC (XN:=["count","value"]) (outer:=defScope Jr) (N:=["height"]) (cap:=[none]) (by exact⟨rfl,by decide +kernel,by decide +kernel,by decide +kernel,.own .nil,by decide +kernel⟩) rfl (Zt (pv 1))
     (fun _ _ _ _ _ _=>Zg (i:=0) (show(["height"]:List Str).Nodup by decide +kernel) rfl (Or.inl rfl)) (fun _ _ _ _ _ _=>Zv)
     (fun _ _ _ _ _ _=>Za GW hr (by rfl) DW.at_ DW.fn.kp DW.bd .nil Zo (Z0 (pv 0) Z3))) Z3)))),?_⟩
  obtain⟨t,ty,kit⟩:=kn.askL Z G;refine⟨_,rfl,_,_,_,_,_,rfl,ty,rfl,kit,_,rfl,?_⟩;cases et:lstV H v with
  | none =>
   have e:hgtV H c v=false:=by unfold hgtV;rw[et]
   rw[e] at k;exact iteT (k H (Same.refl _))
  | some xs =>
   obtain⟨a,rfl,ha⟩:=V0 et;obtain⟨hz,hx⟩:=kx xs et;have e0:hgtV H c (.ref a)=(decide ((xs.length:Int)=c)&&xs.all isW):=by unfold hgtV;rw[et]
   rw[e0] at k;refine iteF ?_;refine⟨_,rfl,a,_,rfl,.inl (SqL.of ha),_,rfl,rfl,_,rfl,?_⟩;refine ite2 (fun h0=>?_) (fun h0=>?_)
   ·have e:decide ((xs.length:Int)=c)=false:=by
     rw[YG] at h0;simp at h0;exact decide_eq_false h0
    rw[e,Bool.false_and] at k;exact k H (Same.refl _)
   ·have e:decide ((xs.length:Int)=c)=true:=by
     rw[YG] at h0;simp at h0;exact decide_eq_true h0
    rw[e,Bool.true_and] at k;refine⟨_,rfl,a,rfl,⟨_,SqL.of ha⟩,fun q hq=>?_⟩;refine Yg (outs:=fun i=>(xs[i]?).map fun x=>V.bl (isW x)) (fun σ=>∃ v,σ=[v]) hq (SqL.of ha) (Zf hz) ⟨none,rfl⟩ (fun i x σc Hc Yes No hi sm _ ⟨v,hv⟩ yes no=>?_) (fun Hc sm hD=>?_)
    ·subst hv;exact⟨_,rfl,x,rfl,(hx x (List.mem_of_getElem? hi)).same sm,yes _ _ _ ⟨_,rfl⟩ (Same.refl _) (by rw[hi];rfl)⟩
    ·rw[UE (fun x=>V.bl (isW x))] at hD;have e3:(xs.map fun x=>V.bl (isW x))=(xs.map isW).map V.bl:=by rw[List.map_map];rfl
     rw[e3] at hD;refine⟨q,xs.map isW,rfl,SqL.of hD,?_⟩;have e2:(xs.map isW).all id=xs.all isW:=by rw[List.all_map];rfl
     rw[e2];exact k Hc sm
theorem UH{α:Type}{xs:List α}{i:Int}{v:α}(h0:0≤i)(e:xs[i.toNat]?=some v):atI xs i=some v:=by
 obtain⟨j,rfl⟩:=Int.eq_ofNat_of_zero_le h0;exact DG (by simpa using e)
theorem YU{α:Type}{xs:List α}{i:Int}(h:cnt xs.length i=true):∃ v,xs[i.toNat]?=some v∧0≤i:=by
 obtain⟨h0,h1⟩:=YH.mp h;exact⟨xs[i.toNat]'(by lia),List.getElem?_eq_getElem (by lia),h0⟩
theorem WQ{hs:List Int}{i:Int}(h:cnt hs.length i=true):atI (hs.map V.int) i=some (.int (hs.getD i.toNat 0)):=by
 obtain⟨v,e,h0⟩:=YU h;refine UH h0 ?_;rw[List.getElem?_map,e,List.getD,e];rfl
def spAbove:Sp:=fun vs H Q _=>∃(b:Addr) (hs:List Int) (one bh:Int),vs=[.ref b,.int one,.int bh]∧H b=some (.lst (hs.map V.int))∧cnt hs.length one=true∧cnt hs.length bh=true∧Q (.int (hs.getD bh.toNat 0-hs.getD one.toNat 0)) H
theorem NS:Zd ["heights","one","other"] ["heights","one","other"] (defScope Vb):=fs7
theorem N5{f:Addr}{fd:FuncData}(D:Def K mg "above" Vb ["heights","one","other"] f fd):FnOk P w K mg base CX0 1 f fd ["heights","one","other"] spAbove:=by
 refine D.fn.ok NS (fun vs H Q E h=>?_) (fun bf A outer s H vs Q E hr h=>?_)
 ·obtain⟨b,hs,one,bh,rfl,_⟩:=h;rfl
 ·obtain⟨b,hs,one,bh,rfl,hb,h1,h2,k⟩:=h;refine⟨_,Z9 (Zj (Yi Vl (Zx YZ (pv 0) (pv 2) (fun _ _=>rfl)) (Zx YZ (pv 0) (pv 1) (fun _ _=>rfl)))),?_⟩;exact⟨_,rfl,_,rfl,b,_,_,_,rfl,rfl,SqL.of hb,WQ h2,_,rfl,_,rfl,b,_,_,_,rfl,rfl,SqL.of hb,WQ h1,_,_,rfl,rfl,k⟩
def spKeepOne:Sp:=fun vs H Q _=>∃(p b:Addr) (s:Say) (hs:List Int),vs=[.ref p,.ref b]∧H p=some (VG s)∧H b=some (.lst (hs.map V.int))∧inside hs.length s=true∧Q (.bl (keeps hs s)) H
theorem G3:Zd ["saying","heights"] ["saying","heights"] (defScope Ue):=fs7
theorem Xz{f fa:Addr}{fd da:FuncData}(D:Def K mg "keep_one" Ue ["saying","heights"] f fd)(DA:Def K mg "above" Vb ["heights","one","other"] fa da):FnOk P w K mg base CX0 2 f fd ["saying","heights"] spKeepOne:=by
 have GA:FnOk P w K mg base CX0 1 fa da ["heights","one","other"] spAbove:=N5 DA;refine D.fn.ok G3 (fun vs H Q E h=>?_) (fun bf A outer s H vs Q E hr h=>?_)
 ·obtain⟨p,b,s,hs,rfl,_⟩:=h;rfl
 ·obtain⟨p,b,⟨l,u,n⟩,hs,rfl,hp,hb,hin,k⟩:=h;have hp:H p=some (.tup [.int l,.int u,.int n]):=hp;unfold inside at hin;rw[Bool.and_eq_true] at hin;refine⟨_,Z9 (Zj (Jh MW (Za GA hr (by rfl) DA.at_ DA.fn.kp DA.bd .nil Zo (Z0 (pv 1) (Z0 (Zx ZW (pv 0) Z8 (fun _ _=>rfl)) (Z0 (Zx ZW (pv 0) Z8 (fun _ _=>rfl)) Z3)))) (Zx ZW (pv 0) Z8 (fun _ _=>rfl)) (nomark _))),?_⟩
  exact⟨_,rfl,_,rfl,p,_,_,_,rfl,rfl,SqT.of hp,rfl,_,rfl,p,_,_,_,rfl,rfl,SqT.of hp,rfl,b,hs,l,u,rfl,hb,hin.1,hin.2,_,rfl,p,_,_,_,rfl,rfl,SqT.of hp,rfl,_,_,rfl,rfl,k⟩
def Uv:Sp:=fun vs H Q _=>∃(a b:Addr) (ss:List Say) (hs:List Int),vs=[.ref a,.ref b]∧SaysAt H a ss∧ss.length≤1000∧H b=some (.lst (hs.map V.int))∧ss.all (inside hs.length)=true∧∀ H',Same H H'→Q (.bl (ss.all (keeps hs))) H'
theorem G4:Zd ["sayings","heights"] ["sayings","heights"] (defScope Jq):=fs7
theorem XD{f fo fa:Addr}{fd d1 da:FuncData}(D:Def K mg "keep_all" Jq ["sayings","heights"] f fd)(DO:Def K mg "keep_one" Ue ["saying","heights"] fo d1)(DA:Def K mg "above" Vb ["heights","one","other"] fa da)(G:G1 K mg):FnOk P w K mg base CX0 3 f fd ["sayings","heights"] Uv:=by
 have GO:FnOk P w K mg base CX0 2 fo d1 ["saying","heights"] spKeepOne:=Xz DO DA;refine D.fn.ok G4 (fun vs H Q E h=>?_) (fun bf A outer s H vs Q E hr h=>?_)
 ·obtain⟨a,b,ss,hs,rfl,_⟩:=h;rfl
 ·obtain⟨a,b,ss,hs,rfl,ha,hz,hb,hin,k⟩:=h;obtain⟨ps,ha,hS⟩:=ha.ex;refine⟨_,Z9 (Zj (Zh (ZQ rfl) (by rfl) G.all boot_all (Z0
    (ZC (XN:=["sayings","heights"]) (outer:=defScope Jq) (N:=["saying","heights"]) (cap:=[none,some 1]) (by exact⟨rfl,by decide +kernel,by decide +kernel,by decide +kernel,.own (.cap rfl rfl rfl .nil),by decide +kernel⟩) rfl (Zt (pv 0))
     (fun _ _ _ _ _ _=>Zg (i:=0) (show(["saying","heights"]:List Str).Nodup by decide +kernel) rfl (Or.inl rfl)) (fun _ _ _ _ _ _=>Zv)
     (fun _ _ _ _ _ _=>Za GO hr (by rfl) DO.at_ DO.fn.kp DO.bd .nil Zo (Z0 (pv 0) (Z0 (pv 1) Z3)))) Z3))),?_⟩
  refine⟨_,rfl,a,rfl,⟨_,SqL.of ha⟩,fun q hq=>?_⟩;refine Yg (outs:=fun i=>(ss[i]?).map fun s=>V.bl (keeps hs s)) (fun σ=>∃ v,σ=[v,some (.ref b)]) hq (SqL.of ha) (by rw[List.length_map,hS.len];exact Zf hz) ⟨none,rfl⟩ (fun i x σc Hc Yes No hx sm _ ⟨v,hv⟩ yes no=>?_) (fun Hc sm hD=>?_)
  ·rw[List.getElem?_map] at hx;cases ep:ps[i]? with
   | none=>rw[ep] at hx;cases hx
   | some p =>
    rw[ep] at hx;cases hx;subst hv;have hl:i<ss.length:=by rw[←hS.len];exact(List.getElem?_eq_some_iff.mp ep).1
    have es:ss[i]?=some ss[i]:=List.getElem?_eq_getElem hl;exact⟨_,rfl,_,rfl,p,b,ss[i],hs,rfl,sm _ _ (hS.at_ i p _ ep es),sm _ _ hb,List.all_eq_true.mp hin _ (List.getElem_mem hl),yes _ _ _ ⟨_,rfl⟩ (Same.refl _) (by rw[es];rfl)⟩
  ·rw[List.length_map,hS.len,UE] at hD;refine⟨q,ss.map (keeps hs),rfl,?_,?_⟩
   ·rw[List.map_map];exact SqL.of hD
   ·rw[List.all_map];exact k Hc sm
def Qd(cC cS cN:Addr):Sp:=fun vs H Q E=>∃(u v e:V),vs=[u,v,e]∧Ref cC cS u v H E fun c=>KnL H e∧(hgtV H c e=false→∀ H',Same H H'→E (.ref cN) none H')∧(hgtV H c e=true→∀ H',Same H H'→Uv [v,e] H' Q E)
theorem Tv:Zd ["count","sayings","heights"] ["count","sayings","heights"] (defScope QE):=fs7
theorem Dc{f fs fh fk cC cS cN:Addr}{fd ds dh dk:FuncData}(D:Def K mg "kept" QE ["count","sayings","heights"] f fd)(DS:Def K mg "check_sayings" Yr ["count","sayings"] fs ds)(GS:FnOk P w K mg base (CXr P w) 4 fs ds ["count","sayings"] (Yw cC cS))(DH:Def K mg "are_heights" Jr ["count","value"] fh dh)(GH:FnOk P w K mg base CX0 2 fh dh ["count","value"] VI)(DK:Def K mg "keep_all" Jq ["sayings","heights"] fk dk)(GK:FnOk P w K mg base CX0 3 fk dk ["sayings","heights"] Uv)(XN:XC K mg "BadNumber" cN):FnOk P w K mg base (CXr P w) 5 f fd ["count","sayings","heights"] (Qd cC cS cN):=by
 refine D.fn.okR Tv (fun vs H Q E h=>?_) (fun bf A outer s H vs Q E hr h=>?_)
 ·obtain⟨_,_,_,rfl,_⟩:=h;rfl
 ·obtain⟨u,v,e,rfl,hR⟩:=h;have hr4:Room 4 _:=hr.mono (by decide)
  have hr3:Room 3 _:=hr.mono (by decide)
  have hr2:Room 2 _:=hr.mono (by decide)
  refine⟨_,Z5 (ZB (Za GS hr4 (by rfl) DS.at_ DS.fn.kp DS.bd .nil Zn (Z0 (pv 0) (Z0 (pv 1) Z3))))
   (Z5 (ZJ (ZM (ZI (Za GH hr2 (by rfl) DH.at_ DH.fn.kp DH.bd .nil Zo (Z0 (pv 0) (Z0 (pv 2) Z3))))) (Z9 (Y9 XN.p.ex ZY rfl (Yj XN.p (by rfl) XN.at_ (Z0 YB Z3)))) Zp)
   (Z9 (Zj (Za GK hr3 (by rfl) DK.at_ DK.fn.kp DK.bd .nil Zo (Z0 (pv 1) (Z0 (pv 2) Z3)))))),?_⟩
  refine⟨_,rfl,_,rfl,u,v,rfl,hR.1,hR.2.1,hR.2.2.1,fun c eu hc=>⟨(hR.2.2.2 c eu hc).1,fun hs=>?_⟩⟩;obtain⟨ke,k1,k2⟩:=(hR.2.2.2 c eu hc).2 hs;subst eu;refine⟨_,rfl,_,rfl,c,e,rfl,ke,fun H' sm=>⟨_,rfl,?_⟩⟩;cases he:hgtV H c e with
  | false=>exact iteT (raised (fun x z=>sm.free z) (k1 he H' sm))
  | true=>exact iteF ⟨_,rfl,_,rfl,k2 he H' sm⟩
def Ud(cP:Addr):Sp:=fun vs H Q E=>∃(c:Int) (u v:V),vs=[.int c,u,v]∧Kn H u∧Kn H v∧(cntV c u=false→E (.ref cP) none H)∧(cntV c u=true→cntV c v=false→E (.ref cP) none H)∧(cntV c u=true→cntV c v=true→Q .non H)
theorem Mw:Zd ["count","one","other"] ["count","one","other"] (defScope JH):=fs7
theorem Go{f fc fw cP:Addr}{fd dc dw:FuncData}(D:Def K mg "check_places" JH ["count","one","other"] f fd)(DC:Def K mg "is_counted" Yy ["count","value"] fc dc)(DW:Def K mg "is_whole" J2 ["value"] fw dw)(XP:XC K mg "BadPlace" cP)(Z:GK K)(G:G1 K mg):FnOk P w K mg base (CXr P w) 3 f fd ["count","one","other"] (Ud cP):=by
 have GC:FnOk P w K mg base CX0 2 fc dc ["count","value"] spCounted:=Jj DC DW Z G;refine D.fn.okR Mw (fun vs H Q E h=>?_) (fun bf A outer s H vs Q E hr h=>?_)
 ·obtain⟨c,one,bh,rfl,_⟩:=h;rfl
 ·obtain⟨c,u,v,rfl,ku,kv,k1,k2,k3⟩:=h;have hr2:Room 2 _:=hr.mono (by decide)
  refine⟨_,Z5 (ZJ (ZM (ZI (Za GC hr2 (by rfl) DC.at_ DC.fn.kp DC.bd .nil Zo (Z0 (pv 0) (Z0 (pv 1) Z3))))) (Z9 (Y9 XP.p.ex ZY rfl (Yj XP.p (by rfl) XP.at_ (Z0 YB Z3)))) Zp)
   (Z9 (ZJ (ZM (ZI (Za GC hr2 (by rfl) DC.at_ DC.fn.kp DC.bd .nil Zo (Z0 (pv 0) (Z0 (pv 2) Z3))))) (Z9 (Y9 XP.p.ex ZY rfl (Yj XP.p (by rfl) XP.at_ (Z0 YB Z3)))) Zp)),?_⟩
  refine⟨_,rfl,_,rfl,c,u,rfl,ku,_,rfl,?_⟩;cases h1:cntV c u with
  | false=>exact iteT (raised (fun _ z=>z) (k1 h1))
  | true =>
   refine iteF ?_;refine⟨_,rfl,_,rfl,c,v,rfl,kv,_,rfl,?_⟩;cases h2:cntV c v with
   | false=>exact iteT (raised (fun _ z=>z) (k2 h1 h2))
   | true=>exact iteF (k3 h1 h2)
def YM(ss:List Say):List V→Int→Option Int
 | [],p=>some p
 | k::r,p=>if cntV ss.length k=true then(match k with
  | .int z=>match ss[z.toNat]? with
   | some s=>if s.1=p then YM ss r s.2.1 else none
   | none=>none
  | _=>none) else none
def chV (H:Hp)(ss:List Say)(v:V)(one bh:Int):Bool:=match lstV H v with
 | some xs=>decide (YM ss xs one=some bh)
 | none=>false
def We:Sp:=fun vs H Q _=>∃(a:Addr) (ss:List Say) (v:V) (one bh:Int),vs=[.ref a,v,.int one,.int bh]∧SaysAt H a ss∧KnL H v∧ss.length≤1000∧Q (.bl (chV H ss v one bh)) H
theorem UV:Zd ["sayings","value","one","other","place","at"] ["sayings","value","one","other"] (defScope Qh):=fs7
theorem N4{f fc fw:Addr}{fd dc dw:FuncData}(D:Def K mg "is_chain" Qh ["sayings","value","one","other"] f fd)(DC:Def K mg "is_counted" Yy ["count","value"] fc dc)(DW:Def K mg "is_whole" J2 ["value"] fw dw)(Z:GK K)(G:G1 K mg):FnOk P w K mg base CX0 3 f fd ["sayings","value","one","other"] We:=by
 have GC:FnOk P w K mg base CX0 2 fc dc ["count","value"] spCounted:=Jj DC DW Z G;refine D.fn.ok UV (fun vs H Q E h=>?_) (fun bf A outer s H vs Q E hr h=>?_)
 ·obtain⟨a,ss,b,one,bh,rfl,_⟩:=h;rfl
 ·obtain⟨a,ss,v,one,bh,rfl,ha,⟨kn,kx⟩,hz,k⟩:=h;obtain⟨ps,ha,hS⟩:=ha.ex;refine⟨_,Z5 (ZJ (ZM (ZI (Zh Yh (by rfl) G.isi boot_isinstance (Z0 (pv 1) (Z0 (Vg (by rfl) G.list boot_list) Z3))))) (Z9 (Zj Yc)) Zp)
   (Z5 (Zu (i:=4) UV.nd rfl (Or.inl rfl) (pv 2))
   (Z5 (YR PassesOwn.never rfl (Zt (pv 1)) (Zg (i:=5) UV.nd rfl (Or.inl rfl))
    (Z5 (ZJ (PW.pt (QI (ZM (ZI (Za GC hr (by rfl) DC.at_ DC.fn.kp DC.bd .nil Zo (Z0 (Zh Ya (by rfl) G.len PySem.boot_len (Z0 (pv 0) Z3)) (Z0 (pv 5) Z3)))))
      (Vd (ZK Wo (Zx ZW (Zx YZ (pv 0) (pv 5) (fun _ _=>rfl)) Z8 (fun _ _=>rfl)) (pv 4) (nomark _))))) (Z9 (Zj Yc)) Zp)
     (Z9 (Zu (i:=4) UV.nd rfl (Or.inl rfl) (Zx ZW (Zx YZ (pv 0) (pv 5) (fun _ _=>rfl)) Z8 (fun _ _=>rfl))))))
   (Z9 (Zj (Jh Uk (pv 4) (pv 3) (nomark _)))))),?_⟩
  obtain⟨t,ty,kit⟩:=kn.askL Z G;refine⟨_,rfl,_,_,_,_,_,rfl,ty,rfl,kit,_,rfl,?_⟩;cases el:lstV H v with
  | none =>
   have e:chV H ss v one bh=false:=by unfold chV;rw[el]
   rw[e] at k;exact iteT k
  | some xs =>
  obtain⟨b,rfl,hb⟩:=V0 el;have e0:chV H ss (.ref b) one bh=decide (YM ss xs one=some bh):=by unfold chV;rw[el]
  rw[e0] at k;refine iteF ?_;refine⟨_,rfl,?_⟩;refine⟨_,rfl,b,rfl,⟨_,SqL.of hb⟩,Yz (K:=K) (a:=b) (xs:=xs) (fun i σ H2=>H2=H∧∃(p:Int) (v:Option V),σ=[some (.ref a),some (.ref b),some (.int one),some (.int bh),some (.int p),v]∧YM ss xs one=YM ss (xs.drop i) p)
   ⟨rfl,one,none,rfl,rfl⟩ (fun i σ H2 _ ⟨e,_⟩=>by rw[e];exact SqL.of hb) ?_ ?_⟩
  ·rintro i y σ H2 hi ⟨rfl,p,v,rfl,hw⟩;have ed:xs.drop i=y::xs.drop (i+1):=by
    obtain⟨hl,rfl⟩:=List.getElem?_eq_some_iff.mp hi;exact List.drop_eq_getElem_cons hl
   rw[ed] at hw;refine⟨_,rfl,a,_,rfl,.inl (SqL.of ha),_,rfl,_,y,rfl,(kx xs el).2 y (List.mem_of_getElem? hi),_,rfl,?_⟩;have e1:((ps.map V.ref).length:Int)=ss.length:=by rw[List.length_map,hS.len]
   rw[e1];cases hc:cntV ss.length y with
   | false =>
    have hwn:YM ss xs one=none:=by rw[hw];unfold YM;rw[hc];rfl
    rw[hwn] at k;exact k
   | true =>
    obtain⟨z,rfl⟩:∃ z,y = .int z:=by cases y <;> first | exact⟨_,rfl⟩ | cases hc
    obtain⟨⟨l,u,n⟩,es,h0⟩:=YU (show cnt ss.length z=true from hc)
    obtain⟨q,eq,hq⟩:=hS.get es;have hq:H2 q=some (.tup [.int l,.int u,.int n]):=hq;have e1:(ps.map V.ref)[z.toNat]?=some (.ref q):=by rw[List.getElem?_map,eq];rfl
    have hw2:YM ss xs one=if l=p then YM ss (xs.drop (i+1)) u else none:=by
     rw[hw];conv=>lhs;unfold YM
     rw[hc,if_pos rfl];show(match ss[z.toNat]? with | some s=>if s.1=p then YM ss (xs.drop (i+1)) s.2.1 else none | none=>none)=_
     rw[es]
    refine⟨_,rfl,_,rfl,a,_,_,_,rfl,rfl,SqL.of ha,UH h0 e1,q,_,_,_,rfl,rfl,SqT.of hq,rfl,_,rfl,rfl,_,rfl,?_⟩;refine ite2 (fun hne=>?_) (fun hne=>?_)
    ·rw[YG] at hne;have hne:¬ l=p:=by simpa using hne
     rw[hw2,if_neg hne] at k;exact k
    ·rw[YG] at hne;have hne:l=p:=by simpa using hne
     refine⟨_,rfl,_,rfl,a,_,_,_,rfl,rfl,SqL.of ha,UH h0 e1,q,_,_,_,rfl,rfl,SqT.of hq,rfl,?_⟩;exact⟨rfl,u,_,rfl,by rw[hw2,if_pos hne]⟩
  ·rintro σ H2 ⟨rfl,p,v,rfl,hw⟩;rw[List.drop_length] at hw;refine⟨_,rfl,_,rfl,rfl,?_⟩;have e:decide (V.int p=V.int bh)=decide (YM ss xs one=some bh):=by
    rw[hw,YG,Bool.eq_iff_iff];simp[YM]
   rw[e];exact k
def JS:Sp:=fun vs H Q _=>∃(a b:Addr) (ss:List Say) (ns:List Int),vs=[.ref a,.ref b]∧SaysAt H a ss∧H b=some (.lst (ns.map V.int))∧ns.length≤1000∧ns.all (cnt ss.length)=true∧∀ H',Same H H'→Q (.int (sumC ss ns)) H'
theorem Xn:Zd ["sayings","chain"] ["sayings","chain"] (defScope J7):=fs7
theorem QT{f:Addr}{fd:FuncData}(D:Def K mg "chain_sum" J7 ["sayings","chain"] f fd)(G:G1 K mg):FnOk P w K mg base CX0 1 f fd ["sayings","chain"] JS:=by
 refine D.fn.ok Xn (fun vs H Q E h=>?_) (fun bf A outer s H vs Q E hr h=>?_)
 ·obtain⟨a,b,ss,ns,rfl,_⟩:=h;rfl
 ·obtain⟨a,b,ss,ns,rfl,ha,hb,hz,hin,k⟩:=h;obtain⟨ps,ha,hS⟩:=ha.ex;refine⟨_,Z9 (Zj (Zh (M6 rfl) (by rfl) G.sum boot_sum (Z0
    (ZC (XN:=["sayings","chain"]) (outer:=defScope J7) (N:=["at","sayings"]) (cap:=[none,some 0]) (by exact⟨rfl,by decide +kernel,by decide +kernel,by decide +kernel,.own (.cap rfl rfl rfl .nil),by decide +kernel⟩) rfl (Zt (pv 1))
     (fun _ _ _ _ _ _=>Zg (i:=0) (show(["at","sayings"]:List Str).Nodup by decide +kernel) rfl (Or.inl rfl)) (fun _ _ _ _ _ _=>Zv)
     (fun _ _ _ _ _ _=>Zx (ixT (K:=K)) (Zx (ixL (K:=K)) (pv 1) (pv 0) (fun _ _=>rfl)) Z8 (fun _ _=>rfl))) Z3))),?_⟩
  refine⟨_,rfl,b,rfl,⟨_,SqL.of hb⟩,fun q hq=>?_⟩;refine Yg (outs:=fun i=>(ns[i]?).map fun z=>V.int (num ss z)) (fun σ=>∃ v,σ=[v,some (.ref a)]) hq (SqL.of hb) (by rw[List.length_map];exact Zf hz) ⟨none,rfl⟩ (fun i x σc Hc Yes No hx sm _ ⟨v,hv⟩ yes no=>?_) (fun Hc sm hD=>?_)
  ·rw[List.getElem?_map] at hx;cases ez:ns[i]? with
   | none=>rw[ez] at hx;cases hx
   | some z =>
    rw[ez] at hx;cases hx;subst hv;obtain⟨⟨l,u,n⟩,es,h0⟩:=YU (List.all_eq_true.mp hin z (List.mem_of_getElem? ez));obtain⟨p,ep,hp⟩:=hS.get es;have hp:Hc p=some (.tup [.int l,.int u,.int n]):=sm _ _ hp;have e1:(ps.map V.ref)[z.toNat]?=some (.ref p):=by rw[List.getElem?_map,ep];rfl
    exact⟨_,rfl,_,rfl,a,_,_,_,rfl,rfl,SqL.of (sm _ _ ha),UH h0 e1,p,_,_,_,rfl,rfl,SqT.of hp,rfl,yes _ _ _ ⟨_,rfl⟩ (Same.refl _) (by rw[ez];simp[num,es])⟩
  ·rw[List.length_map,UE] at hD;refine⟨q,ns.map (num ss),rfl,?_,k Hc sm⟩;rw[List.map_map];exact SqL.of hD
def Uc(cC cS cP cN:Addr):Sp:=fun vs H Q E=>∃(u v e p q:V),vs=[u,v,e,p,q]∧Ref cC cS u v H E fun c=>Kn H p∧Kn H q∧(cntV c p=false→E (.ref cP) none H)∧(cntV c p=true→cntV c q=false→E (.ref cP) none H) ∧
 ∀ one bh,p = .int one→q = .int bh→cntV c p=true→cntV c q=true→∃(a:Addr) (ss:List Say),v = .ref a∧SaysAt H a ss∧ss.length≤1000∧KnL H e∧(chV H ss e one bh=false→E (.ref cN) none H)∧(chV H ss e one bh=true→JS [v,e] H Q E)
theorem NP:Zd ["count","sayings","chain","one","other"] ["count","sayings","chain","one","other"] (defScope Va):=fs7
theorem N1{f fs fp fi fh cC cS cP cN:Addr}{fd ds dp di dh:FuncData}(D:Def K mg "sum_of" Va ["count","sayings","chain","one","other"] f fd)(DS:Def K mg "check_sayings" Yr ["count","sayings"] fs ds)(GS:FnOk P w K mg base (CXr P w) 4 fs ds ["count","sayings"] (Yw cC cS))(DP:Def K mg "check_places" JH ["count","one","other"] fp dp)(GP:FnOk P w K mg base (CXr P w) 3 fp dp ["count","one","other"] (Ud cP))(DI:Def K mg "is_chain" Qh ["sayings","value","one","other"] fi di)(GI:FnOk P w K mg base CX0 3 fi di ["sayings","value","one","other"] We)(DM:Def K mg "chain_sum" J7 ["sayings","chain"] fh dh)(GM:FnOk P w K mg base CX0 1 fh dh ["sayings","chain"] JS)(XN:XC K mg "BadNumber" cN):FnOk P w K mg base (CXr P w) 5 f fd ["count","sayings","chain","one","other"] (Uc cC cS cP cN):=by
 refine D.fn.okR NP (fun vs H Q E h=>?_) (fun bf A outer s H vs Q E hr h=>?_)
 ·obtain⟨_,_,_,_,_,rfl,_⟩:=h;rfl
 ·obtain⟨u,v,e,p,q,rfl,hR⟩:=h;have hr4:Room 4 _:=hr.mono (by decide)
  have hr3:Room 3 _:=hr.mono (by decide)
  have hr1:Room 1 _:=hr.mono (by decide)
  refine⟨_,Z5 (ZB (Za GS hr4 (by rfl) DS.at_ DS.fn.kp DS.bd .nil Zn (Z0 (pv 0) (Z0 (pv 1) Z3))))
   (Z5 (ZB (Za GP hr3 (by rfl) DP.at_ DP.fn.kp DP.bd .nil Zn (Z0 (pv 0) (Z0 (pv 3) (Z0 (pv 4) Z3)))))
   (Z5 (ZJ (ZM (ZI (Za GI hr3 (by rfl) DI.at_ DI.fn.kp DI.bd .nil Zo (Z0 (pv 1) (Z0 (pv 2) (Z0 (pv 3) (Z0 (pv 4) Z3))))))) (Z9 (Y9 XN.p.ex ZY rfl (Yj XN.p (by rfl) XN.at_ (Z0 YB Z3)))) Zp)
   (Z9 (Zj (Za GM hr1 (by rfl) DM.at_ DM.fn.kp DM.bd .nil Zo (Z0 (pv 1) (Z0 (pv 2) Z3))))))),?_⟩
  refine⟨_,rfl,_,rfl,u,v,rfl,hR.1,hR.2.1,hR.2.2.1,fun c eu hc=>⟨(hR.2.2.2 c eu hc).1,fun hs=>?_⟩⟩;obtain⟨kp,kq,k1,k2,k3⟩:=(hR.2.2.2 c eu hc).2 hs;subst eu;refine⟨_,rfl,_,rfl,_,rfl,c,p,q,rfl,kp,kq,k1,k2,fun hp hq=>?_⟩;obtain⟨one,rfl⟩:∃ z,p = .int z:=by cases p <;> first | exact⟨_,rfl⟩ | cases hp
  obtain⟨bh,rfl⟩:∃ z,q = .int z:=by cases q <;> first | exact⟨_,rfl⟩ | cases hq
  obtain⟨a,ss,rfl,ha,hz,ke,k4,k5⟩:=k3 one bh rfl rfl hp hq;refine⟨_,rfl,_,rfl,_,rfl,_,rfl,a,ss,e,one,bh,rfl,ha,ke,hz,_,rfl,?_⟩;cases he:chV H ss e one bh with
  | false=>exact iteT (raised (fun x z=>z) (k4 he))
  | true=>exact iteF ⟨_,rfl,_,rfl,k5 he⟩
structure DR(kvs:List (Key×V))(S:Int→Option V):Prop where
 at_:∀ k:Int,valV kvs (Sum.inl k)=S k
 key:∀ p∈kvs,∃ k:Int,p.1=Sum.inl k
 nd:(kvs.map (·.1)).Nodup
def putV (S:Int→Option V)(k:Int)(v:V):Int→Option V:=fun x=>if x=k then some v else S x
theorem DR.nil:DR [] (fun _=>none):=⟨fun _=>rfl,(fun p hp=>nomatch hp),List.nodup_nil⟩
theorem Gx{κ:Type}[DecidableEq κ](kvs:List (κ×V))(k:κ)(v:V)(h:valV kvs k≠none):(putK kvs k v).map (·.1)=kvs.map (·.1):=by
 unfold putK
 have:(kvs.any fun kv=>decide (kv.1=k))=true:=by
  rw[Yv];cases e:valV kvs k with
  | none=>exact absurd e h
  | some _=>rfl
 rw[if_pos this,List.map_map];refine List.map_congr_left fun p _=>?_;show(if p.1=k then(p.1,v) else p).1=p.1;split <;> rfl
theorem DR.put{kvs:List (Key×V)}{S:Int→Option V}(d:DR kvs S)(k:Int)(v:V):DR (putK kvs (Sum.inl k) v) (putV S k v):=by
 refine⟨fun j=>?_,fun p hp=>?_,?_⟩
 ·rw[Md];unfold putV;by_cases e:j=k
  ·subst e;rw[if_pos rfl,if_pos rfl]
  ·rw[if_neg e,if_neg (fun z=>e (Sum.inl.inj z))];exact d.at_ j
 ·unfold putK at hp;split at hp
  ·obtain⟨q,hq,rfl⟩:=List.mem_map.mp hp;obtain⟨j,e⟩:=d.key q hq;refine⟨j,?_⟩;split <;> exact e
  ·rcases List.mem_append.mp hp with hp | hp
   ·exact d.key p hp
   ·have:p=(Sum.inl k,v):=by simpa using hp
    subst this;exact⟨k,rfl⟩
 ·by_cases h:valV kvs (Sum.inl k)=none
  ·exact Dk v d.nd h
  ·rw[Gx kvs _ v h];exact d.nd
theorem DR.put_new{kvs:List (Key×V)}{S:Int→Option V}(d:DR kvs S){k:Int}(v:V)(h:S k=none):(putK kvs (Sum.inl k) v).length=kvs.length+1:=by
 rw[QJ v (by rw[d.at_];exact h),List.length_append];rfl
def keyI:Key→Int
 | .inl k=>k
 | .inr _=>0
def keysI(kvs:List (Key×V)):List Int:=kvs.map fun p=>keyI p.1
theorem DR.keysNd{kvs:List (Key×V)}{S:Int→Option V}(d:DR kvs S):(keysI kvs).Nodup:=by
 have key:=d.key;have nd:=d.nd;clear d;unfold keysI
 induction kvs with
 | nil=>exact List.nodup_nil
 | cons p r ih =>
  rw[List.map_cons,List.nodup_cons] at nd ⊢;refine⟨fun m=>nd.1 ?_,ih (fun q hq=>key q (List.mem_cons_of_mem _ hq)) nd.2⟩;obtain⟨q,hq,e⟩:=List.mem_map.mp m;obtain⟨a,ha⟩:=key p List.mem_cons_self;obtain⟨b,hb⟩:=key q (List.mem_cons_of_mem _ hq);rw[ha,hb] at e;have e:b=a:=e;exact List.mem_map.mpr ⟨q,hq,by rw[ha,hb,e]⟩
theorem DR.mem{kvs:List (Key×V)}{S:Int→Option V}(d:DR kvs S){p:Key×V}(hp:p∈kvs):p.1=Sum.inl (keyI p.1)∧S (keyI p.1)≠none:=by
 obtain⟨k,e⟩:=d.key p hp;rw[e];refine⟨rfl,?_⟩;show S k≠none;rw[←d.at_ k];intro z;exact Qx z (List.mem_map.mpr ⟨p,hp,e⟩)
theorem DR.keysMem{kvs:List (Key×V)}{S:Int→Option V}(d:DR kvs S){k:Int}:k∈keysI kvs↔S k≠none:=by
 constructor
 ·intro m;obtain⟨p,hp,e⟩:=List.mem_map.mp m;rw[←e];exact(d.mem hp).2
 ·intro h;cases e:S k with
  | none=>exact absurd e h
  | some v =>
   rw[←d.at_ k] at e
   have:=NE e
   obtain⟨p,hp,e2⟩:=List.mem_map.mp this;exact List.mem_map.mpr ⟨p,hp,by rw[e2];rfl⟩
theorem DR.len{kvs:List (Key×V)}{S:Int→Option V}(d:DR kvs S){c:Nat}(h:∀ k v,S k=some v→cnt c k=true):kvs.length≤c:=by
 have:=Ju c (keysI kvs) d.keysNd fun x hx=>by
  cases e:S x with
  | none=>exact absurd e (d.keysMem.mp hx)
  | some v=>exact YH.mp (h x v e)
 simpa[keysI] using this
def iS (S:Fn):Int→Option V:=fun k=>(S k).map V.int
theorem R4(S:Fn)(k v:Int):putV (iS S) k (.int v)=iS (put S k v):=by
 funext x;unfold putV iS put;split <;> rfl
def bS (E:Int→Bool):Int→Option V:=fun k=>if E k=true then some (.bl true) else none
def putB (E:Int→Bool)(k:Int):Int→Bool:=fun x=>if x=k then true else E x
theorem Rf(E:Int→Bool)(k:Int):putV (bS E) k (.bl true)=bS (putB E k):=by
 funext x;unfold putV bS putB;by_cases e:x=k
 ·rw[if_pos e,if_pos e];rfl
 ·rw[if_neg e,if_neg e]
theorem DR.iput{kvs:List (Key×V)}{S:Fn}(d:DR kvs (iS S))(k v:Int):DR (putK kvs (Sum.inl k) (.int v)) (iS (At.put S k v)):=by rw[←R4];exact d.put k _
theorem DR.bput{kvs:List (Key×V)}{E:Int→Bool}(d:DR kvs (bS E))(k:Int):DR (putK kvs (Sum.inl k) (.bl true)) (bS (putB E k)):=by rw[←Rf];exact d.put k _
theorem Ys{S:Fn}{k v:Int}(h:S k=some v):iS S k=some (.int v):=by unfold iS;rw[h];rfl
theorem Yt{S:Fn}{k:Int}:iS S k=none↔S k=none:=by unfold iS;cases S k <;> simp
theorem V3{E:Int→Bool}{k:Int}:bS E k=none↔E k=false:=by unfold bS;cases E k <;> simp
theorem Jb{S:Fn}{c:Int}(h:∀ k v,S k=some v→cnt c k=true):∀ k v,iS S k=some v→cnt c k=true:=fun k v e=>by
 cases q:S k with
 | none=>rw[Yt.mpr q] at e;cases e
 | some x=>exact h k x q
theorem Xg{E:Int→Bool}{c:Int}(h:∀ k,E k=true→cnt c k=true):∀ k v,bS E k=some v→cnt c k=true:=fun k v e=>by
 cases q:E k with
 | false=>rw[V3.mpr q] at e;cases e
 | true=>exact h k q
structure FS(c n:Nat)(H0:Hp)(E F:Addr)(ups:Int→List Int)(H:Hp)(T:List Int)(ke kf:List (Key×V))(Ef:Int→Bool)(Ff:Fn):Prop where
 hE:H E=some (.dK ke)
 rE:DR ke (bS Ef)
 hF:H F=some (.dK kf)
 rF:DR kf (iS Ff)
 keep:∀ b o,b≠E→b≠F→H0 b=some o→H b=some o
 e1:∀ k,Ef k=true→cnt c k=true
 f1:∀ k v,Ff k=some v→cnt c k=true
 t1:∀ k∈T,cnt c k=true
 a:∀ k,Ef k=true→Ff k≠none∨k∈T
 b:∀ k,Ef k=true→∀ u∈ups k,Ef u=true∨u∈T
structure Td(H:Hp)(U:Addr)(ups:Int→List Int)(c n:Nat):Prop where
 ex:∃(ku:List (Key×V)) (Uf:Int→Option Addr),Rd H U (.dK ku)∧DR ku (fun k=>(Uf k).map V.ref)∧(∀ k a,Uf k=some a→H a=some (.lst ((ups k).map V.int)))∧∀ k,Uf k=none→ups k=[]
 len:∀ k,(ups k).length≤n
 rg:∀ k,∀ u∈ups k,cnt c u=true
def spFinish:Sp:=fun vs H Q _=>∃(start:Int) (U E F:Addr) (c n:Nat) (ups:Int→List Int) (ke kf:List (Key×V)) (Ef:Int→Bool) (Ff:Fn),vs=[.int start,.ref U,.ref E,.ref F]∧c≤1000∧n≤1000∧cnt c start=true∧E≠F∧U≠E∧U≠F ∧
 Td H U ups c n∧FS c n H E F ups H [] ke kf Ef Ff ∧
 ∀ H' ke' kf' Ef' Ff',FS c n H E F ups H' [] ke' kf' Ef' Ff'→(∀ k,Ef k=true→Ef' k=true)→Ef' start=true→Q .non H'
theorem V9:Zd ["start","uppers","entered","finished","todo","place"] ["start","uppers","entered","finished"] (defScope ZX):=fs7
theorem FS.lenE{c n:Nat}{H0 H:Hp}{E F:Addr}{ups:Int→List Int}{T:List Int}{ke kf:List (Key×V)}{Ef:Int→Bool}{Ff:Fn}(h:FS c n H0 E F ups H T ke kf Ef Ff):ke.length≤c:=h.rE.len (Xg h.e1)
theorem FS.lenF{c n:Nat}{H0 H:Hp}{E F:Addr}{ups:Int→List Int}{T:List Int}{ke kf:List (Key×V)}{Ef:Int→Bool}{Ff:Fn}(h:FS c n H0 E F ups H T ke kf Ef Ff):kf.length≤c:=h.rF.len (Jb h.f1)
theorem big6{n:Nat}(h:n≤1100000):n<zF:=Nat.lt_of_le_of_lt h (by decide)
theorem Gj{f:Addr}{fd:FuncData}(D:Def K mg "finish_from" ZX ["start","uppers","entered","finished"] f fd)(G:G1 K mg):FnOk P w K mg base CX0 1 f fd ["start","uppers","entered","finished"] spFinish:=by
 refine D.fn.ok V9 (fun vs H Q E h=>?_) (fun bf A outer s H vs Q X hr h=>?_)
 ·obtain⟨_,_,_,_,_,_,_,_,_,_,_,rfl,_⟩:=h;rfl
 ·obtain⟨start,U,E,F,c,n,ups,ke,kf,Ef,Ff,rfl,hc,hn,hst,nEF,nUE,nUF,hU,h0,k⟩:=h;have hu:=JO hr;refine⟨_,Z5 (Zu (i:=4) V9.nd rfl (Or.inl rfl) (Y6 (Z0 (pv 0) Z3)))
   (Z9 (Ug PassesOwn.never (ZK DZ (Zh Ya (by rfl) G.len PySem.boot_len (Z0 (pv 4) Z3)) Z8 (nomark _))
    (Z5 (Zu (i:=5) V9.nd rfl (Or.inl rfl) (Zx YZ (pv 4) (ML J1 Z8) (fun _ _=>rfl)))
    (Z9 (ZJ (JU (Xw hu (pv 5) (pv 2)))
     (Z5 (ZB (MT PySem.F.plainAttrs_list PySem.F.slot_list_pop PySem.F.type_list_pop TR (pv 4)))
      (Z9 (ZB (QO (pv 3) (pv 5) (Zh M7 (by rfl) G.len PySem.boot_len (Z0 (pv 3) Z3)) ⟨rfl,rfl,rfl,rfl⟩))))
     (Z5 (Uh hu (pv 2) (pv 5) Yc rfl)
      (Z9 (ZB (MU PySem.F.plainAttrs_list PySem.F.slot_list_extend PySem.F.type_list_extend Gu (pv 4) (Z0
       (ZC (XN:=["start","uppers","entered","finished","todo","place"]) (outer:=defScope ZX) (N:=["upper","entered"]) (cap:=[none,some 2])
        (by exact⟨rfl,by decide +kernel,by decide +kernel,by decide +kernel,.own (.cap rfl rfl rfl .nil),by decide +kernel⟩) rfl (Zt (QP hu (pv 1) (pv 5) (Y6 Z3) ⟨rfl,rfl,rfl,rfl⟩))
        (fun _ _ _ _ _ _=>Zg (i:=0) (show(["upper","entered"]:List Str).Nodup by decide +kernel) rfl (Or.inl rfl)) (fun _ _ _ _ _ _=>Vf (JU (Ux hu (pv 0) (pv 1))))
        (fun _ _ _ _ _ _=>pv 0)) Z3)))))))))),?_⟩
  refine⟨_,rfl,by show 1≤zF;decide,fun t ht=>?_⟩
  have tE:t≠E:=(Z4 h0.hE ht).symm;have tF:t≠F:=(Z4 h0.hF ht).symm;refine⟨fun m σ H2=>∃(T:List Int) (ke2 kf2:List (Key×V)) (Ef2:Int→Bool) (Ff2:Fn) (v5:Option V),σ=[some (.int start),some (.ref U),some (.ref E),some (.ref F),some (.ref t),v5]∧H2 t=some (.lst (T.map V.int))∧FS c n H E F ups H2 T ke2 kf2 Ef2 Ff2 ∧
    (∀ k,Ef k=true→Ef2 k=true)∧(Ef2 start=true∨start∈T)∧T.length≤1+ke2.length*n∧m=(c-ke2.length)*(n+1)+T.length,⟨_,[start],ke,kf,Ef,Ff,none,rfl,Z2,?_,fun _ z=>z,.inr (by simp),by simp,rfl⟩,?_⟩
  ·refine⟨by rw[Z1 tE.symm];exact h0.hE,h0.rE,by rw[Z1 tF.symm];exact h0.hF,h0.rF,fun b o h1 h2 e=>by rw[Z1 (Z4 e ht)];exact e,h0.e1,h0.f1,fun k hk=>?_,fun k e=>?_,fun k e u hu'=>?_⟩
   ·have:k=start:=by simpa using hk
    subst this;exact hst
   ·rcases h0.a k e with z | z
    ·exact .inl z
    ·simp at z
   ·rcases h0.b k e u hu' with z | z
    ·exact .inl z
    ·simp at z
  rintro m σ H2 ⟨T,ke2,kf2,Ef2,Ff2,v5,rfl,hT,S,mono,hs2,hTl,rfl⟩;refine⟨_,rfl,t,_,rfl,.inl (SqL.of hT),_,_,rfl,rfl,_,rfl,?_⟩;rw[List.length_map];refine ite2 (fun hlt=>?_) (fun hlt=>?_)
  ·have hlt:0<T.length:=by simpa using hlt
   obtain⟨T0,p,rfl⟩:∃ T0 p,T=T0++[p]:=⟨T.dropLast,T.getLast (List.length_pos_iff.mp hlt),(List.dropLast_concat_getLast _).symm⟩;have lE:=S.lenE;have lF:=S.lenF;have cp:cnt c p=true:=S.t1 p (by simp)
   refine⟨_,fun σ' H' z=>z,?_⟩;refine⟨_,rfl,_,rfl,t,_,_,_,rfl,rfl,SqL.of hT,by rw[List.map_append];exact NA _ _,?_⟩
   refine⟨_,rfl,_,rfl,E,_,rfl,DGet.k (k:=Sum.inl p) S.hE,_,rfl,?_⟩;rw[S.rE.at_];cases he:Ef2 p with
   | true =>
    rw[show bS Ef2 p=some (.bl true) from by unfold bS;rw[he];rfl]
    refine iteT ⟨_,rfl,.inl ⟨rfl,_,SqL.of hT⟩,t,_,.int p,rfl,rfl,hT,by simp,?_⟩
    have hF2:(upd H2 t (.lst ((T0++[p]).map V.int).dropLast)) F=some (.dK kf2):=by rw[Z1 tF.symm];exact S.hF
    have hE2:(upd H2 t (.lst ((T0++[p]).map V.int).dropLast)) E=some (.dK ke2):=by rw[Z1 tE.symm];exact S.hE
    have edl:((T0++[p]).map V.int).dropLast=T0.map V.int:=by rw[List.map_append];simp
    rw[edl] at hF2 hE2 ⊢;refine⟨_,rfl,F,rfl,.inl ⟨_,.inl hF2⟩,_,rfl,_,rfl,F,_,rfl,hF2,kf2,Sum.inl p,hF2,rfl,Zf (by lia),fun v hv=>?_,fun hv=>?_⟩
    ·refine⟨_,Nat.lt_of_lt_of_le ?_ (Nat.le_refl _),T0,ke2,kf2,Ef2,Ff2,_,rfl,Z2,⟨hE2,S.rE,hF2,S.rF,fun b o h1 h2 e=>?_,S.e1,S.f1,fun k hk=>S.t1 k (by simp[hk]),fun k e=>?_,fun k e u hu'=>?_⟩,mono,?_,?_,rfl⟩
     ·rw[List.length_append];show _+T0.length<_+(T0.length+1);lia
     ·rw[Z1 (Z4 e ht)];exact S.keep b o h1 h2 e
     ·rcases S.a k e with z | z
      ·exact .inl z
      ·rcases List.mem_append.mp z with z | z
       ·exact .inr z
       ·have:k=p:=by simpa using z
        subst this;left;rw[S.rF.at_] at hv;intro q;rw[Yt.mpr q] at hv;cases hv
     ·rcases S.b k e u hu' with z | z
      ·exact .inl z
      ·rcases List.mem_append.mp z with z | z
       ·exact .inr z
       ·have:u=p:=by simpa using z
        subst this;exact .inl he
     ·rcases hs2 with z | z
      ·exact .inl z
      ·rcases List.mem_append.mp z with z | z
       ·exact .inr z
       ·have:start=p:=by simpa using z
        subst this;exact .inl he
     ·rw[List.length_append] at hTl
      have:[p].length=1:=rfl
      lia
    ·have hr2:=S.rF.iput p (kf2.length:Int);refine⟨_,Nat.lt_of_lt_of_le ?_ (Nat.le_refl _),T0,ke2,_,Ef2,put Ff2 p kf2.length,_,rfl,by rw[Z1 tF];exact Z2,⟨by rw[Z1 nEF];exact hE2,S.rE,Z2,hr2,fun b o h1 h2 e=>?_,S.e1,fun k v e=>?_,fun k hk=>S.t1 k (by simp[hk]),fun k e=>?_,fun k e u hu'=>?_⟩,mono,?_,?_,rfl⟩
     ·rw[List.length_append];show _+T0.length<_+(T0.length+1);lia
     ·rw[Z1 h2,Z1 (Z4 e ht)];exact S.keep b o h1 h2 e
     ·by_cases z:k=p
      ·subst z;exact cp
      ·rw[ZO z] at e;exact S.f1 k v e
     ·by_cases z:k=p
      ·subst z;left;rw[Zy];simp
      ·rcases S.a k e with y | y
       ·left;rw[ZO z];exact y
       ·rcases List.mem_append.mp y with y | y
        ·exact .inr y
        ·exact absurd (by simpa using y) z
     ·rcases S.b k e u hu' with z | z
      ·exact .inl z
      ·rcases List.mem_append.mp z with z | z
       ·exact .inr z
       ·have:u=p:=by simpa using z
        subst this;exact .inl he
     ·rcases hs2 with z | z
      ·exact .inl z
      ·rcases List.mem_append.mp z with z | z
       ·exact .inr z
       ·have:start=p:=by simpa using z
        subst this;exact .inl he
     ·rw[List.length_append] at hTl
      have:[p].length=1:=rfl
      lia
   | false =>
    rw[show bS Ef2 p=none from V3.mpr he]
    have hr2:=S.rE.bput p;have hlen2:(putK ke2 (Sum.inl p) (V.bl true)).length=ke2.length+1:=S.rE.put_new _ (V3.mpr he);have hrg2:∀ k,putB Ef2 p k=true→cnt c k=true:=fun k e=>by
     by_cases z:k=p
     ·subst z;exact cp
     ·unfold putB at e;rw[if_neg z] at e;exact S.e1 k e
    have lE2:ke2.length+1≤c:=by rw[←hlen2];exact hr2.len (Xg hrg2)
    refine iteF ⟨_,rfl,_,rfl,E,_,rfl,DPut.k (k:=Sum.inl p) S.hE (Zf (by lia)),?_⟩
    obtain⟨⟨ku,Uf,hUd,rU,hUl,hUn⟩,hUlen,hUrg⟩:=hU;have kp:∀ b o,b≠E→b≠F→H b=some o→(upd H2 E (.dK (putK ke2 (Sum.inl p) (V.bl true)))) b=some o:=fun b o h1 h2 e=>by rw[Z1 h1];exact S.keep b o h1 h2 e
    have hTE:(upd H2 E (.dK (putK ke2 (Sum.inl p) (V.bl true)))) t=some (.lst ((T0++[p]).map V.int)):=by rw[Z1 tE];exact hT
    have hFE:(upd H2 E (.dK (putK ke2 (Sum.inl p) (V.bl true)))) F=some (.dK kf2):=by rw[Z1 nEF.symm];exact S.hF
    have hEE:(upd H2 E (.dK (putK ke2 (Sum.inl p) (V.bl true)))) E=some (.dK (putK ke2 (Sum.inl p) (V.bl true))):=Z2;have hUE:Rd (upd H2 E (.dK (putK ke2 (Sum.inl p) (V.bl true)))) U (.dK ku):=by
     rcases hUd with z | ⟨o,z⟩
     ·exact .inl (kp _ _ nUE nUF z)
     ·exact .inr ⟨o,kp _ _ nUE nUF z⟩
    generalize hHE:upd H2 E (.dK (putK ke2 (Sum.inl p) (V.bl true)))=HE at kp hTE hFE hEE hUE ⊢;refine⟨_,rfl,.inl ⟨rfl,_,SqL.of hTE⟩,?_⟩;refine⟨_,rfl,U,rfl,.inl ⟨ku,hUE⟩,_,rfl,by show 0≤zF;decide,fun nl hnl=>?_⟩
    have smn:Same HE (upd HE nl (.lst [])):=fun b o e=>by rw[Z1 (Z4 e hnl)];exact e
    have hUE2:Rd (upd HE nl (.lst [])) U (.dK ku):=by
     rcases hUE with z | ⟨o,z⟩
     ·exact .inl (smn _ _ z)
     ·exact .inr ⟨o,smn _ _ z⟩
    refine⟨valV ku (Sum.inl p),.inl ⟨ku,Sum.inl p,hUE2,rfl,rfl⟩,?_⟩;obtain⟨l,hl,hlv⟩:∃ l,(valV ku (Sum.inl p)).getD (.ref nl) = .ref l∧(upd HE nl (.lst [])) l=some (.lst ((ups p).map V.int)):=by
     rw[rU.at_];cases q:Uf p with
     | none=>exact⟨nl,rfl,by rw[hUn p q];exact Z2⟩
     | some a =>
      have ha:=hUl p a q;exact⟨a,rfl,smn _ _ (kp a _ (Yo ha h0.hE (by intro z;cases z)) (Yo ha h0.hF (by intro z;cases z)) ha)⟩
    refine⟨l,hl,⟨_,SqL.of hlv⟩,fun D hD=>?_⟩;refine Yg (outs:=fun i=>(((ups p)[i]?).bind fun u=>if putB Ef2 p u=true then none else some (V.int u))) (fun σ=>∃ v,σ=[v,some (.ref E)]) hD (SqL.of hlv) (by rw[List.length_map];exact Zf (Nat.le_trans (hUlen p) hn)) ⟨none,rfl⟩ (fun i x σc Hc Yes No hx sm _ ⟨v,hv⟩ yes no=>?_) (fun Hc sm hDc=>?_)
    ·rw[List.getElem?_map] at hx;cases en:(ups p)[i]? with
     | none=>rw[en] at hx;cases hx
     | some u =>
      rw[en] at hx;cases hx;subst hv;refine⟨_,rfl,_,rfl,E,_,rfl,DGet.k (k:=Sum.inl u) (sm _ _ (smn _ _ hEE)),_,rfl,?_⟩;rw[hr2.at_];cases eu:putB Ef2 p u with
      | true =>
       rw[show bS (putB Ef2 p) u=some (.bl true) from by unfold bS;rw[eu];rfl]
       exact iteF (no _ _ ⟨_,rfl⟩ (Same.refl _) (by rw[en];simp[eu]))
      | false =>
       rw[V3.mpr eu];exact iteT ⟨_,rfl,yes _ _ _ ⟨_,rfl⟩ (Same.refl _) (by rw[en];simp[eu])⟩
    ·rw[List.length_map] at hDc;have ef:((List.range (ups p).length).filterMap fun i=>(((ups p)[i]?).bind fun u=>if putB Ef2 p u=true then none else some (V.int u)))=((ups p).filter fun u=>!putB Ef2 p u).map V.int:=by
      have:∀(l:List Int) (g:Int→Option V),((List.range l.length).filterMap fun i=>(l[i]?).bind g)=l.filterMap g:=by
       intro l g
       induction l with
       | nil=>rfl
       | cons x r ih =>
        rw[List.length_cons,List.range_succ_eq_map,List.filterMap_cons,List.filterMap_map];have e2:((fun i=>((x::r)[i]?).bind g) ∘ Nat.succ)=fun i=>(r[i]?).bind g:=by funext i;simp
        rw[e2,ih];simp only[List.getElem?_cons_zero,Option.bind_some,List.filterMap_cons]
      rw[this]
      induction ups p with
      | nil=>rfl
      | cons x r ih =>
       rw[List.filterMap_cons,List.filter_cons];cases putB Ef2 p x <;> simp[ih]
     rw[ef] at hDc;have hll:((ups p).filter fun u=>!putB Ef2 p u).length≤n:=Nat.le_trans (List.length_filter_le _ _) (hUlen p);have hTc:Hc t=some (.lst ((T0++[p]).map V.int)):=sm _ _ (smn _ _ hTE);have hmul:(ke2.length+1)*n=ke2.length*n+n:=by rw[Nat.add_mul,Nat.one_mul]
     have hmul2:ke2.length*n≤1000*1000:=Nat.mul_le_mul (by lia) hn
     have hlp:(T0++[p]).length≤1+ke2.length*n:=hTl;refine⟨t,D,_,_,rfl,rfl,hTc,hDc,Nat.le_of_lt (big6 (by rw[List.length_map,List.length_map];lia)),?_⟩
     have smt:∀ b o,b≠t→HE b=some o→(upd Hc t (.lst ((T0++[p]).map V.int++((ups p).filter fun u=>!putB Ef2 p u).map V.int))) b=some o:=fun b o hb e=>by rw[Z1 hb];exact sm _ _ (smn _ _ e)
     refine⟨(c-(putK ke2 (Sum.inl p) (V.bl true)).length)*(n+1)+((T0++[p])++(ups p).filter fun u=>!putB Ef2 p u).length,?_,(T0++[p])++(ups p).filter (fun u=>!putB Ef2 p u),_,kf2,putB Ef2 p,Ff2,_,rfl,by rw[Z2,←List.map_append],
      ⟨smt _ _ tE.symm hEE,hr2,smt _ _ tF.symm hFE,S.rF,fun b o h1 h2 e=>smt _ _ (Z4 e ht) (kp b o h1 h2 e),hrg2,S.f1,fun k hk=>?_,fun k e=>?_,fun k e u hu'=>?_⟩,fun k e=>?_,?_,?_,rfl⟩
     ·rw[hlen2,List.length_append (as:=T0++[p])];have e1:c-ke2.length=(c-(ke2.length+1))+1:=by lia
      rw[e1,Nat.add_mul (c-(ke2.length+1)) 1 (n+1),Nat.one_mul];lia
     ·rcases List.mem_append.mp hk with z | z
      ·exact S.t1 k z
      ·exact hUrg p k (List.mem_filter.mp z).1
     ·by_cases z:k=p
      ·subst z;right;simp
      ·unfold putB at e;rw[if_neg z] at e;rcases S.a k e with y | y
       ·exact .inl y
       ·right;exact List.mem_append_left _ y
     ·by_cases z:k=p
      ·subst z;cases q:putB Ef2 k u with
       | true=>exact .inl rfl
       | false=>right;exact List.mem_append_right _ (List.mem_filter.mpr ⟨hu',by simp[q]⟩)
      ·unfold putB at e;rw[if_neg z] at e;rcases S.b k e u hu' with y | y
       ·left;unfold putB;split <;> first | rfl | exact y
       ·right;exact List.mem_append_left _ y
     ·unfold putB;split
      ·rfl
      ·exact mono k e
     ·rcases hs2 with z | z
      ·left;unfold putB;split <;> first | rfl | exact z
      ·right;exact List.mem_append_left _ z
     ·rw[hlen2,List.length_append (as:=T0++[p])];lia
  ·have hlt:T=[]:=by
    cases T with
    | nil=>rfl
    | cons x r=>simp at hlt
   subst hlt;refine k H2 ke2 kf2 Ef2 Ff2 S mono ?_;rcases hs2 with z | z
   ·exact z
   ·simp at z
def Ym(ss:List Say)(k:Int):List Int:=(ss.filter fun s=>decide (s.1=k)).map fun s=>s.2.1
theorem Vs(ss:List Say)(s:Say)(k:Int):Ym (ss++[s]) k=Ym ss k++(if s.1=k then [s.2.1] else []):=by
 unfold Ym;rw[List.filter_append,List.map_append];congr 1;by_cases e:s.1=k
 ·simp[e]
 ·simp[e]
theorem VR(ss:List Say)(k:Int):(Ym ss k).length≤ss.length:=by
 unfold Ym;rw[List.length_map];exact List.length_filter_le _ _
theorem Gv{ss:List Say}{s:Say}(h:s∈ss):s.2.1∈Ym ss s.1:=by
 unfold Ym;exact List.mem_map.mpr ⟨s,List.mem_filter.mpr ⟨h,by simp⟩,rfl⟩
theorem Nd{ss:List Say}{c:Int}(hin:ss.all (inside c)=true)(k:Int):∀ u∈Ym ss k,cnt c u=true:=by
 intro u hu;obtain⟨s,hs,rfl⟩:=List.mem_map.mp hu
 have:=List.all_eq_true.mp hin s (List.mem_filter.mp hs).1
 unfold inside at this;rw[Bool.and_eq_true] at this;exact this.2
def spFinOrd:Sp:=fun vs H Q _=>∃(a:Addr) (ss:List Say) (c:Nat),vs=[.ref a]∧SaysAt H a ss∧ss.length≤1000∧c≤1000∧ss.all (inside c)=true ∧
 ∀ H' d kf Ff,Same H H'→H d=none→H' d=some (.dK kf)→DR kf (iS Ff)→(∀ s∈ss,Ff s.1≠none∧Ff s.2.1≠none)→Q (.ref d) H'
theorem J4:Zd ["sayings","uppers","saying","entered","finished","start"] ["sayings"] (defScope Y0):=fs7
theorem Gk{f g:Addr}{fd gd:FuncData}(D:Def K mg "finishing_order" Y0 ["sayings"] f fd)(DF:Def K mg "finish_from" ZX ["start","uppers","entered","finished"] g gd)(G:G1 K mg):FnOk P w K mg base CX0 2 f fd ["sayings"] spFinOrd:=by
 have GF:FnOk P w K mg base CX0 1 g gd ["start","uppers","entered","finished"] spFinish:=Gj DF G;refine D.fn.ok J4 (fun vs H Q E h=>?_) (fun bf A outer s H vs Q X hr h=>?_)
 ·obtain⟨_,_,_,rfl,_⟩:=h;rfl
 ·obtain⟨a,ss,c,rfl,ha,hz,hc,hin,k⟩:=h;have hu:=JO hr;obtain⟨ps,ha,hS⟩:=ha.ex;refine⟨_,Z5 (Zu (i:=1) J4.nd rfl (Or.inl rfl) YS)
   (Z5 (YR PassesOwn.never rfl (Zt (pv 0)) (Zg (i:=2) J4.nd rfl (Or.inl rfl))
    (Z9 (ZB (MU PySem.F.plainAttrs_list PySem.F.slot_list_append PySem.F.type_list_append Uy (QO (pv 1) (Zx ZW (pv 2) Z8 (fun _ _=>rfl)) (Y6 Z3) ⟨rfl,rfl,rfl,rfl⟩) (Z0 (Zx ZW (pv 2) Z8 (fun _ _=>rfl)) Z3)))))
   (Z5 (Zu (i:=3) J4.nd rfl (Or.inl rfl) YS)
   (Z5 (Zu (i:=4) J4.nd rfl (Or.inl rfl) YS)
   (Z5 (Wk (YR PassesOwn.never rfl (Wm (pv 1)) (Zg (i:=5) J4.nd rfl (Or.inl rfl))
    (Z9 (ZB (Za GF hr (by rfl) DF.at_ DF.fn.kp DF.bd .nil Zo (Z0 (pv 5) (Z0 (pv 1) (Z0 (pv 3) (Z0 (pv 4) Z3)))))))))
   (Z9 (Zj (pv 4))))))),?_⟩
  intro U hU;have s0:Same H (upd H U (.dK [])):=fun b o e=>by rw[Z1 (Z4 e hU)];exact e
  refine⟨_,rfl,a,rfl,⟨_,SqL.of (s0 _ _ ha)⟩,Yz (K:=K) (a:=a) (xs:=ps.map V.ref) (fun i σ H2=>∃(ku:List (Key×V)) (Uf:Int→Option Addr) (v2:Option V),σ=[some (.ref a),some (.ref U),v2,none,none,none]∧Same H H2∧H2 U=some (.dK ku)∧DR ku (fun k=>(Uf k).map V.ref) ∧
    (∀ k b,Uf k=some b→H b=none∧b≠U∧H2 b=some (.lst ((Ym (ss.take i) k).map V.int))∧cnt c k=true)∧(∀ k,Uf k=none→Ym (ss.take i) k=[])∧(∀ k j b,Uf k=some b→Uf j=some b→k=j)∧(∀ s∈ss.take i,Uf s.1≠none))
   ⟨[],fun _=>none,none,rfl,s0,Z2,DR.nil,(fun k b z=>nomatch z),fun k _=>by simp[Ym],(fun k j b z=>nomatch z),fun s hs=>by simp at hs⟩ (fun i σ H2 _ ⟨_,_,_,_,s2,_⟩=>SqL.of (s2 _ _ ha)) ?_ ?_⟩
  ·rintro i y σ H2 hi ⟨ku,Uf,v2,rfl,s2,hU2,rU,hl,hn,inj,cov⟩;rw[List.getElem?_map] at hi;cases ep:ps[i]? with
   | none=>rw[ep] at hi;cases hi
   | some p =>
    rw[ep] at hi;cases hi;have hil:i<ss.length:=by rw[←hS.len];exact(List.getElem?_eq_some_iff.mp ep).1
    have es:ss[i]?=some ss[i]:=List.getElem?_eq_getElem hil;have hsin:inside c ss[i]=true:=List.all_eq_true.mp hin _ (List.getElem_mem hil);have hp:=s2 _ _ (hS.at_ i p _ ep es);have etk:ss.take (i+1)=ss.take i++[ss[i]]:=by rw[List.take_add_one,es];rfl
    rw[etk];generalize ss[i]=sx at es hsin hp etk;obtain⟨lo,up,nu⟩:=sx;have hp:H2 p=some (.tup [.int lo,.int up,.int nu]):=hp;have hlo:cnt c lo=true:=by unfold inside at hsin;rw[Bool.and_eq_true] at hsin;exact hsin.1
    have lU:ku.length≤c:=rU.len fun k v e=>by
     cases q:Uf k with
     | none=>rw[q] at e;cases e
     | some b=>exact(hl k b q).2.2.2
    refine⟨_,rfl,U,rfl,.inl ⟨ku,.inl hU2⟩,_,rfl,_,_,_,_,rfl,rfl,SqT.of hp,rfl,by show 0≤zF;decide,fun nl hnl=>?_⟩
    have smn:Same H2 (upd H2 nl (.lst [])):=fun b o e=>by rw[Z1 (Z4 e hnl)];exact e
    have nlU:nl≠U:=(Z4 hU2 hnl).symm;have fin:∀(b:Addr) (ku':List (Key×V)) (Uf':Int→Option Addr) (H3:Hp),(∀ x o,x≠U→x≠nl→H2 x=some o→H3 x=some o)→H3 U=some (.dK ku')→DR ku' (fun k=>(Uf' k).map V.ref)→Uf' lo=some b→(∀ k d,Uf' k=some d→H d=none∧d≠U∧H3 d=some (.lst ((Ym (ss.take i) k).map V.int))∧cnt c k=true) →
      (∀ k,Uf' k=none→Ym (ss.take i) k=[]∧k≠lo)→(∀ k j d,Uf' k=some d→Uf' j=some d→k=j)→(∀ k,Uf k≠none→Uf' k≠none) →
      tyV K "list" (.ref b) H3∧∃ v,[some (V.ref a),some (.ref U),some (.ref p),none,none,none][2]?=some (some v)∧∃ q xs j w,v = .ref q∧V.int 1 = .int j∧SqT K H3 q xs∧atI xs j=some w∧∃ l xs y,V.ref b = .ref l∧[w]=[y]∧H3 l=some (.lst xs)∧xs.length<zF ∧
       ∃(ku:List (Key×V)) (Uf:Int→Option Addr) (v2:Option V),[some (V.ref a),some (.ref U),some (.ref p),none,none,none]=[some (.ref a),some (.ref U),v2,none,none,none]∧Same H (upd H3 l (.lst (xs++[y])))∧(upd H3 l (.lst (xs++[y]))) U=some (.dK ku)∧DR ku (fun k=>(Uf k).map V.ref) ∧
       (∀ k b,Uf k=some b→H b=none∧b≠U∧(upd H3 l (.lst (xs++[y]))) b=some (.lst ((Ym (ss.take i++[(lo,up,nu)]) k).map V.int))∧cnt c k=true)∧(∀ k,Uf k=none→Ym (ss.take i++[(lo,up,nu)]) k=[])∧(∀ k j b,Uf k=some b→Uf j=some b→k=j)∧(∀ s∈ss.take i++[(lo,up,nu)],Uf s.1≠none):=by
     intro b ku' Uf' H3 kp hU3 rU' hb hl' hn' inj' mono;obtain⟨b1,b2,b3,b4⟩:=hl' lo b hb;have npU:p≠U:=Yo hp hU2 (by intro z;cases z)
     have npn:p≠nl:=Z4 hp hnl;have hp3:=kp p _ npU npn hp;refine⟨.inl ⟨rfl,_,SqL.of b3⟩,_,rfl,p,_,_,_,rfl,rfl,SqT.of hp3,rfl,b,_,_,rfl,rfl,b3,by rw[List.length_map];exact Zf (Nat.le_trans (VR _ _) (by rw[List.length_take];lia)),ku',Uf',_,rfl,fun x o e=>?_,?_,rU',fun k d hd=>?_,fun k hk=>?_,inj',fun s hs=>?_⟩
     ·have nx:x≠b:=Z4 e b1;rw[Z1 nx];exact kp x o (Z4 e hU) (fun z=>by subst z;rw[s2 _ _ e] at hnl;cases hnl) (s2 _ _ e)
     ·rw[Z1 b2.symm];exact hU3
     ·obtain⟨d1,d2,d3,d4⟩:=hl' k d hd;refine⟨d1,d2,?_,d4⟩;rw[Vs];by_cases q:k=lo
      ·subst q;rw[hb] at hd;cases hd;rw[Z2,if_pos rfl,List.map_append];rfl
      ·have nd:d≠b:=fun z=>by subst z;exact q (inj' k lo d hd hb)
       rw[Z1 nd,if_neg (fun z=>q z.symm),List.append_nil];exact d3
     ·obtain⟨e1,e2⟩:=hn' k hk;rw[Vs,e1,if_neg (fun z=>e2 z.symm)];rfl
     ·rcases List.mem_append.mp hs with z | z
      ·exact mono _ (cov s z)
      ·have:s=(lo,up,nu):=by simpa using z
       subst this;show Uf' lo≠none;rw[hb];simp
    refine⟨ku,Sum.inl lo,smn _ _ hU2,rfl,Zf (by lia),fun v hv=>?_,fun hv=>?_⟩
    ·rw[rU.at_] at hv;cases q:Uf lo with
     | none=>rw[q] at hv;cases hv
     | some b =>
      rw[q] at hv;have hv:V.ref b=v:=Option.some.inj hv;subst hv;refine fin b ku Uf _ (fun x o _ _ e=>smn _ _ e) (smn _ _ hU2) rU q (fun k d hd=>?_) (fun k hk=>⟨hn k hk,fun z=>by subst z;rw[q] at hk;cases hk⟩) inj (fun _ z=>z)
      obtain⟨d1,d2,d3,d4⟩:=hl k d hd;exact⟨d1,d2,smn _ _ d3,d4⟩
    ·rw[rU.at_] at hv;have q:Uf lo=none:=by
      cases q:Uf lo with
      | none=>rfl
      | some b=>rw[q] at hv;cases hv
     have rU':=rU.put lo (.ref nl);have e1:putV (fun k=>(Uf k).map V.ref) lo (.ref nl)=fun k=>((if k=lo then some nl else Uf k).map V.ref):=by
      funext k;unfold putV;split <;> rfl
     rw[e1] at rU';have hH0:H nl=none:=s2.free hnl;refine fin nl _ (fun k=>if k=lo then some nl else Uf k) _ (fun x o hx1 hx2 e=>by rw[Z1 hx1];exact smn _ _ e) Z2 rU' (if_pos rfl) (fun k d hd=>?_) (fun k hk=>?_) (fun k j d hk hj=>?_) (fun k hk=>?_)
     ·by_cases z:k=lo
      ·rw[if_pos z] at hd;cases hd;subst z;refine⟨hH0,nlU,?_,hlo⟩;rw[Z1 nlU,Z2,hn k q];rfl
      ·rw[if_neg z] at hd;obtain⟨d1,d2,d3,d4⟩:=hl k d hd;refine⟨d1,d2,?_,d4⟩;rw[Z1 d2];exact smn _ _ d3
     ·by_cases z:k=lo
      ·rw[if_pos z] at hk;cases hk
      ·rw[if_neg z] at hk;exact⟨hn k hk,z⟩
     ·have fr:∀ k,Uf k=some nl→False:=fun k e=>by
       have:=(hl k nl e).2.2.1
       rw[hnl] at this;cases this
      by_cases z:k=lo
      ·rw[if_pos z] at hk;cases hk;by_cases z2:j=lo
       ·rw[z,z2]
       ·rw[if_neg z2] at hj;exact(fr j hj).elim
      ·rw[if_neg z] at hk;by_cases z2:j=lo
       ·rw[if_pos z2] at hj;cases hj;exact(fr k hk).elim
       ·rw[if_neg z2] at hj;exact inj k j d hk hj
     ·split
      ·simp
      ·exact hk
  ·rintro σ H2 ⟨ku,Uf,v2,rfl,s2,hU2,rU,hl,hn,inj,cov⟩;rw[List.length_map,hS.len,List.take_length] at hl hn cov;intro E hE F hF;have nUE:U≠E:=Z4 hU2 hE;have nUF:U≠F:=fun z=>by subst z;rw[Z1 nUE,hU2] at hF;cases hF
   have nEF:E≠F:=fun z=>by subst z;rw[Z2] at hF;cases hF
   have hF2:H2 F=none:=by rw[Z1 nEF.symm] at hF;exact hF
   have sEF:Same H2 (upd (upd H2 E (.dK [])) F (.dK [])):=fun b o e=>by rw[Z1 (Z4 e hF2),Z1 (Z4 e hE)];exact e
   refine⟨_,rfl,U,ku,rfl,sEF _ _ hU2,fun o=>?_⟩;have nUo:∀{b:Addr} {x:HO},H2 b=some x→b≠U→(upd (upd (upd H2 E (.dK [])) F (.dK [])) U (.frz o (.dK ku))) b=some x:=fun{b x} e hb=>by rw[Z1 hb];exact sEF _ _ e
   have eE:(upd (upd (upd H2 E (.dK [])) F (.dK [])) U (.frz o (.dK ku))) E=some (.dK []):=by rw[Z1 nUE.symm,Z1 nEF,Z2]
   have eF:(upd (upd (upd H2 E (.dK [])) F (.dK [])) U (.frz o (.dK ku))) F=some (.dK []):=by rw[Z1 nUF.symm,Z2]
   have eU:(upd (upd (upd H2 E (.dK [])) F (.dK [])) U (.frz o (.dK ku))) U=some (.frz o (.dK ku)):=Z2;generalize (upd (upd (upd H2 E (.dK [])) F (.dK [])) U (.frz o (.dK ku)))=H3 at nUo eE eF eU;have lst3:∀ k b,Uf k=some b→H3 b=some (.lst ((Ym ss k).map V.int)):=fun k b e=>nUo (hl k b e).2.2.1 (hl k b e).2.1;have upsOk:∀{H4:Hp},(∀ b x,b≠E→b≠F→H3 b=some x→H4 b=some x)→Td H4 U (Ym ss) c ss.length:=fun{H4} kp =>
    ⟨⟨ku,Uf,.inr ⟨o,kp _ _ nUE nUF eU⟩,rU,fun k b e=>kp _ _ (Yo (lst3 k b e) eE (by intro z;cases z)) (Yo (lst3 k b e) eF (by intro z;cases z)) (lst3 k b e),hn⟩,VR ss,Nd hin⟩
   refine X4 (d:=U) (o:=o) (kvs:=ku) (fun i σ H4=>∃(ke kf:List (Key×V)) (Ef:Int→Bool) (Ff:Fn) (v5:Option V),σ=[some (.ref a),some (.ref U),v2,some (.ref E),some (.ref F),v5]∧FS c ss.length H3 E F (Ym ss) H4 [] ke kf Ef Ff∧∀ j,j<i→∀ p,ku[j]?=some p→Ef (keyI p.1)=true)
    ⟨[],[],fun _=>false,fun _=>none,none,rfl,⟨eE,DR.nil,eF,DR.nil,(fun b o _ _ e=>e),(fun k e=>nomatch e),(fun k v e=>nomatch e),(fun k hk=>by simp at hk),(fun k e=>nomatch e),(fun k e=>nomatch e)⟩,fun j hj=>by lia⟩
    (fun i σ H4 ⟨_,_,_,_,_,_,S,_⟩=>S.keep _ _ nUE nUF eU) ?_ ?_
   ·rintro i p σ H4 hi ⟨ke,kf,Ef,Ff,v5,rfl,S,seen⟩;have hpm:p∈ku:=List.mem_of_getElem? hi;obtain⟨pe,pn⟩:=rU.mem hpm;have hck:cnt c (keyI p.1)=true:=by
     cases q:Uf (keyI p.1) with
     | none=>rw[q] at pn;exact absurd rfl pn
     | some b=>exact(hl _ b q).2.2.2
    have ekv:kV p.1 = .int (keyI p.1):=by rw[pe];rfl
    rw[ekv];refine⟨_,rfl,_,rfl,_,rfl,_,rfl,keyI p.1,U,E,F,c,ss.length,Ym ss,ke,kf,Ef,Ff,rfl,hc,hz,hck,nEF,nUE,nUF,upsOk S.keep,⟨S.hE,S.rE,S.hF,S.rF,(fun b o _ _ e=>e),S.e1,S.f1,S.t1,S.a,S.b⟩,fun H5 ke' kf' Ef' Ff' S' mono hst=>?_⟩;refine⟨ke',kf',Ef',Ff',_,rfl,⟨S'.hE,S'.rE,S'.hF,S'.rF,fun b x h1 h2 e=>S'.keep b x h1 h2 (S.keep b x h1 h2 e),S'.e1,S'.f1,S'.t1,S'.a,S'.b⟩,fun j hj q hq=>?_⟩;by_cases z:j=i
    ·subst z;rw[hi] at hq;cases hq;exact hst
    ·exact mono _ (seen j (by lia) q hq)
   ·rintro σ H4 ⟨ke,kf,Ef,Ff,v5,rfl,S,seen⟩;have hU4:=S.keep _ _ nUE nUF eU;refine⟨U,o,ku,hU4,(fun o' u z=>by
     have z:H U=some (.frz o' u):=z;rw[hU] at z;cases z),?_⟩
    have allE:∀ k,Uf k≠none→Ef k=true:=fun k hk=>by
     have hm:k∈keysI ku:=rU.keysMem.mpr (by cases q:Uf k with
      | none=>exact absurd q hk
      | some b=>simp)
     obtain⟨q,hq,e⟩:=List.mem_map.mp hm;obtain⟨j,hj,ej⟩:=List.mem_iff_getElem.mp hq;rw[←e];exact seen j hj q (by rw[←ej];simp)
    have fin0:∀ k,Ef k=true→Ff k≠none:=fun k e=>by
     rcases S.a k e with z | z
     ·exact z
     ·simp at z
    refine⟨_,rfl,k _ F kf Ff (fun b x e=>?_) (s2.free hF2) ?_ S.rF fun sx hsx=>?_⟩
    ·have hb:b≠U:=Z4 e hU;rw[Z1 hb];exact S.keep b x (fun z=>by subst z;rw[s2 _ _ e] at hE;cases hE) (fun z=>by subst z;rw[s2 _ _ e] at hF2;cases hF2) (nUo (s2 _ _ e) hb)
    ·rw[Z1 nUF.symm];exact S.hF
    ·have e1:=allE sx.1 (cov sx hsx);refine⟨fin0 _ e1,fin0 _ ?_⟩;rcases S.b sx.1 e1 sx.2.1 (Gv hsx) with z | z
     ·exact z
     ·simp at z
theorem Fun.okC{c:Bool}{x qual:Str}{st:Stmt}{f:Addr}{fd:FuncData}{N ps:List Str}{k:Nat}{sp:Sp}(F:Fun K x qual st f fd)(S:Zd N ps (defScope st))(len:∀ vs H Q E,sp vs H Q E→vs.length=ps.length)(hbody:∀(bf:Value) (A:Around) (outer:List Env) (s:Shared) (H:Hp) (vs:List V) (Q:VK) (E:XK),fd.code=bf→Room k (A.deeper (envOfC qual (defScope st) s.heap.objs.size f bf))→sp vs H Q E →
   ∃ t,PSs (cxOf (CXm c) P w K mg base N qual (defScope st) f bf A outer s H E).nox (ZL st) t∧t { nx:=fun _ H'=>Q .non H',rt:=Q } (start N vs) H):FnOk P w K mg base (CXm c) (k+1) f fd ps sp:=by
 obtain⟨oc,od,kV,bu,pm,an,bf,ct,bv,rfl,lk,hcd⟩:=F.ex;refine Nm lk hcd S len fun A outer s H vs Q E hr hsp=>?_;obtain⟨t,h,q⟩:=hbody bf A outer s H vs Q E rfl hr hsp;exact⟨t,h.nox,q⟩
theorem JA.sameN{H H':Hp}{ps:List Addr}{ss:List Say}(h:JA H ps ss)(e:SameN H H'):JA H' ps ss:=⟨h.len,fun i p s a b=>e _ _ rfl (h.at_ i p s a b)⟩
theorem SaysAt.sameN{H H':Hp}{a:Addr}{ss:List Say}(h:SaysAt H a ss)(e:SameN H H'):SaysAt H' a ss:=by
 obtain⟨ps,h1,h2⟩:=h.ex;exact⟨ps,e _ _ rfl h1,h2.sameN e⟩
theorem Same.up{H:Hp}{a:Addr}{o:HO}(h:H a=none):Same H (upd H a o):=fun b u e=>by rw[Z1 (Z4 e h)];exact e
theorem Wi{H:Hp}{ps:List Addr}{ss:List Say}(hS:JA H ps ss){k:Int}(hk:cnt ss.length k=true):∃ q,atI (ps.map V.ref) k=some (.ref q)∧H q=some (.tup [.int (sy ss k).1,.int (sy ss k).2.1,.int (sy ss k).2.2]):=by
 have es:=V7 hk;obtain⟨q,eq,hq⟩:=hS.get es;exact⟨q,UH (YH.mp hk).1 (by rw[List.getElem?_map,eq];rfl),hq⟩
theorem Wn{Y:Cx}{K:Frag}{es:List Expr}{k:Nat}{t:TGs}{n:Nat}{pos:Pos}(hc:True=True)(h:PGs Y es t)(hn:(assignEach es Y.env).length=n)(hst:(assignEach es Y.env).findIdx? (·.1)=none:=by rfl)(e:Y.K=K:=by rfl):PG Y (.Tuple es k pos) (gTup K n t):=by subst e;exact MJ hc h hn hst
abbrev QL:Str:=(("walking_order":Str)++(".<locals>.":Str))++("<lambda>":Str)
structure LamIn(base:Heap)(mg:Str→Option Value)(fd:FuncData)(Pt:Addr):Prop where
 ex:∃ c,fd.code = .ref c∧PySem.W.CodeHd base c Pt∧base.BuiltinsAt mg Pt
def fv (F:Fn)(k:Int):Int:=(F k).getD 0
def onw (F:Fn)(ss:List Say)(i:Nat):Bool:=(ss[i]?).elim false fun s=>decide (fv F s.2.1<fv F s.1)
def bkw (F:Fn)(ss:List Say)(i:Nat):Bool:=(ss[i]?).elim false fun s=>decide (fv F s.1≤fv F s.2.1)
def idx (p:Nat→Bool)(n:Nat):List Int:=((List.range n).filter p).map fun i=>((i:Nat):Int)
theorem Nn(p:Nat→Bool)(n:Nat):((List.range n).filterMap fun i=>if p i=true then some (V.int ((i:Nat):Int)) else none)=(idx p n).map V.int:=by
 unfold idx;rw[List.map_map];generalize List.range n=l
 induction l with
 | nil=>rfl
 | cons x r ih =>
  rw[List.filterMap_cons,List.filter_cons];cases p x <;> simp[ih]
theorem WB(p:Nat→Bool)(n:Nat):(idx p n).length≤n:=by
 unfold idx;rw[List.length_map];exact Nat.le_trans (List.length_filter_le _ _) (by simp)
theorem JL{p:Nat→Bool}{n:Nat}{k:Int}:k∈idx p n↔cnt n k=true∧p k.toNat=true:=by
 unfold idx;rw[List.mem_map];constructor
 ·rintro⟨i,hi,rfl⟩;rw[List.mem_filter,List.mem_range] at hi;refine⟨YH.mpr ⟨by lia,by lia⟩,by simpa using hi.2⟩
 ·rintro⟨h1,h2⟩;obtain⟨h0,h3⟩:=YH.mp h1;exact⟨k.toNat,List.mem_filter.mpr ⟨List.mem_range.mpr (by lia),h2⟩,by lia⟩
def Us(Pt:Addr):Sp:=fun vs H Q _=>∃(a:Addr) (ss:List Say) (c:Nat),vs=[.ref a]∧SaysAt H a ss∧ss.length<64∧c≤1000∧ss.all (inside c)=true∧ZP H Pt QL ∧
 ∀(H':Hp) (d:Addr) (ord:List Int),SameN H H'→ZP H' Pt QL→H d=none→H' d=some (.lst (ord.map V.int))→(∀ k∈ord,cnt ss.length k=true)→(∀ k,cnt ss.length k=true→k∈ord)→ord.length≤400→Q (.ref d) H'
theorem YK:Zd ["sayings","finished","onward","backward"] ["sayings"] (defScope Zk):=fs7
theorem frWO:∀ x∈([("at",.local),("finished",.free),("sayings",.free)]:List (Str×NameKind)),x.2=NameKind.free→(defScope Zk).names.lookup x.1=some .cell:=by decide +kernel
theorem Xx{f g h1:Addr}{fd gd hd:FuncData}{Pt:Addr}(D:Def K mg "walking_order" Zk ["sayings"] f fd)(DO:Def K mg "finishing_order" Y0 ["sayings"] g gd)(DF:Def K mg "finish_from" ZX ["start","uppers","entered","finished"] h1 hd)(G:G1 K mg)(L:LamIn base mg fd Pt):
  FnOk P w K mg base CX0 3 f fd ["sayings"] (Us Pt):=by
 have GO:FnOk P w K mg base CX0 2 g gd ["sayings"] spFinOrd:=Gk DO DF G;refine Fun.okC D.fn YK (fun vs H Q E h=>?_) (fun bf A outer s H vs Q X hcd hr h=>?_)
 ·obtain⟨_,_,_,rfl,_⟩:=h;rfl
 ·obtain⟨a,ss,c,rfl,ha,hz,hc,hin,hL,k⟩:=h;obtain⟨cc,hcc,hC,hB⟩:=L.ex;have hcv:bf = .ref cc:=hcd.symm.trans hcc;subst hcv;have hu:=JO hr;obtain⟨ps,ha,hS⟩:=ha.ex;have hlu:∀ e,((A.deeper (envOfC "walking_order" (defScope Zk) s.heap.objs.size f (.ref cc))).in1.in1.deeper e).units+1<cLine:=fun e=>by
   have:=hr.un
   show(A.deeper (envOfC "walking_order" (defScope Zk) s.heap.objs.size f (.ref cc))).units+1+1+3+1<cLine;lia
  refine⟨_,Z5 (Zu (i:=1) YK.nd rfl (Or.inr rfl) (Za GO hr (by rfl) DO.at_ DO.fn.kp DO.bd .nil Zo (Z0 (pv 0) Z3)))
   (Z5 (JV (j:=2) (XN:=["sayings","finished","onward","backward"]) (outer:=defScope Zk) (N:=["at","saying","finished"]) (cap:=[none,none,some 1])
     (by exact⟨rfl,by decide +kernel,by decide +kernel,by decide +kernel,.own (.own (.cap rfl rfl rfl .nil)),by decide +kernel⟩) rfl YK.nd rfl (Or.inl rfl) (Wl (by rfl) G.enumerate (Z0 (pv 0) Z3))
     (fun _ _ _ _ _ _=>Wn (K:=K) (n:=2) rfl (J8 (Zg (i:=0) (show(["at","saying","finished"]:List Str).Nodup by decide +kernel) rfl (Or.inl rfl)) (J8 (Zg (i:=1) (show(["at","saying","finished"]:List Str).Nodup by decide +kernel) rfl (Or.inl rfl)) Qj)) rfl)
     (fun _ _ _ _ _ _=>Vf (ZK DZ (Yk hu (pv 2) (Zx (ixT (K:=K)) (pv 1) Z8 (fun _ _=>rfl)) (fun _ _=>rfl)) (Yk hu (pv 2) (Zx (ixT (K:=K)) (pv 1) Z8 (fun _ _=>rfl)) (fun _ _=>rfl)) (nomark _)))
     (fun _ _ _ _ _ _=>pv 0))
   (Z5 (JV (j:=3) (XN:=["sayings","finished","onward","backward"]) (outer:=defScope Zk) (N:=["at","saying","finished"]) (cap:=[none,none,some 1])
     (by exact⟨rfl,by decide +kernel,by decide +kernel,by decide +kernel,.own (.own (.cap rfl rfl rfl .nil)),by decide +kernel⟩) rfl YK.nd rfl (Or.inl rfl) (Wl (by rfl) G.enumerate (Z0 (pv 0) Z3))
     (fun _ _ _ _ _ _=>Wn (K:=K) (n:=2) rfl (J8 (Zg (i:=0) (show(["at","saying","finished"]:List Str).Nodup by decide +kernel) rfl (Or.inl rfl)) (J8 (Zg (i:=1) (show(["at","saying","finished"]:List Str).Nodup by decide +kernel) rfl (Or.inl rfl)) Qj)) rfl)
     (fun _ _ _ _ _ _=>Vf (ZK MW (Yk hu (pv 2) (Zx (ixT (K:=K)) (pv 1) Z8 (fun _ _=>rfl)) (fun _ _=>rfl)) (Yk hu (pv 2) (Zx (ixT (K:=K)) (pv 1) Z8 (fun _ _=>rfl)) (fun _ _=>rfl)) (nomark _)))
     (fun _ _ _ _ _ _=>pv 0))
   (Z5 (Zu (i:=2) YK.nd rfl (Or.inl rfl) (MN (XN:=["sayings","finished","onward","backward"]) (outer:=defScope Zk) (x:="at") (N:=["finished","sayings"]) (cap:=[some 1,some 0]) rfl
     (by exact⟨rfl,rfl,rfl,by decide +kernel,rfl,.cap rfl rfl rfl (.cap rfl rfl rfl .nil),by decide +kernel,by decide⟩) hr.depth
     (fun _ _ _ _ _ _ _=>Yk (hlu _) (pv 1) (Zx (ixT (K:=K)) (Zx (ixL (K:=K)) (pv 2) (pv 0) (fun _ _=>rfl)) Z8 (fun _ _=>rfl)) (fun _ _=>rfl))
     (fun _ _ _ _ _=>rfl) (by rfl) G.sorted (Z0 (pv 2) Z3) (Qi (MQ rfl hC hB frWO) (Qi Yc MI))))
   (Z5 (Zu (i:=3) YK.nd rfl (Or.inl rfl) (MO (XN:=["sayings","finished","onward","backward"]) (outer:=defScope Zk) (x:="at") (N:=["finished","sayings"]) (cap:=[some 1,some 0]) rfl
     (by exact⟨rfl,rfl,rfl,by decide +kernel,rfl,.cap rfl rfl rfl (.cap rfl rfl rfl .nil),by decide +kernel,by decide⟩) hr.depth
     (fun _ _ _ _ _ _ _=>Yk (hlu _) (pv 1) (Zx (ixT (K:=K)) (Zx (ixL (K:=K)) (pv 2) (pv 0) (fun _ _=>rfl)) Z8 (fun _ _=>rfl)) (fun _ _=>rfl))
     (fun _ _ _ _ _=>rfl) (by rfl) G.sorted (Z0 (pv 3) Z3) (Qi (MQ rfl hC hB frWO) MI)))
   (Z9 (Zj (Yi JY (pv 2) (pv 3)))))))),?_⟩
  refine⟨_,rfl,a,ss,c,rfl,⟨ps,ha,hS⟩,by lia,hc,hin,fun H1 d kf Ff s1 hd0 hd rF cov=>?_⟩
  have val:∀ k,Ff k≠none→valV kf (Sum.inl k)=some (.int (fv Ff k)):=fun k hk=>by
   rw[rF.at_];cases q:Ff k with
   | none=>exact absurd q hk
   | some v=>unfold iS fv;rw[q];rfl
  have item:∀{H2:Hp},Same H1 H2→∀(i:Nat) (p:Addr),ps[i]?=some p→∃ sx,ss[i]?=some sx∧H2 p=some (.tup [.int sx.1,.int sx.2.1,.int sx.2.2])∧Ff sx.1≠none∧Ff sx.2.1≠none:=fun{H2} sm i p ep=>by
   have hil:i<ss.length:=by rw[←hS.len];exact(List.getElem?_eq_some_iff.mp ep).1
   have es:ss[i]?=some ss[i]:=List.getElem?_eq_getElem hil
   have:=cov ss[i] (List.getElem_mem hil)
   exact⟨ss[i],es,sm _ _ (s1 _ _ (hS.at_ i p _ ep es)),this.1,this.2⟩
  have ha1:=s1 _ _ ha;have hlen:(ps.map V.ref).length=ss.length:=by rw[List.length_map,hS.len]
  refine⟨_,rfl,a,rfl,⟨_,SqL.of ha1⟩,fun D1 hD1=>?_⟩;refine VX (outs:=fun i=>if onw Ff ss i=true then some (V.int ((i:Nat):Int)) else none) (fun σ=>∃ v1 v2,σ=[v1,v2,some (.ref d)]) hD1 (SqL.of ha1) (by rw[hlen];exact Zf (by lia)) ⟨none,none,rfl⟩ (fun i x t σc Hc Yes No hx sm _ htup ⟨v1,v2,hv⟩ yes no=>?_) (fun H2 s2 hD1c=>?_)
  ·rw[List.getElem?_map] at hx;cases ep:ps[i]? with
   | none=>rw[ep] at hx;cases hx
   | some p =>
    rw[ep] at hx;cases hx;subst hv;obtain⟨sx,es,hp,f1,f2⟩:=item sm i p ep;have hdc:=sm _ _ hd;refine⟨t,_,rfl,SqT.of htup,rfl,_,_,rfl,_,_,rfl,rfl,?_⟩;refine⟨_,rfl,_,rfl,p,_,_,_,rfl,rfl,SqT.of hp,rfl,d,_,rfl,.inl ⟨kf,Sum.inl sx.1,.inl hdc,rfl,(val _ f1).symm⟩,_,rfl,_,rfl,p,_,_,_,rfl,rfl,SqT.of hp,rfl,d,_,rfl,.inl ⟨kf,Sum.inl sx.2.1,.inl hdc,rfl,(val _ f2).symm⟩,_,_,rfl,rfl,_,rfl,?_⟩;have eo:onw Ff ss i=decide (fv Ff sx.2.1<fv Ff sx.1):=by unfold onw;rw[es];rfl
    rw[←eo];refine ite2 (fun q=>?_) (fun q=>?_)
    ·exact⟨_,rfl,yes _ _ _ ⟨_,_,rfl⟩ (Same.refl _) (by rw[if_pos q])⟩
    ·exact no _ _ ⟨_,_,rfl⟩ (Same.refl _) (by rw[if_neg q])
  rw[hlen,Nn] at hD1c;refine⟨_,rfl,a,rfl,⟨_,SqL.of (s2 _ _ ha1)⟩,fun D2 hD2=>?_⟩;refine VX (outs:=fun i=>if bkw Ff ss i=true then some (V.int ((i:Nat):Int)) else none) (fun σ=>∃ v1 v2,σ=[v1,v2,some (.ref d)]) hD2 (SqL.of (s2 _ _ ha1)) (by rw[hlen];exact Zf (by lia)) ⟨none,none,rfl⟩ (fun i x t σc Hc Yes No hx sm _ htup ⟨v1,v2,hv⟩ yes no=>?_) (fun H3 s3 hD2c=>?_)
  ·rw[List.getElem?_map] at hx;cases ep:ps[i]? with
   | none=>rw[ep] at hx;cases hx
   | some p =>
    rw[ep] at hx;cases hx;subst hv;obtain⟨sx,es,hp,f1,f2⟩:=item (s2.trans sm) i p ep;have hdc:=sm _ _ (s2 _ _ hd);refine⟨t,_,rfl,SqT.of htup,rfl,_,_,rfl,_,_,rfl,rfl,?_⟩;refine⟨_,rfl,_,rfl,p,_,_,_,rfl,rfl,SqT.of hp,rfl,d,_,rfl,.inl ⟨kf,Sum.inl sx.1,.inl hdc,rfl,(val _ f1).symm⟩,_,rfl,_,rfl,p,_,_,_,rfl,rfl,SqT.of hp,rfl,d,_,rfl,.inl ⟨kf,Sum.inl sx.2.1,.inl hdc,rfl,(val _ f2).symm⟩,_,_,rfl,rfl,_,rfl,?_⟩;have eo:bkw Ff ss i=decide (fv Ff sx.1≤fv Ff sx.2.1):=by unfold bkw;rw[es];rfl
    rw[←eo];refine ite2 (fun q=>?_) (fun q=>?_)
    ·exact⟨_,rfl,yes _ _ _ ⟨_,_,rfl⟩ (Same.refl _) (by rw[if_pos q])⟩
    ·exact no _ _ ⟨_,_,rfl⟩ (Same.refl _) (by rw[if_neg q])
  rw[hlen,Nn] at hD2c;have s13:Same H1 H3:=s2.trans s3;have s03:Same H H3:=s1.trans s13;have lam:∀{H4:Hp},SameN H3 H4→∀(n:Int),cnt ss.length n=true→∃ v0,([some (V.int n),some (.ref d),some (.ref a)]:L2.St)[1]?=some (some v0)∧∃ v1,([some (V.int n),some (.ref d),some (.ref a)]:L2.St)[2]?=some (some v1)∧∃ v2,([some (V.int n),some (.ref d),some (.ref a)]:L2.St)[0]?=some (some v2) ∧
    ∃ p xs i v,v1 = .ref p∧v2 = .int i∧SqL K H4 p xs∧atI xs i=some v∧∃ p' xs' i' v',v = .ref p'∧V.int 0 = .int i'∧SqT K H4 p' xs'∧atI xs' i'=some v'∧∃ x w,v0 = .ref x∧DGet H4 x v' (some w)∧H4=H4∧∃ k,w = .int k:=fun{H4} sm n hn=>by
   obtain⟨p,ep,h0⟩:=YU (xs:=ps) (i:=n) (by rw[hS.len];exact hn)
   obtain⟨sx,es,hp,f1,f2⟩:=item s13 n.toNat p ep;exact⟨_,rfl,_,rfl,_,rfl,a,_,n,.ref p,rfl,rfl,SqL.of (sm _ _ rfl (s13 _ _ ha1)),UH h0 (by rw[List.getElem?_map,ep];rfl),p,_,0,.int sx.1,rfl,rfl,SqT.of (sm _ _ rfl hp),rfl,d,.int (fv Ff sx.1),rfl,.inl ⟨kf,Sum.inl sx.1,.inl (sm _ _ rfl (s13 _ _ hd)),rfl,(val _ f1).symm⟩,rfl,_,rfl⟩
  have l1:=WB (onw Ff ss) ss.length;have l2:=WB (bkw Ff ss) ss.length;refine⟨_,rfl,⟨hL.same s03,fun q1 H4 hq1 s4 hL4 hq=>?_⟩⟩;refine⟨D1,idx (onw Ff ss) ss.length,q1,rfl,rfl,SqL.of (s4 _ _ rfl (s3 _ _ hD1c)),by lia,hq,fun n hn=>lam s4 n (JL.mp hn).1,fun D3 ms1 hp1 hD3=>?_⟩
  have u5:=Same.up (o:=.lst (ms1.map V.int)) hD3;have s35:SameN H3 (upd H4 D3 (.lst (ms1.map V.int))):=s4.trans u5.n;refine⟨_,rfl,⟨hL4.same u5,fun q2 H6 hq2 s6 hL6 hq'=>?_⟩⟩;refine⟨D2,idx (bkw Ff ss) ss.length,q2,rfl,rfl,SqL.of (s6 _ _ rfl (s35 _ _ rfl hD2c)),by lia,hq',fun n hn=>lam (s35.trans s6) n (JL.mp hn).1,fun D4 ms2 hp2 hD4=>?_⟩
  have u7:=Same.up (o:=.lst (ms2.map V.int)) hD4;have e3:(upd H6 D4 (.lst (ms2.map V.int))) D3=some (.lst (ms1.map V.int)):=u7 _ _ (s6 _ _ rfl Z2);have e4:(upd H6 D4 (.lst (ms2.map V.int))) D4=some (.lst (ms2.map V.int)):=Z2;have s07:SameN H (upd H6 D4 (.lst (ms2.map V.int))):=s03.n.trans ((s35.trans s6).trans u7.n);have hm1:=hp1.length_eq;have hm2:=hp2.length_eq;refine⟨_,rfl,_,rfl,D3,D4,_,_,rfl,rfl,e3,e4,by rw[List.length_map,List.length_map];exact Nat.le_of_lt (Zf (by lia)),fun D5 hD5=>?_⟩
  have u8:=Same.up (o:=.lst (ms1.map V.int++ms2.map V.int)) hD5;have fr:H D5=none:=s07.tb _ hD5;refine k _ D5 (ms1++ms2) (s07.trans u8.n) ((hL6.same u7).same u8) fr (by rw[Z2,List.map_append]) (fun n hn=>?_) (fun n hn=>?_) (by rw[List.length_append];lia)
  ·rcases List.mem_append.mp hn with z | z
   ·exact(JL.mp (hp1.mem_iff.mp z)).1
   ·exact(JL.mp (hp2.mem_iff.mp z)).1
  ·obtain⟨sx,es,h0⟩:=YU hn;by_cases q:fv Ff sx.2.1<fv Ff sx.1
   ·exact List.mem_append_left _ (hp1.mem_iff.mpr (JL.mpr ⟨hn,by unfold onw;rw[es];simpa using q⟩))
   ·exact List.mem_append_right _ (hp2.mem_iff.mpr (JL.mpr ⟨hn,by unfold bkw;rw[es];simp;lia⟩))
structure MDef(K:Frag)(C:Addr)(m qual:Str)(st:Stmt)(ps:List Str)(f:Addr)(fd:FuncData):Prop where
 fn:Fun K m qual st f fd
 me:Meth K C m f
 bd:Binds K fd ps []
structure WK(K:Frag)(mg:Str→Option Value)(C:Addr):Prop where
 cl:Cls K C
 n1:Yn K C "sayings"
 n2:Yn K C "sums"
 n3:Yn K C "last"
 at_:mg "Walk"=some (.ref C)
def wfl (A S L:Addr):List (Str×V):=[("sayings",.ref A),("sums",.ref S),("last",.ref L)]
section
variable {A S L:Addr}
theorem wfl1:(wfl A S L).lookup ("sayings":Str)=some (.ref A):=rfl
theorem wfl2:(wfl A S L).lookup ("sums":Str)=some (.ref S):=rfl
theorem wfl3:(wfl A S L).lookup ("last":Str)=some (.ref L):=rfl
theorem Tk:(wfl A S L).lookup ("go_along":Str)=none:=rfl
theorem Xi:(wfl A S L).lookup ("place_ahead":Str)=none:=rfl
theorem Tl:(wfl A S L).lookup ("chain_between":Str)=none:=rfl
theorem Tj:(wfl A S L).lookup ("place_on_ring":Str)=none:=rfl
end
structure YV(C:Addr)(H:Hp)(p A S L:Addr)(ks kl:List (Key×V))(Sf Lf:Fn):Prop where
 ob:∃ dx,H p=some (.ins C dx (wfl A S L))
 hS:H S=some (.dK ks)
 rS:DR ks (iS Sf)
 hL:Rd H L (.dK kl)
 rL:DR kl (iS Lf)
 ne:S≠L
theorem Rd.same{H H':Hp}{a:Addr}{u:HO}(r:Rd H a u)(e:Same H H'):Rd H' a u:=by
 rcases r with r | ⟨o,r⟩
 ·exact .inl (e _ _ r)
 ·exact .inr ⟨o,e _ _ r⟩
theorem YV.same{C:Addr}{H H':Hp}{p A S L:Addr}{ks kl:List (Key×V)}{Sf Lf:Fn}(h:YV C H p A S L ks kl Sf Lf)(e:Same H H'):YV C H' p A S L ks kl Sf Lf:=by
 obtain⟨dx,ob⟩:=h.ob;exact⟨⟨dx,e _ _ ob⟩,e _ _ h.hS,h.rS,Rd.same h.hL e,h.rL,h.ne⟩
structure Strt(bs:List Int)(Sf:Fn):Prop where
 to:∀ k∈bs,Sf k=some 0
 of_:∀ k v,Sf k=some v→v=0∧k∈bs
def spWInit(C:Addr):Sp:=fun vs H Q _=>∃(p dx A B:Addr) (bs:List Int) (c:Nat),vs=[.ref p,.ref A,.ref B]∧H p=some (.ins C dx [])∧H B=some (.lst (bs.map V.int))∧(∀ k∈bs,cnt c k=true)∧c≤1000 ∧
 ∀(H':Hp) (S L:Addr) (ks:List (Key×V)) (Sf:Fn),H S=none→H L=none→YV C H' p A S L ks [] Sf (fun _=>none)→H' L=some (.dK [])→Strt bs Sf→(∀ b o,b≠p→H b=some o→H' b=some o)→Q .non H'
theorem Wg:Zd ["self","sayings","starts","start"] ["self","sayings","starts"] (defScope ZF):=fs7
theorem MZ{f C:Addr}{fd:FuncData}(F:Fun K "__init__" "Walk.__init__" ZF f fd)(T:WK K mg C):FnOk P w K mg base CX0 1 f fd ["self","sayings","starts"] (spWInit C):=by
 refine F.ok Wg (fun vs H Q E h=>?_) (fun bf A0 outer s H vs Q X hr h=>?_)
 ·obtain⟨_,_,_,_,_,_,rfl,_⟩:=h;rfl
 ·obtain⟨p,dx,A,B,bs,c,rfl,hp,hB,hbs,hc,k⟩:=h;have hu:=JO hr;refine⟨_,Z5 (Xt (pv 0) (pv 1) rfl) (Z5 (Xt (pv 0) YS rfl) (Z5 (Xt (pv 0) YS rfl)
   (Z9 (YR PassesOwn.never rfl (Zt (pv 2)) (Zg (i:=3) Wg.nd rfl (Or.inl rfl)) (Z9 (Uh hu (Ye (pv 0) rfl) (pv 3) Z8 rfl)))))),?_⟩
  refine⟨_,rfl,_,rfl,p,C,dx,[],rfl,hp,T.cl,T.n1,(by show 0<1000;decide),?_⟩
  intro S hS;have pS:p≠S:=fun z=>by rw[←z,Z2] at hS;cases hS
  have hS0:H S=none:=by rw[Z1 pS.symm] at hS;exact hS
  refine⟨_,rfl,p,C,dx,_,rfl,by rw[Z1 pS,Z2],T.cl,T.n2,(by show 1<1000;decide),?_⟩
  intro L hL;have pL:p≠L:=fun z=>by rw[←z,Z2] at hL;cases hL
  have sL:S≠L:=fun z=>by rw[←z,Z1 pS.symm,Z2] at hL;cases hL
  have hL0:H L=none:=by rw[Z1 pL.symm,Z1 sL.symm,Z1 pL.symm] at hL;exact hL
  refine⟨_,rfl,p,C,dx,_,rfl,by rw[Z1 pL,Z2],T.cl,T.n3,(by show 2<1000;decide),?_⟩
  have ef:putF "last" (V.ref L) (putF "sums" (V.ref S) (putF "sayings" (V.ref A) []))=wfl A S L:=rfl;rw[ef];have e1:∀{o:HO},(upd (upd (upd (upd (upd H p (.ins C dx (putF "sayings" (V.ref A) []))) S (.dK [])) p (.ins C dx (putF "sums" (V.ref S) (putF "sayings" (V.ref A) [])))) L (.dK [])) p o) p=some o:=Z2;have e2:(upd (upd (upd (upd (upd H p (.ins C dx (putF "sayings" (V.ref A) []))) S (.dK [])) p (.ins C dx (putF "sums" (V.ref S) (putF "sayings" (V.ref A) [])))) L (.dK [])) p (.ins C dx (wfl A S L))) S=some (.dK []):=by
   rw[Z1 pS.symm,Z1 sL,Z1 pS.symm,Z2]
  have e3:(upd (upd (upd (upd (upd H p (.ins C dx (putF "sayings" (V.ref A) []))) S (.dK [])) p (.ins C dx (putF "sums" (V.ref S) (putF "sayings" (V.ref A) [])))) L (.dK [])) p (.ins C dx (wfl A S L))) L=some (.dK []):=by
   rw[Z1 pL.symm,Z2]
  have e4:∀ b o,b≠p→H b=some o→(upd (upd (upd (upd (upd H p (.ins C dx (putF "sayings" (V.ref A) []))) S (.dK [])) p (.ins C dx (putF "sums" (V.ref S) (putF "sayings" (V.ref A) [])))) L (.dK [])) p (.ins C dx (wfl A S L))) b=some o:=fun b o hb e=>by
   rw[Z1 hb,Z1 (Z4 e hL0),Z1 hb,Z1 (Z4 e hS0),Z1 hb];exact e
  have e1:=e1 (o:=.ins C dx (wfl A S L));generalize (upd (upd (upd (upd (upd H p (.ins C dx (putF "sayings" (V.ref A) []))) S (.dK [])) p (.ins C dx (putF "sums" (V.ref S) (putF "sayings" (V.ref A) [])))) L (.dK [])) p (.ins C dx (wfl A S L)))=H1 at e1 e2 e3 e4;have pB:B≠p:=Yo hB hp (by intro z;cases z)
  have BS:B≠S:=Z4 hB hS0;have BL:B≠L:=Z4 hB hL0;refine⟨_,rfl,B,rfl,⟨_,SqL.of (e4 _ _ pB hB)⟩,Yz (K:=K) (a:=B) (xs:=bs.map V.int) (fun i σ H2=>∃(ks:List (Key×V)) (Sf:Fn) (v:Option V),σ=[some (.ref p),some (.ref A),some (.ref B),v]∧H2 p=some (.ins C dx (wfl A S L))∧H2 S=some (.dK ks)∧DR ks (iS Sf)∧H2 L=some (.dK [])∧(∀ b o,b≠p→H b=some o→H2 b=some o)∧Strt (bs.take i) Sf)
   ⟨[],fun _=>none,none,rfl,e1,e2,DR.nil,e3,e4,⟨fun k hk=>by simp at hk,(fun k v e=>nomatch e)⟩⟩ (fun i σ H2 _ ⟨_,_,_,_,_,_,_,_,k4,_⟩=>SqL.of (k4 _ _ pB hB)) ?_ ?_⟩
  ·rintro i y σ H2 hi ⟨ks,Sf,v,rfl,h1,h2,rS,h3,h4,hst⟩;rw[List.getElem?_map] at hi;cases en:bs[i]? with
   | none=>rw[en] at hi;cases hi
   | some z =>
    rw[en] at hi;cases hi;have hrg:∀ k v,Sf k=some v→cnt c k=true:=fun k v e=>hbs k (List.mem_of_mem_take (hst.of_ k v e).2);have lS:ks.length≤c:=rS.len (Jb hrg);have etk:bs.take (i+1)=bs.take i++[z]:=by rw[List.take_add_one,en];rfl
    refine⟨_,rfl,p,C,dx,_,_,rfl,h1,T.cl,T.n2,wfl2,_,rfl,S,_,rfl,DPut.k (k:=Sum.inl z) h2 (Zf (by lia)),?_⟩
    refine⟨_,put Sf z 0,_,rfl,by rw[Z1 pS];exact h1,Z2,rS.iput z 0,by rw[Z1 sL.symm];exact h3,fun b o hb e=>by rw[Z1 (Z4 e hS0)];exact h4 b o hb e,?_⟩
    rw[etk];refine⟨fun k hk=>?_,fun k v e=>?_⟩
    ·by_cases q:k=z
     ·subst q;exact Zy
     ·rw[ZO q];rcases List.mem_append.mp hk with m | m
      ·exact hst.to k m
      ·exact absurd (by simpa using m) q
    ·by_cases q:k=z
     ·subst q;rw[Zy] at e;cases e;exact⟨rfl,by simp⟩
     ·rw[ZO q] at e;obtain⟨a,b⟩:=hst.of_ k v e;exact⟨a,List.mem_append_left _ b⟩
  ·rintro σ H2 ⟨ks,Sf,v,rfl,h1,h2,rS,h3,h4,hst⟩;rw[List.length_map,List.take_length] at hst;exact k H2 S L ks Sf hS0 hL0 ⟨⟨dx,h1⟩,h2,rS,.inl h3,DR.nil,sL⟩ h3 hst h4
def spGo (C:Addr):Sp:=fun vs H Q _=>∃(p A S L O:Addr) (ss:List Say) (c:Nat) (ks kl:List (Key×V)) (Sf Lf:Fn) (ord:List Int),vs=[.ref p,.ref O]∧YV C H p A S L ks kl Sf Lf∧H L=some (.dK kl)∧SaysAt H A ss∧H O=some (.lst (ord.map V.int)) ∧
 (∀ k∈ord,cnt ss.length k=true)∧ss.all (inside c)=true∧c≤1000∧Wd ss c Sf Lf ∧
 ∀(H':Hp) (ks' kl':List (Key×V)),YV C H' p A S L ks' kl' (goAll ss ord ⟨Sf,Lf,false⟩).S (goAll ss ord ⟨Sf,Lf,false⟩).L→H' L=some (.dK kl')→(∀ b o,b≠S→b≠L→H b=some o→H' b=some o)→Q (.bl (goAll ss ord ⟨Sf,Lf,false⟩).f) H'
theorem scGo:Zd ["self","order","found","at","saying","reached"] ["self","order"] (defScope ZE):=fs7
theorem XT{ss:List Say}{ord:List Int}{w:Ws}{i:Nat}{k:Int}(e:ord[i]?=some k):goAll ss (ord.take (i+1)) w=relax ss (goAll ss (ord.take i) w) k:=by
 unfold goAll;rw[List.take_add_one,e,List.foldl_append];rfl
theorem RB{f C:Addr}{fd:FuncData}(F:Fun K "go_along" "Walk.go_along" ZE f fd)(T:WK K mg C):FnOk P w K mg base CX0 1 f fd ["self","order"] (spGo C):=by
 refine F.ok scGo (fun vs H Q E h=>?_) (fun bf A0 outer s H vs Q X hr h=>?_)
 ·obtain⟨_,_,_,_,_,_,_,_,_,_,_,_,rfl,_⟩:=h;rfl
 ·obtain⟨p,A,S,L,O,ss,c,ks,kl,Sf,Lf,ord,rfl,W,hL,hA,hO,hord,hin,hc,wd,k⟩:=h;have hu:=JO hr;obtain⟨ps,hA,hSy⟩:=hA.ex;obtain⟨⟨dx,ob⟩,hS,rS,_,rL,nSL⟩:=W;have AS:A≠S:=Yo hA hS (by intro z;cases z)
  have AL:A≠L:=Yo hA hL (by intro z;cases z)
  have OS:O≠S:=Yo hO hS (by intro z;cases z)
  have OL:O≠L:=Yo hO hL (by intro z;cases z)
  have pS:p≠S:=Yo ob hS (by intro z;cases z)
  have pL:p≠L:=Yo ob hL (by intro z;cases z)
  refine⟨_,Z5 (Zu (i:=2) scGo.nd rfl (Or.inl rfl) Yc)
   (Z5 (YR PassesOwn.never rfl (Zt (pv 1)) (Zg (i:=3) scGo.nd rfl (Or.inl rfl))
    (Z5 (Zu (i:=4) scGo.nd rfl (Or.inl rfl) (Zx YZ (Ye (pv 0) rfl) (pv 3) (fun _ _=>rfl)))
    (Z9 (ZJ (JU (Xw hu (Zx ZW (pv 4) Z8 (fun _ _=>rfl)) (Ye (pv 0) rfl)))
     (Z5 (Zu (i:=5) scGo.nd rfl (Or.inl rfl) (Yi Js (Yk hu (Ye (pv 0) rfl) (Zx ZW (pv 4) Z8 (fun _ _=>rfl)) (fun _ _=>rfl)) (Zx ZW (pv 4) Z8 (fun _ _=>rfl))))
     (Z9 (ZJ (PW.pt (QI (JU (Ux hu (Zx ZW (pv 4) Z8 (fun _ _=>rfl)) (Ye (pv 0) rfl))) (Vd (ZK VP (pv 5) (Yk hu (Ye (pv 0) rfl) (Zx ZW (pv 4) Z8 (fun _ _=>rfl)) (fun _ _=>rfl)) (nomark _)))))
      (Z5 (Uh hu (Ye (pv 0) rfl) (Zx ZW (pv 4) Z8 (fun _ _=>rfl)) (pv 5) rfl)
      (Z5 (Uh hu (Ye (pv 0) rfl) (Zx ZW (pv 4) Z8 (fun _ _=>rfl)) (pv 3) rfl)
      (Z9 (Zu (i:=2) scGo.nd rfl (Or.inl rfl) Yc)))) Zp)))
     Zp))))
   (Z9 (Zj (pv 2)))),?_⟩
  refine⟨_,rfl,O,rfl,⟨_,SqL.of hO⟩,Yz (K:=K) (a:=O) (xs:=ord.map V.int) (fun i σ H2=>∃(ks2 kl2:List (Key×V)) (v3 v4 v5:Option V) (W2:Ws),W2=goAll ss (ord.take i) ⟨Sf,Lf,false⟩∧σ=[some (.ref p),some (.ref O),some (.bl W2.f),v3,v4,v5]∧H2 S=some (.dK ks2)∧DR ks2 (iS W2.S)∧H2 L=some (.dK kl2)∧DR kl2 (iS W2.L) ∧
    (∀ b o,b≠S→b≠L→H b=some o→H2 b=some o))
   ⟨ks,kl,none,none,none,_,rfl,rfl,hS,rS,hL,rL,fun b o _ _ e=>e⟩ (fun i σ H2 _ ⟨_,_,_,_,_,_,_,_,_,_,_,_,kp⟩=>SqL.of (kp _ _ OS OL hO)) ?_ ?_⟩
  ·rintro i y σ H2 hi ⟨ks2,kl2,v3,v4,v5,W2,hW,rfl,hS2,rS2,hL2,rL2,kp⟩;rw[List.getElem?_map] at hi;cases en:ord[i]? with
   | none=>rw[en] at hi;cases hi
   | some z =>
    rw[en] at hi;cases hi;have hz:cnt ss.length z=true:=hord z (List.mem_of_getElem? en);have pass:=Vx hin ⟨Sf,Lf,false⟩ wd (ord.take i) fun k hk=>hord k (List.mem_of_mem_take hk);rw[←hW] at pass;have wd2:=pass.wd;have lS:ks2.length≤c:=rS2.len (Jb wd2.rg);have lL:kl2.length≤c:=rL2.len (Jb fun k v e=>wd2.lr e);have enx:=XT (ss:=ss) (w:=⟨Sf,Lf,false⟩) en;rw[←hW] at enx;rw[enx];obtain⟨q,eq,hq⟩:=Wi hSy hz;have qS:q≠S:=Yo hq hS (by intro z;cases z)
    have qL:q≠L:=Yo hq hL (by intro z;cases z)
    have hq2:=kp _ _ qS qL hq;have ob2:=kp _ _ pS pL ob;have hA2:=kp _ _ AS AL hA;clear pass;refine⟨_,rfl,p,C,dx,_,_,rfl,ob2,T.cl,T.n1,wfl1,_,rfl,A,_,_,_,rfl,rfl,SqL.of hA2,eq,?_⟩;refine⟨_,rfl,q,_,_,_,rfl,rfl,SqT.of hq2,rfl,_,rfl,p,C,dx,_,_,rfl,ob2,T.cl,T.n2,wfl2,S,_,rfl,DGet.k (k:=Sum.inl (sy ss z).1) hS2,_,rfl,?_⟩;rw[rS2.at_];cases ea:W2.S (sy ss z).1 with
    | none =>
     rw[Yt.mpr ea];refine iteF ?_;exact⟨ks2,kl2,_,_,_,_,(by unfold relax;rw[ea]),rfl,hS2,rS2,hL2,rL2,kp⟩
    | some a =>
     rw[Ys ea];refine iteT ⟨_,rfl,p,C,dx,_,_,rfl,ob2,T.cl,T.n2,wfl2,_,rfl,q,_,_,_,rfl,rfl,SqT.of hq2,rfl,S,_,rfl,.inl ⟨ks2,Sum.inl (sy ss z).1,.inl hS2,rfl,by rw[rS2.at_,Ys ea]⟩,_,rfl,q,_,_,_,rfl,rfl,SqT.of hq2,rfl,_,_,rfl,rfl,?_⟩
     have upd2:∀(W3:Ws),W3=⟨put W2.S (sy ss z).2.1 (a+(sy ss z).2.2),put W2.L (sy ss z).2.1 z,true⟩→∃(ks3 kl3:List (Key×V)) (v3 v4 v5:Option V) (W2:Ws),W2=W3∧([some (.ref p),some (.ref O),some (.bl true),some (.int z),some (.ref q),some (.int (a+(sy ss z).2.2))]:L2.St)=[some (.ref p),some (.ref O),some (.bl W2.f),v3,v4,v5] ∧
       (upd (upd H2 S (.dK (putK ks2 (Sum.inl (sy ss z).2.1) (.int (a+(sy ss z).2.2))))) L (.dK (putK kl2 (Sum.inl (sy ss z).2.1) (.int z)))) S=some (.dK ks3)∧DR ks3 (iS W2.S)∧(upd (upd H2 S (.dK (putK ks2 (Sum.inl (sy ss z).2.1) (.int (a+(sy ss z).2.2))))) L (.dK (putK kl2 (Sum.inl (sy ss z).2.1) (.int z)))) L=some (.dK kl3)∧DR kl3 (iS W2.L) ∧
       (∀ b o,b≠S→b≠L→H b=some o→(upd (upd H2 S (.dK (putK ks2 (Sum.inl (sy ss z).2.1) (.int (a+(sy ss z).2.2))))) L (.dK (putK kl2 (Sum.inl (sy ss z).2.1) (.int z)))) b=some o):=fun W3 e3=>by
      subst e3;exact⟨_,_,_,_,_,_,rfl,rfl,by rw[Z1 nSL,Z2],rS2.iput _ _,Z2,rL2.iput _ _,fun b o h1 h2 e=>by rw[Z1 h2,Z1 h1];exact kp b o h1 h2 e⟩
     refine⟨_,rfl,q,_,_,_,rfl,rfl,SqT.of hq2,rfl,_,rfl,p,C,dx,_,_,rfl,ob2,T.cl,T.n2,wfl2,S,_,rfl,DGet.k (k:=Sum.inl (sy ss z).2.1) hS2,_,rfl,?_⟩;rw[rS2.at_];cases eb:W2.S (sy ss z).2.1 with
     | none =>
      rw[Yt.mpr eb];refine⟨_,rfl,_,rfl,p,C,dx,_,_,rfl,ob2,T.cl,T.n2,wfl2,_,rfl,q,_,_,_,rfl,rfl,SqT.of hq2,rfl,S,_,rfl,DPut.k (k:=Sum.inl (sy ss z).2.1) hS2 (Zf (by lia)),?_⟩
      refine⟨_,rfl,_,rfl,p,C,dx,_,_,rfl,by rw[Z1 pS];exact ob2,T.cl,T.n3,wfl3,_,rfl,q,_,_,_,rfl,rfl,SqT.of (by rw[Z1 qS];exact hq2),rfl,L,_,rfl,DPut.k (k:=Sum.inl (sy ss z).2.1) (by rw[Z1 nSL.symm];exact hL2) (Zf (by lia)),?_⟩
      exact upd2 _ (by unfold relax;rw[ea];simp only;rw[eb])
     | some b =>
      rw[Ys eb];refine⟨_,rfl,_,rfl,p,C,dx,_,_,rfl,ob2,T.cl,T.n2,wfl2,_,rfl,q,_,_,_,rfl,rfl,SqT.of hq2,rfl,S,_,rfl,.inl ⟨ks2,Sum.inl (sy ss z).2.1,.inl hS2,rfl,by rw[rS2.at_,Ys eb]⟩,_,_,rfl,rfl,_,rfl,?_⟩
      refine ite2 (fun hlt=>?_) (fun hlt=>?_)
      ·have hlt:a+(sy ss z).2.2<b:=by simpa using hlt
       refine⟨_,rfl,_,rfl,p,C,dx,_,_,rfl,ob2,T.cl,T.n2,wfl2,_,rfl,q,_,_,_,rfl,rfl,SqT.of hq2,rfl,S,_,rfl,DPut.k (k:=Sum.inl (sy ss z).2.1) hS2 (Zf (by lia)),?_⟩
       refine⟨_,rfl,_,rfl,p,C,dx,_,_,rfl,by rw[Z1 pS];exact ob2,T.cl,T.n3,wfl3,_,rfl,q,_,_,_,rfl,rfl,SqT.of (by rw[Z1 qS];exact hq2),rfl,L,_,rfl,DPut.k (k:=Sum.inl (sy ss z).2.1) (by rw[Z1 nSL.symm];exact hL2) (Zf (by lia)),?_⟩
       exact upd2 _ (by unfold relax;rw[ea];simp only;rw[eb];simp only;rw[if_pos hlt])
      ·have hlt:¬ a+(sy ss z).2.2<b:=by simpa using hlt
       exact⟨ks2,kl2,_,_,_,_,(by unfold relax;rw[ea];simp only;rw[eb];simp only;rw[if_neg hlt]),rfl,hS2,rS2,hL2,rL2,kp⟩
  ·rintro σ H2 ⟨ks2,kl2,v3,v4,v5,W2,hW,rfl,hS2,rS2,hL2,rL2,kp⟩;rw[List.length_map,List.take_length] at hW;subst hW;exact⟨_,rfl,k H2 ks2 kl2 ⟨⟨dx,kp _ _ pS pL ob⟩,hS2,rS2,.inl hL2,rL2,nSL⟩ hL2 kp⟩
def spAhead(C:Addr):Sp:=fun vs H Q _=>∃(p A S L:Addr) (ss:List Say) (ks kl:List (Key×V)) (Sf Lf:Fn) (q k:Int),vs=[.ref p,.int q]∧YV C H p A S L ks kl Sf Lf∧SaysAt H A ss∧Lf q=some k∧cnt ss.length k=true∧Q (.int (sy ss k).1) H
theorem NR:Zd ["self","place"] ["self","place"] (defScope Zm):=fs7
theorem Vn{f C:Addr}{fd:FuncData}(F:Fun K "place_ahead" "Walk.place_ahead" Zm f fd)(T:WK K mg C):FnOk P w K mg base CX0 1 f fd ["self","place"] (spAhead C):=by
 refine F.ok NR (fun vs H Q E h=>?_) (fun bf A0 outer s H vs Q X hr h=>?_)
 ·obtain⟨_,_,_,_,_,_,_,_,_,_,_,rfl,_⟩:=h;rfl
 ·obtain⟨p,A,S,L,ss,ks,kl,Sf,Lf,q,k,rfl,W,hA,hq,hk,fin⟩:=h;have hu:=JO hr;obtain⟨ps,hA,hSy⟩:=hA.ex;obtain⟨⟨dx,ob⟩,hS,rS,hL,rL,nSL⟩:=W;refine⟨_,Z9 (Zj (Zx ZW (Zx YZ (Ye (pv 0) rfl) (Yk hu (Ye (pv 0) rfl) (pv 1) (fun _ _=>rfl)) (fun _ _=>rfl)) Z8 (fun _ _=>rfl))),?_⟩;obtain⟨x,ex,hx⟩:=Wi hSy hk;exact⟨_,rfl,p,C,dx,_,_,rfl,ob,T.cl,T.n1,wfl1,_,rfl,p,C,dx,_,_,rfl,ob,T.cl,T.n3,wfl3,_,rfl,L,_,rfl,.inl ⟨kl,Sum.inl q,hL,rfl,by rw[rL.at_,Ys hq]⟩,A,_,_,_,rfl,rfl,SqL.of hA,ex,x,_,_,_,rfl,rfl,SqT.of hx,rfl,fin⟩
def spBetween(C:Addr):Sp:=fun vs H Q _=>∃(p A S L:Addr) (ss:List Say) (ks kl:List (Key×V)) (Sf Lf:Fn) (one bh:Int) (n:Nat),vs=[.ref p,.int one,.int bh]∧YV C H p A S L ks kl Sf Lf∧SaysAt H A ss∧J ss Sf Lf∧back ss Lf n bh=some one∧n≤1000 ∧
 ∀(H':Hp) (d:Addr) (m:Nat),Same H H'→H d=none→m≤n→back ss Lf m bh=some one→H' d=some (.lst ((chainB ss Lf m bh).reverse.map V.int))→Q (.ref d) H'
theorem JD:Zd ["self","one","other","chain","place"] ["self","one","other"] (defScope Zs):=fs7
theorem XG{f g C:Addr}{fd gd:FuncData}(F:Fun K "chain_between" "Walk.chain_between" Zs f fd)(M:MDef K C "place_ahead" "Walk.place_ahead" Zm ["self","place"] g gd)(T:WK K mg C):FnOk P w K mg base CX0 2 f fd ["self","one","other"] (spBetween C):=by
 have GA:FnOk P w K mg base CX0 1 g gd ["self","place"] (spAhead C):=Vn M.fn T;refine F.ok JD (fun vs H Q E h=>?_) (fun bf A0 outer s H vs Q X hr h=>?_)
 ·obtain⟨_,_,_,_,_,_,_,_,_,_,_,_,rfl,_⟩:=h;rfl
 ·obtain⟨p,A,S,L,ss,ks,kl,Sf,Lf,one,bh,n,rfl,W,hA,hJ,hn,hn1,k⟩:=h;have hu:=JO hr;obtain⟨dx,ob⟩:=W.ob;refine⟨_,Z5 (Zu (i:=3) JD.nd rfl (Or.inl rfl) (Y6 Z3))
   (Z5 (Zu (i:=4) JD.nd rfl (Or.inl rfl) (pv 2))
   (Z5 (Ug PassesOwn.never (ZK Wo (pv 4) (pv 1) (nomark _))
    (Z5 (ZB (MU PySem.F.plainAttrs_list PySem.F.slot_list_append PySem.F.type_list_append Uy (pv 3) (Z0 (Yk hu (Ye (pv 0) rfl) (pv 4) (fun _ _=>rfl)) Z3)))
    (Z9 (Zu (i:=4) JD.nd rfl (Or.inl rfl) (Ui (pv 0) T.cl M.me GA hr M.bd .nil Zo (Z0 (pv 4) Z3))))))
   (Z5 (ZB (MT PySem.F.plainAttrs_list PySem.F.slot_list_reverse PySem.F.type_list_reverse XH (pv 3)))
   (Z9 (Zj (pv 3)))))),?_⟩
  refine⟨by show 0≤zF;decide,fun d hd=>?_⟩
  refine⟨_,rfl,?_⟩;refine⟨fun m σ H2=>∃(i:Nat) (q:Int),m=n-i∧i≤n∧σ=[some (.ref p),some (.int one),some (.int bh),some (.ref d),some (.int q)]∧back ss Lf i bh=some q∧H2 d=some (.lst ((chainB ss Lf i bh).map V.int))∧Same H H2,⟨_,0,bh,rfl,Nat.zero_le _,rfl,rfl,Z2,Same.up hd⟩,?_⟩;rintro m σ H2 ⟨i,q,rfl,hi,rfl,hq,hd2,s2⟩;refine⟨_,rfl,_,rfl,rfl,_,rfl,?_⟩;rw[YG];have cl:=(Jz hJ i bh q hq).2.2;refine ite2 (fun hne=>?_) (fun hne=>?_)
  ·have hne:¬ q=one:=by simpa using hne
   have hlt:i<n:=by
    rcases Nat.lt_or_ge i n with z | z
    ·exact z
    ·have:i=n:=by lia
     subst this;rw[hn] at hq;exact absurd (Option.some.inj hq).symm hne
   obtain⟨kk,hk⟩:∃ kk,Lf q=some kk:=by
    have e:n=i+(n-i):=by lia
    rw[e,Y8,hq] at hn;have e2:n-i=(n-i-1)+1:=by lia
    rw[e2] at hn;have hn:back ss Lf (n-i-1+1) q=some one:=hn;unfold back at hn;cases e3:Lf q with
    | none=>rw[e3] at hn;cases hn
    | some kk=>exact⟨kk,rfl⟩
   have hkc:=(hJ q kk hk).1;have W2:=W.same s2;obtain⟨_,_,_,hL2,rL,_⟩:=id W2;refine⟨_,fun σ' H' z=>z,?_⟩;refine⟨_,rfl,.inl ⟨rfl,_,SqL.of hd2⟩,_,rfl,p,C,dx,_,_,rfl,s2 _ _ ob,T.cl,T.n3,wfl3,_,rfl,L,_,rfl,.inl ⟨kl,Sum.inl q,hL2,rfl,by rw[rL.at_,Ys hk]⟩,d,_,_,rfl,rfl,hd2,by rw[List.length_map,cl];exact Zf (by lia),?_⟩
   have s3:Same H (upd H2 d (.lst ((chainB ss Lf i bh).map V.int++[.int kk]))):=fun b o e=>by rw[Z1 (Z4 e hd)];exact s2 b o e
   refine⟨_,rfl,p,dx,_,rfl,s3 _ _ ob,Xi,_,rfl,p,A,S,L,ss,ks,kl,Sf,Lf,q,kk,rfl,W.same s3,hA.same s3,hk,hkc,?_⟩;exact⟨n-(i+1),by lia,i+1,(sy ss kk).1,rfl,hlt,rfl,Q3 hq hk,by rw[Z2,UR i bh q kk hq hk,List.map_append];rfl,s3⟩
  ·have hne:q=one:=by simpa using hne
   subst hne;refine⟨_,rfl,.inl ⟨rfl,_,SqL.of hd2⟩,d,_,rfl,rfl,hd2,?_⟩;exact⟨_,rfl,k _ d i (fun b o e=>by rw[Z1 (Z4 e hd)];exact s2 b o e) hd hi hq (by rw[Z2,List.map_reverse])⟩
def spOnRing(C:Addr):Sp:=fun vs H Q _=>∃(p A S L:Addr) (ss:List Say) (c:Nat) (ks kl:List (Key×V)) (Sf Lf:Fn),vs=[.ref p]∧YV C H p A S L ks kl Sf Lf∧H L=some (.dK kl)∧SaysAt H A ss∧c≤1000∧Wd ss c Sf Lf ∧
 (∀(H':Hp) (q:Int) (n:Nat),Same H H'→n<c→back ss Lf (n+1) q=some q→Q (.int q) H')∧∀ H':Hp,Same H H'→(∀ q k,Lf q=some k→Grd ss Lf q)→Q .non H'
theorem Jp:Zd ["self","seen","start","place"] ["self"] (defScope Zr):=fs7
theorem Grd.back{ss:List Say}{Lf:Fn}{i:Nat}{x q:Int}(h:back ss Lf i x=some q)(g:Grd ss Lf q):Grd ss Lf x:=by
 obtain⟨n,y,h1,h2⟩:=g;exact⟨i+n,y,by rw[Y8,h];exact h1,h2⟩
structure Seen(ss:List Say)(Lf:Fn)(old:Int→Prop)(start:Int)(Nf:Fn)(i:Nat)(q:Int):Prop where
 at_:back ss Lf i start=some q
 to:∀ j,j<i→∀ x,back ss Lf j start=some x→Nf x=some start
 of_:∀ x v,Nf x=some v→(v=start∧∃ j,j<i∧back ss Lf j start=some x)∨(old v∧Grd ss Lf x)
 inn:∀ x v,Nf x=some v→Lf x≠none
theorem Gi{f g C:Addr}{fd gd:FuncData}(F:Fun K "place_on_ring" "Walk.place_on_ring" Zr f fd)(M:MDef K C "place_ahead" "Walk.place_ahead" Zm ["self","place"] g gd)(T:WK K mg C):FnOk P w K mg base CX0 2 f fd ["self"] (spOnRing C):=by
 have GA:FnOk P w K mg base CX0 1 g gd ["self","place"] (spAhead C):=Vn M.fn T;refine F.ok Jp (fun vs H Q E h=>?_) (fun bf A0 outer s H vs Q X hr h=>?_)
 ·obtain⟨_,_,_,_,_,_,_,_,_,_,rfl,_⟩:=h;rfl
 ·obtain⟨p,A,S,L,ss,c,ks,kl,Sf,Lf,rfl,W,hL,hA,hc,wd,k1,k2⟩:=h;have hu:=JO hr;obtain⟨dx,ob⟩:=W.ob;refine⟨_,Z5 (Zu (i:=1) Jp.nd rfl (Or.inl rfl) YS)
   (Z5 (Wk (YR PassesOwn.never rfl (Wm (Ye (pv 0) rfl)) (Zg (i:=2) Jp.nd rfl (Or.inl rfl))
    (Z5 (Zu (i:=3) Jp.nd rfl (Or.inl rfl) (pv 2))
    (Z5 (Ug PassesOwn.never (PW.pt (Tz (JU (Xw hu (pv 3) (Ye (pv 0) rfl))) (NY (JU (Ux hu (pv 3) (pv 1))))))
     (Z5 (Uh hu (pv 1) (pv 3) (pv 2) rfl)
     (Z9 (Zu (i:=3) Jp.nd rfl (Or.inl rfl) (Ui (pv 0) T.cl M.me GA hr M.bd .nil Zo (Z0 (pv 3) Z3))))))
    (Z9 (ZJ (ZK Uk (MR hu (pv 1) (pv 3) ⟨rfl,rfl,rfl,rfl⟩) (pv 2) (nomark _)) (Z9 (Zj (pv 3))) Zp))))))
   (Z9 (Zj YC))),?_⟩
  intro N hN;have s0:Same H (upd H N (.dK [])):=Same.up hN;have NL:L≠N:=Z4 hL hN;refine⟨_,rfl,p,C,dx,_,_,rfl,s0 _ _ ob,T.cl,T.n3,wfl3,L,kl,rfl,s0 _ _ hL,fun o=>?_⟩;have hr0:∀ o' u,¬ H L=some (.frz o' u):=fun o' u z=>by rw[hL] at z;cases z
  have f1:∀ b x,b≠L→H b=some x→(upd (upd H N (.dK [])) L (.frz o (.dK kl))) b=some x:=fun b x hb e=>by rw[Z1 hb];exact s0 _ _ e
  have f2:(upd (upd H N (.dK [])) L (.frz o (.dK kl))) L=some (.frz o (.dK kl)):=Z2;have f3:(upd (upd H N (.dK [])) L (.frz o (.dK kl))) N=some (.dK []):=by rw[Z1 NL.symm,Z2]
  generalize (upd (upd H N (.dK [])) L (.frz o (.dK kl)))=H1 at f1 f2 f3;obtain⟨ps,hA',hSy⟩:=hA.ex;have ok2:∀{H2:Hp},(∀ b x,b≠N→H1 b=some x→H2 b=some x)→YV C H2 p A S L ks kl Sf Lf∧SaysAt H2 A ss:=fun{H2} kp=>by
   have g:∀ b x,b≠L→H b=some x→H2 b=some x:=fun b x hb e=>kp b x (Z4 e hN) (f1 b x hb e);refine⟨⟨⟨dx,g _ _ (Yo ob hL (by intro z;cases z)) ob⟩,g _ _ W.ne W.hS,W.rS,.inr ⟨o,kp _ _ NL f2⟩,W.rL,W.ne⟩,⟨ps,g _ _ (Yo hA' hL (by intro z;cases z)) hA',hSy.len,fun i x s h1 h2=>?_⟩⟩
   have:=hSy.at_ i x s h1 h2
   exact g _ _ (Yo this hL (by intro z;cases z)) this
  have thawed:∀{H2:Hp},(∀ b x,b≠N→H1 b=some x→H2 b=some x)→Same H (upd H2 L (.dK kl)):=fun{H2} kp b x e=>by
   by_cases hb:b=L
   ·subst hb;rw[Z2];rw[hL] at e;exact e
   ·rw[Z1 hb];exact kp b x (Z4 e hN) (f1 b x hb e)
  have kfind:∀ k,Lf k≠none→∃(j:Nat) (pr:Key×V),kl[j]?=some pr∧keyI pr.1=k:=fun k hk=>by
   have hm:k∈keysI kl:=W.rL.keysMem.mpr fun z=>hk (Yt.mp z);obtain⟨q,hq,e⟩:=List.mem_map.mp hm;obtain⟨j,hj,ej⟩:=List.mem_iff_getElem.mp hq;exact⟨j,q,by rw[←ej];exact List.getElem?_eq_getElem hj,e⟩
  refine X4 (d:=L) (o:=o) (kvs:=kl) (fun i σ H2=>∃(kn:List (Key×V)) (Nf:Fn) (v2 v3:Option V),σ=[some (.ref p),some (.ref N),v2,v3]∧H2 N=some (.dK kn)∧DR kn (iS Nf)∧(∀ b x,b≠N→H1 b=some x→H2 b=some x) ∧
    (∀ x v,Nf x=some v→Lf x≠none∧Grd ss Lf x∧∃ j pr,j<i∧kl[j]?=some pr∧v=keyI pr.1)∧∀ j,j<i→∀ pr,kl[j]?=some pr→Grd ss Lf (keyI pr.1))
   ⟨[],fun _=>none,none,none,rfl,f3,DR.nil,(fun b x _ e=>e),(fun x v e=>nomatch e),fun j hj=>by lia⟩
   (fun i σ H2 ⟨_,_,_,_,_,_,_,kp,_⟩=>kp _ _ NL f2) ?_ ?_
  ·rintro i pr σ H2 hi ⟨kn,Nf,v2,v3,rfl,hN2,rN,kp,hof,hgr⟩;obtain⟨pe,pn⟩:=W.rL.mem (List.mem_of_getElem? hi);have ekv:kV pr.1 = .int (keyI pr.1):=by rw[pe];rfl
   rw[ekv];have hst:Lf (keyI pr.1)≠none:=fun z=>pn (Yt.mpr z);generalize hstart:keyI pr.1=start at hst;have fresh:∀ j pr',j<i→kl[j]?=some pr'→keyI pr'.1≠start:=fun j pr' hj e z=>by
    have nd:=W.rL.keysNd;have e1:(keysI kl)[j]?=some start:=by unfold keysI;rw[List.getElem?_map,e];simp[z]
    have e2:(keysI kl)[i]?=some start:=by unfold keysI;rw[List.getElem?_map,hi];simp[hstart]
    have:=(List.getElem?_inj (List.getElem?_eq_some_iff.mp e1).1 nd).mp (e1.trans e2.symm)
    lia
   refine⟨_,rfl,?_⟩;refine⟨fun m σ H3=>∃(n:Nat) (q:Int) (kn3:List (Key×V)) (Nf3:Fn),m=c-kn3.length∧n≤kn3.length∧σ=[some (.ref p),some (.ref N),some (.int start),some (.int q)]∧H3 N=some (.dK kn3)∧DR kn3 (iS Nf3)∧(∀ b x,b≠N→H1 b=some x→H3 b=some x) ∧
     Seen ss Lf (fun v=>∃ j pr,j<i∧kl[j]?=some pr∧v=keyI pr.1) start Nf3 n q,⟨_,0,start,kn,Nf,rfl,Nat.zero_le _,rfl,hN2,rN,kp,⟨rfl,(fun j hj=>by lia),fun x v e=>.inr ⟨(hof x v e).2.2,(hof x v e).2.1⟩,fun x v e=>(hof x v e).1⟩⟩,?_⟩
   rintro m σ H3 ⟨n,q,kn3,Nf3,rfl,hn,rfl,hN3,rN3,kp3,S3⟩;obtain⟨W3,hA3⟩:=ok2 kp3;obtain⟨⟨dx3,ob3⟩,_,_,hL3,rL3,_⟩:=id W3;have hrg:∀ x v,Nf3 x=some v→cnt c x=true:=fun x v e=>by
    cases e2:Lf x with
    | none=>exact absurd e2 (S3.inn x v e)
    | some y=>exact wd.lr e2
   have lN:kn3.length≤c:=rN3.len (Jb hrg);have done:∀{D:Ends},(Lf q=none∨Nf3 q≠none) →
     ((Nf3 q=some start→∀ n',n'<c→back ss Lf (n'+1) q=some q→D.rt (.int q) H3)∧((∀ x v,Nf3 x=some v→Grd ss Lf x)→Grd ss Lf start→D.nx [some (.ref p),some (.ref N),some (.int start),some (.int q)] H3)) →
     ∃ o,DGet H3 N (.int q) o∧scal (o.getD .non) (V.int start)=true∧∃ b,b=decide (o.getD .non=V.int start)∧(if b=true then D.rt (.int q) H3 else D.nx [some (.ref p),some (.ref N),some (.int start),some (.int q)] H3):=fun{D} hq ⟨d1,d2⟩=>by
    refine⟨_,.inl ⟨kn3,Sum.inl q,.inl hN3,rfl,rfl⟩,?_⟩;rw[rN3.at_];cases e:Nf3 q with
    | none =>
     rw[Yt.mpr e];refine⟨rfl,_,rfl,?_⟩;have hq:Lf q=none:=by
      rcases hq with z | z
      ·exact z
      ·exact absurd e z
     have g0:Grd ss Lf q:=⟨0,q,rfl,hq⟩;rw[if_neg (by simp)]
     refine d2 (fun x v ex=>?_) (Grd.back S3.at_ g0);rcases S3.of_ x v ex with ⟨_,j,hj,hb⟩ | ⟨_,z⟩
     ·refine Grd.back (i:=n-j) ?_ g0
      have:=S3.at_
      rw[show n=j+(n-j) by lia,Y8,hb] at this
      exact this
     ·exact z
    | some v =>
     rw[Ys e];refine⟨rfl,_,rfl,?_⟩;by_cases hv:v=start
     ·subst hv;rw[if_pos (by simp)]
      rcases S3.of_ q v e with ⟨_,j,hj,hb⟩ | ⟨⟨j,pr',hj,e1,e2⟩,_⟩
      ·refine d1 e (n-j-1) (by lia) ?_
       have:=S3.at_
       rw[show n=j+(n-j) by lia,Y8,hb] at this
       rw[show n-j-1+1=n-j by lia]
       exact this
      ·exact absurd e2.symm (fresh j pr' hj e1)
     ·rw[if_neg (by simp[hv])]
      have g0:Grd ss Lf q:=by
       rcases S3.of_ q v e with ⟨z,_⟩ | ⟨_,z⟩
       ·exact absurd z hv
       ·exact z
      refine d2 (fun x v ex=>?_) (Grd.back S3.at_ g0);rcases S3.of_ x v ex with ⟨_,j,hj,hb⟩ | ⟨_,z⟩
      ·refine Grd.back (i:=n-j) ?_ g0
       have:=S3.at_
       rw[show n=j+(n-j) by lia,Y8,hb] at this
       exact this
      ·exact z
   have ends:(Nf3 q=some start→∀ n',n'<c→back ss Lf (n'+1) q=some q→∃ d o' kvs,H3 d=some (.frz o' (.dK kvs))∧(∀ o u,¬ H d=some (.frz o u))∧Q (.int q) (upd H3 d (.dK kvs))):=fun _ n' h1 h2 =>
    ⟨L,o,kl,kp3 _ _ NL f2,hr0,k1 _ q n' (thawed kp3) h1 h2⟩
   have nxt:(∀ x v,Nf3 x=some v→Grd ss Lf x)→Grd ss Lf start→∃(kn:List (Key×V)) (Nf:Fn) (v2 v3:Option V),([some (.ref p),some (.ref N),some (.int start),some (.int q)]:L2.St)=[some (.ref p),some (.ref N),v2,v3]∧H3 N=some (.dK kn)∧DR kn (iS Nf)∧(∀ b x,b≠N→H1 b=some x→H3 b=some x) ∧
     (∀ x v,Nf x=some v→Lf x≠none∧Grd ss Lf x∧∃ j pr,j<i+1∧kl[j]?=some pr∧v=keyI pr.1)∧∀ j,j<i+1→∀ pr,kl[j]?=some pr→Grd ss Lf (keyI pr.1):=fun g1 g2=>by
    refine⟨kn3,Nf3,_,_,rfl,hN3,rN3,kp3,fun x v e=>⟨S3.inn x v e,g1 x v e,?_⟩,fun j hj pr' e=>?_⟩
    ·rcases S3.of_ x v e with ⟨z,_⟩ | ⟨⟨j,pr',hj,e1,e2⟩,_⟩
     ·exact⟨i,pr,by lia,hi,by rw[z,hstart]⟩
     ·exact⟨j,pr',by lia,e1,e2⟩
    ·by_cases z:j=i
     ·subst z;rw[hi] at e;cases e;rw[hstart];exact g2
     ·exact hgr j (by lia) pr' e
   have fin:=fun hh=>done (D:={ nx:=fun σ H=>∃(kn:List (Key×V)) (Nf:Fn) (v2 v3:Option V),σ=[some (.ref p),some (.ref N),v2,v3]∧H N=some (.dK kn)∧DR kn (iS Nf)∧(∀ b x,b≠N→H1 b=some x→H b=some x) ∧
     (∀ x v,Nf x=some v→Lf x≠none∧Grd ss Lf x∧∃ j pr,j<i+1∧kl[j]?=some pr∧v=keyI pr.1)∧∀ j,j<i+1→∀ pr,kl[j]?=some pr→Grd ss Lf (keyI pr.1),rt:=fun v H4=>∃ d o' kvs,H4 d=some (.frz o' (.dK kvs))∧(∀ o u,¬ H d=some (.frz o u))∧Q v (upd H4 d (.dK kvs)) }) hh ⟨ends,nxt⟩
   refine⟨_,rfl,_,rfl,p,C,dx3,_,_,rfl,ob3,T.cl,T.n3,wfl3,L,_,rfl,.inl ⟨kl,Sum.inl q,hL3,rfl,rfl⟩,_,rfl,?_⟩;rw[rL3.at_];cases eL:Lf q with
   | none =>
    rw[Yt.mpr eL];obtain⟨oo,q1,q0,bb,q2,q3⟩:=fin (.inl eL);subst q2;exact⟨_,rfl,N,rfl,.inl ⟨kn3,.inl hN3⟩,_,rfl,oo,q1,_,rfl,q0,_,rfl,ite2 (fun z=>⟨_,rfl,by rw[if_pos z] at q3;exact q3⟩) (fun z=>by rw[if_neg z] at q3;exact q3)⟩
   | some kk =>
    rw[Ys eL];refine⟨_,rfl,_,rfl,N,_,rfl,.inl ⟨kn3,Sum.inl q,.inl hN3,rfl,rfl⟩,_,rfl,?_⟩;rw[rN3.at_];cases eN:Nf3 q with
    | some v =>
     rw[Ys eN];obtain⟨oo,q1,q0,bb,q2,q3⟩:=fin (.inr (by rw[eN];simp))
     subst q2;exact⟨_,rfl,N,rfl,.inl ⟨kn3,.inl hN3⟩,_,rfl,oo,q1,_,rfl,q0,_,rfl,ite2 (fun z=>⟨_,rfl,by rw[if_pos z] at q3;exact q3⟩) (fun z=>by rw[if_neg z] at q3;exact q3)⟩
    | none =>
     rw[Yt.mpr eN];have hlen:(putK kn3 (Sum.inl q) (V.int start)).length=kn3.length+1:=rN3.put_new _ (Yt.mpr eN);have rN4:=rN3.iput q start;have hrg4:∀ x v,put Nf3 q start x=some v→cnt c x=true:=fun x v e=>by
      by_cases z:x=q
      ·subst z;exact wd.lr eL
      ·rw[ZO z] at e;exact hrg x v e
     have lN4:kn3.length+1≤c:=by rw[←hlen];exact rN4.len (Jb hrg4)
     have kp4:∀ b x,b≠N→H1 b=some x→(upd H3 N (.dK (putK kn3 (Sum.inl q) (V.int start)))) b=some x:=fun b x hb e=>by rw[Z1 hb];exact kp3 b x hb e
     obtain⟨W4,hA4⟩:=ok2 kp4;obtain⟨⟨dx4,ob4⟩,_⟩:=id W4;refine⟨_,fun σ' H' z=>z,?_⟩;refine⟨_,rfl,_,rfl,_,rfl,N,_,rfl,DPut.k (k:=Sum.inl q) hN3 (Zf (by lia)),?_⟩
     refine⟨_,rfl,p,dx4,_,rfl,ob4,Xi,_,rfl,p,A,S,L,ss,ks,kl,Sf,Lf,q,kk,rfl,W4,hA4,eL,(wd.j q kk eL).1,?_⟩;refine⟨c-(kn3.length+1),by lia,n+1,(sy ss kk).1,_,put Nf3 q start,by rw[hlen],by rw[hlen];lia,rfl,Z2,rN4,kp4,⟨Q3 S3.at_ eL,fun j hj x e=>?_,fun x v e=>?_,fun x v e=>?_⟩⟩
     ·by_cases z:j=n
      ·subst z;rw[S3.at_] at e;cases e;exact Zy
      ·have:=S3.to j (by lia) x e
       by_cases z2:x=q
       ·subst z2;exact Zy
       ·rw[ZO z2];exact this
     ·by_cases z:x=q
      ·subst z;rw[Zy] at e;cases e;exact .inl ⟨rfl,n,by lia,S3.at_⟩
      ·rw[ZO z] at e;rcases S3.of_ x v e with ⟨y,j,hj,hb⟩ | y
       ·exact .inl ⟨y,j,by lia,hb⟩
       ·exact .inr y
     ·by_cases z:x=q
      ·subst z;rw[eL];simp
      ·rw[ZO z] at e;exact S3.inn x v e
  ·rintro σ H2 ⟨kn,Nf,v2,v3,rfl,hN2,rN,kp,hof,hgr⟩;refine⟨L,o,kl,kp _ _ NL f2,hr0,?_⟩;refine k2 _ (thawed kp) fun q kk e=>?_;obtain⟨j,pr,h1,h2⟩:=kfind q (by rw[e];simp)
   rw[←h2];exact hgr j (List.getElem?_eq_some_iff.mp h1).1 pr h1
structure BK(K:Frag)(mg:Str→Option Value)(C C0 f:Addr):Prop where
 e:ExcI K C f
 n:Yn K C "ring"
 b:Tg K C0
 at_:mg "Broken"=some (.ref C)
 at0:mg "SayError"=some (.ref C0)
def spBroken(C:Addr):Sp:=fun vs H Q _=>∃(e r:Addr) (ns:List Int),vs=[.ref e,.ref r]∧H e=some (.ext (exφ e C none))∧H r=some (.lst (ns.map V.int)) ∧
 ∀(H':Hp) (l dx:Addr),H l=none→H dx=none→l≠dx→H' l=some (.lst (ns.map V.int))→H' dx=some (.xd [("ring",.ref l)])→H' e=some (.ext (exφ e C (some dx)))→(∀ b o,b≠e→H b=some o→H' b=some o)→Q .non H'
theorem Mz:Zd ["self","ring"] ["self","ring"] (defScope Zq):=fs7
theorem VQ{c:Bool}{f C C0:Addr}{fd:FuncData}(F:Fun K "__init__" "Broken.__init__" Zq f fd)(T:BK K mg C C0 f)(G:G1 K mg):FnOk P w K mg base (CXm c) 1 f fd ["self","ring"] (spBroken C):=by
 refine F.ok Mz (fun vs H Q E h=>?_) (fun bf A0 outer s H vs Q X hr h=>?_)
 ·obtain⟨_,_,_,rfl,_⟩:=h;rfl
 ·obtain⟨e,r,ns,rfl,he,hrr,k⟩:=h;refine⟨_,Z5 (ZB (QQ (by rfl) T.at0 T.b (Z0 (pv 0) (Z0 YB Z3))))
   (Z9 (NZ (pv 0) (Gf Qs (by rfl) G.list boot_list (Z0 (pv 1) Z3)) rfl)),?_⟩
  refine⟨_,rfl,e,C,f,_,rfl,he,T.e,(by show 1≤zF;decide),?_⟩
  refine⟨_,rfl,r,_,rfl,.inl (SqL.of hrr),fun l hl=>?_⟩;have el:e≠l:=Z4 he hl;refine⟨_,rfl,e,C,f,rfl,by rw[Z1 el];exact he,T.e,T.n,fun dx hdx=>?_⟩
  have nld:l≠dx:=fun z=>by subst z;rw[Z2] at hdx;cases hdx
  have hdx0:H dx=none:=by rw[Z1 nld.symm] at hdx;exact hdx
  have edx:e≠dx:=Z4 he hdx0;exact k _ l dx hl hdx0 nld (by rw[Z1 el.symm,Z1 nld,Z2]) (by rw[Z1 edx.symm,Z2]) Z2 fun b o hb q=>by rw[Z1 hb,Z1 (Z4 q hdx0),Z1 (Z4 q hl)];exact q
theorem G8{ss:List Say}{w:Ws}{k:Int}(h:w.S (sy ss k).2.1≠none)(p:Int):(relax ss w k).S p≠none↔w.S p≠none:=by
 unfold relax;cases ea:w.S (sy ss k).1 with
 | none=>exact Iff.rfl
 | some a =>
  cases eb:w.S (sy ss k).2.1 with
  | none=>exact absurd eb h
  | some b =>
   simp only;split
   ·by_cases q:p=(sy ss k).2.1
    ·subst q;simp only;rw[Zy,eb];simp
    ·simp only;rw[ZO q]
   ·exact Iff.rfl
theorem GX{ss:List Say}{c:Int}:∀(order:List Int) (w:Ws),(∀ k∈order,w.S (sy ss k).2.1≠none)→∀ p,(goAll ss order w).S p≠none↔w.S p≠none:=by
 intro order
 induction order with
 | nil=>intro w _ p;exact Iff.rfl
 | cons k r ih =>
  intro w h p;have h1:=G8 (h k List.mem_cons_self);show(goAll ss r (relax ss w k)).S p≠none↔_;rw[ih (relax ss w k) (fun j hj=>(h1 _).mpr (h j (List.mem_cons_of_mem _ hj))) p,h1 p]
structure Rg(ss:List Say)(ns:List Int):Prop where
 wk:∃ p,walk ss ns p=some p
 neg:sumC ss ns<0
 ne:ns≠[]
 len:ns.length≤500
def Qc(CB:Addr):Sp:=fun vs H Q E=>∃(a O:Addr) (ss:List Say) (c:Nat) (ord:List Int),vs=[.ref a,.ref O]∧SaysAt H a ss∧H O=some (.lst (ord.map V.int))∧ss.length≤400∧c≤400∧ss.all (inside c)=true∧(∀ k∈ord,cnt ss.length k=true)∧(∀ k,cnt ss.length k=true→k∈ord) ∧
 (∀(H':Hp) (S:Addr) (ks:List (Key×V)) (Sf:Fn),Same H H'→H S=none→H' S=some (.dK ks)→DR ks (iS Sf)→(∀ k,cnt ss.length k=true→Tight ss Sf k)→(∀ k,cnt ss.length k=true→Sf (sy ss k).1≠none∧Sf (sy ss k).2.1≠none)→(∃ Lf,Wd ss c Sf Lf)→(∀ q v,Sf q=some v→v≤0)→Q (.ref S) H') ∧
 (∀(H':Hp) (dx l:Addr) (ns:List Int),Same H H'→H l=none→H' dx=some (.xd [("ring",.ref l)])→H' l=some (.lst (ns.map V.int))→Rg ss ns→E (.ref CB) (some dx) H')
theorem Qf:Zd ["sayings","order","walk","place"] ["sayings","order"] (defScope ZR):=fs7
structure NB(K:Frag)(mg:Str→Option Value)(C f0:Addr)(d0:FuncData)(f1:Addr)(d1:FuncData)(f2:Addr)(d2:FuncData)(f3:Addr)(d3:FuncData)(f4:Addr)(d4:FuncData):Prop where
 k:WK K mg C
 mK:Mk K C f0
 i:Fun K "__init__" "Walk.__init__" ZF f0 d0
 bi:Binds K d0 ["self","sayings","starts"] []
 go:MDef K C "go_along" "Walk.go_along" ZE ["self","order"] f1 d1
 ah:MDef K C "place_ahead" "Walk.place_ahead" Zm ["self","place"] f2 d2
 cb:MDef K C "chain_between" "Walk.chain_between" Zs ["self","one","other"] f3 d3
 pr:MDef K C "place_on_ring" "Walk.place_on_ring" Zr ["self"] f4 d4
theorem N2{f C f0 f1 f2 f3 f4 CB C0 fB:Addr}{fd d0 d1 d2 d3 d4 dB:FuncData}(D:Def K mg "least_sums" ZR ["sayings","order"] f fd)(WF:NB K mg C f0 d0 f1 d1 f2 d2 f3 d3 f4 d4)(T:BK K mg CB C0 fB)(FB:Fun K "__init__" "Broken.__init__" Zq fB dB)(bB:Binds K dB ["self","ring"] [])(G:G1 K mg):FnOk P w K mg base (CXr P w) 4 f fd ["sayings","order"] (Qc CB):=by
 have GI:FnOk P w K mg base CX0 1 f0 d0 ["self","sayings","starts"] (spWInit C):=MZ WF.i WF.k;have GG:FnOk P w K mg base CX0 1 f1 d1 ["self","order"] (spGo C):=RB WF.go.fn WF.k;have GA:FnOk P w K mg base CX0 1 f2 d2 ["self","place"] (spAhead C):=Vn WF.ah.fn WF.k;have GC:FnOk P w K mg base CX0 2 f3 d3 ["self","one","other"] (spBetween C):=XG WF.cb.fn WF.ah WF.k;have GR:FnOk P w K mg base CX0 2 f4 d4 ["self"] (spOnRing C):=Gi WF.pr.fn WF.ah WF.k;have GB:FnOk P w K mg base CX0 1 fB dB ["self","ring"] (spBroken CB):=VQ FB T G;refine D.fn.okR Qf (fun vs H Q E h=>?_) (fun bf A0 outer s H vs Q E hr h=>?_)
 ·obtain⟨_,_,_,_,_,rfl,_⟩:=h;rfl
 ·obtain⟨a,O,ss,c,ord,rfl,ha,hO,hz,hc,hin,hord,hall,k1,k2⟩:=h;have hu:=JO hr;have hr1:Room 1 _:=hr.mono (by decide)
  have hr2:Room 2 _:=hr.mono (by decide)
  refine⟨_,Z5 (Zu (i:=2) Qf.nd rfl (Or.inl rfl) (D8 WF.mK GI hr2 (by rfl) WF.k.at_ WF.bi .nil Zo (Z0 (pv 0) (Z0 (Yi JY
    (ZC (XN:=["sayings","order","walk","place"]) (outer:=defScope ZR) (N:=["saying"]) (cap:=[none]) (by exact⟨rfl,by decide +kernel,by decide +kernel,by decide +kernel,.own .nil,by decide +kernel⟩) rfl (Zt (pv 0))
     (fun _ _ _ _ _ _=>Zg (i:=0) (show(["saying"]:List Str).Nodup by decide +kernel) rfl (Or.inl rfl)) (fun _ _ _ _ _ _=>Zv) (fun _ _ _ _ _ _=>Zx (ixT (K:=K)) (pv 0) Z8 (fun _ _=>rfl)))
    (ZC (XN:=["sayings","order","walk","place"]) (outer:=defScope ZR) (N:=["saying"]) (cap:=[none]) (by exact⟨rfl,by decide +kernel,by decide +kernel,by decide +kernel,.own .nil,by decide +kernel⟩) rfl (Zt (pv 0))
     (fun _ _ _ _ _ _=>Zg (i:=0) (show(["saying"]:List Str).Nodup by decide +kernel) rfl (Or.inl rfl)) (fun _ _ _ _ _ _=>Zv) (fun _ _ _ _ _ _=>Zx (ixT (K:=K)) (pv 0) Z8 (fun _ _=>rfl)))) Z3))))
   (Z5 (Ug PassesOwn.leaving (ZI (Ui (pv 2) WF.k.cl WF.go.me GG hr1 WF.go.bd .nil Zo (Z0 (pv 1) Z3)))
    (Z5 (Zu (i:=3) Qf.nd rfl (Or.inl rfl) (MP (pv 2) WF.k.cl WF.pr.me GR hr2 WF.pr.bd .nil Zo))
    (Z9 (ZJ (JU (Db (pv 3)))
     (Z9 (Ga T.e ZY rfl (QN T.e GB hr2 (by rfl) T.at_ bB Zo (Z0 (Yi JY
      (Ui (pv 2) WF.k.cl WF.cb.me GC hr2 WF.cb.bd .nil Zo (Z0 (pv 3) (Z0 (Ui (pv 2) WF.k.cl WF.ah.me GA hr1 WF.ah.bd .nil Zo (Z0 (pv 3) Z3)) Z3)))
      (Y6 (Z0 (Yk hu (Ye (pv 2) rfl) (pv 3) (fun _ _=>rfl)) Z3))) Z3)))) Zp))))
   (Z9 (Zj (Ye (pv 2) rfl)))),?_⟩
  obtain⟨ps,ha',hSy⟩:=ha.ex;have hlen:(ps.map V.ref).length=ss.length:=by rw[List.length_map,hSy.len]
  have one:∀{g:Say→Int} {H2:Hp} {n:Int},Same H H2→∀(pick:∀ s:Say,atI [V.int s.1,V.int s.2.1,V.int s.2.2] n=some (V.int (g s))) (i:Nat) (x:V) (σc:L2.St) (Hc:Hp) (Yes:V→L2.St→Hp→Prop),(ps.map V.ref)[i]?=some x→Same H2 Hc→(∃ v,σc=[v]) →
    (∀ σ2 H4 v,(∃ v,σ2=[v])→Same Hc H4→((ss[i]?).map fun s=>V.int (g s))=some v→Yes v σ2 H4)→∃ v,(σc.set 0 (some x))[0]?=some (some v)∧∃ p xs i v1,v = .ref p∧V.int n = .int i∧SqT K Hc p xs∧atI xs i=some v1∧Yes v1 (σc.set 0 (some x)) Hc:=fun{g H2 n} sm pick i x σc Hc Yes hx sc ⟨v,hv⟩ yes=>by
   rw[List.getElem?_map] at hx;cases ep:ps[i]? with
   | none=>rw[ep] at hx;cases hx
   | some p =>
    rw[ep] at hx;cases hx;subst hv;have hil:i<ss.length:=by rw[←hSy.len];exact(List.getElem?_eq_some_iff.mp ep).1
    have es:ss[i]?=some ss[i]:=List.getElem?_eq_getElem hil;exact⟨_,rfl,p,_,_,_,rfl,rfl,SqT.of (sc _ _ (sm _ _ (hSy.at_ i p _ ep es))),pick _,yes _ _ _ ⟨_,rfl⟩ (Same.refl _) (by rw[es];rfl)⟩
  refine⟨_,rfl,?_⟩;refine⟨_,rfl,a,rfl,⟨_,SqL.of ha'⟩,fun q1 hq1=>?_⟩;refine Yg (outs:=fun i=>(ss[i]?).map fun s=>V.int s.1) (fun σ=>∃ v,σ=[v]) hq1 (SqL.of ha') (by rw[hlen];exact Zf (by lia)) ⟨none,rfl⟩ (fun i x σc Hc Yes No hx sm _ hv yes no=>one (g:=fun s=>s.1) (n:=0) (Same.refl _) (fun _=>rfl) i x σc Hc Yes hx sm hv yes) (fun H1 s1 hD1=>?_)
  rw[hlen,UE] at hD1;refine⟨_,rfl,a,rfl,⟨_,SqL.of (s1 _ _ ha')⟩,fun q2 hq2=>?_⟩;refine Yg (outs:=fun i=>(ss[i]?).map fun s=>V.int s.2.1) (fun σ=>∃ v,σ=[v]) hq2 (SqL.of (s1 _ _ ha')) (by rw[hlen];exact Zf (by lia)) ⟨none,rfl⟩ (fun i x σc Hc Yes No hx sm _ hv yes no=>one (g:=fun s=>s.2.1) (n:=1) s1 (fun _=>rfl) i x σc Hc Yes hx sm hv yes) (fun H2 s2 hD2=>?_)
  rw[hlen,UE] at hD2;refine⟨q1,q2,_,_,rfl,rfl,s2 _ _ hD1,hD2,by rw[List.length_map,List.length_map];exact Nat.le_of_lt (Zf (by lia)),fun B hB=>?_⟩
  have s3:Same H (upd H2 B (.lst (ss.map (fun s=>V.int s.1)++ss.map fun s=>V.int s.2.1))):=(s1.trans s2).trans (Same.up hB);have hBB:(upd H2 B (.lst (ss.map (fun s=>V.int s.1)++ss.map fun s=>V.int s.2.1))) B=some (.lst (((ss.map fun s=>s.1)++ss.map fun s=>s.2.1).map V.int)):=by
   rw[Z2,List.map_append,List.map_map,List.map_map];rfl
  generalize upd H2 B (.lst (ss.map (fun s=>V.int s.1)++ss.map fun s=>V.int s.2.1))=H3 at s3 hBB;intro p dx hp0 hdx0 ndp;have s4:Same H3 (upd (upd H3 dx (.own p)) p (.ins C dx [])):=fun b o e=>by rw[Z1 (Z4 e hp0),Z1 (Z4 e hdx0)];exact e
  have hbs:∀ k∈(ss.map fun s=>s.1)++ss.map (fun s=>s.2.1),cnt c k=true:=fun k hk=>by
   rcases List.mem_append.mp hk with z | z
   all_goals
    obtain⟨s,hs,rfl⟩:=List.mem_map.mp z
    have:=List.all_eq_true.mp hin s hs
    unfold inside at this;rw[Bool.and_eq_true] at this
    first | exact this.1 | exact this.2
  refine⟨p,dx,a,B,_,c,rfl,Z2,s4 _ _ hBB,hbs,by lia,fun H5 S L ks Sf hS0 hL0 W5 hL5 st5 kp5=>⟨rfl,?_⟩⟩
  have hS3:H3 S=none:=s4.free hS0;have hL3:H3 L=none:=s4.free hL0;have s5:Same H H5:=fun b o e=>kp5 b o (Z4 (s3 _ _ e) hp0) (s4 _ _ (s3 _ _ e));have hSH:H S=none:=s3.free hS3;have hLH:H L=none:=s3.free hL3;have ends0:∀ k,cnt ss.length k=true→Sf (sy ss k).1≠none∧Sf (sy ss k).2.1≠none:=fun k hk=>by
   have hm:sy ss k∈ss:=List.mem_of_getElem? (V7 hk);have e1:=st5.to (sy ss k).1 (List.mem_append_left _ (List.mem_map.mpr ⟨_,hm,rfl⟩));have e2:=st5.to (sy ss k).2.1 (List.mem_append_right _ (List.mem_map.mpr ⟨_,hm,rfl⟩));rw[e1,e2];simp
  have wd0:Wd ss c Sf (fun _=>none):=⟨(fun p k e=>nomatch e),(fun p n e=>by unfold back at e;cases e),fun q v _ e=>(st5.of_ q v e).1,fun q v e=>hbs q (st5.of_ q v e).2⟩
  refine⟨fun m σ H6=>∃(ks6 kl6:List (Key×V)) (Sf6 Lf6:Fn) (v3:Option V),m=meas c (-((c*bigNum ss:Nat):Int)) 0 Sf6∧σ=[some (.ref a),some (.ref O),some (.ref p),v3]∧YV C H6 p a S L ks6 kl6 Sf6 Lf6∧H6 L=some (.dK kl6)∧Wd ss c Sf6 Lf6∧Same H H6 ∧
    (∀ k,cnt ss.length k=true→Sf6 (sy ss k).1≠none∧Sf6 (sy ss k).2.1≠none)∧(∀ q v,Sf6 q=some v→v≤0),⟨_,ks,[],Sf,_,none,rfl,rfl,W5,hL5,wd0,s5,ends0,fun q v e=>by rw[(st5.of_ q v e).1];exact Int.le_refl _⟩,?_⟩
  rintro m σ H6 ⟨ks6,kl6,Sf6,Lf6,v3,rfl,rfl,W6,hL6,wd6,s6,ends6,np6⟩;obtain⟨⟨dx6,ob6⟩,_⟩:=id W6;have pass:=Vx hin ⟨Sf6,Lf6,false⟩ wd6 ord hord;have dom:=GX (ss:=ss) (c:=c) ord ⟨Sf6,Lf6,false⟩ (fun k hk=>(ends6 k (hord k hk)).2);refine⟨_,rfl,p,dx6,_,rfl,ob6,Tk,_,rfl,p,a,S,L,O,ss,c,ks6,kl6,Sf6,Lf6,ord,rfl,W6,hL6,ha.same s6,s6 _ _ hO,hord,hin,by lia,wd6,fun H7 ks7 kl7 W7 hL7 kp7=>?_⟩
  have s7:Same H H7:=fun b o e=>kp7 b o (Z4 e hSH) (Z4 e hLH) (s6 _ _ e);obtain⟨⟨dx7,ob7⟩,_⟩:=id W7;generalize hw7:goAll ss ord ⟨Sf6,Lf6,false⟩=w7 at pass dom W7;have ends7:∀ k,cnt ss.length k=true→w7.S (sy ss k).1≠none∧w7.S (sy ss k).2.1≠none:=fun k hk=>⟨(dom _).mpr (ends6 k hk).1,(dom _).mpr (ends6 k hk).2⟩;have np7:∀ q v,w7.S q=some v→v≤0:=fun q v e=>by
   have:Sf6 q≠none:=(dom q).mp (by rw[e];simp)
   cases e6:Sf6 q with
   | none=>exact absurd e6 this
   | some v6 =>
    obtain⟨b',eb,hle⟩:=pass.down q v6 e6;rw[e] at eb;cases eb;exact Int.le_trans hle (np6 q v6 e6)
  refine⟨_,rfl,?_⟩;cases hf:w7.f with
  | false =>
   obtain⟨e7,tight⟩:=pass.still hf;refine iteF ?_;refine⟨_,rfl,p,C,dx7,_,_,rfl,ob7,WF.k.cl,WF.k.n2,wfl2,?_⟩;have eS:w7.S=Sf6:=by rw[e7]
   rw[eS] at W7;exact k1 H7 S ks7 Sf6 s7 hSH W7.hS W7.rS (fun k hk=>tight k (hall k hk)) ends6 ⟨Lf6,wd6⟩ np6
  | true =>
   refine iteT ⟨_,fun σ' H' z=>z,?_⟩;have less:Less Sf6 w7.S:=by
    rcases pass.less hf with z | z
    ·cases z
    ·exact z
   refine⟨_,rfl,p,dx7,_,rfl,ob7,Tj,p,a,S,L,ss,c,ks7,kl7,w7.S,w7.L,rfl,W7,hL7,ha.same s7,by lia,pass.wd,fun H8 q n s8 hn hq=>?_,fun H8 s8 grd=>?_⟩
   ·-- a ring
    have s8':Same H H8:=s7.trans s8;have W8:=W7.same s8;obtain⟨⟨dx8,ob8⟩,_,_,hL8,rL8,_⟩:=id W8;refine⟨_,rfl,_,rfl,iteT ?_⟩;obtain⟨kk,hk⟩:∃ kk,w7.L q=some kk:=by
     cases e:w7.L q with
     | none=>unfold back at hq;rw[e] at hq;cases hq
     | some kk=>exact⟨kk,rfl⟩
    have hq':back ss w7.L n (sy ss kk).1=some q:=by unfold back at hq;rw[hk] at hq;exact hq
    have hkc:=(pass.wd.j q kk hk).1;refine⟨_,rfl,p,dx8,_,rfl,ob8,Tl,_,rfl,_,rfl,p,dx8,_,rfl,ob8,Xi,_,rfl,p,a,S,L,ss,ks7,kl7,w7.S,w7.L,q,kk,rfl,W8,ha.same s8',hk,hkc,?_⟩;refine⟨p,a,S,L,ss,ks7,kl7,w7.S,w7.L,q,(sy ss kk).1,n,rfl,W8,ha.same s8',pass.wd.j,hq',by lia,fun H9 d mm s9 hd0 hm hb9 hd9=>?_⟩
    have s9':Same H H9:=s8'.trans s9;have W9:=W8.same s9;obtain⟨⟨dx9,ob9⟩,_,_,hL9,rL9,_⟩:=id W9;refine⟨_,rfl,p,C,dx9,_,_,rfl,ob9,WF.k.cl,WF.k.n3,wfl3,_,rfl,L,_,rfl,.inl ⟨kl7,Sum.inl q,hL9,rfl,by rw[rL9.at_,Ys hk]⟩,by show 1≤zF;decide,fun l1 hl1=>?_⟩
    have bring:back ss w7.L (mm+1) q=some q:=by unfold back;rw[hk];exact hb9
    obtain⟨r1,r2,r3⟩:=Jz pass.wd.j (mm+1) q q bring;have ering:(chainB ss w7.L (mm+1) q).reverse=(chainB ss w7.L mm (sy ss kk).1).reverse++[kk]:=by
     have:chainB ss w7.L (mm+1) q=kk::chainB ss w7.L mm (sy ss kk).1:=by simp only[chainB,hk]
     rw[this,List.reverse_cons]
    have hlen9:(chainB ss w7.L mm (sy ss kk).1).reverse.length≤400:=by
     have:=congrArg List.length ering
     rw[List.length_append,List.length_reverse,r3] at this;have e1:[kk].length=1:=rfl;lia
    have u1:=Same.up (o:=.lst [V.int kk]) hl1;refine⟨d,l1,_,_,rfl,rfl,u1 _ _ hd9,Z2,by rw[List.length_map];exact Nat.le_of_lt (Zf (by show _+1≤1000;lia)),fun l2 hl2=>?_⟩
    have u2:=Same.up (o:=.lst (((chainB ss w7.L mm (sy ss kk).1).reverse.map V.int)++[V.int kk])) hl2;have s10:Same H (upd (upd H9 l1 (.lst [V.int kk])) l2 (.lst (((chainB ss w7.L mm (sy ss kk).1).reverse.map V.int)++[V.int kk]))):=(s9'.trans u1).trans u2;have hl2':(upd (upd H9 l1 (.lst [V.int kk])) l2 (.lst (((chainB ss w7.L mm (sy ss kk).1).reverse.map V.int)++[V.int kk]))) l2=some (.lst ((chainB ss w7.L (mm+1) q).reverse.map V.int)):=by
     rw[Z2,ering,List.map_append];rfl
    generalize (upd (upd H9 l1 (.lst [V.int kk])) l2 (.lst (((chainB ss w7.L mm (sy ss kk).1).reverse.map V.int)++[V.int kk])))=H10 at s10 hl2';refine⟨by show 1≤zF;decide,fun e he=>?_⟩
    have he0:H e=none:=s10.free he;have u3:=Same.up (o:=.ext (exφ e CB none)) he;refine⟨e,l2,_,rfl,Z2,u3 _ _ hl2',fun H11 l dy hl0 hdy0 nld h1 h2 h3 kp11=>⟨rfl,?_⟩⟩;have s11:Same H H11:=fun b o z=>kp11 b o (Z4 z he0) (u3 _ _ (s10 _ _ z));refine⟨e,some dy,rfl,h3,he0,?_⟩;have nl:l≠e:=fun z=>by subst z;rw[Z2] at hl0;cases hl0
    have nd:dy≠e:=fun z=>by subst z;rw[Z2] at hdy0;cases hdy0
    refine k2 _ dy l ((chainB ss w7.L (mm+1) q).reverse) (fun b o z=>by rw[Jn (Z4 z he0)];exact s11 b o z) (s10.free (u3.free hl0)) (by rw[Jn nd];exact h2) (by rw[Jn nl];exact h1) ⟨⟨q,r1⟩,?_,?_,?_⟩
    ·rw[r2];exact pass.wd.r q mm bring
    ·rw[ering];simp
    ·rw[List.length_reverse,r3];lia
   ·-- none
    refine⟨_,rfl,_,rfl,iteF ?_⟩;have low:∀ q v,w7.S q=some v→-((c*bigNum ss:Nat):Int)≤v:=fun q v e=>TV pass.wd grd e;refine⟨_,Dm pass.down less pass.wd.rg low np7,ks7,kl7,w7.S,w7.L,_,rfl,rfl,W7.same s8,s8 _ _ hL7,pass.wd,s7.trans s8,ends7,np7⟩
def NoH (ss:List Say):Prop:=∀ Sf:Fn,(∀ k,cnt ss.length k=true→Tight ss Sf k)→(∀ k,cnt ss.length k=true→Sf (sy ss k).1≠none∧Sf (sy ss k).2.1≠none)→False
def Brk (Pt CB:Addr)(v:V)(c:Int)(H:Hp)(E:XK):Prop:=∃(a:Addr) (ss:List Say) (n:Nat),v = .ref a∧c=n∧n≤400∧SaysAt H a ss∧ss.length<64∧ss.all (inside n)=true∧NoH ss∧ZP H Pt QL ∧
 ∀(H':Hp) (dx l:Addr),SameN H H'→ZP H' Pt QL→H' dx=some (.xd [("ring",.ref l)])→E (.ref CB) (some dx) H'
def Mr(cC cS:Addr):Sp:=fun vs H _ E=>∃(u v:V),vs=[u,v]∧Ref cC cS u v H E fun _=>False
theorem Rv:Zd ["count","sayings","sums","broken"] ["count","sayings"] (defScope JF):=fs7
theorem TL{f fs cC cS:Addr}{fd ds:FuncData}(D:Def K mg "heights" JF ["count","sayings"] f fd)(DS:Def K mg "check_sayings" Yr ["count","sayings"] fs ds)(GS:FnOk P w K mg base (CXr P w) 4 fs ds ["count","sayings"] (Yw cC cS)):FnOk P w K mg base (CXr P w) 5 f fd ["count","sayings"] (Mr cC cS):=by
 refine D.fn.okR Rv (fun vs H Q E h=>?_) (fun bf A outer s H vs Q E hr h=>?_)
 ·obtain⟨_,_,rfl,_⟩:=h;rfl
 ·obtain⟨u,v,rfl,hR⟩:=h;have hr4:Room 4 _:=hr.mono (by decide)
  refine⟨_,Z5 (ZB (Za GS hr4 (by rfl) DS.at_ DS.fn.kp DS.bd .nil Zn (Z0 (pv 0) (Z0 (pv 1) Z3)))) JI,?_⟩
  exact⟨_,rfl,_,rfl,u,v,rfl,hR.1,hR.2.1,hR.2.2.1,fun c eu hc=>⟨(hR.2.2.2 c eu hc).1,fun hs=>((hR.2.2.2 c eu hc).2 hs).elim⟩⟩
structure WD(P:Program)(w:World)(K:Frag)(mg:Str→Option Value)(base:Heap)(Pt CB fl fo:Addr)(dl do_:FuncData):Prop where
 L:Def K mg "least_sums" ZR ["sayings","order"] fl dl
 gL:FnOk P w K mg base (CXr P w) 4 fl dl ["sayings","order"] (Qc CB)
 O:Def K mg "walking_order" Zk ["sayings"] fo do_
 gO:FnOk P w K mg base CX0 3 fo do_ ["sayings"] (Us Pt)
def Ut(Pt CB cC cS cP:Addr):Sp:=fun vs H _ E=>∃(u v p q:V),vs=[u,v,p,q]∧Ref cC cS u v H E fun c=>Kn H p∧Kn H q∧(cntV c p=false→E (.ref cP) none H)∧(cntV c p=true→cntV c q=false→E (.ref cP) none H)∧(cntV c p=true→cntV c q=true→Brk Pt CB v c H E)
theorem Uw:Zd ["count","sayings","one","other","order","sums","leading","walk"] ["count","sayings","one","other"] (defScope JG):=fs7
theorem Qg:Zd ["count","sayings","one","other","order","sums","pair","leading","ground","there","back"] ["count","sayings","one","other"] (defScope UW):=fs7
section
variable {f fs fp fl fo Pt CB cC cS cP:Addr}{fd ds dp dl do_:FuncData}
theorem XF(D:Def K mg "follows" JG ["count","sayings","one","other"] f fd)(DS:Def K mg "check_sayings" Yr ["count","sayings"] fs ds)(GS:FnOk P w K mg base (CXr P w) 4 fs ds ["count","sayings"] (Yw cC cS))(DP:Def K mg "check_places" JH ["count","one","other"] fp dp)(GP:FnOk P w K mg base (CXr P w) 3 fp dp ["count","one","other"] (Ud cP))(WW:WD P w K mg base Pt CB fl fo dl do_):FnOk P w K mg base (CXr P w) 5 f fd ["count","sayings","one","other"] (Ut Pt CB cC cS cP):=by
 refine D.fn.okR Uw (fun vs H Q E h=>?_) (fun bf A outer s H vs Q E hr h=>?_)
 ·obtain⟨_,_,_,_,rfl,_⟩:=h;rfl
 ·obtain⟨u,v,p,q,rfl,hR⟩:=h;have hr4:Room 4 _:=hr.mono (by decide)
  have hr3:Room 3 _:=hr.mono (by decide)
  refine⟨_,Z5 (ZB (Za GS hr4 (by rfl) DS.at_ DS.fn.kp DS.bd .nil Zn (Z0 (pv 0) (Z0 (pv 1) Z3))))
   (Z5 (ZB (Za GP hr3 (by rfl) DP.at_ DP.fn.kp DP.bd .nil Zn (Z0 (pv 0) (Z0 (pv 2) (Z0 (pv 3) Z3)))))
   (Z5 (Zu (i:=4) Uw.nd rfl (Or.inl rfl) (Za WW.gO hr3 (by rfl) WW.O.at_ WW.O.fn.kp WW.O.bd .nil Zo (Z0 (pv 1) Z3)))
   (Z5 (Zu (i:=5) Uw.nd rfl (Or.inl rfl) (Za WW.gL hr4 (by rfl) WW.L.at_ WW.L.fn.kp WW.L.bd .nil Zn (Z0 (pv 1) (Z0 (pv 4) Z3)))) JI))),?_⟩
  refine⟨_,rfl,_,rfl,u,v,rfl,hR.1,hR.2.1,hR.2.2.1,fun c eu hc=>⟨(hR.2.2.2 c eu hc).1,fun hs=>?_⟩⟩;obtain⟨kp,kq,k1,k2,k3⟩:=(hR.2.2.2 c eu hc).2 hs;subst eu;refine⟨_,rfl,_,rfl,_,rfl,c,p,q,rfl,kp,kq,k1,k2,fun hp hq=>?_⟩;obtain⟨a,ss,n,rfl,rfl,hn,ha,hz,hin,noH,hL,k⟩:=k3 hp hq;refine⟨_,rfl,a,ss,n,rfl,ha,hz,by lia,hin,hL,fun H1 O ord s1 hL1 hO0 hO ho1 ho2 hol=>?_⟩
  exact⟨_,rfl,_,rfl,a,O,ss,n,ord,rfl,ha.sameN s1,hO,by lia,hn,hin,ho1,ho2,fun H2 S ks Sf s2 hS0 hS rS tight ends hw np=>(noH Sf tight ends).elim,fun H2 dx l ns s2 hl0 hdx hl ring=>k H2 dx l (s1.trans s2.n) (hL1.same s2) hdx⟩
theorem N3(D:Def K mg "fixed" UW ["count","sayings","one","other"] f fd)(DS:Def K mg "check_sayings" Yr ["count","sayings"] fs ds)(GS:FnOk P w K mg base (CXr P w) 4 fs ds ["count","sayings"] (Yw cC cS))(DP:Def K mg "check_places" JH ["count","one","other"] fp dp)(GP:FnOk P w K mg base (CXr P w) 3 fp dp ["count","one","other"] (Ud cP))(WW:WD P w K mg base Pt CB fl fo dl do_):FnOk P w K mg base (CXr P w) 5 f fd ["count","sayings","one","other"] (Ut Pt CB cC cS cP):=by
 refine D.fn.okR Qg (fun vs H Q E h=>?_) (fun bf A outer s H vs Q E hr h=>?_)
 ·obtain⟨_,_,_,_,rfl,_⟩:=h;rfl
 ·obtain⟨u,v,p,q,rfl,hR⟩:=h;have hr4:Room 4 _:=hr.mono (by decide)
  have hr3:Room 3 _:=hr.mono (by decide)
  refine⟨_,Z5 (ZB (Za GS hr4 (by rfl) DS.at_ DS.fn.kp DS.bd .nil Zn (Z0 (pv 0) (Z0 (pv 1) Z3))))
   (Z5 (ZB (Za GP hr3 (by rfl) DP.at_ DP.fn.kp DP.bd .nil Zn (Z0 (pv 0) (Z0 (pv 2) (Z0 (pv 3) Z3)))))
   (Z5 (Zu (i:=4) Qg.nd rfl (Or.inl rfl) (Za WW.gO hr3 (by rfl) WW.O.at_ WW.O.fn.kp WW.O.bd .nil Zo (Z0 (pv 1) Z3)))
   (Z5 (Zu (i:=5) Qg.nd rfl (Or.inl rfl) (Za WW.gL hr4 (by rfl) WW.L.at_ WW.L.fn.kp WW.L.bd .nil Zn (Z0 (pv 1) (Z0 (pv 4) Z3)))) JI))),?_⟩
  refine⟨_,rfl,_,rfl,u,v,rfl,hR.1,hR.2.1,hR.2.2.1,fun c eu hc=>⟨(hR.2.2.2 c eu hc).1,fun hs=>?_⟩⟩;obtain⟨kp,kq,k1,k2,k3⟩:=(hR.2.2.2 c eu hc).2 hs;subst eu;refine⟨_,rfl,_,rfl,_,rfl,c,p,q,rfl,kp,kq,k1,k2,fun hp hq=>?_⟩;obtain⟨a,ss,n,rfl,rfl,hn,ha,hz,hin,noH,hL,k⟩:=k3 hp hq;refine⟨_,rfl,a,ss,n,rfl,ha,hz,by lia,hin,hL,fun H1 O ord s1 hL1 hO0 hO ho1 ho2 hol=>?_⟩
  exact⟨_,rfl,_,rfl,a,O,ss,n,ord,rfl,ha.sameN s1,hO,by lia,hn,hin,ho1,ho2,fun H2 S ks Sf s2 hS0 hS rS tight ends hw np=>(noH Sf tight ends).elim,fun H2 dx l ns s2 hl0 hdx hl ring=>k H2 dx l (s1.trans s2.n) (hL1.same s2) hdx⟩
end
def JR(Pt CB cC cS cN:Addr):Sp:=fun vs H _ E=>∃(u v p:V),vs=[u,v,p]∧Ref cC cS u v H E fun c=>Kn H p∧∃ xs,lstV H v=some xs∧xs.length≤1000∧(cntV xs.length p=false→E (.ref cN) none H)∧(cntV xs.length p=true→Brk Pt CB v c H E)
theorem JT:Zd ["count","sayings","at","order","sums","others","lower","upper","leading","ground","walk"] ["count","sayings","at"] (defScope Jf):=fs7
theorem QR{f fs fc fl fo Pt CB cC cS cN:Addr}{fd ds dc dl do_:FuncData}(D:Def K mg "needless" Jf ["count","sayings","at"] f fd)(DS:Def K mg "check_sayings" Yr ["count","sayings"] fs ds)(GS:FnOk P w K mg base (CXr P w) 4 fs ds ["count","sayings"] (Yw cC cS))(DC:Def K mg "is_counted" Yy ["count","value"] fc dc)(GC:FnOk P w K mg base CX0 2 fc dc ["count","value"] spCounted)(XN:XC K mg "BadNumber" cN)(WW:WD P w K mg base Pt CB fl fo dl do_)(G:G1 K mg):FnOk P w K mg base (CXr P w) 5 f fd ["count","sayings","at"] (JR Pt CB cC cS cN):=by
 refine D.fn.okR JT (fun vs H Q E h=>?_) (fun bf A outer s H vs Q E hr h=>?_)
 ·obtain⟨_,_,_,rfl,_⟩:=h;rfl
 ·obtain⟨u,v,p,rfl,hR⟩:=h;have hr4:Room 4 _:=hr.mono (by decide)
  have hr3:Room 3 _:=hr.mono (by decide)
  have hr2:Room 2 _:=hr.mono (by decide)
  refine⟨_,Z5 (ZB (Za GS hr4 (by rfl) DS.at_ DS.fn.kp DS.bd .nil Zn (Z0 (pv 0) (Z0 (pv 1) Z3))))
   (Z5 (ZJ (ZM (ZI (Za GC hr2 (by rfl) DC.at_ DC.fn.kp DC.bd .nil Zo (Z0 (Zh Ya (by rfl) G.len PySem.boot_len (Z0 (pv 1) Z3)) (Z0 (pv 2) Z3))))) (Z9 (Y9 XN.p.ex ZY rfl (Yj XN.p (by rfl) XN.at_ (Z0 YB Z3)))) Zp)
   (Z5 (Zu (i:=3) JT.nd rfl (Or.inl rfl) (Za WW.gO hr3 (by rfl) WW.O.at_ WW.O.fn.kp WW.O.bd .nil Zo (Z0 (pv 1) Z3)))
   (Z5 (Zu (i:=4) JT.nd rfl (Or.inl rfl) (Za WW.gL hr4 (by rfl) WW.L.at_ WW.L.fn.kp WW.L.bd .nil Zn (Z0 (pv 1) (Z0 (pv 3) Z3)))) JI))),?_⟩
  refine⟨_,rfl,_,rfl,u,v,rfl,hR.1,hR.2.1,hR.2.2.1,fun c eu hc=>⟨(hR.2.2.2 c eu hc).1,fun hs=>?_⟩⟩;obtain⟨kp,xs,hx,hxl,k1,k3⟩:=(hR.2.2.2 c eu hc).2 hs;subst eu;obtain⟨a0,rfl,ha0⟩:=V0 hx;refine⟨_,rfl,a0,_,rfl,.inl (SqL.of ha0),_,rfl,_,p,rfl,kp,_,rfl,?_⟩;cases hp:cntV xs.length p with
  | false=>exact iteT (raised (fun x z=>z) (k1 hp))
  | true =>
   refine iteF ?_;obtain⟨a,ss,n,ea,rfl,hn,ha,hz,hin,noH,hL,k⟩:=k3 hp;cases ea;refine⟨_,rfl,a0,ss,n,rfl,ha,hz,by lia,hin,hL,fun H1 O ord s1 hL1 hO0 hO ho1 ho2 hol=>?_⟩
   exact⟨_,rfl,_,rfl,a0,O,ss,n,ord,rfl,ha.sameN s1,hO,by lia,hn,hin,ho1,ho2,fun H2 S ks Sf s2 hS0 hS rS tight ends hw np=>(noH Sf tight ends).elim,fun H2 dx l ns s2 hl0 hdx hl ring=>k H2 dx l (s1.trans s2.n) (hL1.same s2) hdx⟩
def lev (S:Fn)(c:Nat):List Int:=(List.range c).map fun(i:Nat)=>(S (i:Int)).getD 0
def spLevel:Sp:=fun vs H Q _=>∃(c:Nat) (S:Addr) (ks:List (Key×V)) (Sf:Fn),vs=[.int c,.ref S]∧c≤1000∧H S=some (.dK ks)∧DR ks (iS Sf)∧∀(H':Hp) (d:Addr),Same H H'→H d=none→H' d=some (.lst ((lev Sf c).map V.int))→Q (.ref d) H'
theorem NQ:Zd ["count","sums"] ["count","sums"] (defScope JE):=fs7
theorem QS{f:Addr}{fd:FuncData}(D:Def K mg "level" JE ["count","sums"] f fd)(G:G1 K mg):FnOk P w K mg base CX0 1 f fd ["count","sums"] spLevel:=by
 refine D.fn.ok NQ (fun vs H Q E h=>?_) (fun bf A0 outer s H vs Q X hr h=>?_)
 ·obtain⟨_,_,_,_,rfl,_⟩:=h;rfl
 ·obtain⟨c,S,ks,Sf,rfl,hc,hS,rS,k⟩:=h;have hu:=JO hr;refine⟨_,Z9 (Zj (ZC (XN:=["count","sums"]) (outer:=defScope JE) (N:=["place","sums"]) (cap:=[none,some 1])
    (by exact⟨rfl,by decide +kernel,by decide +kernel,by decide +kernel,.own (.cap rfl rfl rfl .nil),by decide +kernel⟩) rfl (VN (by rfl) G.range (Z0 (pv 0) Z3))
    (fun _ _ _ _ _ _=>Zg (i:=0) (show(["place","sums"]:List Str).Nodup by decide +kernel) rfl (Or.inl rfl)) (fun _ _ _ _ _ _=>Zv)
    (fun _ _ _ _ _ _=>QP hu (pv 1) (pv 0) Z8 ⟨rfl,rfl,rfl,rfl⟩))),?_⟩
  refine⟨_,rfl,_,rfl,by lia,by lia,fun q hq=>?_⟩
  refine XX (n:=(c:Int).toNat) (outs:=fun(i:Nat)=>some (V.int ((Sf (i:Int)).getD 0))) (fun σ=>∃ v,σ=[v,some (.ref S)]) hq (by rw[Int.toNat_natCast];exact Zf hc) ⟨none,rfl⟩ (fun i σc Hc Yes No hi sm _ ⟨v,hv⟩ yes no=>?_) (fun Hc sm hD=>?_)
  ·subst hv;refine⟨_,rfl,S,rfl,.inl ⟨ks,.inl (sm _ _ hS)⟩,_,rfl,_,.inl ⟨ks,Sum.inl (i:Int),.inl (sm _ _ hS),rfl,rfl⟩,?_⟩;refine yes _ _ _ ⟨_,rfl⟩ (Same.refl _) ?_;rw[rS.at_];unfold iS;cases Sf (i:Int) <;> rfl
  ·refine k Hc q sm hq ?_;rw[hD,Int.toNat_natCast];unfold lev;rw[List.map_map];rw[show(fun(i:Nat)=>some (V.int ((Sf (i:Int)).getD 0)))=some ∘ (V.int ∘ fun(i:Nat)=>(Sf (i:Int)).getD 0) from rfl,List.filterMap_eq_map]
theorem XY{K:Frag}{a:Addr}{xs:List V}{Rel:Nat→V→Hp→Prop}{g:TG}{tt:TT}{te:TE}{H1:Hp}{σ0:L2.St}{D:Addr}{Q:VK}(SG:L2.St→Prop)(hD:H1 D=none)(hq:SqL K H1 a xs)(hn:xs.length<zF)(s0:SG σ0)(mono:∀ i v H H',(∀ b o,H b=some o→b≠D→H' b=some o)→Rel i v H→Rel i v H')(step:∀(i:Nat) (x:V) (σc:L2.St) (Hc:Hp) (Yes:V→L2.St→Hp→Prop) (No:L2.St→Hp→Prop),xs[i]?=some x→Same H1 Hc→Hc D≠none→SG σc →
   (∀ σ2 H4 v,SG σ2→Same Hc H4→Rel i v H4→Yes v σ2 H4) →
   g x σc Hc fun σ2 H2=>tt σ2 H2 fun b H3=>if b=true then te σ2 H3 fun v H4=>Yes v σ2 H4 else No σ2 H3)(fin:∀ Hc vs,Same H1 Hc→vs.length=xs.length→(∀(i:Nat) v,vs[i]?=some v→Rel i v Hc)→Hc D=some (.lst vs)→Q (.ref D) Hc):
  JB (Itl K a) g tt te σ0 H1 D Q:=by
 have sD:∀{Hc:Hp} {o:HO},Same H1 Hc→Same H1 (upd Hc D o):=fun{Hc o} e b u q=>by rw[Z1 (Z4 q hD)];exact e b u q
 refine⟨fun i m acc σc Hc=>m=xs.length-i∧i≤xs.length∧acc.length=i∧(∀(j:Nat) v,acc[j]?=some v→Rel j v Hc)∧Same H1 Hc∧Hc D=some (.lst acc)∧SG σc,⟨xs.length,rfl,Nat.zero_le _,rfl,fun j v e=>by simp at e,sD (Same.refl _),Z2,s0⟩,?_⟩
 rintro i m acc σc Hc ⟨rfl,hi,hl,hrel,sm,hDc,sg⟩;by_cases hlt:i<xs.length
 ·refine .inr ⟨⟨xs,xs[i],sm.seq hq,by simp[hlt]⟩,fun x H' y=>?_⟩
  obtain⟨rfl,y⟩:=y;have ex:xs[i]?=some x:=y xs (sm.seq hq);refine step i x σc _ _ _ ex sm (by rw[hDc];simp) sg (fun σ2 H4 v s2 k r=>?_)
  refine⟨k _ _ hDc,by lia,xs.length-(i+1),by lia,rfl,hlt,by rw[List.length_append,hl];rfl,fun j v' e=>?_,sD (sm.trans k),Z2,s2⟩
  by_cases hj:j<acc.length
  ·rw[List.getElem?_append_left hj] at e;exact mono j v' _ _ (fun b o q hb=>by rw[Z1 hb];exact k b o q) (hrel j v' e)
  ·rw[List.getElem?_append_right (by lia)] at e
   cases hk:j-acc.length with
   | zero =>
    rw[hk] at e;have e:some v=some v':=e;cases e
    have:j=i:=by lia
    subst this;exact mono _ v H4 _ (fun b o q hb=>by rw[Z1 hb];exact q) r
   | succ n=>rw[hk] at e;simp at e
 ·have e:i=xs.length:=by lia
  subst e;exact .inl ⟨⟨xs,sm.seq hq,Nat.le_refl _⟩,fin Hc acc sm hl hrel hDc⟩
def trn (s:Say):Say:=(s.2.1,s.1,s.2.2)
theorem Tm{c:Int}{ss:List Say}(h:ss.all (inside c)=true):(ss.map trn).all (inside c)=true:=by
 rw[List.all_map];refine List.all_eq_true.mpr fun s hs=>?_
 have:=List.all_eq_true.mp h s hs
 unfold inside at this;rw[Bool.and_eq_true] at this;show(cnt c s.2.1&&cnt c s.1)=true;rw[this.1,this.2];rfl
theorem GT{H H':Hp}{x C:Addr}{d:Option Addr}(h:Held false H x C d)(s:Same H H'):Held false H' x C d:=by
 obtain⟨a0,tb,cs,hx,hc⟩:=h;exact⟨a0,tb,cs,s _ _ hx,hc.elim .inl fun z=>nomatch z.1⟩
theorem G7{H2:Hp}{D1:Addr}{ss:List Say}{vs:List V}{g:Say→Say}(hDc:H2 D1=some (.lst vs))(hvl:vs.length=ss.length)(hrel:∀(i:Nat) v,vs[i]?=some v→∃ t sx,v = .ref t∧t≠D1∧ss[i]?=some sx∧H2 t=some (VG (g sx))):SaysAt H2 D1 (ss.map g):=by
 have:∃ qs:List Addr,vs=qs.map V.ref∧JA H2 qs (ss.map g):=by
  refine⟨vs.map fun v=>match v with | .ref t=>t | _=>0,?_,?_,?_⟩
  ·rw[List.map_map];refine List.ext_getElem? fun i=>?_;rw[List.getElem?_map];cases ev:vs[i]? with
   | none=>rfl
   | some v=>obtain⟨t,_,rfl,_⟩:=hrel i v ev;rfl
  ·rw[List.length_map,List.length_map,hvl]
  ·intro i pp s e1 e2;rw[List.getElem?_map] at e1 e2;cases ev:vs[i]? with
   | none=>rw[ev] at e1;cases e1
   | some v =>
    obtain⟨t,sx,rfl,_,e3,e4⟩:=hrel i v ev;rw[ev] at e1;cases e1;rw[e3] at e2;cases e2;exact e4
 obtain⟨qs,e1,e2⟩:=this;exact⟨qs,by rw[hDc,e1],e2⟩
structure BX(K:Frag)(C:Addr):Prop where
 look:Yu K C
 hd:hasDictIn K C=true
 m:ExcM K C C
def VJ(Pt CB cC cS cN:Addr):Sp:=fun vs H _ E=>∃(u v e:V),vs=[u,v,e]∧Ref cC cS u v H E fun c=>Kn H e∧(isW e=false→E (.ref cN) none H)∧(isW e=true→∃(a:Addr) (ss:List Say) (n:Nat),v = .ref a∧c=n∧n≤400∧SaysAt H a ss∧ss.length<64∧ss.all (inside n)=true∧NoH ss∧NoH (ss.map trn)∧ZP H Pt QL ∧
 ∀(H':Hp) (dx l:Addr),SameN H H'→ZP H' Pt QL→H' dx=some (.xd [("ring",.ref l)])→E (.ref CB) (some dx) H')
theorem Tw:Zd ["count","sayings","top"] ["count","sayings","top"] (defScope J6):=fs7
theorem Mu:Zd ["count","sayings","bottom","turned","sums","broken"] ["count","sayings","bottom"] (defScope J5):=fs7
theorem Dd{f fc fl fv fo Pt CB cC cS cN:Addr}{fd dc dl dv do_:FuncData}(D:Def K mg "highest" J6 ["count","sayings","top"] f fd)(DC:Def K mg "check_end" Yx ["count","sayings","end"] fc dc)(GC:FnOk P w K mg base (CXr P w) 5 fc dc ["count","sayings","end"] (V8 cC cS cN))(WW:WD P w K mg base Pt CB fl fo dl do_)(DV:Def K mg "level" JE ["count","sums"] fv dv)(G:G1 K mg):FnOk P w K mg base (CXq true P w) 6 f fd ["count","sayings","top"] (VJ Pt CB cC cS cN):=by
 have GV:FnOk P w K mg base CX0 1 fv dv ["count","sums"] spLevel:=QS DV G;refine D.fn.okR Tw (fun vs H Q E h=>?_) (fun bf A0 outer s H vs Q E hr h=>?_)
 ·obtain⟨_,_,_,rfl,_⟩:=h;rfl
 ·obtain⟨u,v,e,rfl,hR⟩:=h;have hr1:Room 1 _:=hr.mono (by decide)
  have hr3:Room 3 _:=hr.mono (by decide)
  have hr4:Room 4 _:=hr.mono (by decide)
  have hr5:Room 5 _:=hr.mono (by decide)
  refine⟨_,Z5 (ZB (Za GC hr5 (by rfl) DC.at_ DC.fn.kp DC.bd .nil Zn (Z0 (pv 0) (Z0 (pv 1) (Z0 (pv 2) Z3)))))
   (Z9 (Zj (ZC (XN:=["count","sayings","top"]) (outer:=defScope J6) (N:=["height","top"]) (cap:=[none,some 2])
    (by exact⟨rfl,by decide +kernel,by decide +kernel,by decide +kernel,.own (.cap rfl rfl rfl .nil),by decide +kernel⟩) rfl
    (Zt (Za GV hr1 (by rfl) DV.at_ DV.fn.kp DV.bd .nil Zo (Z0 (pv 0) (Z0 (Za WW.gL hr4 (by rfl) WW.L.at_ WW.L.fn.kp WW.L.bd .nil Zn (Z0 (pv 1) (Z0 (Za WW.gO hr3 (by rfl) WW.O.at_ WW.O.fn.kp WW.O.bd .nil Zo (Z0 (pv 1) Z3)) Z3))) Z3))))
    (fun _ _ _ _ _ _=>Zg (i:=0) (show(["height","top"]:List Str).Nodup by decide +kernel) rfl (Or.inl rfl)) (fun _ _ _ _ _ _=>Zv)
    (fun _ _ _ _ _ _=>Yi Js (pv 1) (pv 0))))),?_⟩
  refine⟨_,rfl,_,rfl,_,rfl,u,v,e,rfl,hR.1,hR.2.1,hR.2.2.1,fun c eu hc=>⟨(hR.2.2.2 c eu hc).1,fun hs=>?_⟩⟩;obtain⟨ke,k1,k2⟩:=(hR.2.2.2 c eu hc).2 hs;refine⟨ke,k1,fun he=>?_⟩;obtain⟨a,ss,n,rfl,rfl,hn,ha,hz,hin,noH,noT,hL,k⟩:=k2 he;subst eu;refine⟨_,rfl,_,rfl,_,rfl,a,ss,n,rfl,ha,hz,by lia,hin,hL,fun H1 O ord s1 hL1 hO0 hO ho1 ho2 hol=>?_⟩
  exact⟨a,O,ss,n,ord,rfl,ha.sameN s1,hO,by lia,hn,hin,ho1,ho2,fun H2 S ks Sf s2 hS0 hS rS tight ends hw np=>(noH Sf tight ends).elim,fun H2 dx l ns s2 hl0 hdx hl ring=>k H2 dx l (s1.trans s2.n) (hL1.same s2) hdx⟩
theorem TJ{f fc fl fv fo CB C0 fB Pt cC cS cN:Addr}{fd dc dl dv do_ dB:FuncData}(D:Def K mg "lowest" J5 ["count","sayings","bottom"] f fd)(DC:Def K mg "check_end" Yx ["count","sayings","end"] fc dc)(GC:FnOk P w K mg base (CXr P w) 5 fc dc ["count","sayings","end"] (V8 cC cS cN))(DL:Def K mg "least_sums" ZR ["sayings","order"] fl dl)(GL:FnOk P w K mg base (CXr P w) 4 fl dl ["sayings","order"] (Qc CB))(DV:Def K mg "level" JE ["count","sums"] fv dv)(DO:Def K mg "walking_order" Zk ["sayings"] fo do_)(GO:FnOk P w K mg base CX0 3 fo do_ ["sayings"] (Us Pt))(T:BK K mg CB C0 fB)(TX:BX K CB)(FB:Fun K "__init__" "Broken.__init__" Zq fB dB)(bB:Binds K dB ["self","ring"] [])(rev:mg "reversed"=none)(G:G1 K mg):FnOk P w K mg base (CXq true P w) 6 f fd ["count","sayings","bottom"] (VJ Pt CB cC cS cN):=by
 have GV:FnOk P w K mg base CX0 1 fv dv ["count","sums"] spLevel:=QS DV G;have GB:FnOk P w K mg base (CXm false) 1 fB dB ["self","ring"] (spBroken CB):=VQ FB T G;refine D.fn.okR Mu (fun vs H Q E h=>?_) (fun bf A0 outer s H vs Q E hr h=>?_)
 ·obtain⟨_,_,_,rfl,_⟩:=h;rfl
 ·obtain⟨u,v,e,rfl,hR⟩:=h;have hr5:Room 5 _:=hr.mono (by decide)
  have hr1:Room 1 _:=hr.mono (by decide)
  have hr2:Room 2 _:=hr.mono (by decide)
  have hr3:Room 3 _:=hr.mono (by decide)
  have hr4:Room 4 _:=hr.mono (by decide)
  refine⟨_,Z5 (ZB (Za GC hr5 (by rfl) DC.at_ DC.fn.kp DC.bd .nil Zn (Z0 (pv 0) (Z0 (pv 1) (Z0 (pv 2) Z3)))))
   (Z5 (JV (j:=3) (XN:=["count","sayings","bottom","turned","sums","broken"]) (outer:=defScope J5) (N:=["saying"]) (cap:=[none])
     (by exact⟨rfl,by decide +kernel,by decide +kernel,by decide +kernel,.own .nil,by decide +kernel⟩) rfl Mu.nd rfl (Or.inl rfl) (Zt (pv 1))
     (fun _ _ _ _ _ _=>Zg (i:=0) (show(["saying"]:List Str).Nodup by decide +kernel) rfl (Or.inl rfl)) (fun _ _ _ _ _ _=>Zv)
     (fun _ _ _ _ _ _=>MM (Z0 (Zx (ixT (K:=K)) (pv 0) Z8 (fun _ _=>rfl)) (Z0 (Zx (ixT (K:=K)) (pv 0) Z8 (fun _ _=>rfl)) (Z0 (Zx (ixT (K:=K)) (pv 0) Z8 (fun _ _=>rfl)) Z3)))))
   (Z5 (D0 (i:=5) (j:=4) (QK GL hr4 (by rfl) DL.at_ DL.fn.kp DL.bd (Z0 (pv 3) (Z0 (Za GO hr3 (by rfl) DO.at_ DO.fn.kp DO.bd .nil Zo (Z0 (pv 3) Z3)) Z3)))
     Mu.nd rfl (Or.inl rfl) rfl rfl (by rfl) T.at_ (fun x=>Z9 (Gb T.e rfl rfl (QN T.e GB ⟨hr2.dp,hr2.un⟩ (by rfl) T.at_ bB Zo (Z0 (Xv (by rfl) G.list (by rfl) rev (D7 (pv 5) rfl)) Z3)))))
   (Z9 (Zj (ZC (XN:=["count","sayings","bottom","turned","sums","broken"]) (outer:=defScope J5) (N:=["depth","bottom"]) (cap:=[none,some 2])
    (by exact⟨rfl,by decide +kernel,by decide +kernel,by decide +kernel,.own (.cap rfl rfl rfl .nil),by decide +kernel⟩) rfl
    (Zt (Za GV hr1 (by rfl) DV.at_ DV.fn.kp DV.bd .nil Zo (Z0 (pv 0) (Z0 (pv 4) Z3))))
    (fun _ _ _ _ _ _=>Zg (i:=0) (show(["depth","bottom"]:List Str).Nodup by decide +kernel) rfl (Or.inl rfl)) (fun _ _ _ _ _ _=>Zv)
    (fun _ _ _ _ _ _=>Yi Vl (pv 1) (pv 0))))))),?_⟩
  refine⟨_,rfl,_,rfl,_,rfl,u,v,e,rfl,hR.1,hR.2.1,hR.2.2.1,fun c eu hc=>⟨(hR.2.2.2 c eu hc).1,fun hs=>?_⟩⟩;obtain⟨ke,k1,k2⟩:=(hR.2.2.2 c eu hc).2 hs;refine⟨ke,k1,fun he=>?_⟩;obtain⟨a,ss,c,rfl,rfl,hc,ha,hz,hin,noH,noT,hL,k⟩:=k2 he;subst eu;obtain⟨ps,ha',hS⟩:=ha.ex;have hlen:(ps.map V.ref).length=ss.length:=by rw[List.length_map,hS.len]
  refine⟨_,rfl,a,rfl,⟨_,SqL.of ha'⟩,fun D1 hD1=>?_⟩;refine XY (Rel:=fun i v Hc=>∃ t sx,v = .ref t∧t≠D1∧ss[i]?=some sx∧Hc t=some (VG (trn sx))) (fun σ=>∃ v1,σ=[v1]) hD1 (SqL.of ha') (by rw[hlen];exact Zf (by lia)) ⟨none,rfl⟩
   (fun i v Hc Hd kp ⟨t,sx,e1,e2,e3,e4⟩=>⟨t,sx,e1,e2,e3,kp _ _ e4 e2⟩) (fun i x σc Hc Yes No hx sm hDn ⟨v1,hv⟩ yes=>?_) (fun H0 vs s0 hvl hrel hDc=>?_)
  ·rw[List.getElem?_map] at hx;cases ep:ps[i]? with
   | none=>rw[ep] at hx;cases hx
   | some pp =>
    rw[ep] at hx;cases hx;subst hv;have hil:i<ss.length:=by rw[←hS.len];exact(List.getElem?_eq_some_iff.mp ep).1
    have es:ss[i]?=some ss[i]:=List.getElem?_eq_getElem hil;have hpp:=sm _ _ (hS.at_ i pp _ ep es);refine⟨_,rfl,pp,_,_,_,rfl,rfl,SqT.of hpp,rfl,_,rfl,pp,_,_,_,rfl,rfl,SqT.of hpp,rfl,_,rfl,pp,_,_,_,rfl,rfl,SqT.of hpp,rfl,by show 3≤zF;decide,fun t ht=>?_⟩
    refine yes _ _ _ ⟨_,rfl⟩ (Same.up ht) ⟨t,_,rfl,fun z=>?_,es,Z2⟩;subst z;exact hDn ht
  have hT:SaysAt H0 D1 (ss.map trn):=G7 hDc (by rw[hvl,hlen]) hrel
  have hTl:(ss.map trn).length<64:=by rw[List.length_map];exact hz
  have hTi:=Tm hin;generalize hss:ss.map trn=st at hT hTl hTi;refine⟨_,rfl,_,rfl,D1,st,c,rfl,hT,hTl,by lia,hTi,hL.same s0,fun H1 O ord s1 hL1 hO0 hO ho1 ho2 hol=>?_⟩
  have n1:SameN H H1:=s0.n.trans s1;refine⟨D1,O,st,c,ord,rfl,hT.sameN s1,hO,by lia,hc,hTi,ho1,ho2,fun H2 S ks Sf s2 hS0 hS2 rS tight ends hw np=>(noT Sf (by rw[hss];exact tight) (by rw[hss];exact ends)).elim,fun H2 dx l ns s2 hl0 hdx hl ring=>?_⟩
  ·refine⟨CB,rfl,TX.m,fun x H3 hx0 oth held=>?_⟩;have s3:Same H2 H3:=fun b o e=>by rw[oth b (Z4 e hx0)];exact e
   refine⟨_,rfl,x,CB,dx,_,_,rfl,⟨_,held⟩,s3 _ _ hdx,rfl,TX.look,TX.hd,T.n,l,_,rfl,SqL.of (s3 _ _ hl),fun b hb=>?_⟩;have u1:=Same.up (o:=.lst (ns.map V.int).reverse) hb;refine⟨by show 1≤zF;decide,fun ex he=>?_⟩
   have u2:=Same.up (o:=.ext (exφ ex CB none)) he;have hbb:=u2 _ _ (show(upd H3 b (.lst (ns.map V.int).reverse)) b=some (.lst (ns.reverse.map V.int)) by rw[Z2,List.map_reverse])
   refine⟨ex,b,ns.reverse,rfl,Z2,hbb,fun H4 l4 d4 hl4 hd4 nld h1 h2 h3 kp4=>⟨rfl,?_⟩⟩;have he3:H3 ex=none:=u1.free he;have s4:Same H3 H4:=fun b o z=>kp4 b o (Z4 z he3) (u2 _ _ (u1 _ _ z));have nN:SameN H H3:=n1.trans (s2.trans s3).n;have nl:l4≠ex:=fun z=>by subst z;rw[Z2] at hl4;cases hl4
   have nd:d4≠ex:=fun z=>by subst z;rw[Z2] at hd4;cases hd4
   have s5:Same H3 (unt H4 ex):=fun b o z=>by rw[Jn (Z4 z he3)];exact s4 b o z
   have hl3:H3 l4=none:=u1.free (u2.free hl4);refine⟨ex,some d4,CB,some dx,rfl,h3,nN.tb _ he3,(GT held s4),?_⟩;exact k _ d4 l4 (nN.trans s5.n) (hL1.same ((s2.trans s3).trans s5)) (by rw[Jn nd];exact h2)
structure Cs where
 (Pt CB cC cS cP cN:Addr)
def Ask (Z:Cs)(d:Int)(u v p q:V)(H:Hp)(Q:VK)(E:XK):Prop:=0≤d∧d≤8 ∧
 (d=0→Qd Z.cC Z.cS Z.cN [u,v,p] H Q E)∧(d=1→Uc Z.cC Z.cS Z.cP Z.cN [u,v,q,p,.int 0] H Q E)∧(d=2→Mr Z.cC Z.cS [u,v] H Q E)∧(d=3→Ut Z.Pt Z.CB Z.cC Z.cS Z.cP [u,v,p,q] H Q E)∧(d=4→Ut Z.Pt Z.CB Z.cC Z.cS Z.cP [u,v,p,q] H Q E) ∧
 (d=5→JR Z.Pt Z.CB Z.cC Z.cS Z.cN [u,v,p] H Q E)∧(d=6→VJ Z.Pt Z.CB Z.cC Z.cS Z.cN [u,v,p] H Q E)∧(d=7→VJ Z.Pt Z.CB Z.cC Z.cS Z.cN [u,v,p] H Q E)∧(d=8→Uc Z.cC Z.cS Z.cP Z.cN [u,v,q,.int 0,p] H Q E)
structure Doors(P:Program)(w:World)(K:Frag)(mg:Str→Option Value)(base:Heap)(Z:Cs)(f1 f2 f3 f4 f5 f6 f7 f8:Addr)(d1 d2 d3 d4 d5 d6 d7 d8:FuncData):Prop where
 k:Def K mg "kept" QE ["count","sayings","heights"] f1 d1
 gk:FnOk P w K mg base (CXr P w) 5 f1 d1 ["count","sayings","heights"] (Qd Z.cC Z.cS Z.cN)
 s:Def K mg "sum_of" Va ["count","sayings","chain","one","other"] f2 d2
 gs:FnOk P w K mg base (CXr P w) 5 f2 d2 ["count","sayings","chain","one","other"] (Uc Z.cC Z.cS Z.cP Z.cN)
 h:Def K mg "heights" JF ["count","sayings"] f3 d3
 gh:FnOk P w K mg base (CXr P w) 5 f3 d3 ["count","sayings"] (Mr Z.cC Z.cS)
 f:Def K mg "follows" JG ["count","sayings","one","other"] f4 d4
 gf:FnOk P w K mg base (CXr P w) 5 f4 d4 ["count","sayings","one","other"] (Ut Z.Pt Z.CB Z.cC Z.cS Z.cP)
 x:Def K mg "fixed" UW ["count","sayings","one","other"] f5 d5
 gx:FnOk P w K mg base (CXr P w) 5 f5 d5 ["count","sayings","one","other"] (Ut Z.Pt Z.CB Z.cC Z.cS Z.cP)
 n:Def K mg "needless" Jf ["count","sayings","at"] f6 d6
 gn:FnOk P w K mg base (CXr P w) 5 f6 d6 ["count","sayings","at"] (JR Z.Pt Z.CB Z.cC Z.cS Z.cN)
 i:Def K mg "highest" J6 ["count","sayings","top"] f7 d7
 gi:FnOk P w K mg base (CXq true P w) 6 f7 d7 ["count","sayings","top"] (VJ Z.Pt Z.CB Z.cC Z.cS Z.cN)
 l:Def K mg "lowest" J5 ["count","sayings","bottom"] f8 d8
 gl:FnOk P w K mg base (CXq true P w) 6 f8 d8 ["count","sayings","bottom"] (VJ Z.Pt Z.CB Z.cC Z.cS Z.cN)
def DX(Z:Cs):Sp:=fun vs H Q E=>∃(d:Int) (u v p q:V),vs=[.int d,u,v,p,q]∧Ask Z d u v p q H Q E
theorem Rw:Zd ["_law_door","_law_count","_law_sayings","_law_one","_law_other"] ["_law_door","_law_count","_law_sayings","_law_one","_law_other"] (defScope Jg):=fs7
theorem TN{Z:Cs}{f f1 f2 f3 f4 f5 f6 f7 f8:Addr}{fd d1 d2 d3 d4 d5 d6 d7 d8:FuncData}(D:Def K mg "_law_ask" Jg ["_law_door","_law_count","_law_sayings","_law_one","_law_other"] f fd)(DD:Doors P w K mg base Z f1 f2 f3 f4 f5 f6 f7 f8 d1 d2 d3 d4 d5 d6 d7 d8):
  FnOk P w K mg base (CXq true P w) 7 f fd ["_law_door","_law_count","_law_sayings","_law_one","_law_other"] (DX Z):=by
 refine D.fn.okR Rw (fun vs H Q E h=>?_) (fun bf A0 outer s H vs Q E hr h=>?_)
 ·obtain⟨_,_,_,_,_,rfl,_⟩:=h;rfl
 ·obtain⟨d,u,v,p,q,rfl,d0,d8',a0,a1,a2,a3,a4,a5,a6,a7,a8⟩:=h;have hr5:Room 5 _:=hr.mono (by decide)
  have hr6:Room 6 _:=hr.mono (by decide)
  refine⟨_,Z5 (ZJ (ZK VP (pv 0) Z8 (nomark _)) (Z9 (Zj (Uj (ZK Uk (pv 0) Z8 (nomark _))
     (Za DD.gk hr5 (by rfl) DD.k.at_ DD.k.fn.kp DD.k.bd .nil Zn (Z0 (pv 1) (Z0 (pv 2) (Z0 (pv 3) Z3))))
     (Za DD.gs hr5 (by rfl) DD.s.at_ DD.s.fn.kp DD.s.bd .nil Zn (Z0 (pv 1) (Z0 (pv 2) (Z0 (pv 4) (Z0 (pv 3) (Z0 Z8 Z3))))))))) Zp)
   (Z5 (ZJ (ZK VP (pv 0) Z8 (nomark _)) (Z9 (Zj (Uj (ZK Uk (pv 0) Z8 (nomark _))
     (Za DD.gh hr5 (by rfl) DD.h.at_ DD.h.fn.kp DD.h.bd .nil Zn (Z0 (pv 1) (Z0 (pv 2) Z3)))
     (Za DD.gf hr5 (by rfl) DD.f.at_ DD.f.fn.kp DD.f.bd .nil Zn (Z0 (pv 1) (Z0 (pv 2) (Z0 (pv 3) (Z0 (pv 4) Z3)))))))) Zp)
   (Z5 (ZJ (ZK VP (pv 0) Z8 (nomark _)) (Z9 (Zj (Uj (ZK Uk (pv 0) Z8 (nomark _))
     (Za DD.gx hr5 (by rfl) DD.x.at_ DD.x.fn.kp DD.x.bd .nil Zn (Z0 (pv 1) (Z0 (pv 2) (Z0 (pv 3) (Z0 (pv 4) Z3)))))
     (Za DD.gn hr5 (by rfl) DD.n.at_ DD.n.fn.kp DD.n.bd .nil Zn (Z0 (pv 1) (Z0 (pv 2) (Z0 (pv 3) Z3))))))) Zp)
   (Z5 (ZJ (ZK Uk (pv 0) Z8 (nomark _)) (Z9 (Zj (Za DD.gs hr5 (by rfl) DD.s.at_ DD.s.fn.kp DD.s.bd .nil Zn (Z0 (pv 1) (Z0 (pv 2) (Z0 (pv 4) (Z0 Z8 (Z0 (pv 3) Z3)))))))) Zp)
   (Z9 (Zj (Uj (ZK Uk (pv 0) Z8 (nomark _))
     (Za DD.gi hr6 (by rfl) DD.i.at_ DD.i.fn.kp DD.i.bd .nil Zn (Z0 (pv 1) (Z0 (pv 2) (Z0 (pv 3) Z3))))
     (Za DD.gl hr6 (by rfl) DD.l.at_ DD.l.fn.kp DD.l.bd .nil Zn (Z0 (pv 1) (Z0 (pv 2) (Z0 (pv 3) Z3)))))))))),?_⟩
  refine⟨_,rfl,_,_,rfl,rfl,_,rfl,?_⟩;rcases (by lia:d=0∨d=1∨d=2∨d=3∨d=4∨d=5∨d=6∨d=7∨d=8) with rfl | rfl | rfl | rfl | rfl | rfl | rfl | rfl | rfl
  ·exact iteT ⟨_,rfl,rfl,_,rfl,iteT ⟨_,rfl,_,rfl,_,rfl,a0 rfl⟩⟩
  ·exact iteT ⟨_,rfl,rfl,_,rfl,iteF ⟨_,rfl,_,rfl,_,rfl,_,rfl,a1 rfl⟩⟩
  all_goals refine iteF ⟨_,rfl,_,_,rfl,rfl,_,rfl,?_⟩
  ·exact iteT ⟨_,rfl,rfl,_,rfl,iteT ⟨_,rfl,_,rfl,a2 rfl⟩⟩
  ·exact iteT ⟨_,rfl,rfl,_,rfl,iteF ⟨_,rfl,_,rfl,_,rfl,_,rfl,a3 rfl⟩⟩
  all_goals refine iteF ⟨_,rfl,_,_,rfl,rfl,_,rfl,?_⟩
  ·exact iteT ⟨_,rfl,rfl,_,rfl,iteT ⟨_,rfl,_,rfl,_,rfl,_,rfl,a4 rfl⟩⟩
  ·exact iteT ⟨_,rfl,rfl,_,rfl,iteF ⟨_,rfl,_,rfl,_,rfl,a5 rfl⟩⟩
  all_goals refine iteF ⟨_,rfl,rfl,_,rfl,?_⟩
  ·exact iteF ⟨_,rfl,rfl,_,rfl,iteT ⟨_,rfl,_,rfl,_,rfl,a6 rfl⟩⟩
  ·exact iteF ⟨_,rfl,rfl,_,rfl,iteF ⟨_,rfl,_,rfl,_,rfl,a7 rfl⟩⟩
  ·exact iteT ⟨_,rfl,_,rfl,_,rfl,_,rfl,a8 rfl⟩
def cl (Z:Cs):Nat→Addr
 | 0=>Z.cC
 | 1=>Z.cS
 | 2=>Z.cP
 | 3=>Z.cN
 | _=>Z.CB
structure X5(K:Frag)(mg:Str→Option Value)(Z:Cs)(C0:Addr):Prop where
 a0:mg "BadCount"=some (.ref (cl Z 0))
 a1:mg "BadSayings"=some (.ref (cl Z 1))
 a2:mg "BadPlace"=some (.ref (cl Z 2))
 a3:mg "BadNumber"=some (.ref (cl Z 3))
 a4:mg "Broken"=some (.ref (cl Z 4))
 aS:mg "SayError"=some (.ref C0)
 nV:mg "ValueError"=none
 m:∀ i,i<5→ExcM K (cl Z i) C0
 lk:∀ i,i<5→Yu K (cl Z i)
 kt:∀ i j,i<5→j<5→PySem.W.kitOne K (.ref (cl Z i)) (.ref (cl Z j))=some (i==j)
 kv:∀ i,i<5→PySem.W.kitOne K (.ref (cl Z i)) (.type "ValueError")=some true
theorem Vw{bx:Bool}{H H':Hp}{x C:Addr}{d:Option Addr}(h:Held bx H x C d)(s:Same H H'):Held bx H' x C d:=by
 obtain⟨a0,tb,cs,hx,hc⟩:=h;exact⟨a0,tb,cs,s _ _ hx,hc.frzs fun b o u e=>s _ _ e⟩
theorem Rc:bootBuiltins "ValueError"=some (.type "ValueError"):=by decide +kernel
def Jo(Z:Cs):Sp:=fun vs H Q _=>∃(d:Int) (u v p q:V) (k:Nat),vs=[.int d,u,v,p,q,.int k]∧k<5∧∀(Q':VK) (E':XK),(∀ dd H1,(∀ dx,dd=some dx→∃ fs,H1 dx=some (.xd fs))→(∀ H2,Same H1 H2→Q (.bl true) H2)→E' (.ref (cl Z k)) dd H1)→Ask Z d u v p q H Q' E'
theorem Wh:Zd ["_law_door","_law_count","_law_sayings","_law_one","_law_other","_law_due_here","error","_law_found"] ["_law_door","_law_count","_law_sayings","_law_one","_law_other","_law_due_here"] (defScope YQ):=fs7
theorem TM{Z:Cs}{f fa C0:Addr}{fd da:FuncData}(D:Def K mg "_law_due" YQ ["_law_door","_law_count","_law_sayings","_law_one","_law_other","_law_due_here"] f fd)(DA:Def K mg "_law_ask" Jg ["_law_door","_law_count","_law_sayings","_law_one","_law_other"] fa da)(GA:FnOk P w K mg base (CXq true P w) 7 fa da ["_law_door","_law_count","_law_sayings","_law_one","_law_other"] (DX Z))(Y:X5 K mg Z C0)(G:G1 K mg):
  FnOk P w K mg base CX0 8 f fd ["_law_door","_law_count","_law_sayings","_law_one","_law_other","_law_due_here"] (Jo Z):=by
 refine D.fn.ok Wh (fun vs H Q E h=>?_) (fun bf A0 outer s H vs Q X hr h=>?_)
 ·obtain⟨_,_,_,_,_,_,rfl,_⟩:=h;rfl
 ·obtain⟨d,u,v,p,q,k,rfl,hk,hA⟩:=h;have hu:=hr.units;have hr7:Room 7 _:=hr.mono (by decide)
  refine⟨_,Z5 (D6 (i:=6) (QK GA hr7 (by rfl) DA.at_ DA.fn.kp DA.bd (Z0 (pv 0) (Z0 (pv 1) (Z0 (pv 2) (Z0 (pv 3) (Z0 (pv 4) Z3))))))
     Wh.nd rfl rfl (by rfl) Y.aS (fun x =>
    Z5 (Zu (i:=7) Wh.nd rfl (Or.inl rfl) (Y6 (Z0 (Zh Yb (by rfl) G.isi boot_isinstance (Z0 (pv 6) (Z0 (Vi (by rfl) Y.a0) Z3)))
     (Z0 (Zh Yb (by rfl) G.isi boot_isinstance (Z0 (pv 6) (Z0 (Vi (by rfl) Y.a1) Z3)))
     (Z0 (Zh Yb (by rfl) G.isi boot_isinstance (Z0 (pv 6) (Z0 (Vi (by rfl) Y.a2) Z3))) Z3)))))
    (Z5 (Zu (i:=7) Wh.nd rfl (Or.inl rfl) (Yi JY (pv 7) (Y6 (Z0 (Zh Yb (by rfl) G.isi boot_isinstance (Z0 (pv 6) (Z0 (Vi (by rfl) Y.a3) Z3)))
     (Z0 (Zh Yb (by rfl) G.isi boot_isinstance (Z0 (pv 6) (Z0 (Vi (by rfl) Y.a4) Z3))) Z3)))))
    (Z9 (Zj (JW (Jh (TH hu) (pv 7) (ZC (XN:=["_law_door","_law_count","_law_sayings","_law_one","_law_other","_law_due_here","error","_law_found"]) (outer:=defScope YQ) (N:=["_law_k","_law_due_here"]) (cap:=[none,some 5])
      (by exact⟨rfl,by decide +kernel,by decide +kernel,by decide +kernel,.own (.cap rfl rfl rfl .nil),by decide +kernel⟩) rfl (Gd (by rfl) G.range (Z0 Z8 Z3))
      (fun _ _ _ _ _ _=>Zg (i:=0) (show(["_law_k","_law_due_here"]:List Str).Nodup by decide +kernel) rfl (Or.inl rfl)) (fun _ _ _ _ _ _=>Zv)
      (fun _ _ _ _ _ _=>Jh Uk (pv 0) (pv 1) (nomark _))) (nomark _))
     (Vh (Zh Yb (by rfl) G.isi boot_isinstance (Z0 (pv 6) (Z0 (Vg (by rfl) Y.nV Rc) Z3))))))))))
   (Z9 (Zj Yc)),?_⟩
  refine⟨_,rfl,_,rfl,_,rfl,_,rfl,_,rfl,d,u,v,p,q,rfl,?_⟩;refine hA _ _ fun dd H1 hdd hQ=>⟨cl Z k,rfl,Y.m k hk,fun x H2 hx0 oth held=>?_⟩;have s2:Same H1 H2:=fun b o e=>by rw[oth b (Z4 e hx0)];exact e
  have hd2:∀ dx,dd=some dx→∃ fs,H2 dx=some (.xd fs):=fun dx e=>by obtain⟨fs,z⟩:=hdd dx e;exact⟨fs,s2 _ _ z⟩
  refine⟨_,rfl,x,cl Z k,dd,_,.ref (cl Z 0),_,rfl,fun u r=>r,⟨true,held⟩,hd2,Y.lk k hk,Y.kt k 0 hk (by decide),?_⟩
  refine⟨_,rfl,x,cl Z k,dd,_,.ref (cl Z 1),_,rfl,fun u r=>r,⟨true,held⟩,hd2,Y.lk k hk,Y.kt k 1 hk (by decide),?_⟩
  refine⟨_,rfl,x,cl Z k,dd,_,.ref (cl Z 2),_,rfl,fun u r=>r,⟨true,held⟩,hd2,Y.lk k hk,Y.kt k 2 hk (by decide),?_⟩
  refine⟨by show 3≤zF;decide,fun l hl=>?_⟩
  have u3:Same H2 (upd H2 l (.lst [.bl (k==0),.bl (k==1),.bl (k==2)])):=Same.up hl;have e3:(upd H2 l (.lst [.bl (k==0),.bl (k==1),.bl (k==2)])) l=some (.lst [.bl (k==0),.bl (k==1),.bl (k==2)]):=Z2;generalize upd H2 l (.lst [.bl (k==0),.bl (k==1),.bl (k==2)])=H3 at u3 e3;have held3:=Vw held u3;have hd3:∀ dx,dd=some dx→∃ fs,H3 dx=some (.xd fs):=fun dx e=>by obtain⟨fs,z⟩:=hd2 dx e;exact⟨fs,u3 _ _ z⟩
  refine⟨_,rfl,_,rfl,x,cl Z k,dd,_,.ref (cl Z 3),_,rfl,fun u r=>r,⟨true,held3⟩,hd3,Y.lk k hk,Y.kt k 3 hk (by decide),?_⟩
  refine⟨_,rfl,x,cl Z k,dd,_,.ref (cl Z 4),_,rfl,fun u r=>r,⟨true,held3⟩,hd3,Y.lk k hk,Y.kt k 4 hk (by decide),?_⟩
  refine⟨by show 2≤zF;decide,fun l2 hl2=>?_⟩
  have u4:Same H3 (upd H3 l2 (.lst [.bl (k==3),.bl (k==4)])):=Same.up hl2;have e4:(upd H3 l2 (.lst [.bl (k==3),.bl (k==4)])) l2=some (.lst [.bl (k==3),.bl (k==4)]):=Z2;generalize upd H3 l2 (.lst [.bl (k==3),.bl (k==4)])=H4 at u4 e4;refine⟨l,l2,_,_,rfl,rfl,u4 _ _ e3,e4,by show 5≤zF;decide,fun l3 hl3=>?_⟩
  have u5:Same H4 (upd H4 l3 (.lst ([.bl (k==0),.bl (k==1),.bl (k==2)]++[.bl (k==3),.bl (k==4)]))):=Same.up hl3;have e5:(upd H4 l3 (.lst ([.bl (k==0),.bl (k==1),.bl (k==2)]++[.bl (k==3),.bl (k==4)]))) l3=some (.lst ([k==0,k==1,k==2,k==3,k==4].map V.bl)):=Z2;generalize upd H4 l3 (.lst ([.bl (k==0),.bl (k==1),.bl (k==2)]++[.bl (k==3),.bl (k==4)]))=H5 at u5 e5;refine⟨_,rfl,?_⟩;refine⟨_,rfl,by decide,by decide,fun D1 hD1=>?_⟩
  refine Xc (n:=5) (outs:=fun(i:Nat)=>some (V.bl (decide (V.int (i:Int)=V.int (k:Int))))) (fun σ=>∃ v,σ=[v,some (.int k)]) hD1 (by decide) ⟨none,rfl⟩ (fun i σc Hc Yes No hi sm _ ⟨v,hv⟩ yes no=>?_) (fun H6 s6 hD6=>?_)
  ·subst hv;exact⟨_,rfl,_,rfl,rfl,yes _ _ _ ⟨_,rfl⟩ (Same.refl _) rfl⟩
  have eL:(List.range 5).filterMap (fun(i:Nat)=>some (V.bl (decide (V.int (i:Int)=V.int (k:Int)))))=[k==0,k==1,k==2,k==3,k==4].map V.bl:=by
   rcases (by lia:k=0∨k=1∨k=2∨k=3∨k=4) with rfl | rfl | rfl | rfl | rfl <;> decide +kernel
  rw[eL] at hD6;have sA:Same H1 H6:=(((s2.trans u3).trans u4).trans u5).trans s6;have held6:=Vw held3 ((u4.trans u5).trans s6);have hd6:∀ dx,dd=some dx→∃ fs,H6 dx=some (.xd fs):=fun dx e=>by obtain⟨fs,z⟩:=hdd dx e;exact⟨fs,sA _ _ z⟩
  refine⟨l3,D1,_,_,rfl,rfl,SqL.of (s6 _ _ e5),SqL.of hD6,.inr ⟨rfl,fun _=>true,fun i y z ey ez=>?_,?_⟩⟩
  ·rw[ey] at ez;cases ez;rw[List.getElem?_map] at ey;cases eb:[k==0,k==1,k==2,k==3,k==4][i]? with
   | none=>rw[eb] at ey;cases ey
   | some b =>
    rw[eb] at ey;cases ey;have e:=EqD.flat (K:=K) (H:=H6) (n:=8) (x:=.bl b) (y:=.bl b) rfl rfl;have e1:eqV (.bl b) (.bl b)=true:=by cases b <;> rfl
    rw[e1] at e;exact e
  ·refine⟨true,rfl,iteT ?_⟩;exact⟨_,rfl,x,cl Z k,dd,_,.type "ValueError",_,rfl,fun u r=>r,⟨true,held6⟩,hd6,Y.lk k hk,Y.kv k hk,hQ H6 sA⟩
inductive S1 where
 | at (v:V)
 | tup (xs:List V)
 | lst (xs:List V)
 | dic
inductive S2 where
 | s (x:S1)
 | lst (xs:List S1)
 | tup (xs:List S1)
def fl:V→Bool
 | .non=>true
 | .bl _=>true
 | .int _=>true
 | .str _=>true
 | _=>false
def at1 (H:Hp):S1→V→Prop
 | .at v0,v=>v=v0∧fl v0=true
 | .tup xs,v=>∃ p,v = .ref p∧H p=some (.tup xs)∧xs.all fl=true∧xs.length≤1000
 | .lst xs,v=>∃ p,v = .ref p∧H p=some (.lst xs)∧xs.all fl=true∧xs.length≤1000
 | .dic,v=>∃ p,v = .ref p∧H p=some (.dK [])
def at2 (H:Hp):S2→V→Prop
 | .s x,v=>at1 H x v
 | .lst xs,v=>∃ p vs,v = .ref p∧H p=some (.lst vs)∧Paired (at1 H) xs vs∧vs.length≤1000
 | .tup xs,v=>∃ p vs,v = .ref p∧H p=some (.tup vs)∧Paired (at1 H) xs vs∧vs.length≤1000
theorem Jd{H H':Hp}(s:Same H H'){x:S1}{v:V}(h:at1 H x v):at1 H' x v:=by
 cases x with
 | «at» v0=>exact h
 | tup xs=>obtain⟨p,e,hp,r⟩:=h;exact⟨p,e,s _ _ hp,r⟩
 | lst xs=>obtain⟨p,e,hp,r⟩:=h;exact⟨p,e,s _ _ hp,r⟩
 | dic=>obtain⟨p,e,hp⟩:=h;exact⟨p,e,s _ _ hp⟩
theorem Y7{α β:Type}{R R':α→β→Prop}(f:∀ a b,R a b→R' a b){xs:List α}{ys:List β}(h:Paired R xs ys):Paired R' xs ys:=by
 induction h with
 | nil=>exact .nil
 | cons r _ ih=>exact .cons (f _ _ r) ih
theorem ZA{H H':Hp}(s:Same H H'){x:S2}{v:V}(h:at2 H x v):at2 H' x v:=by
 cases x with
 | s y=>exact Jd s (x:=y) h
 | tup xs=>obtain⟨p,vs,e,hp,r,z⟩:=h;exact⟨p,vs,e,s _ _ hp,Y7 (fun _ _=>Jd s) r,z⟩
 | lst xs=>obtain⟨p,vs,e,hp,r,z⟩:=h;exact⟨p,vs,e,s _ _ hp,Y7 (fun _ _=>Jd s) r,z⟩
theorem Ta{H:Hp}{v:V}(h:fl v=true):Kn H v:=by
 cases v <;> first | exact .non | exact .bl _ | exact .int _ | exact .str _ | cases h
theorem XR{H:Hp}{x:S1}{v:V}(h:at1 H x v):Kn H v:=by
 cases x with
 | «at» v0=>obtain⟨rfl,e⟩:=h;exact Ta e
 | tup xs=>obtain⟨p,rfl,hp,r⟩:=h;exact .tup hp
 | lst xs=>obtain⟨p,rfl,hp,r⟩:=h;exact .lst hp
 | dic=>obtain⟨p,rfl,hp⟩:=h;exact .dK hp
theorem U0{H:Hp}{x:S2}{v:V}(h:at2 H x v):Kn H v:=by
 cases x with
 | s y=>exact XR h
 | tup xs=>obtain⟨p,vs,rfl,hp,r⟩:=h;exact .tup hp
 | lst xs=>obtain⟨p,vs,rfl,hp,r⟩:=h;exact .lst hp
theorem NG{H:Hp}{v:V}(h:fl v=true):tupV H v=none:=by cases v <;> first | rfl | cases h
theorem Dn{H:Hp}{v:V}(h:fl v=true):lstV H v=none:=by cases v <;> first | rfl | cases h
def tup1:S1→Option (List V)
 | .tup xs=>some xs
 | _=>none
theorem Wc{H:Hp}{x:S1}{v:V}(h:at1 H x v):tupV H v=tup1 x:=by
 cases x with
 | «at» v0=>obtain⟨rfl,e⟩:=h;exact NG e
 | tup xs=>obtain⟨p,rfl,hp,r⟩:=h;exact Q9 hp
 | lst xs=>obtain⟨p,rfl,hp,r⟩:=h;show(match H p with | some (.tup xs)=>some xs | _=>none)=_;rw[hp];rfl
 | dic=>obtain⟨p,rfl,hp⟩:=h;show(match H p with | some (.tup xs)=>some xs | _=>none)=_;rw[hp];rfl
theorem Dt{H:Hp}{x:S1}{v:V}(h:at1 H x v):Kn1 H v:=by
 refine⟨XR h,fun xs e=>?_⟩;rw[Wc h] at e;cases x with
 | tup ys=>cases e;obtain⟨p,rfl,hp,r,z⟩:=h;exact⟨z,fun x hx=>Ta (List.all_eq_true.mp r x hx)⟩
 | _=>cases e
def say1 (c:Int)(x:S1):Bool:=match tup1 x with
 | some [x,y,z]=>cntV c x&&(cntV c y&&isW z)
 | _=>false
theorem NT{H:Hp}{c:Int}{x:S1}{v:V}(h:at1 H x v):sayV H c v=say1 c x:=by
 unfold sayV say1;rw[Wc h]
 all_goals (rcases tup1 x with _ | (_ | ⟨a,_ | ⟨b,_ | ⟨d,_ | _⟩⟩⟩) <;> rfl)
def lst2:S2→Option (List S1)
 | .s (.lst xs)=>some (xs.map .at)
 | .lst xs=>some xs
 | _=>none
theorem VO{H:Hp}:∀{xs:List V},xs.all fl=true→Paired (at1 H) (xs.map .at) xs
 | [],_=>.nil
 | a::as,r=>by
  rw[List.all_cons,Bool.and_eq_true] at r;exact .cons ⟨rfl,r.1⟩ (VO r.2)
theorem JJ{H:Hp}{x:S2}{v:V}(h:at2 H x v):match lst2 x with
  | some ys=>∃ vs,lstV H v=some vs∧Paired (at1 H) ys vs∧vs.length≤1000
  | none=>lstV H v=none:=by
 cases x with
 | tup xs=>obtain⟨p,vs,rfl,hp,r⟩:=h;show(match H p with | some (.lst xs)=>some xs | _=>none)=_;rw[hp]
 | lst xs=>obtain⟨p,vs,rfl,hp,r,z⟩:=h;exact⟨vs,YF hp,r,z⟩
 | s y =>
  cases y with
  | «at» v0=>obtain⟨rfl,e⟩:=(show at1 H (.at v0) v from h);exact Dn e
  | tup xs=>obtain⟨p,rfl,hp,r⟩:=(show at1 H (.tup xs) v from h);show(match H p with | some (.lst xs)=>some xs | _=>none)=_;rw[hp]
  | dic=>obtain⟨p,rfl,hp⟩:=(show at1 H .dic v from h);show(match H p with | some (.lst xs)=>some xs | _=>none)=_;rw[hp]
  | lst xs =>
   obtain⟨p,rfl,hp,r,z⟩:=(show at1 H (.lst xs) v from h)
   exact⟨xs,YF hp,VO r,z⟩
theorem JX{α β:Type}{R:α→β→Prop}{xs:List α}{ys:List β}(h:Paired R xs ys):∀ y∈ys,∃ x∈xs,R x y:=by
 induction h with
 | nil=>intro y hy;cases hy
 | cons r _ ih =>
  intro y hy;rcases List.mem_cons.mp hy with z | z
  ·subst z;exact⟨_,List.mem_cons_self ..,r⟩
  ·obtain⟨x,hx,q⟩:=ih y z;exact⟨x,List.mem_cons_of_mem _ hx,q⟩
theorem Ds{H:Hp}{x:S2}{v:V}(h:at2 H x v):Kn2 H v:=by
 refine⟨U0 h,fun xs e y hy=>?_⟩;have hl:=JJ h;cases el:lst2 x with
 | none=>rw[el] at hl;rw[show lstV H v=none from hl] at e;cases e
 | some ys =>
  rw[el] at hl;obtain⟨vs,e1,r,z⟩:=hl;rw[e1] at e;cases e;obtain⟨x1,_,q⟩:=JX r y hy;exact Dt q
theorem Wy{H:Hp}{x:S2}{v:V}(h:at2 H x v):KnL H v:=by
 refine⟨U0 h,fun xs e=>?_⟩;have hl:=JJ h;cases el:lst2 x with
 | none=>rw[el] at hl;rw[show lstV H v=none from hl] at e;cases e
 | some ys =>
  rw[el] at hl;obtain⟨vs,e1,r,z⟩:=hl;rw[e1] at e;cases e;refine⟨z,fun y hy=>?_⟩;obtain⟨x1,_,q⟩:=JX r y hy;exact XR q
def MC(c:Int)(x:S2):Bool:=match lst2 x with
 | some ys=>ys.all (say1 c)
 | none=>false
theorem Vk{α β:Type}{R:α→β→Prop}{f:α→Bool}{g:β→Bool}(hf:∀ a b,R a b→g b=f a){xs:List α}{ys:List β}(h:Paired R xs ys):ys.all g=xs.all f:=by
 induction h with
 | nil=>rfl
 | cons r _ ih=>rw[List.all_cons,List.all_cons,hf _ _ r,ih]
theorem ZD{α β:Type}{R:α→β→Prop}{xs:List α}{ys:List β}(h:Paired R xs ys):ys.length=xs.length:=by
 induction h with
 | nil=>rfl
 | cons r _ ih=>rw[List.length_cons,List.length_cons,ih]
theorem MB{H:Hp}{c:Int}{x:S2}{v:V}(h:at2 H x v):ssV H c v=MC c x:=by
 unfold ssV MC;have hl:=JJ h;cases el:lst2 x with
 | none=>rw[el] at hl;rw[show lstV H v=none from hl]
 | some ys =>
  rw[el] at hl;obtain⟨vs,e1,r,z⟩:=hl;rw[e1];exact Vk (fun _ _ q=>NT q) r
def isW1:S1→Bool
 | .at v=>isW v
 | _=>false
theorem Wz{H:Hp}{x:S1}{v:V}(h:at1 H x v):isW v=isW1 x:=by
 cases x with
 | «at» v0=>obtain⟨rfl,e⟩:=h;rfl
 | tup xs=>obtain⟨p,rfl,hp,r⟩:=h;rfl
 | lst xs=>obtain⟨p,rfl,hp,r⟩:=h;rfl
 | dic=>obtain⟨p,rfl,hp⟩:=h;rfl
def hgt2 (c:Int)(x:S2):Bool:=match lst2 x with
 | some ys=>decide ((ys.length:Int)=c)&&ys.all isW1
 | none=>false
theorem Dx{H:Hp}{c:Int}{x:S2}{v:V}(h:at2 H x v):hgtV H c v=hgt2 c x:=by
 unfold hgtV hgt2;have hl:=JJ h;cases el:lst2 x with
 | none=>rw[el] at hl;rw[show lstV H v=none from hl]
 | some ys =>
  rw[el] at hl;obtain⟨vs,e1,r,z⟩:=hl;rw[e1];show(decide ((vs.length:Int)=c)&&vs.all isW)=(decide ((ys.length:Int)=c)&&ys.all isW1);rw[ZD r,Vk (fun _ _ q=>Wz q) r]
def cnt2 (c:Int):S2→Bool
 | .s (.at v)=>cntV c v
 | _=>false
theorem Qr{H:Hp}{c:Int}{x:S2}{v:V}(h:at2 H x v):cntV c v=cnt2 c x:=by
 cases x with
 | tup xs=>obtain⟨p,vs,rfl,hp,r⟩:=h;rfl
 | lst xs=>obtain⟨p,vs,rfl,hp,r,z⟩:=h;rfl
 | s y =>
  cases y with
  | «at» v0=>obtain⟨rfl,e⟩:=(show at1 H (.at v0) v from h);rfl
  | tup xs=>obtain⟨p,rfl,hp,r⟩:=(show at1 H (.tup xs) v from h);rfl
  | dic=>obtain⟨p,rfl,hp⟩:=(show at1 H .dic v from h);rfl
  | lst xs=>obtain⟨p,rfl,hp,r,z⟩:=(show at1 H (.lst xs) v from h);rfl
def whl2:S2→Bool
 | .s (.at v)=>isW v
 | _=>false
theorem ND{H:Hp}{x:S2}{v:V}(h:at2 H x v):isW v=whl2 x:=by
 cases x with
 | tup xs=>obtain⟨p,vs,rfl,hp,r⟩:=h;rfl
 | lst xs=>obtain⟨p,vs,rfl,hp,r,z⟩:=h;rfl
 | s y=>exact Wz (show at1 H y v from h)▸(by cases y <;> rfl)
def cok2:S2→Bool
 | .s (.at v)=>cOk v
 | _=>false
theorem DB{H:Hp}{x:S2}{v:V}(h:at2 H x v):cOk v=cok2 x:=by
 cases x with
 | tup xs=>obtain⟨p,vs,rfl,hp,r⟩:=h;rfl
 | lst xs=>obtain⟨p,vs,rfl,hp,r,z⟩:=h;rfl
 | s y =>
  cases y with
  | «at» v0=>obtain⟨rfl,e⟩:=(show at1 H (.at v0) v from h);rfl
  | tup xs=>obtain⟨p,rfl,hp,r⟩:=(show at1 H (.tup xs) v from h);rfl
  | dic=>obtain⟨p,rfl,hp⟩:=(show at1 H .dic v from h);rfl
  | lst xs=>obtain⟨p,rfl,hp,r,z⟩:=(show at1 H (.lst xs) v from h);rfl
def ch2 (ss:List Say)(one bh:Int):S2→Bool
 | .s (.lst xs)=>decide (YM ss xs one=some bh)
 | .lst _=>true
 | _=>false
theorem Rb{H:Hp}{ss:List Say}{one bh:Int}{x:S2}{v:V}(h:at2 H x v)(hx:ch2 ss one bh x=false):chV H ss v one bh=false:=by
 cases x with
 | tup xs=>have hl:lstV H v=none:=JJ h;unfold chV;rw[hl]
 | lst xs=>cases hx
 | s y =>
  cases y with
  | lst xs=>obtain⟨p,rfl,hp,r,z⟩:=(show at1 H (.lst xs) v from h);unfold chV;rw[YF hp];exact hx
  | _=>have hl:lstV H v=none:=JJ h;unfold chV;rw[hl]
def ring2:List Say:=[(0,1,4),(1,0,-5)]
theorem noH2{a b:Int}{l m:Int}(h:l+m<0):NoH [(a,b,l),(b,a,m)]:=by
 intro Sf tight ends;have t0:=tight 0 rfl;have t1:=tight 1 rfl;obtain⟨e0,e1⟩:=ends 0 rfl;obtain⟨x,hx⟩:=Option.ne_none_iff_exists'.mp e0;obtain⟨y,hy,h1⟩:=t0 x hx;obtain⟨z,hz,h2⟩:=t1 y hy;have hx':Sf a=some x:=hx;have hz':Sf a=some z:=hz;rw[hx'] at hz';cases hz';have h1:y≤x+l:=h1;have h2:x≤y+m:=h2;lia
theorem QW:NoH ring2:=noH2 (by decide)
theorem Di:NoH (ring2.map trn):=by
 intro Sf tight ends;exact noH2 (a:=1) (b:=0) (l:=4) (m:=-5) (by decide) Sf tight ends
section
variable {Z:Cs}{H:Hp}{E':XK}
theorem ref0{u v:V}{G:Int→Prop}(ku:Kn H u)(kv:Kn2 H v)(h:cOk u=false)(e:E' (.ref Z.cC) none H):Ref Z.cC Z.cS u v H E' G :=
 ⟨ku,kv,fun _=>e,fun c eu hc=>by
  subst eu;rw[show cOk (.int c)=true from decide_eq_true hc] at h;cases h⟩
theorem ref1{c:Int}{v:V}{G:Int→Prop}(hc:1≤c)(kv:Kn2 H v)(h:ssV H c v=false)(e:E' (.ref Z.cS) none H):Ref Z.cC Z.cS (.int c) v H E' G :=
 ⟨.int c,kv,(fun z=>by rw[show cOk (.int c)=true from decide_eq_true hc] at z;cases z),fun c' eu _=>by
  cases eu;exact⟨fun _=>e,fun z=>by rw[h] at z;cases z⟩⟩
theorem ref2{c:Int}{v:V}{G:Int→Prop}(hc:1≤c)(kv:Kn2 H v)(h:ssV H c v=true)(g:G c):Ref Z.cC Z.cS (.int c) v H E' G :=
 ⟨.int c,kv,(fun z=>by rw[show cOk (.int c)=true from decide_eq_true hc] at z;cases z),fun c' eu _=>by
  cases eu;exact⟨(fun z=>by rw[h] at z;cases z),fun _=>g⟩⟩
theorem Dr:Kn2 H .non:=⟨.non,fun xs e=>by cases e⟩
theorem Yp{a:Addr}{ss:List Say}{c:Int}(h:SaysAt H a ss)(hi:ss.all (inside c)=true):Kn2 H (.ref a)∧ssV H c (.ref a)=true:=by
 obtain⟨ps,ha,hS⟩:=h.ex;have el:lstV H (.ref a)=some (ps.map V.ref):=YF ha;have it:∀ x∈ps.map V.ref,∃ s∈ss,∃ p,x = .ref p∧H p=some (VG s):=fun x hx=>by
  obtain⟨p,hp,rfl⟩:=List.mem_map.mp hx;obtain⟨i,hi⟩:=List.getElem?_of_mem hp;have hil:i<ss.length:=by rw[←hS.len];exact(List.getElem?_eq_some_iff.mp hi).1
  exact⟨ss[i],List.getElem_mem hil,p,rfl,hS.at_ i p _ hi (List.getElem?_eq_getElem hil)⟩
 refine⟨⟨.lst ha,fun xs e x hx=>?_⟩,?_⟩
 ·rw[el] at e;cases e;obtain⟨s,_,p,rfl,hp⟩:=it x hx;refine⟨.tup hp,fun xs e=>?_⟩;rw[Q9 hp] at e;cases e;refine⟨by show 3≤1000;decide,fun y hy=>?_⟩
  rcases List.mem_cons.mp hy with rfl | hy
  ·exact .int _
  rcases List.mem_cons.mp hy with rfl | hy
  ·exact .int _
  rcases List.mem_cons.mp hy with rfl | hy
  ·exact .int _
  ·cases hy
 ·unfold ssV;rw[el];refine List.all_eq_true.mpr fun x hx=>?_;obtain⟨s,hs,p,rfl,hp⟩:=it x hx;have hin:inside c s=true:=List.all_eq_true.mp hi s hs;unfold sayV;rw[Q9 hp];have h2:(cnt c s.1&&cnt c s.2.1)=true:=hin;rw[Bool.and_eq_true] at h2;show(cnt c s.1&&(cnt c s.2.1&&true))=true;rw[h2.1,h2.2];rfl
variable {Q:VK}{E:XK}{u v:V}{d:Int}{a:Addr}
theorem due0(hd:0≤d∧d≤8)(ku:Kn H u)(h:cOk u=false)(k:∀ H2,Same H H2→Q (.bl true) H2):Jo Z [.int d,u,.non,.non,.non,.int 0] H Q E:=by
 refine⟨d,u,.non,.non,.non,0,rfl,by decide,fun Q' E' he=>?_⟩
 have e:E' (.ref Z.cC) none H:=he none H (fun _ z=>by cases z) k
 have R:∀ G,Ref Z.cC Z.cS u .non H E' G:=fun G=>ref0 ku Dr h e;exact⟨hd.1,hd.2,fun _=>⟨_,_,_,rfl,R _⟩,fun _=>⟨_,_,_,_,_,rfl,R _⟩,fun _=>⟨_,_,rfl,R _⟩,fun _=>⟨_,_,_,_,rfl,R _⟩,fun _=>⟨_,_,_,_,rfl,R _⟩,fun _=>⟨_,_,_,rfl,R _⟩,fun _=>⟨_,_,_,rfl,R _⟩,fun _=>⟨_,_,_,rfl,R _⟩,fun _=>⟨_,_,_,_,_,rfl,R _⟩⟩
theorem due1(hd:0≤d∧d≤8)(kv:Kn2 H v)(h:ssV H 2 v=false)(k:∀ H2,Same H H2→Q (.bl true) H2):Jo Z [.int d,.int 2,v,.non,.non,.int 1] H Q E:=by
 refine⟨d,.int 2,v,.non,.non,1,rfl,by decide,fun Q' E' he=>?_⟩
 have e:E' (.ref Z.cS) none H:=he none H (fun _ z=>by cases z) k
 have R:∀ G,Ref Z.cC Z.cS (.int 2) v H E' G:=fun G=>ref1 (by decide) kv h e
 exact⟨hd.1,hd.2,fun _=>⟨_,_,_,rfl,R _⟩,fun _=>⟨_,_,_,_,_,rfl,R _⟩,fun _=>⟨_,_,rfl,R _⟩,fun _=>⟨_,_,_,_,rfl,R _⟩,fun _=>⟨_,_,_,_,rfl,R _⟩,fun _=>⟨_,_,_,rfl,R _⟩,fun _=>⟨_,_,_,rfl,R _⟩,fun _=>⟨_,_,_,rfl,R _⟩,fun _=>⟨_,_,_,_,_,rfl,R _⟩⟩
theorem in2:ring2.all (inside 2)=true:=by decide
theorem due2(hd:d=1∨d=3∨d=4∨d=8)(g:SaysAt H a ring2)(ku:Kn H u)(h:cntV 2 u=false)(k:∀ H2,Same H H2→Q (.bl true) H2):Jo Z [.int d,.int 2,.ref a,u,.non,.int 2] H Q E:=by
 refine⟨d,.int 2,.ref a,u,.non,2,rfl,by decide,fun Q' E' he=>?_⟩
 have e:E' (.ref Z.cP) none H:=he none H (fun _ z=>by cases z) k
 obtain⟨k2,s2⟩:=Yp g in2;have R:∀(G:Int→Prop),G 2→Ref Z.cC Z.cS (.int 2) (.ref a) H E' G:=fun G=>ref2 (by decide) k2 s2
 have no:∀{A:Prop},cntV 2 u=true→A:=fun z=>by rw[h] at z;cases z
 rcases hd with rfl | rfl | rfl | rfl
 ·exact⟨by decide,by decide,nofun,fun _=>⟨_,_,_,_,_,rfl,R _ ⟨ku,.int 0,fun _=>e,fun z=>no z,fun _ _ _ _ z=>no z⟩⟩,nofun,nofun,nofun,nofun,nofun,nofun,nofun⟩
 ·exact⟨by decide,by decide,nofun,nofun,nofun,fun _=>⟨_,_,_,_,rfl,R _ ⟨ku,.non,fun _=>e,fun z=>no z,fun z=>no z⟩⟩,nofun,nofun,nofun,nofun,nofun⟩
 ·exact⟨by decide,by decide,nofun,nofun,nofun,nofun,fun _=>⟨_,_,_,_,rfl,R _ ⟨ku,.non,fun _=>e,fun z=>no z,fun z=>no z⟩⟩,nofun,nofun,nofun,nofun⟩
 ·exact⟨by decide,by decide,nofun,nofun,nofun,nofun,nofun,nofun,nofun,nofun,fun _=>⟨_,_,_,_,_,rfl,R _ ⟨.int 0,ku,(fun z=>by cases z),fun _ _=>e,fun _ _ _ _ _ z=>no z⟩⟩⟩
theorem RV(hd:d=3∨d=4)(g:SaysAt H a ring2)(ku:Kn H u)(h:cntV 2 u=false)(k:∀ H2,Same H H2→Q (.bl true) H2):Jo Z [.int d,.int 2,.ref a,.int 0,u,.int 2] H Q E:=by
 refine⟨d,.int 2,.ref a,.int 0,u,2,rfl,by decide,fun Q' E' he=>?_⟩
 have e:E' (.ref Z.cP) none H:=he none H (fun _ z=>by cases z) k
 obtain⟨k2,s2⟩:=Yp g in2;have R:∀(G:Int→Prop),G 2→Ref Z.cC Z.cS (.int 2) (.ref a) H E' G:=fun G=>ref2 (by decide) k2 s2
 have no:∀{A:Prop},cntV 2 u=true→A:=fun z=>by rw[h] at z;cases z
 rcases hd with rfl | rfl
 ·exact⟨by decide,by decide,nofun,nofun,nofun,fun _=>⟨_,_,_,_,rfl,R _ ⟨.int 0,ku,fun _=>e,fun _ _=>e,fun _ z=>no z⟩⟩,nofun,nofun,nofun,nofun,nofun⟩
 ·exact⟨by decide,by decide,nofun,nofun,nofun,nofun,fun _=>⟨_,_,_,_,rfl,R _ ⟨.int 0,ku,fun _=>e,fun _ _=>e,fun _ z=>no z⟩⟩,nofun,nofun,nofun,nofun⟩
theorem due3(hd:d=6∨d=7)(g:SaysAt H a ring2)(ku:Kn H u)(h:isW u=false)(k:∀ H2,Same H H2→Q (.bl true) H2):Jo Z [.int d,.int 2,.ref a,u,.non,.int 3] H Q E:=by
 refine⟨d,.int 2,.ref a,u,.non,3,rfl,by decide,fun Q' E' he=>?_⟩
 have e:E' (.ref Z.cN) none H:=he none H (fun _ z=>by cases z) k
 obtain⟨k2,s2⟩:=Yp g in2;have R:∀(G:Int→Prop),G 2→Ref Z.cC Z.cS (.int 2) (.ref a) H E' G:=fun G=>ref2 (by decide) k2 s2
 have no:∀{A:Prop},isW u=true→A:=fun z=>by rw[h] at z;cases z
 rcases hd with rfl | rfl
 ·exact⟨by decide,by decide,nofun,nofun,nofun,nofun,nofun,nofun,fun _=>⟨_,_,_,rfl,R _ ⟨ku,fun _=>e,fun z=>no z⟩⟩,nofun,nofun⟩
 ·exact⟨by decide,by decide,nofun,nofun,nofun,nofun,nofun,nofun,nofun,fun _=>⟨_,_,_,rfl,R _ ⟨ku,fun _=>e,fun z=>no z⟩⟩,nofun⟩
theorem X3:[((0:Int),(1:Int),(4:Int))].all (inside 2)=true:=by decide
theorem RT(g:SaysAt H a [(0,1,4)])(ku:KnL H u)(h:hgtV H 2 u=false)(k:∀ H2,Same H H2→Q (.bl true) H2):Jo Z [.int 0,.int 2,.ref a,u,.non,.int 3] H Q E:=by
 refine⟨0,.int 2,.ref a,u,.non,3,rfl,by decide,fun Q' E' he=>?_⟩
 obtain⟨k2,s2⟩:=Yp g X3;exact⟨by decide,by decide,fun _=>⟨_,_,_,rfl,ref2 (by decide) k2 s2 ⟨ku,fun _ H' s=>he none H' (fun _ z=>by cases z) fun H2 s'=>k H2 (s.trans s'),fun z=>by rw[h] at z;cases z⟩⟩,nofun,nofun,nofun,nofun,nofun,nofun,nofun,nofun⟩
theorem RU(g:SaysAt H a [(0,1,4)])(ku:KnL H u)(h:chV H [(0,1,4)] u 0 0=false)(k:∀ H2,Same H H2→Q (.bl true) H2):Jo Z [.int 1,.int 2,.ref a,.int 0,u,.int 3] H Q E:=by
 refine⟨1,.int 2,.ref a,.int 0,u,3,rfl,by decide,fun Q' E' he=>?_⟩
 have e:E' (.ref Z.cN) none H:=he none H (fun _ z=>by cases z) k
 obtain⟨k2,s2⟩:=Yp g X3;refine⟨by decide,by decide,nofun,fun _=>⟨_,_,_,_,_,rfl,ref2 (by decide) k2 s2 ⟨.int 0,.int 0,(fun z=>by cases z),(fun _ z=>by cases z),fun one bh e1 e2 _ _=>?_⟩⟩,nofun,nofun,nofun,nofun,nofun,nofun,nofun⟩
 cases e1;cases e2;exact⟨a,_,rfl,g,by decide,ku,fun _=>e,fun z=>by rw[h] at z;cases z⟩
theorem QF(g:SaysAt H a ring2):∃ xs,lstV H (.ref a)=some xs∧xs.length=2:=by
 obtain⟨ps,ha,hS⟩:=g.ex;exact⟨_,YF ha,by rw[List.length_map,hS.len];rfl⟩
theorem RS(g:SaysAt H a ring2)(ku:Kn H u)(h:cntV 2 u=false)(k:∀ H2,Same H H2→Q (.bl true) H2):Jo Z [.int 5,.int 2,.ref a,u,.non,.int 3] H Q E:=by
 refine⟨5,.int 2,.ref a,u,.non,3,rfl,by decide,fun Q' E' he=>?_⟩
 have e:E' (.ref Z.cN) none H:=he none H (fun _ z=>by cases z) k
 obtain⟨k2,s2⟩:=Yp g in2;obtain⟨xs,hx,hl⟩:=QF g;refine⟨by decide,by decide,nofun,nofun,nofun,nofun,nofun,fun _=>⟨_,_,_,rfl,ref2 (by decide) k2 s2 ⟨ku,xs,hx,by lia,fun _=>e,fun z=>?_⟩⟩,nofun,nofun,nofun⟩
 rw[hl,show cntV ((2:Nat):Int) u=false from h] at z;cases z
theorem due4(hd:d=3∨d=4∨d=5∨d=6∨d=7)(g:SaysAt H a ring2)(hL:ZP H Z.Pt QL)(k:∀ H2,SameN H H2→ZP H2 Z.Pt QL→Q (.bl true) H2):Jo Z [.int d,.int 2,.ref a,.int 0,.int 1,.int 4] H Q E:=by
 refine⟨d,.int 2,.ref a,.int 0,.int 1,4,rfl,by decide,fun Q' E' he=>?_⟩
 have e:∀(H':Hp) (dx l:Addr),SameN H H'→ZP H' Z.Pt QL→H' dx=some (.xd [("ring",.ref l)])→E' (.ref Z.CB) (some dx) H':=fun H' dx l n hL' hx=>he (some dx) H' (fun _ z=>by cases z;exact⟨_,hx⟩) fun H2 s=>k H2 (n.trans s.n) (hL'.same s)
 obtain⟨k2,s2⟩:=Yp g in2;obtain⟨xs,hx,hl⟩:=QF g;have R:∀(G:Int→Prop),G 2→Ref Z.cC Z.cS (.int 2) (.ref a) H E' G:=fun G=>ref2 (by decide) k2 s2
 have B:Brk Z.Pt Z.CB (.ref a) 2 H E':=⟨a,ring2,2,rfl,rfl,by decide,g,by decide,in2,QW,hL,e⟩
 have W:∃(b:Addr) (ss:List Say) (n:Nat),V.ref a = .ref b∧(2:Int)=n∧n≤400∧SaysAt H b ss∧ss.length<64∧ss.all (inside n)=true∧NoH ss∧NoH (ss.map trn)∧ZP H Z.Pt QL ∧
  ∀(H':Hp) (dx l:Addr),SameN H H'→ZP H' Z.Pt QL→H' dx=some (.xd [("ring",.ref l)])→E' (.ref Z.CB) (some dx) H':=⟨a,ring2,2,rfl,rfl,by decide,g,by decide,in2,QW,Di,hL,e⟩
 rcases hd with rfl | rfl | rfl | rfl | rfl
 ·exact⟨by decide,by decide,nofun,nofun,nofun,fun _=>⟨_,_,_,_,rfl,R _ ⟨.int 0,.int 1,(fun z=>by cases z),(fun _ z=>by cases z),fun _ _=>B⟩⟩,nofun,nofun,nofun,nofun,nofun⟩
 ·exact⟨by decide,by decide,nofun,nofun,nofun,nofun,fun _=>⟨_,_,_,_,rfl,R _ ⟨.int 0,.int 1,(fun z=>by cases z),(fun _ z=>by cases z),fun _ _=>B⟩⟩,nofun,nofun,nofun,nofun⟩
 ·refine⟨by decide,by decide,nofun,nofun,nofun,nofun,nofun,fun _=>⟨_,_,_,rfl,R _ ⟨.int 0,xs,hx,by lia,fun z=>?_,fun _=>B⟩⟩,nofun,nofun,nofun⟩
  rw[hl] at z;cases z
 ·exact⟨by decide,by decide,nofun,nofun,nofun,nofun,nofun,nofun,fun _=>⟨_,_,_,rfl,R _ ⟨.int 0,(fun z=>by cases z),fun _=>W⟩⟩,nofun,nofun⟩
 ·exact⟨by decide,by decide,nofun,nofun,nofun,nofun,nofun,nofun,nofun,fun _=>⟨_,_,_,rfl,R _ ⟨.int 0,(fun z=>by cases z),fun _=>W⟩⟩,nofun⟩
end
theorem WH:∀ n:Nat,((List.range n).filterMap fun _=>some (V.bl true))=(List.replicate n true).map V.bl
 | 0=>rfl
 | n+1=>by rw[List.range_succ,List.filterMap_append,WH n,List.replicate_succ',List.map_append];rfl
theorem YI(n:Nat):(List.replicate n true).all id=true:=List.all_eq_true.mpr fun x hx=>by rw[List.eq_of_mem_replicate hx];rfl
theorem YA{K:Frag}{a:Addr}{xs:List V}{g:TG}{te:TE}{H1:Hp}{σ0:L2.St}{D:Addr}{Q:VK}(SG:L2.St→Prop)(hD:H1 D=none)(hq:SqL K H1 a xs)(hn:xs.length≤1000)(s0:SG σ0)(step:∀(x:V) (σc:L2.St) (Hc:Hp) (R:V→L2.St→Hp→Prop),x∈xs→Same H1 Hc→SG σc→(∀ σ2 H4,SG σ2→Same Hc H4→R (.bl true) σ2 H4)→g x σc Hc fun σ2 H2=>te σ2 H2 fun v H4=>R v σ2 H4)(fin:∀ Hc,Same H1 Hc→SqL K Hc D ((List.replicate xs.length true).map V.bl)→Q (.ref D) Hc):JB (Itl K a) g tYes te σ0 H1 D Q:=by
 refine Yg (outs:=fun _=>some (.bl true)) SG hD hq (Zf hn) s0 (fun i x σc Hc Yes No hx sm _ sg yes _=>?_) (fun Hc s e=>fin Hc s ?_)
 ·exact step x σc Hc (fun v σ H=>Yes v σ H) (List.mem_of_getElem? hx) sm sg fun σ2 H4 sg2 s4=>yes σ2 H4 _ sg2 s4 rfl
 ·rw[WH] at e;exact SqL.of e
theorem M5{K:Frag}{lo:Int}{n:Nat}{g:TG}{te:TE}{H1:Hp}{σ0:L2.St}{D:Addr}{Q:VK}(SG:L2.St→Prop)(RG:Hp→Prop)(hD:H1 D=none)(hn:n≤1000)(s0:SG σ0)(r0:RG H1)(rm:∀ H o,(H D=none∨∃ acc,H D=some (.lst acc))→RG H→RG (upd H D (.lst o)))(step:∀(i:Nat) (σc:L2.St) (Hc:Hp) (R:V→L2.St→Hp→Prop),i<n→SameN H1 Hc→RG Hc→SG σc→(∀ σ2 H4,SG σ2→SameN Hc H4→RG H4→R (.bl true) σ2 H4)→g (.int (lo+i)) σc Hc fun σ2 H2=>te σ2 H2 fun v H4=>R v σ2 H4)(fin:∀ Hc,SameN H1 Hc→RG Hc→SqL K Hc D ((List.replicate n true).map V.bl)→Q (.ref D) Hc):JB (Itr lo n) g tYes te σ0 H1 D Q:=by
 have sD:∀{Hc:Hp} {o:List V},SameN H1 Hc→SameN H1 (upd Hc D (.lst o)):=fun{Hc o} e=>⟨fun b u n q=>by rw[Z1 (Z4 q hD)];exact e b u n q,fun b hb=>by
  by_cases z:b=D
  ·subst z;exact hD
  ·rw[Z1 z] at hb;exact e.tb b hb⟩
 refine⟨fun i m acc σc Hc=>m=n-i∧i≤n∧acc=(List.replicate i true).map V.bl∧SameN H1 Hc∧RG Hc∧Hc D=some (.lst acc)∧SG σc,⟨n,rfl,Nat.zero_le _,rfl,sD (SameN.refl _),rm _ _ (.inl hD) r0,Z2,s0⟩,?_⟩;rintro i m acc σc Hc ⟨rfl,hi,rfl,sm,rg,hDc,sg⟩;by_cases hlt:i<n
 ·refine .inr ⟨hlt,fun x H' y=>?_⟩;obtain⟨e1,e2⟩:=y;subst e1;subst e2;refine step i σc _ (fun v σ2 H4=>H4 D=some (.lst ((List.replicate i true).map V.bl))∧((List.replicate i true).map V.bl).length<zF∧∃ m',m'<n-i∧m'=n-(i+1)∧i+1≤n∧((List.replicate i true).map V.bl++[v])=(List.replicate (i+1) true).map V.bl∧SameN H1 (upd H4 D (.lst ((List.replicate i true).map V.bl++[v])))∧RG (upd H4 D (.lst ((List.replicate i true).map V.bl++[v])))∧(upd H4 D (.lst ((List.replicate i true).map V.bl++[v]))) D=some (.lst ((List.replicate i true).map V.bl++[v]))∧SG σ2) hlt sm rg sg fun σ2 H4 sg2 s4 r4=>?_;refine⟨s4 _ _ rfl hDc,Zf (by rw[List.length_map,List.length_replicate];lia),n-(i+1),by lia,rfl,hlt,?_,sD (sm.trans s4),rm _ _ (.inr ⟨_,s4 _ _ rfl hDc⟩) r4,Z2,sg2⟩
  rw[List.replicate_succ',List.map_append];rfl
 ·have e:i=n:=by lia
  subst e;exact .inl ⟨Nat.le_refl _,fin Hc sm rg (SqL.of hDc)⟩
theorem Dq{H:Hp}{D Pt:Addr}{o:List V}{q:Str}(hD:H D=none∨∃ acc,H D=some (.lst acc))(h:ZP H Pt q):ZP (upd H D (.lst o)) Pt q:=by
 obtain⟨ps,hp,ht,hc⟩:=h;have ne:∀{b:Addr} {u:HO},H b=some u→(∀ xs,u ≠ .lst xs)→b≠D:=fun hb hu z=>by
  subst z;rcases hD with e | ⟨acc,e⟩
  ·rw[e] at hb;cases hb
  ·rw[e] at hb;cases hb;exact hu _ rfl
 exact⟨ps,by rw[Z1 (ne hp fun _ z=>by cases z)];exact hp,ht,fun pos cv e=>by
  obtain⟨c,rfl,hc⟩:=hc pos cv e;exact⟨c,rfl,by rw[Z1 (ne hc fun _ z=>by cases z)];exact hc⟩⟩
theorem mem4{z:V}(h:z∈[V.int 1,V.int 3,V.int 4,V.int 8]):∃ d:Int,z = .int d∧(d=1∨d=3∨d=4∨d=8):=by
 simp only[List.mem_cons,List.not_mem_nil,or_false] at h;rcases h with rfl | rfl | rfl | rfl <;> exact⟨_,rfl,by decide⟩
theorem RF{z:V}(h:z∈[V.int 3,V.int 4]):∃ d:Int,z = .int d∧(d=3∨d=4):=by
 simp only[List.mem_cons,List.not_mem_nil,or_false] at h;rcases h with rfl | rfl <;> exact⟨_,rfl,by decide⟩
theorem RE{z:V}(h:z∈[V.int 6,V.int 7]):∃ d:Int,z = .int d∧(d=6∨d=7):=by
 simp only[List.mem_cons,List.not_mem_nil,or_false] at h;rcases h with rfl | rfl <;> exact⟨_,rfl,by decide⟩
theorem Vu{H:Hp}{q:Addr}{ns:List Int}(h:H q=some (.lst (ns.map V.int)))(hz:ns.length≤1000):KnL H (.ref q):=⟨.lst h,fun xs e=>by
 rw[YF h] at e;cases e;exact⟨by rw[List.length_map];exact hz,fun x hx=>by obtain⟨i,_,rfl⟩:=List.mem_map.mp hx;exact .int i⟩⟩
theorem ifall{r:List V→Hp→VK→Prop}{cap:List (Option Nat)}{te0 te:TE}{g:TG}{t u:TS}{D:Ends}{σ:L2.St}{H:Hp}(h:te0 σ H fun x H1=>∃ a,x = .ref a∧(∃ xs,SqL K H1 a xs)∧∀ D',H1 D'=none→JB (Itl K a) g tYes te (capσ cap σ) H1 D' fun v H2=>r [v] H2 fun x H3=>∃ b,x = .bl b∧if(!b)=true then t D σ H3 else u D σ H3):
  tIfS (tNot (tB (tCB r (Yd (tComp cap (Tb K te0) g tYes te) tNil)))) t u D σ H:=h
theorem Dj{D:Ends}{σ:L2.St}{H:Hp}(h:D.nx σ H):DQ D σ H:=h
def Mf (te:TE)(σ:L2.St)(v:V):Prop:=∀(H:Hp) (Q:VK),Q v H→te σ H Q
def MAf (ta:TA)(σ:L2.St)(vs:List V):Prop:=∀(H:Hp) (Q:List V→Hp→Prop),Q vs H→ta σ H Q
def M1 (te:TE)(σ:L2.St)(x:S1):Prop:=∀(H:Hp) (Q:VK),(∀ H' v,Same H H'→at1 H' x v→Q v H')→te σ H Q
def M2 (te:TE)(σ:L2.St)(x:S2):Prop:=∀(H:Hp) (Q:VK),(∀ H' v,Same H H'→at2 H' x v→Q v H')→te σ H Q
def MA1 (ta:TA)(σ:L2.St)(xs:List S1):Prop:=∀(H:Hp) (Q:List V→Hp→Prop),(∀ H' vs,Same H H'→Paired (at1 H') xs vs→Q vs H')→ta σ H Q
def MA2 (ta:TA)(σ:L2.St)(xs:List S2):Prop:=∀(H:Hp) (Q:List V→Hp→Prop),(∀ H' vs,Same H H'→Paired (at2 H') xs vs→Q vs H')→ta σ H Q
section
variable {te:TE}{ta:TA}{σ:L2.St}{v:V}{vs:List V}{x:S1}{xs:List S1}{y:S2}{ys:List S2}
theorem mf_c:Mf (tC v) σ v:=fun _ _ h=>h
theorem Ze:MAf tNil σ []:=fun _ _ h=>h
theorem Z6(h:Mf te σ v)(k:MAf ta σ vs):MAf (Yd te ta) σ (v::vs):=fun H Q q=>h H _ (k H _ q)
theorem m1_f(h:Mf te σ v)(f:fl v=true:=by rfl):M1 te σ (.at v):=fun H Q k=>h H Q (k H v (Same.refl _) ⟨rfl,f⟩)
theorem YX{n:Nat}(h:n≤1000):n≤zF:=Nat.le_of_lt (Zf h)
theorem ZN(h:MAf ta σ vs)(f:vs.all fl=true:=by rfl)(z:vs.length≤1000:=by exact Nat.le_of_ble_eq_true rfl):M1 (tLst ta) σ (.lst vs):=fun H Q k=>h H _ ⟨YX z,fun p hp=>k _ _ (Same.up hp) ⟨p,rfl,Z2,f,z⟩⟩
theorem ZZ(h:MAf ta σ vs)(f:vs.all fl=true:=by rfl)(z:vs.length≤1000:=by exact Nat.le_of_ble_eq_true rfl):M1 (tTup ta) σ (.tup vs):=fun H Q k=>h H _ ⟨YX z,fun p hp=>k _ _ (Same.up hp) ⟨p,rfl,Z2,f,z⟩⟩
theorem Qk:M1 Qa σ .dic:=fun H Q k p hp=>k _ _ (Same.up hp) ⟨p,rfl,Z2⟩
theorem m2_s(h:M1 te σ x):M2 te σ (.s x):=fun H Q k=>h H Q fun H' v s a=>k H' v s a
theorem ZV:MA1 tNil σ []:=fun H Q k=>k H [] (Same.refl _) .nil
theorem Zz(h:M1 te σ x)(k:MA1 ta σ xs):MA1 (Yd te ta) σ (x::xs):=fun H Q q=>h H _ fun H1 v s1 a1=>k H1 _ fun H2 vs s2 a2=>q H2 _ (s1.trans s2) (.cons (Jd s2 a1) a2)
theorem YE:MA2 tNil σ []:=fun H Q k=>k H [] (Same.refl _) .nil
theorem Z7(h:M2 te σ y)(k:MA2 ta σ ys):MA2 (Yd te ta) σ (y::ys):=fun H Q q=>h H _ fun H1 v s1 a1=>k H1 _ fun H2 vs s2 a2=>q H2 _ (s1.trans s2) (.cons (ZA s2 a1) a2)
theorem Yl(h:MA1 ta σ xs)(z:xs.length≤1000:=by exact Nat.le_of_ble_eq_true rfl):M2 (tLst ta) σ (.lst xs):=fun H Q k=>h H _ fun H1 vs s1 a1=>by
 have zv:vs.length≤1000:=by rw[ZD a1];exact z
 exact⟨YX zv,fun p hp=>k _ _ (s1.trans (Same.up hp)) ⟨p,vs,rfl,Z2,Y7 (fun _ _=>Jd (Same.up hp)) a1,zv⟩⟩
theorem TU(h:MA1 ta σ xs)(z:xs.length≤1000:=by exact Nat.le_of_ble_eq_true rfl):M2 (tTup ta) σ (.tup xs):=fun H Q k=>h H _ fun H1 vs s1 a1=>by
 have zv:vs.length≤1000:=by rw[ZD a1];exact z
 exact⟨YX zv,fun p hp=>k _ _ (s1.trans (Same.up hp)) ⟨p,vs,rfl,Z2,Y7 (fun _ _=>Jd (Same.up hp)) a1,zv⟩⟩
theorem made(h:MA2 ta σ ys){H:Hp}{Q:VK}(q:∀ H' l vs,Same H H'→H l=none→H' l=some (.lst vs)→Paired (at2 H') ys vs→Q (.ref l) H')(z:ys.length≤1000:=by decide):tLst ta σ H Q:=h H _ fun H1 vs s1 a1=>by
 have zv:vs.length≤1000:=by rw[ZD a1];exact z
 exact⟨YX zv,fun p hp=>q _ _ vs (s1.trans (Same.up hp)) (s1.free hp) Z2 (Y7 (fun _ _=>ZA (Same.up hp)) a1)⟩
theorem JN{α β:Type}{R:α→β→Prop}{xs xs':List α}{ys ys':List β}(h:Paired R xs ys)(h':Paired R xs' ys'):Paired R (xs++xs') (ys++ys'):=by
 induction h with
 | nil=>exact h'
 | cons r _ ih=>exact .cons r ih
theorem Jv{i:Int}:Mf (tUn (rU fun i=>.int (-i)) (tC (.int i))) σ (.int (-i)):=fun _ _ h=>⟨i,rfl,h⟩
theorem JZ{i:Nat}{c m:Int}(h:σ[i]?=some (some (.int c)))(hm:0<m):Mf (tOp (rI (fun _ j=>0<j) fun i j=>.int (i % j)) (tVar i) (tC (.int m))) σ (.int (c % m)):=fun _ _ q=>⟨_,h,_,_,rfl,rfl,hm,q⟩
theorem Uz{i:Nat}(h:σ[i]?=some (some v)):Mf (tVar i) σ v:=fun _ _ q=>⟨_,h,q⟩
theorem Vo{g:Int→Int→V}{te':TE}{i j:Int}(h:Mf te σ (.int i))(h':Mf te' σ (.int j)):Mf (tOp (rI0 g) te te') σ (g i j):=fun H _ q=>h H _ (h' H _ ⟨i,j,rfl,rfl,q⟩)
end
theorem TD{X:Cx}{t:TA}{es:List Expr}{pos:Pos}(hr:PA X es t):PA X (.Dict [] [] pos::es) (Yd Qa t):=Z0 YS hr
section
variable {X:Cx}{t:TA}{te:TE}{es xs:List Expr}{pos:Pos}
theorem pa_C{c}{j}(ha:PE X (.Constant c j pos) te)(hr:PA X es t):PA X (.Constant c j pos::es) (Yd te t):=Z0 ha hr
theorem pa_L(ha:PE X (.List xs pos) te)(hr:PA X es t):PA X (.List xs pos::es) (Yd te t):=Z0 ha hr
theorem pa_T{j}(ha:PE X (.Tuple xs j pos) te)(hr:PA X es t):PA X (.Tuple xs j pos::es) (Yd te t):=Z0 ha hr
theorem pa_U{op}{a:Expr}(ha:PE X (.UnaryOp op a pos) te)(hr:PA X es t):PA X (.UnaryOp op a pos::es) (Yd te t):=Z0 ha hr
theorem pa_B{op}{a b:Expr}(ha:PE X (.BinOp a op b pos) te)(hr:PA X es t):PA X (.BinOp a op b pos::es) (Yd te t):=Z0 ha hr
theorem pa_N{x:Str}(ha:PE X (.Name x pos) te)(hr:PA X es t):PA X (.Name x pos::es) (Yd te t):=Z0 ha hr
end
structure WE(X:Cx)(e:Expr)(t:TE):Prop where
 h:PE X e t
structure WA(X:Cx)(es:List Expr)(t:TA):Prop where
 h:PA X es t
structure WS(X:Cx)(s:Stmt)(t:TS):Prop where
 h:PS X s t
structure WSs(X:Cx)(s:List Stmt)(t:TS):Prop where
 h:PSs X s t
section
variable {X:Cx}{a b e:Expr}{es xs:List Expr}{ta tb te:TE}{t:TA}{pos:Pos}{st:Stmt}{rest:List Stmt}{ts us:TS}
theorem Zb{i j}:WE X (.Constant (.int i) j pos) (tC (.int i)):=⟨Z8⟩
theorem V6{b j}:WE X (.Constant (.bool b) j pos) (tC (.bl b)):=⟨Yc⟩
theorem YL{j}:WE X (.Constant .none j pos) (tC .non):=⟨YC⟩
theorem J0{x j}:WE X (.Constant (.str x) j pos) (tC (.str x)):=⟨YB⟩
theorem wv(i:Nat){x:Str}(hN:X.N[i]?=some x:=by rfl)(hv:Vis X.env.scope x:=by first | exact Or.inl rfl | exact Or.inr (Or.inl rfl) | exact Or.inr (Or.inr rfl))(hd:(x==("__debug__":Str))=false:=by decide)(hcd:(x==("__classdict__":Str))=false:=by decide):WE X (.Name x pos) (tVar i):=⟨MK hN hv hd hcd⟩
theorem YW{op:Operator}{r:R2}(ho:OpR X (binaryOp op) r)(ha:WE X a ta)(hb:WE X b tb):WE X (.BinOp a op b pos) (tOp r ta tb):=⟨Yi ho ha.h hb.h⟩
theorem UJ{op:UnaryOp}{r:V→Hp→VK→Prop}(ho:UnR X (unaryOp op) r)(ha:WE X a ta):WE X (.UnaryOp op a pos) (tUn r ta):=⟨ML ho ha.h⟩
theorem Zi(h:WA X es t):WE X (.List es pos) (tLst t):=⟨Y6 h.h⟩
theorem ZH{x1}(h:WA X es t):WE X (.Tuple es x1 pos) (tTup t):=⟨MM h.h⟩
theorem Zc:WA X [] tNil:=⟨Z3⟩
theorem wa_C{c}{j}(ha:WE X (.Constant c j pos) te)(hr:WA X es t):WA X (.Constant c j pos::es) (Yd te t):=⟨Z0 ha.h hr.h⟩
theorem wa_L(ha:WE X (.List xs pos) te)(hr:WA X es t):WA X (.List xs pos::es) (Yd te t):=⟨Z0 ha.h hr.h⟩
theorem wa_T{j}(ha:WE X (.Tuple xs j pos) te)(hr:WA X es t):WA X (.Tuple xs j pos::es) (Yd te t):=⟨Z0 ha.h hr.h⟩
theorem wa_U{op}(ha:WE X (.UnaryOp op a pos) te)(hr:WA X es t):WA X (.UnaryOp op a pos::es) (Yd te t):=⟨Z0 ha.h hr.h⟩
theorem wa_B{op}(ha:WE X (.BinOp a op b pos) te)(hr:WA X es t):WA X (.BinOp a op b pos::es) (Yd te t):=⟨Z0 ha.h hr.h⟩
theorem wa_N{x:Str}(ha:WE X (.Name x pos) te)(hr:WA X es t):WA X (.Name x pos::es) (Yd te t):=⟨Z0 ha.h hr.h⟩
theorem Q7(hr:WA X es t):WA X (.Dict [] [] pos::es) (Yd Qa t):=⟨TD hr.h⟩
theorem Uq(he:WE X e te):WS X (.Return (some e) pos) (tRet te):=⟨Zj he.h⟩
theorem M8{i:Nat}{x:Str}{pos':Pos}(hN:X.N.Nodup)(hi:X.N[i]?=some x)(hx:Loc X.env.scope x)(he:WE X e te)(hs:swapsWith e (some (.Name x pos')) pos.line X.env=pure false:=by rfl)(hf:X.fn x=true∨X.env.scope.names.lookup x=some .local:=by first | exact .inl rfl | exact .inr rfl | assumption):
  WS X (.Assign [.Name x pos'] e pos) (tAsg te (Nl i)):=⟨Zu hN hi hx he.h hs hf⟩
theorem Ti{tg:Expr}{g:TG}(he:WE X e te)(hg:PG X tg g)(hs:swapsWithSole [tg] e pos.line X.env=pure false:=by rfl)(hw:swappedStores [tg] e X.env=pure none:=by rfl)(h1:(assignEach [tg] X.env).map (·.2)=[assign tg X.env]:=by rfl):WS X (.Assign [tg] e pos) (tAsg te g):=⟨TB he.h hg hs hw h1⟩
theorem Th{sts:List Stmt}(h:PSs X sts ts):WSs X sts ts:=⟨h⟩
theorem JC(h1:WS X st ts):WSs X [st] ts:=⟨Z9 h1.h⟩
theorem V5(h1:WS X st ts)(h2:WSs X rest us):WSs X (st::rest) (tSeq ts us):=⟨Z5 h1.h h2.h⟩
end
theorem okW{x qual:Str}{st:Stmt}{f:Addr}{fd:FuncData}{N ps:List Str}{k:Nat}{sp:Sp}(F:Fun K x qual st f fd)(S:Zd N ps (defScope st))(len:∀ vs H Q E,sp vs H Q E→vs.length=ps.length)(hbody:∀(bf:Value) (A:Around) (outer:List Env) (s:Shared) (H:Hp) (vs:List V) (Q:VK) (E:XK),Room k (A.deeper (envOfC qual (defScope st) s.heap.objs.size f bf))→sp vs H Q E →
   ∃ t,WSs (cxOf CX0 P w K mg base N qual (defScope st) f bf A outer s H E).nox (ZL st) t∧t { nx:=fun _ H'=>Q .non H',rt:=Q } (start N vs) H):FnOk P w K mg base CX0 (k+1) f fd ps sp :=
 F.ok S len fun bf A outer s H vs Q E hr h=>by
  obtain⟨t,h,q⟩:=hbody bf A outer s H vs Q E hr h;exact⟨t,h.h,q⟩
def Vq(c:Int):List S2:=[.s (.at .non),.s (.at (.int 0)),.s (.at (.int (-1))),.s (.at (.int (-1-c % 9))),.s (.at (.bl true)),.s (.at (.str "2")),.s (.lst [.int 2]),.s (.tup [.int 2])]
def Uu(ls:Int→List S2):Sp:=fun vs H Q _=>∃ c:Int,vs=[.int c]∧∀ H' l xs,Same H H'→H l=none→H' l=some (.lst xs)→Paired (at2 H') (ls c) xs→Q (.ref l) H'
theorem Mv:Zd ["_law_cell"] ["_law_cell"] (defScope Yq):=fs7
theorem Gm{f:Addr}{fd:FuncData}(D:Def K mg "_law_counts" Yq ["_law_cell"] f fd):FnOk P w K mg base CX0 1 f fd ["_law_cell"] (Uu Vq):=by
 refine okW D.fn Mv (fun vs H Q E h=>?_) (fun bf A outer s H vs Q E hr h=>?_)
 ·obtain⟨c,rfl,_⟩:=h;rfl
 ·obtain⟨c,rfl,k⟩:=h;refine⟨_,JC (Uq (Zi (wa_C YL (wa_C Zb (wa_U (UJ J1 Zb) (wa_B (YW Vl (UJ J1 Zb) (YW Ji (wv 0) Zb)) (wa_C V6 (wa_C J0 (wa_L (Zi (wa_C Zb Zc)) (wa_T (ZH (wa_C Zb Zc)) Zc)))))))))),?_⟩;exact made (ys:=Vq c) (Z7 (m2_s (m1_f mf_c)) (Z7 (m2_s (m1_f mf_c)) (Z7 (m2_s (m1_f Jv)) (Z7 (m2_s (m1_f (Vo Jv (JZ rfl (by decide))))) (Z7 (m2_s (m1_f mf_c)) (Z7 (m2_s (m1_f mf_c)) (Z7 (m2_s (ZN (Z6 mf_c Ze))) (Z7 (m2_s (ZZ (Z6 mf_c Ze))) YE)))))))) k (by show 8≤1000;decide)
def Vp(c:Int):List S2:=[.s (.at (.non)),.s (.at (.int (-1))),.s (.at (.int 2)),.s (.at (.int (2+c % 9))),.s (.at (.int (-1-c % 9))),.s (.at (.bl true)),.s (.at (.str "0")),.s (.lst [.int 0])]
theorem Mt:Zd ["_law_cell"] ["_law_cell"] (defScope Y1):=fs7
theorem Gh{f:Addr}{fd:FuncData}(D:Def K mg "_law_bad_places" Y1 ["_law_cell"] f fd):FnOk P w K mg base CX0 1 f fd ["_law_cell"] (Uu Vp):=by
 refine okW D.fn Mt (fun vs H Q E h=>?_) (fun bf A outer s H vs Q E hr h=>?_)
 ·obtain⟨c,rfl,_⟩:=h;rfl
 ·obtain⟨c,rfl,k⟩:=h;refine⟨_,JC (Uq (Zi (wa_C YL (wa_U (UJ J1 Zb) (wa_C Zb (wa_B (YW Js Zb (YW Ji (wv 0) Zb)) (wa_B (YW Vl (UJ J1 Zb) (YW Ji (wv 0) Zb)) (wa_C V6 (wa_C J0 (wa_L (Zi (wa_C Zb Zc)) Zc)))))))))),?_⟩;exact made (ys:=Vp c) (Z7 (m2_s (m1_f mf_c)) (Z7 (m2_s (m1_f Jv)) (Z7 (m2_s (m1_f mf_c)) (Z7 (m2_s (m1_f (Vo mf_c (JZ rfl (by decide))))) (Z7 (m2_s (m1_f (Vo Jv (JZ rfl (by decide))))) (Z7 (m2_s (m1_f mf_c)) (Z7 (m2_s (m1_f mf_c)) (Z7 (m2_s (ZN (Z6 mf_c Ze))) YE)))))))) k (by show 8≤1000;decide)
def UA(c:Int):List S2:=[.s (.at (.non)),.s (.at (.str "1")),.s (.at (.bl true)),.s (.lst [.int 1]),.s (.tup [.int 1]),.s (.dic)]
theorem G2:Zd ["_law_cell"] ["_law_cell"] (defScope ZT):=fs7
theorem Xy{f:Addr}{fd:FuncData}(D:Def K mg "_law_bad_numbers" ZT ["_law_cell"] f fd):FnOk P w K mg base CX0 1 f fd ["_law_cell"] (Uu UA):=by
 refine okW D.fn G2 (fun vs H Q E h=>?_) (fun bf A outer s H vs Q E hr h=>?_)
 ·obtain⟨c,rfl,_⟩:=h;rfl
 ·obtain⟨c,rfl,k⟩:=h;refine⟨_,JC (Uq (Zi (wa_C YL (wa_C J0 (wa_C V6 (wa_L (Zi (wa_C Zb Zc)) (wa_T (ZH (wa_C Zb Zc)) (Q7 Zc)))))))),?_⟩;exact made (ys:=UA c) (Z7 (m2_s (m1_f mf_c)) (Z7 (m2_s (m1_f mf_c)) (Z7 (m2_s (m1_f mf_c)) (Z7 (m2_s (ZN (Z6 mf_c Ze))) (Z7 (m2_s (ZZ (Z6 mf_c Ze))) (Z7 (m2_s Qk) YE)))))) k (by show 6≤1000;decide)
def XM(c:Int):List S2:=[.s (.at (.non)),.s (.tup [.int 1,.int 2]),.s (.at (.str "12")),.s (.dic),.s (.lst [.int 1]),.s (.lst [.int 1,.int 2,.int 3]),.s (.lst [.int 1,.non]),.s (.lst [.int 1,.bl true]),.s (.lst [.str "1",.int 2]),.lst [.lst [.int 1],.at (.int 2)],.s (.lst []),.s (.at (.int c)),.s (.lst [.int c])]
theorem Ty:Zd ["_law_cell"] ["_law_cell"] (defScope ZU):=fs7
theorem Df{f:Addr}{fd:FuncData}(D:Def K mg "_law_bad_heights" ZU ["_law_cell"] f fd):FnOk P w K mg base CX0 1 f fd ["_law_cell"] (Uu XM):=by
 refine okW D.fn Ty (fun vs H Q E h=>?_) (fun bf A outer s H vs Q E hr h=>?_)
 ·obtain⟨c,rfl,_⟩:=h;rfl
 ·obtain⟨c,rfl,k⟩:=h;refine⟨_,JC (Uq (Zi (wa_C YL (wa_T (ZH (wa_C Zb (wa_C Zb Zc))) (wa_C J0 (Q7 (wa_L (Zi (wa_C Zb Zc)) (wa_L (Zi (wa_C Zb (wa_C Zb (wa_C Zb Zc)))) (wa_L (Zi (wa_C Zb (wa_C YL Zc))) (wa_L (Zi (wa_C Zb (wa_C V6 Zc))) (wa_L (Zi (wa_C J0 (wa_C Zb Zc))) (wa_L (Zi (wa_L (Zi (wa_C Zb Zc)) (wa_C Zb Zc))) (wa_L (Zi Zc) (wa_N (wv 0) (wa_L (Zi (wa_N (wv 0) Zc)) Zc))))))))))))))),?_⟩;exact made (ys:=XM c) (Z7 (m2_s (m1_f mf_c)) (Z7 (m2_s (ZZ (Z6 mf_c (Z6 mf_c Ze)))) (Z7 (m2_s (m1_f mf_c)) (Z7 (m2_s Qk) (Z7 (m2_s (ZN (Z6 mf_c Ze))) (Z7 (m2_s (ZN (Z6 mf_c (Z6 mf_c (Z6 mf_c Ze))))) (Z7 (m2_s (ZN (Z6 mf_c (Z6 mf_c Ze)))) (Z7 (m2_s (ZN (Z6 mf_c (Z6 mf_c Ze)))) (Z7 (m2_s (ZN (Z6 mf_c (Z6 mf_c Ze)))) (Z7 (Yl (Zz (ZN (Z6 mf_c Ze)) (Zz (m1_f mf_c) ZV))) (Z7 (m2_s (ZN Ze)) (Z7 (m2_s (m1_f (Uz rfl))) (Z7 (m2_s (ZN (Z6 (Uz rfl) Ze))) YE))))))))))))) k (by show 13≤1000;decide)
def Vr(c:Int):List S2:=[.s (.at (.non)),.s (.tup [.int 0]),.s (.at (.str "0")),.s (.dic),.s (.lst [.int 1]),.s (.lst [.int (-1)]),.s (.lst [.bl true]),.s (.lst [.str "0"]),.s (.lst [.non]),.s (.lst [.int 0,.int 0]),.s (.lst [.int (1+c % 9)]),.s (.at (.int c)),.s (.lst [.int 0])]
theorem My:Zd ["_law_cell"] ["_law_cell"] (defScope Y2):=fs7
theorem Gq{f:Addr}{fd:FuncData}(D:Def K mg "_law_bad_chains" Y2 ["_law_cell"] f fd):FnOk P w K mg base CX0 1 f fd ["_law_cell"] (Uu Vr):=by
 refine okW D.fn My (fun vs H Q E h=>?_) (fun bf A outer s H vs Q E hr h=>?_)
 ·obtain⟨c,rfl,_⟩:=h;rfl
 ·obtain⟨c,rfl,k⟩:=h;refine⟨_,JC (Uq (Zi (wa_C YL (wa_T (ZH (wa_C Zb Zc)) (wa_C J0 (Q7 (wa_L (Zi (wa_C Zb Zc)) (wa_L (Zi (wa_U (UJ J1 Zb) Zc)) (wa_L (Zi (wa_C V6 Zc)) (wa_L (Zi (wa_C J0 Zc)) (wa_L (Zi (wa_C YL Zc)) (wa_L (Zi (wa_C Zb (wa_C Zb Zc))) (wa_L (Zi (wa_B (YW Js Zb (YW Ji (wv 0) Zb)) Zc)) (wa_N (wv 0) (wa_L (Zi (wa_C Zb Zc)) Zc))))))))))))))),?_⟩;exact made (ys:=Vr c) (Z7 (m2_s (m1_f mf_c)) (Z7 (m2_s (ZZ (Z6 mf_c Ze))) (Z7 (m2_s (m1_f mf_c)) (Z7 (m2_s Qk) (Z7 (m2_s (ZN (Z6 mf_c Ze))) (Z7 (m2_s (ZN (Z6 Jv Ze))) (Z7 (m2_s (ZN (Z6 mf_c Ze))) (Z7 (m2_s (ZN (Z6 mf_c Ze))) (Z7 (m2_s (ZN (Z6 mf_c Ze))) (Z7 (m2_s (ZN (Z6 mf_c (Z6 mf_c Ze)))) (Z7 (m2_s (ZN (Z6 (Vo mf_c (JZ rfl (by decide))) Ze))) (Z7 (m2_s (m1_f (Uz rfl))) (Z7 (m2_s (ZN (Z6 mf_c Ze))) YE))))))))))))) k (by show 13≤1000;decide)
def Nb:List S2:=[.s (.at (.non)),.tup [.tup [.int 0,.int 1,.int 2]],.s (.at (.str "012")),.s (.dic),.s (.lst [.non]),.lst [.tup [.int 0,.int 1]],.lst [.tup [.int 0,.int 1,.int 2,.int 3]],.lst [.lst [.int 0,.int 1,.int 2]],.lst [.tup [.int 0,.int 2,.int 1]],.lst [.tup [.int (-1),.int 0,.int 1]]]
def Na(c:Int):List S2:=[.lst [.tup [.bl true,.int 0,.int 1]],.lst [.tup [.int 0,.int 1,.non]],.lst [.tup [.int 0,.int 1,.str "1"]],.lst [.tup [.int 0,.int 1,.bl true]],.lst [.tup [.int 0,.int 1,.int 1],.tup [.int (2+c % 9),.int 0,.int c]]]
def N9(c:Int):List S2:=[.s (.at (.int c)),.s (.at (.int 5)),.lst [.tup [.int 0,.int 1,.int c],.at (.non)],.lst [.tup [.int 0,.int (-1-c % 9),.int 1]],.lst [.tup [.str "0",.int 1,.int 1]]]
def T7(c:Int):List S2:=(Nb++Na c)++N9 c
theorem Xo:Zd ["_law_cell","_law_some"] ["_law_cell"] (defScope ZS):=fs7
theorem De{f:Addr}{fd:FuncData}(D:Def K mg "_law_bad_sayings" ZS ["_law_cell"] f fd):FnOk P w K mg base CX0 1 f fd ["_law_cell"] (Uu T7):=by
 refine okW D.fn Xo (fun vs H Q E h=>?_) (fun bf A outer s H vs Q E hr h=>?_)
 ·obtain⟨c,rfl,_⟩:=h;rfl
 ·obtain⟨c,rfl,k⟩:=h;refine⟨_,V5 (M8 (i:=1) Xo.nd rfl (Or.inl rfl) (Zi (wa_C YL (wa_T (ZH (wa_T (ZH (wa_C Zb (wa_C Zb (wa_C Zb Zc)))) Zc)) (wa_C J0 (Q7 (wa_L (Zi (wa_C YL Zc)) (wa_L (Zi (wa_T (ZH (wa_C Zb (wa_C Zb Zc))) Zc)) (wa_L (Zi (wa_T (ZH (wa_C Zb (wa_C Zb (wa_C Zb (wa_C Zb Zc))))) Zc)) (wa_L (Zi (wa_L (Zi (wa_C Zb (wa_C Zb (wa_C Zb Zc)))) Zc)) (wa_L (Zi (wa_T (ZH (wa_C Zb (wa_C Zb (wa_C Zb Zc)))) Zc)) (wa_L (Zi (wa_T (ZH (wa_U (UJ J1 Zb) (wa_C Zb (wa_C Zb Zc)))) Zc)) Zc))))))))))))
   (V5 (M8 (i:=1) Xo.nd rfl (Or.inl rfl) (YW JY (wv 1) (Zi (wa_L (Zi (wa_T (ZH (wa_C V6 (wa_C Zb (wa_C Zb Zc)))) Zc)) (wa_L (Zi (wa_T (ZH (wa_C Zb (wa_C Zb (wa_C YL Zc)))) Zc)) (wa_L (Zi (wa_T (ZH (wa_C Zb (wa_C Zb (wa_C J0 Zc)))) Zc)) (wa_L (Zi (wa_T (ZH (wa_C Zb (wa_C Zb (wa_C V6 Zc)))) Zc)) (wa_L (Zi (wa_T (ZH (wa_C Zb (wa_C Zb (wa_C Zb Zc)))) (wa_T (ZH (wa_B (YW Js Zb (YW Ji (wv 0) Zb)) (wa_C Zb (wa_N (wv 0) Zc)))) Zc))) Zc))))))))
   (JC (Uq (YW JY (wv 1) (Zi (wa_N (wv 0) (wa_C Zb (wa_L (Zi (wa_T (ZH (wa_C Zb (wa_C Zb (wa_N (wv 0) Zc)))) (wa_C YL Zc))) (wa_L (Zi (wa_T (ZH (wa_C Zb (wa_B (YW Vl (UJ J1 Zb) (YW Ji (wv 0) Zb)) (wa_C Zb Zc)))) Zc)) (wa_L (Zi (wa_T (ZH (wa_C J0 (wa_C Zb (wa_C Zb Zc)))) Zc)) Zc)))))))))),?_⟩
  unfold tSeq tAsg;refine made (ys:=Nb) (Z7 (m2_s (m1_f mf_c)) (Z7 (TU (Zz (ZZ (Z6 mf_c (Z6 mf_c (Z6 mf_c Ze)))) ZV)) (Z7 (m2_s (m1_f mf_c)) (Z7 (m2_s Qk) (Z7 (m2_s (ZN (Z6 mf_c Ze))) (Z7 (Yl (Zz (ZZ (Z6 mf_c (Z6 mf_c Ze))) ZV)) (Z7 (Yl (Zz (ZZ (Z6 mf_c (Z6 mf_c (Z6 mf_c (Z6 mf_c Ze))))) ZV)) (Z7 (Yl (Zz (ZN (Z6 mf_c (Z6 mf_c (Z6 mf_c Ze)))) ZV)) (Z7 (Yl (Zz (ZZ (Z6 mf_c (Z6 mf_c (Z6 mf_c Ze)))) ZV)) (Z7 (Yl (Zz (ZZ (Z6 Jv (Z6 mf_c (Z6 mf_c Ze)))) ZV)) YE)))))))))) (fun H1 l1 x1 s1 n1 h1 a1=>?_) (by show 10≤1000;decide)
  refine⟨_,rfl,?_⟩;refine made (ys:=Na c) (Z7 (Yl (Zz (ZZ (Z6 mf_c (Z6 mf_c (Z6 mf_c Ze)))) ZV)) (Z7 (Yl (Zz (ZZ (Z6 mf_c (Z6 mf_c (Z6 mf_c Ze)))) ZV)) (Z7 (Yl (Zz (ZZ (Z6 mf_c (Z6 mf_c (Z6 mf_c Ze)))) ZV)) (Z7 (Yl (Zz (ZZ (Z6 mf_c (Z6 mf_c (Z6 mf_c Ze)))) ZV)) (Z7 (Yl (Zz (ZZ (Z6 mf_c (Z6 mf_c (Z6 mf_c Ze)))) (Zz (ZZ (Z6 (Vo mf_c (JZ rfl (by decide))) (Z6 mf_c (Z6 (Uz rfl) Ze)))) ZV))) YE))))) (fun H2 l2 x2 s2 n2 h2 a2=>?_) (by show 5≤1000;decide)
  have z1:x1.length=10:=ZD a1;have z2:x2.length=5:=ZD a2;refine⟨l1,l2,x1,x2,rfl,rfl,s2 _ _ h1,h2,YX (by lia),fun l3 n3=>?_⟩
  have u3:Same H2 (upd H2 l3 (.lst (x1++x2))):=Same.up n3;have h3:(upd H2 l3 (.lst (x1++x2))) l3=some (.lst (x1++x2)):=Z2;generalize upd H2 l3 (.lst (x1++x2))=H3 at u3 h3;refine⟨_,rfl,?_⟩;refine made (ys:=N9 c) (Z7 (m2_s (m1_f (Uz rfl))) (Z7 (m2_s (m1_f mf_c)) (Z7 (Yl (Zz (ZZ (Z6 mf_c (Z6 mf_c (Z6 (Uz rfl) Ze)))) (Zz (m1_f mf_c) ZV))) (Z7 (Yl (Zz (ZZ (Z6 mf_c (Z6 (Vo Jv (JZ rfl (by decide))) (Z6 mf_c Ze)))) ZV)) (Z7 (Yl (Zz (ZZ (Z6 mf_c (Z6 mf_c (Z6 mf_c Ze)))) ZV)) YE))))) (fun H4 l4 x4 s4 n4 h4 a4=>?_) (by show 5≤1000;decide)
  have z4:x4.length=5:=ZD a4;refine⟨l3,l4,_,x4,rfl,rfl,s4 _ _ h3,h4,YX (by rw[List.length_append];lia),fun l5 n5=>?_⟩
  have u5:Same H4 (upd H4 l5 (.lst ((x1++x2)++x4))):=Same.up n5;have sA:Same H1 (upd H4 l5 (.lst ((x1++x2)++x4))):=((s2.trans u3).trans s4).trans u5;have sB:Same H2 (upd H4 l5 (.lst ((x1++x2)++x4))):=(u3.trans s4).trans u5;exact k _ l5 _ (s1.trans sA) ((s1.trans ((s2.trans u3).trans s4)).free n5) Z2 (JN (JN (Y7 (fun _ _=>ZA sA) a1) (Y7 (fun _ _=>ZA sB) a2)) (Y7 (fun _ _=>ZA u5) a4))
theorem mod9(c:Int):0≤c % 9:=Int.emod_nonneg _ (by decide)
theorem Nx{c i:Int}(h:i<0):cnt c i=false:=by
 unfold cnt;rw[decide_eq_false (by lia)];rfl
theorem Qq{c i:Int}(h:c≤i):cnt c i=false:=by
 unfold cnt;rw[show decide (i<c)=false from decide_eq_false (by lia),Bool.and_false]
def Each {α:Type}(p:α→Prop):List α→Prop
 | []=>True
 | a::as=>p a∧Each p as
theorem Each.mem{α:Type}{p:α→Prop}:∀{xs:List α},Each p xs→∀ x∈xs,p x
 | a::as,h,x,hx=>by
  rcases List.mem_cons.mp hx with z | z
  ·subst z;exact h.1
  ·exact Each.mem h.2 x z
theorem Each.append{α:Type}{p:α→Prop}:∀{xs ys:List α},Each p xs→Each p ys→Each p (xs++ys)
 | [],_,_,h=>h
 | _::_,_,g,h=>⟨g.1,Each.append g.2 h⟩
theorem XW(c:Int):Each (fun x=>cok2 x=false) (Vq c):=
 ⟨rfl,rfl,rfl,decide_eq_false (by have:=mod9 c;lia),rfl,rfl,rfl,rfl,True.intro⟩
theorem Xu(c:Int):Each (fun x=>cnt2 2 x=false) (Vp c):=
 ⟨rfl,rfl,rfl,Qq (by have:=mod9 c;lia),Nx (by have:=mod9 c;lia),rfl,rfl,rfl,True.intro⟩
theorem QU(c:Int):Each (fun x=>whl2 x=false) (UA c):=⟨rfl,rfl,rfl,rfl,rfl,rfl,True.intro⟩
theorem X2(c:Int):Each (fun x=>hgt2 2 x=false) (XM c):=⟨rfl,rfl,rfl,rfl,rfl,rfl,rfl,rfl,rfl,rfl,rfl,rfl,rfl,True.intro⟩
theorem W0(c:Int):Each (fun x=>ch2 [(0,1,4)] 0 0 x=false) (Vr c):=by
 refine⟨rfl,rfl,rfl,rfl,rfl,rfl,rfl,rfl,rfl,rfl,?_,rfl,rfl,True.intro⟩;have h:cnt 1 (1+c % 9)=false:=Qq (by have:=mod9 c;lia)
 show decide ((if cnt 1 (1+c % 9)=true then(match ([((0:Int),(1:Int),(4:Int))]:List Say)[(1+c % 9).toNat]? with
   | some s=>if s.1=0 then YM [(0,1,4)] [] s.2.1 else none
   | none=>none) else none)=some 0)=false
 rw[h];rfl
theorem MA(c:Int):Each (fun x=>MC 2 x=false) (T7 c):=by
 refine Each.append (Each.append ⟨rfl,rfl,rfl,rfl,rfl,rfl,rfl,rfl,rfl,rfl,True.intro⟩ ⟨rfl,rfl,rfl,rfl,?_,True.intro⟩) ⟨rfl,rfl,?_,?_,rfl,True.intro⟩
 ·show((say1 2 (.tup [.int 0,.int 1,.int 1]))&&((cnt 2 (2+c % 9)&&(cnt 2 0&&true))&&true))=false;rw[Qq (c:=2) (i:=2+c % 9) (by have:=mod9 c;lia)];rfl
 ·show((say1 2 (.tup [.int 0,.int 1,.int c]))&&(false&&true))=false;exact Bool.and_false _
 ·show((cnt 2 0&&(cnt 2 (-1-c % 9)&&true))&&true)=false;rw[Nx (c:=2) (i:=-1-c % 9) (by have:=mod9 c;lia)];rfl
def T8(c:Int):List S2:=[.s (.at .non),.s (.at (.int (-1))),.s (.at (.int 2)),.s (.at (.int (2+c % 9))),.s (.at (.bl true)),.s (.at (.str "0")),.s (.lst [.int 0])]
theorem DE(c:Int):Each (fun x=>cnt2 2 x=false) (T8 c):=⟨rfl,rfl,rfl,Qq (by have:=mod9 c;lia),rfl,rfl,rfl,True.intro⟩
theorem Wu{xs:List V}{lo hi:Option Int}{x:V}(h:x∈cutV xs lo hi):x∈xs:=List.mem_of_mem_drop (List.mem_of_mem_take h)
theorem Wv{xs:List V}{lo hi:Option Int}{n:Nat}(h:xs.length≤n):(cutV xs lo hi).length≤n:=by
 unfold cutV;rw[List.length_take,List.length_drop];lia
theorem YO{H:Hp}{ys:List S2}{xs:List V}{p:S2→Prop}(r:Paired (at2 H) ys xs)(e:Each p ys){x:V}(h:x∈xs):∃ y,at2 H y x∧p y:=by
 obtain⟨y,hy,q⟩:=JX r x h;exact⟨y,q,e.mem y hy⟩
def QC(K:Frag)(Pt:Addr):Sp:=fun vs H Q _=>∃(a:Addr) (ns:List Int),vs=[.ref a]∧SqL K H a (ns.map V.int)∧ns.length≤63∧ZP H Pt QL∧∀ H',Q (.bl true) H'
abbrev LN:List Str:=["_law_script","_law_good","_law_ring","_law_cell","_law_at","_law_door","_law_bad"]
theorem UM:Zd LN ["_law_script"] (defScope sLaw):=fs7
theorem Vj{bx:Bool}{X:Cx}:Passes (CXq bx X.prog X.w) X (fun _ _ _=>False):=fun _ _ _ _ _ _ _ h=>by
 obtain⟨_,_,_,_,_,_,_,_,_,_,z⟩:=h;exact z.elim
theorem ndA:(["_law_bad","_law_door"]:List Str).Nodup:=by decide +kernel
theorem ndB:(["_law_door","_law_ring","_law_bad"]:List Str).Nodup:=by decide +kernel
theorem ndC:(["_law_bad","_law_good"]:List Str).Nodup:=by decide +kernel
theorem ndD:(["_law_bad","_law_ring"]:List Str).Nodup:=by decide +kernel
theorem ndE:(["_law_door","_law_ring"]:List Str).Nodup:=by decide +kernel
theorem TK{Z:Cs}{f fu f1 f2 fa fb fc fe fg fh:Addr}{fd du d1 d2 da db dc de dg dh:FuncData}(D:Fun K "law" "law" sLaw f fd)(DU:Def K mg "_law_due" YQ ["_law_door","_law_count","_law_sayings","_law_one","_law_other","_law_due_here"] fu du)(GU:FnOk P w K mg base CX0 8 fu du ["_law_door","_law_count","_law_sayings","_law_one","_law_other","_law_due_here"] (Jo Z))(DK:Def K mg "kept" QE ["count","sayings","heights"] f1 d1)(GK:FnOk P w K mg base (CXr P w) 5 f1 d1 ["count","sayings","heights"] (Qd Z.cC Z.cS Z.cN))(DS:Def K mg "sum_of" Va ["count","sayings","chain","one","other"] f2 d2)(GS:FnOk P w K mg base (CXr P w) 5 f2 d2 ["count","sayings","chain","one","other"] (Uc Z.cC Z.cS Z.cP Z.cN))(LA:Def K mg "_law_counts" Yq ["_law_cell"] fa da)(LB:Def K mg "_law_bad_sayings" ZS ["_law_cell"] fb db)(LC:Def K mg "_law_bad_places" Y1 ["_law_cell"] fc dc)(LE:Def K mg "_law_bad_numbers" ZT ["_law_cell"] fe de)(LG:Def K mg "_law_bad_heights" ZU ["_law_cell"] fg dg)(LH:Def K mg "_law_bad_chains" Y2 ["_law_cell"] fh dh)(G:G1 K mg):FnOk P w K mg base CX0 9 f fd ["_law_script"] (QC K Z.Pt):=by
 refine okW D UM (fun vs H Q E h=>?_) (fun bf A outer s H vs Q E hr h=>?_)
 ·obtain⟨a,ns,rfl,_⟩:=h;rfl
 ·obtain⟨a,ns,rfl,ha,hz,hL,k⟩:=h;have hu:=hr.units;have hr1:Room 1 _:=hr.mono (by decide)
  have hr5:Room 5 _:=hr.mono (by decide)
  refine⟨_,V5 (Ti (ZH
    (wa_L (Zi (wa_T (ZH (wa_C Zb (wa_C Zb (wa_C Zb Zc)))) Zc)) (wa_L (Zi (wa_T (ZH (wa_C Zb (wa_C Zb (wa_C Zb Zc)))) (wa_T (ZH (wa_C Zb (wa_C Zb (wa_U (UJ J1 Zb) Zc)))) Zc))) Zc))) (MJ rfl (J8 (Zg (i:=1) UM.nd rfl (Or.inr rfl)) (J8 (Zg (i:=2) UM.nd rfl (Or.inr rfl)) Qj))))
   (Th (Z5 (YR PassesOwn.never rfl (Zt (Yi JY (Y6 (Z0 (Zh Ya (by rfl) G.len PySem.boot_len (pa_N (pv 0) Z3)) Z3)) (ZC (XN:=LN) (outer:=defScope sLaw) (N:=["_law_cell"]) (cap:=[none]) (by exact⟨rfl,by decide +kernel,by decide +kernel,by decide +kernel,.own .nil,by decide +kernel⟩) rfl (Zt (pv 0))
     (fun _ _ _ _ _ _=>Zg (i:=0) (show(["_law_cell"]:List Str).Nodup by decide +kernel) rfl (Or.inl rfl)) (fun _ _ _ _ _ _=>Zv) (fun _ _ _ _ _ _=>Yi Ji (pv 0) (Yi TF Z8 Z8))))) (Zg (i:=3) UM.nd rfl (Or.inl rfl))
    (Z5 (Zu (i:=4) UM.nd rfl (Or.inl rfl) (Yi Ji (pv 3) Z8))
    (Z5 (YR PassesOwn.never rfl (VN (by rfl) G.range (pa_C Z8 Z3)) (Zg (i:=5) UM.nd rfl (Or.inr rfl)) (Z5 (ZJ (ZM (ZI (Zh (ZQ rfl) (by rfl) G.all boot_all (Z0 (ZC (XN:=LN) (outer:=defScope sLaw) (N:=["_law_bad","_law_door"]) (cap:=[none,some 5]) (by exact⟨rfl,by decide +kernel,by decide +kernel,by decide +kernel,.own (.cap rfl rfl rfl .nil),by decide +kernel⟩) rfl (Zt (QM Wf (Za (Gm LA) hr1 (by rfl) LA.at_ LA.fn.kp LA.bd .nil Zo (pa_N (pv 3) Z3)) (UZ (pv 4)) (UZ (Yi Js (pv 4) Z8))))
     (fun _ _ _ _ _ _=>Zg (i:=0) ndA rfl (Or.inl rfl)) (fun _ _ _ _ _ _=>Zv)
     (fun _ _ _ _ _ _=>Za GU hr (by rfl) DU.at_ DU.fn.kp DU.bd .nil Zo (pa_N (pv 1) (pa_N (pv 0) (pa_C YC (pa_C YC (pa_C YC (pa_C Z8 Z3)))))))) Z3)))) (Z9 (Zj Yc)) Zp) (Z9 (ZJ (ZM (ZI (Zh (ZQ rfl) (by rfl) G.all boot_all (Z0 (ZC (XN:=LN) (outer:=defScope sLaw) (N:=["_law_bad","_law_door"]) (cap:=[none,some 5]) (by exact⟨rfl,by decide +kernel,by decide +kernel,by decide +kernel,.own (.cap rfl rfl rfl .nil),by decide +kernel⟩) rfl (Zt (QM Wf (Za (De LB) hr1 (by rfl) LB.at_ LB.fn.kp LB.bd .nil Zo (pa_N (pv 3) Z3)) (UZ (Yi MV Z8 (pv 4))) (UZ (Yi Js (Yi MV Z8 (pv 4)) Z8))))
     (fun _ _ _ _ _ _=>Zg (i:=0) ndA rfl (Or.inl rfl)) (fun _ _ _ _ _ _=>Zv)
     (fun _ _ _ _ _ _=>Za GU hr (by rfl) DU.at_ DU.fn.kp DU.bd .nil Zo (pa_N (pv 1) (pa_C Z8 (pa_N (pv 0) (pa_C YC (pa_C YC (pa_C Z8 Z3)))))))) Z3)))) (Z9 (Zj Yc)) Zp))))
    (Z5 (YR PassesOwn.never rfl (Zt (Za (Gh LC) hr1 (by rfl) LC.at_ LC.fn.kp LC.bd .nil Zo (pa_N (pv 3) Z3))) (Zg (i:=6) UM.nd rfl (Or.inr rfl)) (Z5 (ZJ (ZM (ZI (Zh (ZQ rfl) (by rfl) G.all boot_all (Z0 (ZC (XN:=LN) (outer:=defScope sLaw) (N:=["_law_door","_law_ring","_law_bad"]) (cap:=[none,some 2,some 6]) (by exact⟨rfl,by decide +kernel,by decide +kernel,by decide +kernel,.own (.cap rfl rfl rfl (.cap rfl rfl rfl .nil)),by decide +kernel⟩) rfl (Zt (Y6 (pa_C Z8 (pa_C Z8 (pa_C Z8 (pa_C Z8 Z3))))))
     (fun _ _ _ _ _ _=>Zg (i:=0) ndB rfl (Or.inl rfl)) (fun _ _ _ _ _ _=>Zv)
     (fun _ _ _ _ _ _=>Za GU hr (by rfl) DU.at_ DU.fn.kp DU.bd .nil Zo (pa_N (pv 0) (pa_C Z8 (pa_N (pv 1) (pa_N (pv 2) (pa_C YC (pa_C Z8 Z3)))))))) Z3)))) (Z9 (Zj Yc)) Zp) (Z9 (ZJ (ZM (ZI (Zh (ZQ rfl) (by rfl) G.all boot_all (Z0 (ZC (XN:=LN) (outer:=defScope sLaw) (N:=["_law_door","_law_ring","_law_bad"]) (cap:=[none,some 2,some 6]) (by exact⟨rfl,by decide +kernel,by decide +kernel,by decide +kernel,.own (.cap rfl rfl rfl (.cap rfl rfl rfl .nil)),by decide +kernel⟩) rfl (Zt (Y6 (pa_C Z8 (pa_C Z8 Z3))))
     (fun _ _ _ _ _ _=>Zg (i:=0) ndB rfl (Or.inl rfl)) (fun _ _ _ _ _ _=>Zv)
     (fun _ _ _ _ _ _=>Za GU hr (by rfl) DU.at_ DU.fn.kp DU.bd .nil Zo (pa_N (pv 0) (pa_C Z8 (pa_N (pv 1) (pa_C Z8 (pa_N (pv 2) (pa_C Z8 Z3)))))))) Z3)))) (Z9 (Zj Yc)) Zp))))
    (Z5 (YR PassesOwn.never rfl (Zt (Za (Xy LE) hr1 (by rfl) LE.at_ LE.fn.kp LE.bd .nil Zo (pa_N (pv 3) Z3))) (Zg (i:=6) UM.nd rfl (Or.inr rfl)) (Z9 (ZJ (ZM (ZI (Zh (ZQ rfl) (by rfl) G.all boot_all (Z0 (ZC (XN:=LN) (outer:=defScope sLaw) (N:=["_law_door","_law_ring","_law_bad"]) (cap:=[none,some 2,some 6]) (by exact⟨rfl,by decide +kernel,by decide +kernel,by decide +kernel,.own (.cap rfl rfl rfl (.cap rfl rfl rfl .nil)),by decide +kernel⟩) rfl (Zt (Y6 (pa_C Z8 (pa_C Z8 Z3))))
     (fun _ _ _ _ _ _=>Zg (i:=0) ndB rfl (Or.inl rfl)) (fun _ _ _ _ _ _=>Zv)
     (fun _ _ _ _ _ _=>Za GU hr (by rfl) DU.at_ DU.fn.kp DU.bd .nil Zo (pa_N (pv 0) (pa_C Z8 (pa_N (pv 1) (pa_N (pv 2) (pa_C YC (pa_C Z8 Z3)))))))) Z3)))) (Z9 (Zj Yc)) Zp)))
    (Z5 (ZJ (ZM (ZI (Zh (ZQ rfl) (by rfl) G.all boot_all (Z0 (ZC (XN:=LN) (outer:=defScope sLaw) (N:=["_law_bad","_law_good"]) (cap:=[none,some 1]) (by exact⟨rfl,by decide +kernel,by decide +kernel,by decide +kernel,.own (.cap rfl rfl rfl .nil),by decide +kernel⟩) rfl (Zt (Za (Df LG) hr1 (by rfl) LG.at_ LG.fn.kp LG.bd .nil Zo (pa_N (pv 3) Z3)))
     (fun _ _ _ _ _ _=>Zg (i:=0) ndC rfl (Or.inl rfl)) (fun _ _ _ _ _ _=>Zv)
     (fun _ _ _ _ _ _=>Za GU hr (by rfl) DU.at_ DU.fn.kp DU.bd .nil Zo (pa_C Z8 (pa_C Z8 (pa_N (pv 1) (pa_N (pv 0) (pa_C YC (pa_C Z8 Z3)))))))) Z3)))) (Z9 (Zj Yc)) Zp) (Z5 (ZJ (ZM (ZI (Zh (ZQ rfl) (by rfl) G.all boot_all (Z0 (ZC (XN:=LN) (outer:=defScope sLaw) (N:=["_law_bad","_law_good"]) (cap:=[none,some 1]) (by exact⟨rfl,by decide +kernel,by decide +kernel,by decide +kernel,.own (.cap rfl rfl rfl .nil),by decide +kernel⟩) rfl (Zt (Za (Gq LH) hr1 (by rfl) LH.at_ LH.fn.kp LH.bd .nil Zo (pa_N (pv 3) Z3)))
     (fun _ _ _ _ _ _=>Zg (i:=0) ndC rfl (Or.inl rfl)) (fun _ _ _ _ _ _=>Zv)
     (fun _ _ _ _ _ _=>Za GU hr (by rfl) DU.at_ DU.fn.kp DU.bd .nil Zo (pa_C Z8 (pa_C Z8 (pa_N (pv 1) (pa_C Z8 (pa_N (pv 0) (pa_C Z8 Z3)))))))) Z3)))) (Z9 (Zj Yc)) Zp) (Z9 (ZJ (ZM (ZI (Zh (ZQ rfl) (by rfl) G.all boot_all (Z0 (ZC (XN:=LN) (outer:=defScope sLaw) (N:=["_law_bad","_law_ring"]) (cap:=[none,some 2]) (by exact⟨rfl,by decide +kernel,by decide +kernel,by decide +kernel,.own (.cap rfl rfl rfl .nil),by decide +kernel⟩) rfl (Zt (Y6 (pa_C YC (pa_U (ML J1 Z8) (pa_C Z8 (pa_B (Yi Js Z8 (Yi Ji (pv 3) Z8)) (pa_C Yc (pa_C YB (pa_L (Y6 (pa_C Z8 Z3)) Z3)))))))))
     (fun _ _ _ _ _ _=>Zg (i:=0) ndD rfl (Or.inl rfl)) (fun _ _ _ _ _ _=>Zv)
     (fun _ _ _ _ _ _=>Za GU hr (by rfl) DU.at_ DU.fn.kp DU.bd .nil Zo (pa_C Z8 (pa_C Z8 (pa_N (pv 1) (pa_N (pv 0) (pa_C YC (pa_C Z8 Z3)))))))) Z3)))) (Z9 (Zj Yc)) Zp))))))))) 
   (Z5 (ZJ (ZM (ZI (Zh (ZQ rfl) (by rfl) G.all boot_all (Z0 (ZC (XN:=LN) (outer:=defScope sLaw) (N:=["_law_door","_law_ring"]) (cap:=[none,some 2]) (by exact⟨rfl,by decide +kernel,by decide +kernel,by decide +kernel,.own (.cap rfl rfl rfl .nil),by decide +kernel⟩) rfl (Ge (by rfl) G.range (pa_C Z8 (pa_C Z8 Z3)))
     (fun _ _ _ _ _ _=>Zg (i:=0) ndE rfl (Or.inl rfl)) (fun _ _ _ _ _ _=>Zv)
     (fun _ _ _ _ _ _=>Za GU hr (by rfl) DU.at_ DU.fn.kp DU.bd .nil Zo (pa_N (pv 0) (pa_C Z8 (pa_N (pv 1) (pa_C Z8 (pa_C Z8 (pa_C Z8 Z3)))))))) Z3)))) (Z9 (Zj Yc)) Zp)
   (Z9 (Zj (JW (Jh Uk (Za GS hr5 (by rfl) DS.at_ DS.fn.kp DS.bd .nil Vj (pa_C Z8 (pa_N (pv 1) (pa_L (Y6 (pa_C Z8 Z3)) (pa_C Z8 (pa_C Z8 Z3)))))) Z8 (nomark _))
    (JW (Jh MX (Za GK hr5 (by rfl) DK.at_ DK.fn.kp DK.bd .nil Vj (pa_C Z8 (pa_N (pv 1) (pa_L (Y6 (pa_C Z8 (pa_C Z8 Z3))) Z3)))) Yc (nomark _))
    (Vh (Jh MX (Za GK hr5 (by rfl) DK.at_ DK.fn.kp DK.bd .nil Vj (pa_C Z8 (pa_N (pv 1) (pa_L (Y6 (pa_C Z8 (pa_C Z8 Z3))) Z3)))) Yc (nomark _)))))))))),?_⟩
  refine⟨by show 3≤zF;decide,fun p1 n1=>?_⟩
  have u1:Same H (upd H p1 (.tup [.int 0,.int 1,.int 4])):=Same.up n1;have e1:(upd H p1 (.tup [.int 0,.int 1,.int 4])) p1=some (.tup [.int 0,.int 1,.int 4]):=Z2;generalize upd H p1 (.tup [.int 0,.int 1,.int 4])=H1 at u1 e1;refine⟨by show 1≤zF;decide,fun l1 m1=>?_⟩
  have u2:Same H1 (upd H1 l1 (.lst [.ref p1])):=Same.up m1;have e2:(upd H1 l1 (.lst [.ref p1])) l1=some (.lst [.ref p1]):=Z2;generalize upd H1 l1 (.lst [.ref p1])=H2 at u2 e2;refine⟨by show 3≤zF;decide,fun p2 n2=>?_⟩
  have u3:Same H2 (upd H2 p2 (.tup [.int 0,.int 1,.int 4])):=Same.up n2;have e3:(upd H2 p2 (.tup [.int 0,.int 1,.int 4])) p2=some (.tup [.int 0,.int 1,.int 4]):=Z2;generalize upd H2 p2 (.tup [.int 0,.int 1,.int 4])=H3 at u3 e3;refine⟨5,rfl,by show 3≤zF;decide,fun p3 n3=>?_⟩
  have u4:Same H3 (upd H3 p3 (.tup [.int 1,.int 0,.int (-5)])):=Same.up n3;have e4:(upd H3 p3 (.tup [.int 1,.int 0,.int (-5)])) p3=some (.tup [.int 1,.int 0,.int (-5)]):=Z2;generalize upd H3 p3 (.tup [.int 1,.int 0,.int (-5)])=H4 at u4 e4;refine⟨by show 2≤zF;decide,fun l2 m2=>?_⟩
  have u5:Same H4 (upd H4 l2 (.lst [.ref p2,.ref p3])):=Same.up m2;have e5:(upd H4 l2 (.lst [.ref p2,.ref p3])) l2=some (.lst [.ref p2,.ref p3]):=Z2;generalize upd H4 l2 (.lst [.ref p2,.ref p3])=H5 at u5 e5;refine⟨by show 2≤zF;decide,fun tt mt=>?_⟩
  have u6:Same H5 (upd H5 tt (.tup [.ref l1,.ref l2])):=Same.up mt;have e6:(upd H5 tt (.tup [.ref l1,.ref l2])) tt=some (.tup [.ref l1,.ref l2]):=Z2;generalize upd H5 tt (.tup [.ref l1,.ref l2])=H6 at u6 e6;refine⟨tt,_,rfl,SqT.of e6,rfl,_,_,rfl,_,_,rfl,rfl,?_⟩;have sA:Same H H6:=((((u1.trans u2).trans u3).trans u4).trans u5).trans u6;have g1:SaysAt H6 l1 [(0,1,4)]:=⟨[p1],((((u3.trans u4).trans u5).trans u6) _ _ e2),⟨rfl,fun i p s ep es=>by
   match i,ep,es with
   | 0,ep,es=>cases ep;cases es;exact((((u2.trans u3).trans u4).trans u5).trans u6) _ _ e1⟩⟩
  have g2:SaysAt H6 l2 ring2:=⟨[p2,p3],u6 _ _ e5,⟨rfl,fun i p s ep es=>by
   match i,ep,es with
   | 0,ep,es=>cases ep;cases es;exact((u4.trans u5).trans u6) _ _ e3
   | 1,ep,es=>cases ep;cases es;exact(u5.trans u6) _ _ e4⟩⟩
  have hL6:=hL.same sA;have ha6:SqL K H6 a (ns.map V.int):=ha.imp (fun z=>z.imp (fun z=>sA _ _ z) (fun⟨o,z⟩=>⟨o,sA _ _ z⟩)) id;clear u1 e1 u2 e2 u3 e3 u4 e4 u5 e5 u6 e6 n1 m1 n2 n3 m2 mt;refine⟨_,rfl,a,_,rfl,.inl ha6,?_⟩;refine⟨by show 1≤zF;decide,fun lc mc=>?_⟩
  have uc:Same H6 (upd H6 lc (.lst [.int ((ns.map V.int).length:Nat)])):=Same.up mc;have ec:(upd H6 lc (.lst [.int ((ns.map V.int).length:Nat)])) lc=some (.lst [.int ((ns.map V.int).length:Nat)]):=Z2;generalize upd H6 lc (.lst [.int ((ns.map V.int).length:Nat)])=H7 at uc ec;have sL:∀{H1 H2:Hp} {xs:List V},Same H1 H2→SqL K H1 a xs→SqL K H2 a xs:=fun s h=>h.imp (fun z=>z.imp (fun z=>s _ _ z) (fun⟨o,z⟩=>⟨o,s _ _ z⟩)) id;have ha7:=sL uc ha6;refine⟨_,rfl,a,rfl,⟨_,ha7⟩,fun D1 hD1=>?_⟩;refine Yg (outs:=fun i=>(ns[i]?).map fun z=>V.int (z % 10 ^ 60)) (fun σ=>∃ v,σ=[v]) hD1 ha7 (by rw[List.length_map];exact Zf (by lia)) ⟨none,rfl⟩ (fun i x σc Hc Yes No hx sm _ ⟨v,hv⟩ yes no=>?_) (fun H8 s8 hD8=>?_)
  ·subst hv;rw[List.getElem?_map] at hx;cases en:ns[i]? with
   | none=>rw[en] at hx;cases hx
   | some z =>
    rw[en] at hx;cases hx;exact⟨_,rfl,_,_,rfl,rfl,by unfold CPow;decide,_,_,rfl,rfl,(show(0:Int)<10 ^ Int.toNat 60 by decide),yes _ _ _ ⟨_,rfl⟩ (Same.refl _) (by rw[en];rfl)⟩
  rw[List.length_map,UE (fun z=>V.int (z % 10 ^ 60))] at hD8;have ec8:=s8 _ _ ec;refine⟨lc,D1,_,_,rfl,rfl,ec8,hD8,YX (by simp;lia),fun lq mq=>?_⟩
  have u9:=Same.up (o:=.lst ([.int ((ns.map V.int).length:Nat)]++ns.map fun z=>V.int (z % 10 ^ 60))) mq;have e9:(upd H8 lq (.lst ([.int ((ns.map V.int).length:Nat)]++ns.map fun z=>V.int (z % 10 ^ 60)))) lq=some (.lst ((((ns.map V.int).length:Int)::ns.map fun z=>z % 10 ^ 60).map V.int)):=by
   rw[Z2,List.map_cons,List.map_map];rfl
  generalize upd H8 lq (.lst ([.int ((ns.map V.int).length:Nat)]++ns.map fun z=>V.int (z % 10 ^ 60)))=H9 at u9 e9;have s9:Same H6 H9:=(uc.trans s8).trans u9;have g1:=g1.same s9;have g2:=g2.same s9;have hL9:=hL6.same s9;generalize (((ns.map V.int).length:Int)::ns.map fun z=>z % 10 ^ 60)=cells at e9;clear mq u9 ec8 hD8 hD1 s8 uc ec mc ha7 s9 hL6 ha6 sA;refine⟨lq,rfl,⟨_,SqL.of e9⟩,?_⟩;refine Yz (K:=K) (a:=lq) (xs:=cells.map V.int) (fun i σ H2=>Same H9 H2∧∃ v3 v4 v5 v6,σ=[some (.ref a),some (.ref l1),some (.ref l2),v3,v4,v5,v6]) ?_ (fun i σ H2 _ ⟨e,_⟩=>SqL.of (e _ _ e9)) ?_ ?_
  ·exact⟨Same.refl _,none,none,none,none,rfl⟩
  ·rintro i y σ H2 hi ⟨sm,v3,v4,v5,v6,rfl⟩;rw[List.getElem?_map] at hi;cases en:cells[i]? with
   | none=>rw[en] at hi;cases hi
   | some c =>
    rw[en] at hi;cases hi;clear en;refine⟨_,rfl,_,_,rfl,rfl,(show(0:Int)<7 by decide),?_⟩
    refine⟨9,rfl,by decide,by decide,?_⟩
    refine GY (lo:=0) (n:=9) (fun i σ H3=>Same H9 H3∧∃ v5 v6,σ=[some (.ref a),some (.ref l1),some (.ref l2),some (.int c),some (.int (c % 7)),v5,v6]) ⟨sm,v5,v6,rfl⟩ ?_ ?_
    ·rintro j σ H3 hj ⟨s3,v5,v6,rfl⟩;have hd:0≤((0:Int)+(j:Int))∧(0:Int)+(j:Int)≤8:=by lia
     generalize (0:Int)+(j:Int)=d at hd ⊢;refine⟨_,rfl,c,rfl,fun H4 l xs s4 n4 h4 r4=>?_⟩;refine⟨_,rfl,_,rfl,_,rfl,_,_,rfl,rfl,_,rfl,?_⟩;refine⟨l,xs,rfl,SqL.of h4,fun p hp=>?_⟩;have z4:xs.length=8:=ZD r4;have u5:Same H4 (upd H4 p (.lst (cutV xs (some (c % 7)) (some (c % 7+3))))):=Same.up hp;have e5:(upd H4 p (.lst (cutV xs (some (c % 7)) (some (c % 7+3))))) p=some (.lst (cutV xs (some (c % 7)) (some (c % 7+3)))):=Z2;generalize upd H4 p (.lst (cutV xs (some (c % 7)) (some (c % 7+3))))=H5 at u5 e5;refine⟨p,rfl,⟨_,SqL.of e5⟩,fun D hD=>?_⟩;refine YA (fun σ=>∃ v,σ=[v,some (.int d)]) hD (SqL.of e5) (Wv (n:=1000) (by lia)) ⟨none,rfl⟩ (fun x σc Hc R hx sc ⟨v,hv⟩ r=>?_) (fun H6 s6 hq6=>?_)
     ·subst hv;obtain⟨y,hy,hb⟩:=YO r4 (XW c) (Wu hx);have hy:=ZA (u5.trans sc) hy;exact⟨_,rfl,_,rfl,due0 (Z:=Z) (E:=E0) (Q:=fun v H=>R v [some x,some (.int d)] H) hd (U0 hy) (by rw[DB hy];exact hb) fun H7 s7=>r _ H7 ⟨_,rfl⟩ s7⟩
     refine⟨D,_,rfl,hq6,_,rfl,?_⟩;rw[YI];refine iteF ?_;refine⟨_,rfl,c,rfl,fun H7 m ys s7 n7 h7 r7=>?_⟩;refine⟨_,rfl,_,_,rfl,rfl,.inl (by decide),_,rfl,_,rfl,_,_,rfl,rfl,.inl (by decide),_,_,rfl,rfl,_,rfl,?_⟩
     refine⟨m,ys,rfl,SqL.of h7,fun p' hp'=>?_⟩;have z7:ys.length=20:=ZD r7;have u8:Same H7 (upd H7 p' (.lst (cutV ys (some (3*(c % 7))) (some (3*(c % 7)+3))))):=Same.up hp';have e8:(upd H7 p' (.lst (cutV ys (some (3*(c % 7))) (some (3*(c % 7)+3))))) p'=some (.lst (cutV ys (some (3*(c % 7))) (some (3*(c % 7)+3)))):=Z2;generalize upd H7 p' (.lst (cutV ys (some (3*(c % 7))) (some (3*(c % 7)+3))))=H8 at u8 e8;refine⟨p',rfl,⟨_,SqL.of e8⟩,fun D' hD'=>?_⟩;refine YA (fun σ=>∃ v,σ=[v,some (.int d)]) hD' (SqL.of e8) (Wv (n:=1000) (by lia)) ⟨none,rfl⟩ (fun x σc Hc R hx sc ⟨v,hv⟩ r=>?_) (fun H10 s10 hq10=>?_)
     ·subst hv;obtain⟨y,hy,hb⟩:=YO r7 (MA c) (Wu hx);have hy:=ZA (u8.trans sc) hy;exact⟨_,rfl,_,rfl,due1 (Z:=Z) (E:=E0) (Q:=fun v H=>R v [some x,some (.int d)] H) hd (Ds hy) (by rw[MB hy];exact hb) fun H7 s7=>r _ H7 ⟨_,rfl⟩ s7⟩
     refine⟨D',_,rfl,hq10,_,rfl,?_⟩;rw[YI];exact iteF ⟨(((((s3.trans s4).trans u5).trans s6).trans s7).trans u8).trans s10,_,_,rfl⟩
    ·rintro σ H3 ⟨s3,v5,v6,rfl⟩;refine⟨_,rfl,c,rfl,fun H4 l xs s4 n4 h4 r4=>?_⟩;refine⟨l,rfl,⟨_,SqL.of h4⟩,?_⟩;have g4:=g2.same (s3.trans s4);refine Yz (K:=K) (a:=l) (xs:=xs) (fun i σ H5=>Same H4 H5∧∃ v5 v6,σ=[some (.ref a),some (.ref l1),some (.ref l2),some (.int c),some (.int (c % 7)),v5,v6]) ⟨Same.refl _,v5,v6,rfl⟩ (fun i σ H5 _ ⟨e,_⟩=>SqL.of (e _ _ h4)) ?_ ?_
     ·rintro i x σ H5 hi ⟨s5,v5,v6,rfl⟩;obtain⟨y,hy,hb⟩:=YO r4 (Xu c) (List.mem_of_getElem? hi);have hy5:=ZA s5 hy;have g5:=g4.same s5;refine⟨by show 4≤zF;decide,fun p hp=>?_⟩
      have u6:Same H5 (upd H5 p (.lst [.int 1,.int 3,.int 4,.int 8])):=Same.up hp;have e6:(upd H5 p (.lst [.int 1,.int 3,.int 4,.int 8])) p=some (.lst [.int 1,.int 3,.int 4,.int 8]):=Z2;generalize upd H5 p (.lst [.int 1,.int 3,.int 4,.int 8])=H6 at u6 e6;refine⟨p,rfl,⟨_,SqL.of e6⟩,fun D hD=>?_⟩;refine YA (fun σ=>∃ v,σ=[v,some (.ref l2),some x]) hD (SqL.of e6) (by show 4≤1000;decide) ⟨none,rfl⟩ (fun z σc Hc R hz sc ⟨v,hv⟩ r=>?_) (fun H7 s7 hq7=>?_)
      ·subst hv;obtain⟨d,rfl,hd⟩:=mem4 hz;have sq:=u6.trans sc;exact⟨_,rfl,_,rfl,_,rfl,due2 (Z:=Z) (E:=E0) (Q:=fun v H=>R v [some (.int d),some (.ref l2),some x] H) hd (g5.same sq) (U0 (ZA sq hy5)) (by rw[Qr (ZA sq hy5)];exact hb) fun H8 s8=>r _ H8 ⟨_,rfl⟩ s8⟩
      refine⟨D,_,rfl,hq7,_,rfl,?_⟩;rw[YI];refine iteF ?_;have s67:=u6.trans s7;refine⟨by show 2≤zF;decide,fun p' hp'=>?_⟩
      have u8:Same H7 (upd H7 p' (.lst [.int 3,.int 4])):=Same.up hp';have e8:(upd H7 p' (.lst [.int 3,.int 4])) p'=some (.lst [.int 3,.int 4]):=Z2;generalize upd H7 p' (.lst [.int 3,.int 4])=H8 at u8 e8;refine⟨p',rfl,⟨_,SqL.of e8⟩,fun D' hD'=>?_⟩;refine YA (fun σ=>∃ v,σ=[v,some (.ref l2),some x]) hD' (SqL.of e8) (by show 2≤1000;decide) ⟨none,rfl⟩ (fun z σc Hc R hz sc ⟨v,hv⟩ r=>?_) (fun H10 s10 hq10=>?_)
      ·subst hv;obtain⟨d,rfl,hd⟩:=RF hz;have sq:=(s67.trans u8).trans sc;exact⟨_,rfl,_,rfl,_,rfl,RV (Z:=Z) (E:=E0) (Q:=fun v H=>R v [some (.int d),some (.ref l2),some x] H) hd (g5.same sq) (U0 (ZA sq hy5)) (by rw[Qr (ZA sq hy5)];exact hb) fun H8 s8=>r _ H8 ⟨_,rfl⟩ s8⟩
      refine⟨D',_,rfl,hq10,_,rfl,?_⟩;rw[YI];exact iteF ⟨((s5.trans s67).trans u8).trans s10,_,_,rfl⟩
     ·rintro σ H5 ⟨s5,v5,v6,rfl⟩;have s5:=(s3.trans s4).trans s5;clear h4 r4 g4 s4 n4;refine⟨_,rfl,c,rfl,fun H6 l' xs' s6 n6 h6 r6=>?_⟩;refine⟨l',rfl,⟨_,SqL.of h6⟩,?_⟩;have g6:=g2.same (s5.trans s6);refine Yz (K:=K) (a:=l') (xs:=xs') (fun i σ H7=>Same H6 H7∧∃ v5 v6,σ=[some (.ref a),some (.ref l1),some (.ref l2),some (.int c),some (.int (c % 7)),v5,v6]) ⟨Same.refl _,v5,v6,rfl⟩ (fun i σ H7 _ ⟨e,_⟩=>SqL.of (e _ _ h6)) ?_ ?_
      ·rintro i x σ H7 hi ⟨s7,v5,v6,rfl⟩;obtain⟨y,hy,hb⟩:=YO r6 (QU c) (List.mem_of_getElem? hi);have hy7:=ZA s7 hy;have g7:=g6.same s7;refine⟨by show 2≤zF;decide,fun p hp=>?_⟩
       have u8:Same H7 (upd H7 p (.lst [.int 6,.int 7])):=Same.up hp;have e8:(upd H7 p (.lst [.int 6,.int 7])) p=some (.lst [.int 6,.int 7]):=Z2;generalize upd H7 p (.lst [.int 6,.int 7])=H8 at u8 e8;refine⟨p,rfl,⟨_,SqL.of e8⟩,fun D hD=>?_⟩;refine YA (fun σ=>∃ v,σ=[v,some (.ref l2),some x]) hD (SqL.of e8) (by show 2≤1000;decide) ⟨none,rfl⟩ (fun z σc Hc R hz sc ⟨v,hv⟩ r=>?_) (fun H10 s10 hq10=>?_)
       ·subst hv;obtain⟨d,rfl,hd⟩:=RE hz;have sq:=u8.trans sc;exact⟨_,rfl,_,rfl,_,rfl,due3 (Z:=Z) (E:=E0) (Q:=fun v H=>R v [some (.int d),some (.ref l2),some x] H) hd (g7.same sq) (U0 (ZA sq hy7)) (by rw[ND (ZA sq hy7)];exact hb) fun H8 s8=>r _ H8 ⟨_,rfl⟩ s8⟩
       refine⟨D,_,rfl,hq10,_,rfl,?_⟩;rw[YI];exact iteF ⟨(s7.trans u8).trans s10,_,_,rfl⟩
      ·rintro σ H7 ⟨s7,v5,v6,rfl⟩;have s7:=(s5.trans s6).trans s7;clear h6 r6 g6 s6 n6 s5 s3;refine⟨_,rfl,c,rfl,fun H8 l xs s8 n8 h8 r8=>?_⟩;refine⟨l,rfl,⟨_,SqL.of h8⟩,fun D hD=>?_⟩;have z8:xs.length=13:=ZD r8;have g8:=g1.same (s7.trans s8);refine YA (fun σ=>∃ v,σ=[v,some (.ref l1)]) hD (SqL.of h8) (by lia) ⟨none,rfl⟩ (fun x σc Hc R hx sc ⟨v,hv⟩ r=>?_) (fun H10 s10 hq10=>?_)
       ·subst hv;obtain⟨y,hy,hb⟩:=YO r8 (X2 c) hx;have hy:=ZA sc hy;exact⟨_,rfl,_,rfl,RT (Z:=Z) (E:=E0) (Q:=fun v H=>R v [some x,some (.ref l1)] H) (g8.same sc) (Wy hy) (by rw[Dx hy];exact hb) fun H8 s8=>r _ H8 ⟨_,rfl⟩ s8⟩
       refine⟨D,_,rfl,hq10,_,rfl,?_⟩;rw[YI];refine iteF ?_;have s10:=(s7.trans s8).trans s10;clear hq10 hD z8 g8 h8 r8 s8 n8 s7;refine⟨_,rfl,c,rfl,fun H8 l xs s8 n8 h8 r8=>?_⟩;refine⟨l,rfl,⟨_,SqL.of h8⟩,fun D hD=>?_⟩;have z8:xs.length=13:=ZD r8;have g8:=g1.same (s10.trans s8);refine YA (fun σ=>∃ v,σ=[v,some (.ref l1)]) hD (SqL.of h8) (by lia) ⟨none,rfl⟩ (fun x σc Hc R hx sc ⟨v,hv⟩ r=>?_) (fun H11 s11 hq11=>?_)
       ·subst hv;obtain⟨y,hy,hb⟩:=YO r8 (W0 c) hx;have hy:=ZA sc hy;exact⟨_,rfl,_,rfl,RU (Z:=Z) (E:=E0) (Q:=fun v H=>R v [some x,some (.ref l1)] H) (g8.same sc) (Wy hy) (Rb hy hb) fun H8 s8=>r _ H8 ⟨_,rfl⟩ s8⟩
       refine⟨D,_,rfl,hq11,_,rfl,?_⟩;rw[YI];refine iteF ?_;have s11:=(s10.trans s8).trans s11;clear hq11 hD z8 g8 h8 r8 s8 n8 s10;refine Dj ?_;dsimp only;refine ifall ?_;refine made (ys:=T8 c) (Z7 (m2_s (m1_f mf_c)) (Z7 (m2_s (m1_f Jv)) (Z7 (m2_s (m1_f mf_c)) (Z7 (m2_s (m1_f (Vo mf_c (JZ rfl (by decide))))) (Z7 (m2_s (m1_f mf_c)) (Z7 (m2_s (m1_f mf_c)) (Z7 (m2_s (ZN (Z6 mf_c Ze))) YE))))))) (fun H8 l xs s8 n8 h8 r8=>?_) (by show 7≤1000;decide)
       refine⟨l,rfl,⟨_,SqL.of h8⟩,fun D hD=>?_⟩;have z8:xs.length=7:=ZD r8;have g8:=g2.same (s11.trans s8);refine YA (fun σ=>∃ v,σ=[v,some (.ref l2)]) hD (SqL.of h8) (by lia) ⟨none,rfl⟩ (fun x σc Hc R hx sc ⟨v,hv⟩ r=>?_) (fun H12 s12 hq12=>?_)
       ·subst hv;obtain⟨y,hy,hb⟩:=YO r8 (DE c) hx;have hy:=ZA sc hy;exact⟨_,rfl,_,rfl,RS (Z:=Z) (E:=E0) (Q:=fun v H=>R v [some x,some (.ref l2)] H) (g8.same sc) (U0 hy) (by rw[Qr hy];exact hb) fun H8 s8=>r _ H8 ⟨_,rfl⟩ s8⟩
       refine⟨D,_,rfl,hq12,_,rfl,?_⟩;rw[YI];exact iteF ⟨(s11.trans s8).trans s12,_,_,_,_,rfl⟩
  ·rintro σ H2 ⟨sm,v3,v4,v5,v6,rfl⟩;have g1:=g1.same sm;have g2:=g2.same sm;have hL2:=hL9.same sm;refine⟨3,8,rfl,⟨by decide,by decide,by decide,by decide⟩,fun D hD=>?_⟩
   refine M5 (K:=K) (lo:=3) (n:=5) (fun σ=>∃ v,σ=[v,some (.ref l2)]) (fun H=>ZP H Z.Pt QL) hD (by decide) ⟨none,rfl⟩ hL2 (fun H o h=>Dq h) (fun i σc Hc R hi sc rc ⟨v,hv⟩ r=>?_) (fun H3 n3 hL3 hq3=>?_)
   ·subst hv;exact⟨_,rfl,_,rfl,due4 (Z:=Z) (E:=E0) (Q:=fun v H=>R v [some (.int (3+(i:Int))),some (.ref l2)] H) (by lia) (g2.sameN sc) rc fun H4 n4 hL4=>r _ H4 ⟨_,rfl⟩ n4 hL4⟩
   refine⟨D,_,rfl,hq3,_,rfl,?_⟩;rw[YI];refine iteF ?_;have g3:=g1.sameN n3;refine⟨_,rfl,by show 1≤zF;decide,fun q1 hq1=>?_⟩
   have u4:Same H3 (upd H3 q1 (.lst [.int 0])):=Same.up hq1;have e4:(upd H3 q1 (.lst [.int 0])) q1=some (.lst [.int 0]):=Z2;generalize upd H3 q1 (.lst [.int 0])=H4 at u4 e4;have g4:=g3.same u4;obtain⟨k4,o4⟩:=Yp g4 X3;refine⟨_,_,_,_,_,rfl,ref2 (by decide) k4 o4 ⟨.int 0,.int 1,(fun z=>by cases z),(fun _ z=>by cases z),fun one bh e1 e2 _ _=>?_⟩⟩
   cases e1;cases e2;have c4:chV H4 [(0,1,4)] (.ref q1) 0 1=true:=by unfold chV;rw[YF e4];rfl
   refine⟨l1,_,rfl,g4,by decide,Vu (ns:=[0]) e4 (by decide),(fun z=>by rw[c4] at z;cases z),fun _=>⟨l1,q1,_,[0],rfl,g4,e4,by decide,by decide,fun H5 s5=>?_⟩⟩
   refine⟨rfl,_,rfl,?_⟩;rw[show decide (V.int (sumC [(0,1,4)] [0])=V.int 4)=true from by decide]
   refine iteT ?_;refine⟨_,rfl,by show 2≤zF;decide,fun q2 hq2=>?_⟩
   have u6:Same H5 (upd H5 q2 (.lst [.int 0,.int 4])):=Same.up hq2;have e6:(upd H5 q2 (.lst [.int 0,.int 4])) q2=some (.lst [.int 0,.int 4]):=Z2;generalize upd H5 q2 (.lst [.int 0,.int 4])=H6 at u6 e6;have g6:=g4.same (s5.trans u6);obtain⟨k6,o6⟩:=Yp g6 X3;have c6:hgtV H6 2 (.ref q2)=true:=by unfold hgtV;rw[YF e6];rfl
   refine⟨_,_,_,rfl,ref2 (by decide) k6 o6 ⟨Vu (ns:=[0,4]) e6 (by decide),(fun z=>by rw[c6] at z;cases z),fun _ H7 s7=>⟨l1,q2,_,[0,4],rfl,g6.same s7,by decide,s7 _ _ e6,by decide,fun H8 s8=>?_⟩⟩⟩
   refine⟨_,_,rfl,rfl,_,rfl,?_⟩;rw[show([((0:Int),(1:Int),(4:Int))].all (keeps [0,4])==true)=true from by decide]
   refine iteT ?_;refine⟨_,rfl,by show 2≤zF;decide,fun q3 hq3=>?_⟩
   have u10:Same H8 (upd H8 q3 (.lst [.int 0,.int 5])):=Same.up hq3;have e10:(upd H8 q3 (.lst [.int 0,.int 5])) q3=some (.lst [.int 0,.int 5]):=Z2;generalize upd H8 q3 (.lst [.int 0,.int 5])=H10 at u10 e10;have g10:=g6.same ((s7.trans s8).trans u10);obtain⟨k10,o10⟩:=Yp g10 X3;have c10:hgtV H10 2 (.ref q3)=true:=by unfold hgtV;rw[YF e10];rfl
   refine⟨_,_,_,rfl,ref2 (by decide) k10 o10 ⟨Vu (ns:=[0,5]) e10 (by decide),(fun z=>by rw[c10] at z;cases z),fun _ H11 s11=>⟨l1,q3,_,[0,5],rfl,g10.same s11,by decide,s11 _ _ e10,by decide,fun H12 s12=>?_⟩⟩⟩
   refine⟨_,_,rfl,rfl,?_⟩;rw[show([((0:Int),(1:Int),(4:Int))].all (keeps [0,5])==false)=true from by decide]
   exact k _
theorem len1{fd:FuncData}{ps:List Str}{us:List Value}(h:us.length=1)(k:∀ a,bindArgs fd ⟨[a],[]⟩=pure (ps.zip [a])):bindArgs fd ⟨us,[]⟩=pure (ps.zip us):=match us,h with | [_],_=>k _
theorem len2{fd:FuncData}{ps:List Str}{us:List Value}(h:us.length=2)(k:∀ a b,bindArgs fd ⟨[a,b],[]⟩=pure (ps.zip [a,b])):bindArgs fd ⟨us,[]⟩=pure (ps.zip us):=match us,h with | [_,_],_=>k _ _
theorem len3{fd:FuncData}{ps:List Str}{us:List Value}(h:us.length=3)(k:∀ a b c,bindArgs fd ⟨[a,b,c],[]⟩=pure (ps.zip [a,b,c])):bindArgs fd ⟨us,[]⟩=pure (ps.zip us):=match us,h with | [_,_,_],_=>k _ _ _
theorem len4{fd:FuncData}{ps:List Str}{us:List Value}(h:us.length=4)(k:∀ a b c d,bindArgs fd ⟨[a,b,c,d],[]⟩=pure (ps.zip [a,b,c,d])):bindArgs fd ⟨us,[]⟩=pure (ps.zip us):=match us,h with | [_,_,_,_],_=>k _ _ _ _
theorem len5{fd:FuncData}{ps:List Str}{us:List Value}(h:us.length=5)(k:∀ a b c d e,bindArgs fd ⟨[a,b,c,d,e],[]⟩=pure (ps.zip [a,b,c,d,e])):bindArgs fd ⟨us,[]⟩=pure (ps.zip us):=match us,h with | [_,_,_,_,_],_=>k _ _ _ _ _
section
variable {h:Heap}
theorem UG(X:K.In h)(G:h.Ns zE mg){x:Str}{st:Stmt}{ps:List Str}{f:Addr}{oc:Value}{od an:Option Addr}{sl:Array (Option Value)}{kV dc pm cd ct:Value}(a:nsIn K zE x=some (some (.ref f)))(l:K.lookup f=some ⟨oc,od,.func (fnOf x x (Y3 st) (ZL st) (defScope st) .none kV dc pm an cd ct),sl⟩)(c:codeIn K cd x=true)(k:keepIn K (.ref f)=true)(hb:∀(kV bu pm:Value) (an:Option Addr) (bf ct:Value) (us:List Value),us.length=ps.length→bindArgs (fnOf x x (Y3 st) (ZL st) (defScope st) .none kV bu pm an bf ct) ⟨us,[]⟩=pure (ps.zip us)):∃ f fd,Def K mg x st ps f fd :=
 ⟨f,_,Jl l c k,mg_of X G a,(Jl l c k).binds hb⟩
def Mo(es:Array DictEntry):Bool:=es.toList.all fun e=>match e.key with
 | .str _ _=>true
 | _=>false
theorem T5{N:Addr}{c1:Value}{d1:Option Addr}{es:Array DictEntry}{ep:Nat}{sl1:Array (Option Value)}(l:K.lookup N=some ⟨c1,d1,.dict es ep,sl1⟩)(hk:Mo es=true)(hi:nsIn K N "__init__"=some none):
  ∃ mN:Str→Option Value,(∀ h:Heap,K.In h→h.Ns N mN)∧mN "__init__"=none:=by
 refine⟨fun n=>nsFind es n,fun h X=>⟨_,es,ep,X _ _ l,rfl,fun e he=>?_,fun _=>rfl⟩,?_⟩
 ·have:=List.all_eq_true.mp hk e (Array.mem_toList_iff.mpr he)
  cases hk:e.key <;> rw[hk] at this <;> first | exact⟨_,_,rfl⟩ | cases this
 ·unfold nsIn at hi;rw[l] at hi;dsimp only at hi;show nsFind es (Str.ofString "__init__")=none;unfold nsFind findBy;rw[←Array.find?_toList];split at hi
  ·cases hi
  ·rename_i e;rw[e];rfl
theorem RP(X:K.In h)(G:h.Ns zE mg)(n0:nsIn K zE "isinstance"=some none)(n1:nsIn K zE "int"=some none)(n2:nsIn K zE "bool"=some none)(n3:nsIn K zE "tuple"=some none)(n4:nsIn K zE "list"=some none)(n5:nsIn K zE "len"=some none)(n6:nsIn K zE "all"=some none)(n7:nsIn K zE "any"=some none)(n8:nsIn K zE "sum"=some none)(n9:nsIn K zE "range"=some none)(m1:nsIn K zE "enumerate"=some none)(m2:nsIn K zE "sorted"=some none)(m3:nsIn K zE "max"=some none)(m4:nsIn K zE "min"=some none)(k1:PySem.W.kitOne K (.type "int") (.type "int")=some true)(k2:PySem.W.kitOne K (.type "int") (.type "bool")=some false)(k3:PySem.W.kitOne K (.type "tuple") (.type "tuple")=some true)(k4:PySem.W.kitOne K (.type "list") (.type "list")=some true)(k5:PySem.W.kitOne K (.type "bool") (.type "bool")=some true):G1 K mg :=
 ⟨mg_none_of X G n0,mg_none_of X G n1,mg_none_of X G n2,mg_none_of X G n3,mg_none_of X G n4,mg_none_of X G n5,mg_none_of X G n6,mg_none_of X G n7,mg_none_of X G n8,mg_none_of X G n9,
  mg_none_of X G m1,mg_none_of X G m2,mg_none_of X G m3,mg_none_of X G m4,k1,k2,k3,k4,k5⟩
theorem Fun.codeT{x:Str}{st:Stmt}{f c Pt:Addr}{fd:FuncData}(F:Fun K x x st f fd)(at_:mg x=some (.ref f))(X:K.In h)(G:h.Ns zE mg)(ht:tabIn K x=some (c,Pt)):fd.code = .ref c:=by
 obtain⟨oc,od,kV,bu,pm,an,bf,ct,bv,rfl,lk,hcd⟩:=F.ex;exact PySem.W.law_code X G ht at_ (X _ _ lk) rfl
end
theorem QA{x:Str}{f c Pt:Addr}{oc oc2:Value}{od od2:Option Addr}{fd:FuncData}{sl sl2:Array (Option Value)}{vs:Array Value}(a:nsIn K zE x=some (some (.ref f)))(l:K.lookup f=some ⟨oc,od,.func fd,sl⟩)(hc:fd.code = .ref c)(l2:K.lookup c=some ⟨oc2,od2,.fields vs,sl2⟩)(hv:vs[11]?=some (.ref Pt)):tabIn K x=some (c,Pt):=by
 unfold tabIn;rw[a];dsimp only;rw[l];dsimp only;rw[hc];dsimp only;rw[l2];dsimp only;rw[hv]
section
variable {h:Heap}
theorem Mb(X:K.In h)(G:h.Ns zE mg){C f0 f1 f2 f3 f4:Addr}{od0 an0 od1 an1 od2 an2 od3 an3 od4 an4:Option Addr}{sl0 sl1 sl2 sl3 sl4:Array (Option Value)}{oc0 kV0 dc0 pm0 cd0 ct0 oc1 kV1 dc1 pm1 cd1 ct1 oc2 kV2 dc2 pm2 cd2 ct2 oc3 kV3 dc3 pm3 cd3 ct3 oc4 kV4 dc4 pm4 cd4 ct4:Value}(aC:nsIn K zE "Walk"=some (some (.ref C)))(pg:plainGet K C Str.empty=true)(hd:hasDictIn K C=true)(po:plainOver K C=true)(sa:findIn K (.ref C) "__setattr__"=some (some (.builtin "object.__setattr__")))(mk:makesIn K C=true)(kc:keepIn K (.ref C)=true)(n1:findIn K (.ref C) "sayings"=some none)(n2:findIn K (.ref C) "sums"=some none)(n3:findIn K (.ref C) "last"=some none)(a0:findIn K (.ref C) "__init__"=some (some (.ref f0)))(i0:isFn K (.ref f0)=true)(l0:K.lookup f0=some ⟨oc0,od0,.func (fnOf "__init__" "Walk.__init__" (Y3 ZF) (ZL ZF) (defScope ZF) .none kV0 dc0 pm0 an0 cd0 ct0),sl0⟩)(c0:codeIn K cd0 "Walk.__init__"=true)(k0:keepIn K (.ref f0)=true)(a1:findIn K (.ref C) "go_along"=some (some (.ref f1)))(i1:isFn K (.ref f1)=true)(l1:K.lookup f1=some ⟨oc1,od1,.func (fnOf "go_along" "Walk.go_along" (Y3 ZE) (ZL ZE) (defScope ZE) .none kV1 dc1 pm1 an1 cd1 ct1),sl1⟩)(c1:codeIn K cd1 "Walk.go_along"=true)(k1:keepIn K (.ref f1)=true)(a2:findIn K (.ref C) "place_ahead"=some (some (.ref f2)))(i2:isFn K (.ref f2)=true)(l2:K.lookup f2=some ⟨oc2,od2,.func (fnOf "place_ahead" "Walk.place_ahead" (Y3 Zm) (ZL Zm) (defScope Zm) .none kV2 dc2 pm2 an2 cd2 ct2),sl2⟩)(c2:codeIn K cd2 "Walk.place_ahead"=true)(k2:keepIn K (.ref f2)=true)(a3:findIn K (.ref C) "chain_between"=some (some (.ref f3)))(i3:isFn K (.ref f3)=true)(l3:K.lookup f3=some ⟨oc3,od3,.func (fnOf "chain_between" "Walk.chain_between" (Y3 Zs) (ZL Zs) (defScope Zs) .none kV3 dc3 pm3 an3 cd3 ct3),sl3⟩)(c3:codeIn K cd3 "Walk.chain_between"=true)(k3:keepIn K (.ref f3)=true)(a4:findIn K (.ref C) "place_on_ring"=some (some (.ref f4)))(i4:isFn K (.ref f4)=true)(l4:K.lookup f4=some ⟨oc4,od4,.func (fnOf "place_on_ring" "Walk.place_on_ring" (Y3 Zr) (ZL Zr) (defScope Zr) .none kV4 dc4 pm4 an4 cd4 ct4),sl4⟩)(c4:codeIn K cd4 "Walk.place_on_ring"=true)(k4:keepIn K (.ref f4)=true):
  ∃ C f0 d0 f1 d1 f2 d2 f3 d3 f4 d4,NB K mg C f0 d0 f1 d1 f2 d2 f3 d3 f4 d4:=by
 have F0:=Jl (st:=ZF) l0 c0 k0;have F1:=Jl (st:=ZE) l1 c1 k1;have F2:=Jl (st:=Zm) l2 c2 k2;have F3:=Jl (st:=Zs) l3 c3 k3;have F4:=Jl (st:=Zr) l4 c4 k4;exact⟨C,f0,_,f1,_,f2,_,f3,_,f4,_,⟨⟨⟨pg,hd,po,sa⟩,n1,n2,n3,mg_of X G aC⟩,⟨mk,a0,i0,kc⟩,F0,F0.binds fun _ _ _ _ _ _ _ hl=>len3 hl fun _ _ _=>rfl,
  ⟨F1,⟨a1,i1,k1⟩,F1.binds fun _ _ _ _ _ _ _ hl=>len2 hl fun _ _=>rfl⟩,⟨F2,⟨a2,i2,k2⟩,F2.binds fun _ _ _ _ _ _ _ hl=>len2 hl fun _ _=>rfl⟩,
  ⟨F3,⟨a3,i3,k3⟩,F3.binds fun _ _ _ _ _ _ _ hl=>len3 hl fun _ _ _=>rfl⟩,⟨F4,⟨a4,i4,k4⟩,F4.binds fun _ _ _ _ _ _ _ hl=>len1 hl fun _=>rfl⟩⟩⟩
end
structure WU(K:Frag)(mg:Str→Option Value)(C C0 f:Addr)(fd:FuncData):Prop where
 k:BK K mg C C0 f
 x:BX K C
 fn:Fun K "__init__" "Broken.__init__" Zq f fd
 bd:Binds K fd ["self","ring"] []
 z:ExcM K C C0
section
variable {h:Heap}
theorem W1(X:K.In h)(G:h.Ns zE mg){C C0 f N N0:Addr}{nm q nm0 q0:Str}{bs bs0:List Value}{hd0:Bool}{sn sn0:List Str}{sub sub0:List Value}{ab ab0:Bool}{col col0:Option Bool}{dd dd0:Option Addr}{k0 k1 k2 k3 k5 j0 j1 j2 j3 j5:Option Value}{x0:Value}{y0:Option Addr}{es0:Array DictEntry}{ep0:Nat}{z0:Array (Option Value)}{od an:Option Addr}{sl:Array (Option Value)}{oc kV dc pm cd ct:Value}(aB:nsIn K zE "Broken"=some (some (.ref C)))(a0:nsIn K zE "SayError"=some (some (.ref C0)))(lB:K.lookup C=some (excClassObj nm q C N bs (.ref C0::Um) true sn sub ab col dd k0 k1 k2 k3 k5 "ValueError.__new__"))(l0:K.lookup C0=some (excClassObj nm0 q0 C0 N0 bs0 Um hd0 sn0 sub0 ab0 col0 dd0 j0 j1 j2 j3 j5 "ValueError.__new__"))(n0:K.lookup N0=some ⟨x0,y0,.dict es0 ep0,z0⟩)(s0:Mo es0=true)(i0:nsIn K N0 "__init__"=some none)(ini:findIn K (.ref C) "__init__"=some (some (.ref f)))(isf:isFn K (.ref f)=true)(kpC:keepIn K (.ref C)=true)(sa:findIn K (.ref C) "__setattr__"=some (some (.builtin "object.__setattr__")))(mo:PySem.W.mroIn K C (.type "object")=some true)(nr:findIn K (.ref C) "ring"=some none)(bga:PySem.W.specialIn K (.ref C0) "__getattribute__"=some (some (.builtin "type.__getattribute__")))(brd:readsIn K C0 (.type "type")=true)(bfi:findCls K (.ref C0) (.type "type") "__init__"=some (.val (.builtin "ValueError.__init__")))(lf:K.lookup f=some ⟨oc,od,.func (fnOf "__init__" "Broken.__init__" (Y3 Zq) (ZL Zq) (defScope Zq) .none kV dc pm an cd ct),sl⟩)(cf:codeIn K cd "Broken.__init__"=true)(kf:keepIn K (.ref f)=true)(ga:findIn K (.ref C) "__getattribute__"=some (some (.builtin "BaseException.__getattribute__")))(gr:findIn K (.ref C) "__getattr__"=some none)(cl:findIn K (.ref C) "__class__"=some (some (.builtin "object.__class__")))(get:PySem.W.specialIn K (.builtin "object.__class__") "__get__"=some (some (.builtin "getset_descriptor.__get__")))(tk:takesIn K (.builtin "object.__class__")=some true)(bexc:PySem.W.mroIn K C (.type "BaseException")=some true)(hdC:hasDictIn K C=true):
  ∃ C C0 f fd,WU K mg C C0 f fd:=by
 obtain⟨m0,hm0,hi0⟩:=T5 n0 s0 i0;have F:=Jl (st:=Zq) lf cf kf;refine⟨C,C0,f,_,⟨⟨⟨⟨_,_,_,_,_,_,_,_,_,_,_,_,_,_,_,lB,fun h X=>.own (X _ _ l0) (hm0 h X) hi0 .base,fun self=>?_⟩,ini,isf,kpC,sa,mo⟩,nr,⟨bga,brd,bfi⟩,mg_of X G aB,mg_of X G a0⟩,
  ⟨⟨⟨_,by unfold clsIn;rw[lB]⟩,ga,gr,cl,get,tk,mo,bexc⟩,hdC,⟨⟨_,_,_,_,_,_,_,_,_,_,_,_,_,_,_,_,_,lB,by simp⟩,⟨_,_,_,_,_,_,_,_,_,_,_,_,_,_,_,_,_,lB,by simp⟩⟩⟩,F,F.binds fun _ _ _ _ _ _ _ hl=>len2 hl fun _ _=>rfl,⟨⟨_,_,_,_,_,_,_,_,_,_,_,_,_,_,_,_,_,lB,by simp⟩,⟨_,_,_,_,_,_,_,_,_,_,_,_,_,_,_,_,_,l0,by decide +kernel⟩⟩⟩⟩
 rw[refuseLoop_ref];exact PySem.F.store_ValueError.passes self
end
structure Cls(K:Frag)(mg:Str→Option Value)(x:Str)(C C0:Addr):Prop where
 p:ExcP K C
 at_:mg x=some (.ref C)
 at0:mg "SayError"=some (.ref C0)
 m:ExcM K C C0
 lk:Yu K C
theorem len6{fd:FuncData}{ps:List Str}{us:List Value}(h:us.length=6)(k:∀ a b c d e f,bindArgs fd ⟨[a,b,c,d,e,f],[]⟩=pure (ps.zip [a,b,c,d,e,f])):bindArgs fd ⟨us,[]⟩=pure (ps.zip us):=match us,h with | [_,_,_,_,_,_],_=>k _ _ _ _ _ _
section
variable {h:Heap}
theorem Ra(X:K.In h)(G:h.Ns zE mg){x:Str}{C C0 N N0:Addr}{nm q nm0 q0:Str}{bs bs0:List Value}{hd0:Bool}{sn sn0:List Str}{sub sub0:List Value}{ab ab0:Bool}{col col0:Option Bool}{dd dd0:Option Addr}{k0 k1 k2 k3 k5 j0 j1 j2 j3 j5:Option Value}{x0:Value}{y0:Option Addr}{es0:Array DictEntry}{ep0:Nat}{z0:Array (Option Value)}(a:nsIn K zE x=some (some (.ref C)))(a0:nsIn K zE "SayError"=some (some (.ref C0)))(l:K.lookup C=some (excClassObj nm q C N bs (.ref C0::Um) true sn sub ab col dd k0 k1 k2 k3 k5 "ValueError.__new__"))(l0:K.lookup C0=some (excClassObj nm0 q0 C0 N0 bs0 Um hd0 sn0 sub0 ab0 col0 dd0 j0 j1 j2 j3 j5 "ValueError.__new__"))(n0:K.lookup N0=some ⟨x0,y0,.dict es0 ep0,z0⟩)(s0:Mo es0=true)(i0:nsIn K N0 "__init__"=some none)(ini:findIn K (.ref C) "__init__"=some (some (.builtin "ValueError.__init__")))(kp:keepIn K (.ref C)=true)(mo:PySem.W.mroIn K C (.type "object")=some true)(ga:findIn K (.ref C) "__getattribute__"=some (some (.builtin "BaseException.__getattribute__")))(gr:findIn K (.ref C) "__getattr__"=some none)(cl:findIn K (.ref C) "__class__"=some (some (.builtin "object.__class__")))(get:PySem.W.specialIn K (.builtin "object.__class__") "__get__"=some (some (.builtin "getset_descriptor.__get__")))(tk:takesIn K (.builtin "object.__class__")=some true)(bexc:PySem.W.mroIn K C (.type "BaseException")=some true):
  ∃ C C0,Cls K mg x C C0:=by
 obtain⟨m0,hm0,hi0⟩:=T5 n0 s0 i0;refine⟨C,C0,⟨⟨⟨_,_,_,_,_,_,_,_,_,_,_,_,_,_,_,l,fun h X=>.own (X _ _ l0) (hm0 h X) hi0 .base,fun self=>?_⟩,ini,kp⟩,mg_of X G a,mg_of X G a0,
  ⟨⟨_,_,_,_,_,_,_,_,_,_,_,_,_,_,_,_,_,l,by simp⟩,⟨_,_,_,_,_,_,_,_,_,_,_,_,_,_,_,_,_,l0,by decide +kernel⟩⟩,⟨⟨_,by unfold clsIn;rw[l]⟩,ga,gr,cl,get,tk,mo,bexc⟩⟩⟩
 rw[refuseLoop_ref];exact PySem.F.store_ValueError.passes self
structure Kit5(K:Frag)(mg:Str→Option Value)(c0 c1 c2 c3 c4:Addr):Prop where
 a0:mg "BadCount"=some (.ref c0)
 a1:mg "BadSayings"=some (.ref c1)
 a2:mg "BadPlace"=some (.ref c2)
 a3:mg "BadNumber"=some (.ref c3)
 a4:mg "Broken"=some (.ref c4)
 kt:∀ Pt i j,i<5→j<5→PySem.W.kitOne K (.ref (cl ⟨Pt,c4,c0,c1,c2,c3⟩ i)) (.ref (cl ⟨Pt,c4,c0,c1,c2,c3⟩ j))=some (i==j)
 kv:∀ Pt i,i<5→PySem.W.kitOne K (.ref (cl ⟨Pt,c4,c0,c1,c2,c3⟩ i)) (.type "ValueError")=some true
theorem five{p:Nat→Prop}(h0:p 0)(h1:p 1)(h2:p 2)(h3:p 3)(h4:p 4):∀ i,i<5→p i
 | 0,_=>h0
 | 1,_=>h1
 | 2,_=>h2
 | 3,_=>h3
 | 4,_=>h4
theorem Du(X:K.In h)(G:h.Ns zE mg){c0 c1 c2 c3 c4:Addr}(a0:nsIn K zE "BadCount"=some (some (.ref c0)))(a1:nsIn K zE "BadSayings"=some (some (.ref c1)))(a2:nsIn K zE "BadPlace"=some (some (.ref c2)))(a3:nsIn K zE "BadNumber"=some (some (.ref c3)))(a4:nsIn K zE "Broken"=some (some (.ref c4)))(k00:PySem.W.kitOne K (.ref c0) (.ref c0)=some true)(k01:PySem.W.kitOne K (.ref c0) (.ref c1)=some false)(k02:PySem.W.kitOne K (.ref c0) (.ref c2)=some false)(k03:PySem.W.kitOne K (.ref c0) (.ref c3)=some false)(k04:PySem.W.kitOne K (.ref c0) (.ref c4)=some false)(k10:PySem.W.kitOne K (.ref c1) (.ref c0)=some false)(k11:PySem.W.kitOne K (.ref c1) (.ref c1)=some true)(k12:PySem.W.kitOne K (.ref c1) (.ref c2)=some false)(k13:PySem.W.kitOne K (.ref c1) (.ref c3)=some false)(k14:PySem.W.kitOne K (.ref c1) (.ref c4)=some false)(k20:PySem.W.kitOne K (.ref c2) (.ref c0)=some false)(k21:PySem.W.kitOne K (.ref c2) (.ref c1)=some false)(k22:PySem.W.kitOne K (.ref c2) (.ref c2)=some true)(k23:PySem.W.kitOne K (.ref c2) (.ref c3)=some false)(k24:PySem.W.kitOne K (.ref c2) (.ref c4)=some false)(k30:PySem.W.kitOne K (.ref c3) (.ref c0)=some false)(k31:PySem.W.kitOne K (.ref c3) (.ref c1)=some false)(k32:PySem.W.kitOne K (.ref c3) (.ref c2)=some false)(k33:PySem.W.kitOne K (.ref c3) (.ref c3)=some true)(k34:PySem.W.kitOne K (.ref c3) (.ref c4)=some false)(k40:PySem.W.kitOne K (.ref c4) (.ref c0)=some false)(k41:PySem.W.kitOne K (.ref c4) (.ref c1)=some false)(k42:PySem.W.kitOne K (.ref c4) (.ref c2)=some false)(k43:PySem.W.kitOne K (.ref c4) (.ref c3)=some false)(k44:PySem.W.kitOne K (.ref c4) (.ref c4)=some true)(v0:PySem.W.kitOne K (.ref c0) (.type "ValueError")=some true)(v1:PySem.W.kitOne K (.ref c1) (.type "ValueError")=some true)(v2:PySem.W.kitOne K (.ref c2) (.type "ValueError")=some true)(v3:PySem.W.kitOne K (.ref c3) (.type "ValueError")=some true)(v4:PySem.W.kitOne K (.ref c4) (.type "ValueError")=some true):
  ∃ c0 c1 c2 c3 c4,Kit5 K mg c0 c1 c2 c3 c4 :=
 ⟨c0,c1,c2,c3,c4,⟨mg_of X G a0,mg_of X G a1,mg_of X G a2,mg_of X G a3,mg_of X G a4,fun Pt i j hi=>five (p:=fun i=>∀ j,j<5→PySem.W.kitOne K (.ref (cl ⟨Pt,c4,c0,c1,c2,c3⟩ i)) (.ref (cl ⟨Pt,c4,c0,c1,c2,c3⟩ j))=some (i==j)) (five k00 k01 k02 k03 k04) (five k10 k11 k12 k13 k14) (five k20 k21 k22 k23 k24) (five k30 k31 k32 k33 k34) (five k40 k41 k42 k43 k44) i hi j,fun Pt=>five v0 v1 v2 v3 v4⟩⟩
theorem RN(X:K.In h)(G:h.Ns zE mg)(nI:PySem.W.kitOne K (.type "NoneType") (.type "int")=some false)(bI:PySem.W.kitOne K (.type "bool") (.type "int")=some true)(sI:PySem.W.kitOne K (.type "str") (.type "int")=some false)(lI:PySem.W.kitOne K (.type "list") (.type "int")=some false)(tI:PySem.W.kitOne K (.type "tuple") (.type "int")=some false)(dI:PySem.W.kitOne K (.type "dict") (.type "int")=some false)(nT:PySem.W.kitOne K (.type "NoneType") (.type "tuple")=some false)(bT:PySem.W.kitOne K (.type "bool") (.type "tuple")=some false)(iT:PySem.W.kitOne K (.type "int") (.type "tuple")=some false)(sT:PySem.W.kitOne K (.type "str") (.type "tuple")=some false)(lT:PySem.W.kitOne K (.type "list") (.type "tuple")=some false)(dT:PySem.W.kitOne K (.type "dict") (.type "tuple")=some false)(nL:PySem.W.kitOne K (.type "NoneType") (.type "list")=some false)(bL:PySem.W.kitOne K (.type "bool") (.type "list")=some false)(iL:PySem.W.kitOne K (.type "int") (.type "list")=some false)(sL:PySem.W.kitOne K (.type "str") (.type "list")=some false)(tL:PySem.W.kitOne K (.type "tuple") (.type "list")=some false)(dL:PySem.W.kitOne K (.type "dict") (.type "list")=some false):GK K:=⟨nI,bI,sI,lI,tI,dI,nT,bT,iT,sT,lT,dT,nL,bL,iL,sL,tL,dL⟩
end
structure Tf(K:Frag)(mg:Str→Option Value):Prop where
 g:G1 K mg
 d1:∃ f fd,Def K mg "is_whole" J2 ["value"] f fd
 d2:∃ f fd,Def K mg "is_counted" Yy ["count","value"] f fd
 d3:∃ f fd,Def K mg "is_saying" UX ["count","value"] f fd
 d4:∃ f fd,Def K mg "check_sayings" Yr ["count","sayings"] f fd
 d5:∃ f fd,Def K mg "check_places" JH ["count","one","other"] f fd
 d6:∃ f fd,Def K mg "are_heights" Jr ["count","value"] f fd
 d7:∃ f fd,Def K mg "keep_one" Ue ["saying","heights"] f fd
 d8:∃ f fd,Def K mg "above" Vb ["heights","one","other"] f fd
 d9:∃ f fd,Def K mg "keep_all" Jq ["sayings","heights"] f fd
 d10:∃ f fd,Def K mg "is_chain" Qh ["sayings","value","one","other"] f fd
 d11:∃ f fd,Def K mg "chain_sum" J7 ["sayings","chain"] f fd
 d12:∃ f fd,Def K mg "kept" QE ["count","sayings","heights"] f fd
 d13:∃ f fd,Def K mg "sum_of" Va ["count","sayings","chain","one","other"] f fd
 d14:∃ f fd,Def K mg "finish_from" ZX ["start","uppers","entered","finished"] f fd
 d15:∃ f fd,Def K mg "finishing_order" Y0 ["sayings"] f fd
 d16:∃ f fd,Def K mg "walking_order" Zk ["sayings"] f fd
 d17:∃ f fd,Def K mg "least_sums" ZR ["sayings","order"] f fd
 d18:∃ f fd,Def K mg "level" JE ["count","sums"] f fd
 d19:∃ f fd,Def K mg "check_end" Yx ["count","sayings","end"] f fd
 d20:∃ f fd,Def K mg "highest" J6 ["count","sayings","top"] f fd
 d21:∃ f fd,Def K mg "lowest" J5 ["count","sayings","bottom"] f fd
 d22:∃ f fd,Def K mg "heights" JF ["count","sayings"] f fd
 d23:∃ f fd,Def K mg "follows" JG ["count","sayings","one","other"] f fd
 d24:∃ f fd,Def K mg "fixed" UW ["count","sayings","one","other"] f fd
 d25:∃ f fd,Def K mg "needless" Jf ["count","sayings","at"] f fd
 d26:∃ f fd,Def K mg "_law_ask" Jg ["_law_door","_law_count","_law_sayings","_law_one","_law_other"] f fd
 d27:∃ f fd,Def K mg "_law_due" YQ ["_law_door","_law_count","_law_sayings","_law_one","_law_other","_law_due_here"] f fd
 d28:∃ f fd,Def K mg "_law_counts" Yq ["_law_cell"] f fd
 d29:∃ f fd,Def K mg "_law_bad_sayings" ZS ["_law_cell"] f fd
 d30:∃ f fd,Def K mg "_law_bad_places" Y1 ["_law_cell"] f fd
 d31:∃ f fd,Def K mg "_law_bad_numbers" ZT ["_law_cell"] f fd
 d32:∃ f fd,Def K mg "_law_bad_heights" ZU ["_law_cell"] f fd
 d33:∃ f fd,Def K mg "_law_bad_chains" Y2 ["_law_cell"] f fd
 nr:mg "reversed"=none
 nv:mg "ValueError"=none
 w:∃ C f0 d0 f1 d1 f2 d2 f3 d3 f4 d4,NB K mg C f0 d0 f1 d1 f2 d2 f3 d3 f4 d4
 b:∃ C C0 f fd,WU K mg C C0 f fd
 x1:∃ C C0,Cls K mg "BadCount" C C0
 x2:∃ C C0,Cls K mg "BadSayings" C C0
 x3:∃ C C0,Cls K mg "BadPlace" C C0
 x4:∃ C C0,Cls K mg "BadNumber" C C0
 y:∃ c0 c1 c2 c3 c4,Kit5 K mg c0 c1 c2 c3 c4
 z:GK K
theorem TY{f c Pt:Addr}{fd:FuncData}(F:Fun K "law" "law" sLaw f fd)(M:Tf K mg)(ht:tabIn K "walking_order"=some (c,Pt))(X:K.In base)(N:base.Ns zE mg)(hC:PySem.W.CodeHd base c Pt)(hB:base.BuiltinsAt mg Pt):FnOk P w K mg base CX0 9 f fd ["_law_script"] (QC K Pt):=by
 have G:=M.g;have Z:=M.z;obtain⟨_,_,q_is_whole⟩:=M.d1;obtain⟨_,_,q_is_counted⟩:=M.d2;obtain⟨_,_,q_is_saying⟩:=M.d3;obtain⟨_,_,q_check_sayings⟩:=M.d4;obtain⟨_,_,q_check_places⟩:=M.d5;obtain⟨_,_,q_are_heights⟩:=M.d6;obtain⟨_,_,q_keep_one⟩:=M.d7;obtain⟨_,_,q_above⟩:=M.d8;obtain⟨_,_,q_keep_all⟩:=M.d9;obtain⟨_,_,q_is_chain⟩:=M.d10;obtain⟨_,_,q_chain_sum⟩:=M.d11;obtain⟨_,_,q_kept⟩:=M.d12;obtain⟨_,_,q_sum_of⟩:=M.d13;obtain⟨_,_,q_finish_from⟩:=M.d14;obtain⟨_,_,q_finishing_order⟩:=M.d15;obtain⟨_,_,q_walking_order⟩:=M.d16;obtain⟨_,_,q_least_sums⟩:=M.d17;obtain⟨_,_,q_level⟩:=M.d18;obtain⟨_,_,q_check_end⟩:=M.d19;obtain⟨_,_,q_highest⟩:=M.d20;obtain⟨_,_,q_lowest⟩:=M.d21;obtain⟨_,_,q_heights⟩:=M.d22;obtain⟨_,_,q_follows⟩:=M.d23;obtain⟨_,_,q_fixed⟩:=M.d24;obtain⟨_,_,q_needless⟩:=M.d25;obtain⟨_,_,q__law_ask⟩:=M.d26;obtain⟨_,_,q__law_due⟩:=M.d27;obtain⟨_,_,q__law_counts⟩:=M.d28;obtain⟨_,_,q__law_bad_sayings⟩:=M.d29;obtain⟨_,_,q__law_bad_places⟩:=M.d30;obtain⟨_,_,q__law_bad_numbers⟩:=M.d31;obtain⟨_,_,q__law_bad_heights⟩:=M.d32;obtain⟨_,_,q__law_bad_chains⟩:=M.d33;obtain⟨_,_,_,_,_,_,_,_,_,_,_,W⟩:=M.w;obtain⟨CB,C0,_,_,B⟩:=M.b;obtain⟨cC,C1,x1⟩:=M.x1;obtain⟨cS,C2,x2⟩:=M.x2;obtain⟨cP,C3,x3⟩:=M.x3;obtain⟨cN,C4,x4⟩:=M.x4;obtain⟨c0,c1,c2,c3,c4,y⟩:=M.y;cases x1.at0.symm.trans B.k.at0;cases x2.at0.symm.trans B.k.at0;cases x3.at0.symm.trans B.k.at0;cases x4.at0.symm.trans B.k.at0;cases y.a0.symm.trans x1.at_;cases y.a1.symm.trans x2.at_;cases y.a2.symm.trans x3.at_;cases y.a3.symm.trans x4.at_;cases y.a4.symm.trans B.k.at_;have XA:XC K mg "BadCount" cC:=⟨x1.p,x1.at_⟩;have XB:XC K mg "BadSayings" cS:=⟨x2.p,x2.at_⟩;have XP:XC K mg "BadPlace" cP:=⟨x3.p,x3.at_⟩;have XN:XC K mg "BadNumber" cN:=⟨x4.p,x4.at_⟩;have Y:X5 K mg ⟨Pt,CB,cC,cS,cP,cN⟩ C0:=⟨x1.at_,x2.at_,x3.at_,x4.at_,B.k.at_,B.k.at0,M.nv,five x1.m x2.m x3.m x4.m B.z,five x1.lk x2.lk x3.lk x4.lk B.x.look,y.kt Pt,y.kv Pt⟩;have L:LamIn base mg _ Pt:=⟨⟨c,Fun.codeT q_walking_order.fn q_walking_order.at_ X N ht,hC,hB⟩⟩;have GO:=Xx (P:=P) (w:=w) q_walking_order q_finishing_order q_finish_from G L;have GL:=N2 (P:=P) (w:=w) (base:=base) q_least_sums W B.k B.fn B.bd G;have WW:WD P w K mg base Pt CB _ _ _ _:=⟨q_least_sums,GL,q_walking_order,GO⟩;have GS:=Gn (P:=P) (w:=w) (base:=base) q_check_sayings q_is_saying q_is_counted q_is_whole XA XB Z G;have GP:=Go (P:=P) (w:=w) (base:=base) q_check_places q_is_counted q_is_whole XP Z G;have GE:=Gp q_check_end q_check_sayings GS q_is_whole XN Z G;have GK:=Dc q_kept q_check_sayings GS q_are_heights (XE q_are_heights q_is_whole Z G) q_keep_all (XD q_keep_all q_keep_one q_above G) XN;have GM:=N1 q_sum_of q_check_sayings GS q_check_places GP q_is_chain (N4 q_is_chain q_is_counted q_is_whole Z G) q_chain_sum (QT q_chain_sum G) XN;have GA:=TN (Z:=⟨Pt,CB,cC,cS,cP,cN⟩) q__law_ask ⟨q_kept,GK,q_sum_of,GM,q_heights,TL q_heights q_check_sayings GS,q_follows,XF q_follows q_check_sayings GS q_check_places GP WW,q_fixed,N3 q_fixed q_check_sayings GS q_check_places GP WW,
  q_needless,QR q_needless q_check_sayings GS q_is_counted (Jj q_is_counted q_is_whole Z G) XN WW G,q_highest,Dd q_highest q_check_end GE WW q_level G,q_lowest,TJ q_lowest q_check_end GE q_least_sums GL q_level q_walking_order GO B.k B.x B.fn B.bd M.nr G⟩
 have GD:=TM q__law_due q__law_ask GA Y G;exact TK F q__law_due GD q_kept GK q_sum_of GM q__law_counts q__law_bad_sayings q__law_bad_places q__law_bad_numbers q__law_bad_heights q__law_bad_chains G
theorem Rh{l:OpenLaw}{q:Program}{loose:List Str}{XP:(Str→Option Value)→Heap→Prop}{YP:World→Heap→Prop}{d d0:DefRec}{K:Params→Frag}{c Pt:Addr}(hn:l.most=some 63)(hdf:d.params.defaults=[])(hY:∀(w:World) (h:Heap),YP w h→(K w.params).In h)(hrec:(recsOf q).find? (fun e=>e.name==("walking_order":Str))=some d0)(htab:∀ w:World,tabIn (K w.params) "walking_order"=some (c,Pt))(hno:∀ w:World,(K w.params).lookup Pt=none)(F:∀(w:World) (mg:Str→Option Value) (fa:Addr) (h:Heap),(K w.params).In h→h.Ns zE mg→mg d.name=some (.ref fa) →
   ∃ fd:FuncData,(∀(s:Shared) (u:Value),BindsTo s fd ⟨[u],[]⟩ [("_law_script",u)])∧∀ base:Heap,(K w.params).In base→base.Ns zE mg→PySem.W.CodeHd base c Pt→base.BuiltinsAt mg Pt→FnOk l.prog w (K w.params) mg base CX0 9 fa fd ["_law_script"] (QC (K w.params) Pt)):
  PySem.W.WalkO q loose XP YP l.row.toRowW d [] (fun f vs=>PySem.call f vs):=
 L2.M9 (n:=63) (k:=9) (x:="_law_script") (CX:=fun _=>CX0) (sp:=fun w=>QC (K w.params) Pt) hn (by decide) hdf ⟨by decide,by decide⟩ hY hrec htab hno F
  (fun _ _ a ns hl hS hT=>⟨a,ns,rfl,hS,hl,⟨#[],hT,by simp[TriplesOk],fun pos cv e=>by simp[codeAmong] at e⟩,fun _=>rfl⟩) fun _ _ _ _ _ z=>z
section
variable {h:Heap}
theorem TW(X:K.In h)(G:h.Ns zE mg){fa f c0 Pt:Addr}(hfa:mg "law"=some (.ref fa)){oc:Value}{od an:Option Addr}{sl:Array (Option Value)}{kV dc pm cd ct:Value}(a:nsIn K zE "law"=some (some (.ref f)))(l:K.lookup f=some ⟨oc,od,.func (fnOf "law" "law" (Y3 sLaw) (ZL sLaw) (defScope sLaw) .none kV dc pm an cd ct),sl⟩)(c:codeIn K cd "law"=true)(k:keepIn K (.ref f)=true)(ht:tabIn K "walking_order"=some (c0,Pt))(M:Tf K mg)(P:Program)(w:World):
  ∃ fd:FuncData,(∀(s:Shared) (v:Value),BindsTo s fd ⟨[v],[]⟩ [("_law_script",v)])∧∀ base:Heap,K.In base→base.Ns zE mg→PySem.W.CodeHd base c0 Pt→base.BuiltinsAt mg Pt→FnOk P w K mg base CX0 9 fa fd ["_law_script"] (QC K Pt):=by
 have e:=hfa.symm.trans (mg_of X G a);cases e;exact⟨fnOf "law" "law" (Y3 sLaw) (ZL sLaw) (defScope sLaw) .none kV dc pm an cd ct,fun s v=>.of_eq rfl,fun base X N hC hB=>TY (Jl l c k) M ht X N hC hB⟩
end
end
end At
open PySem PySem.W PyProof.Rows
namespace PySem.W.Fast
def tw18382969640907186471:=0
def tw15053707236662923018:=0
def tw16184674868138335862:=0
def tw1047351346919938050:=0
def tw15751745268963533584:=0
def tw3409632054459341386:=0
def tw11644779862818069736:=0
def tw4150994199719822071:=0
def tw11681161507845366658:=0
def tw5937200776013157979:=0
def tw5392753054364474035:=0
def tw8710227989542560669:=0
def tw93546087702777251:=0
def tw1577699474000245326:=0
def tw8619063192237558298:=0
def tw13738519888613610509:=0
def tw16037416129729865827:=0
def tw17056683159510189772:=0
def tw12818878794882656114:=0
def tw3895759688519824957:=0
def tw8057361040926374394:=0
def tw13135927473104367811:=0
def tw5857130942348863995:=0
def tw566807052302269509:=0
def tw8336050101064415189:=0
def tw17820714326706755526:=0
def tw13844848021989017379:=0
def tw4183104583625653513:=0
def tw12126439397301846935:=0
def tw11490702540364884970:=0
def tw9732499773904620083:=0
def tw10885401170617907994:=0
def tw206901166491108246:=0
def tw8700732373032327670:=0
def tw2157479518398947348:=0
def tw4219649672323537994:=0
def tw16408212303788038235:=0
def tw1085068098547288934:=0
def tw8361793227833512213:=0
def tw3023940293016963030:=0
def tw12456894213199368708:=0
def tw14542292198276878886:=0
def tw14556866486693692182:=0
def tw17299990787853976919:=0
def tw12432797148773798271:=0
def tw7757406069602101869:=0
def tw4579260053243587415:=0
def tw13778436680354582534:=0
def tw2140471251530028541:=0
def tw1305164435654700643:=0
def tw358851865480397046:=0
def tw5039616878054384110:=0
def tw5650157992866930865:=0
def tw9851406674985609629:=0
def tw11023422092253585724:=0
def tw238019262366304878:=0
def tw7319260947416448322:=0
def tw14001301053959556787:=0
def tw17454743303240578005:=0
def tw9094022757492286121:=0
def tw11901078005198554034:=0
def tw2807595522887989771:=0
def tw16106612048231762461:=0
def tw16363986672448010774:=0
def tw5434904714485242137:=0
def tw16699491572417490102:=0
def tw2211674561397154731:=0
def tw16736875773380982456:=0
def tw10992122528528971755:=0
def tw689806884644171767:=0
def tw942980392207348097:=0
def tw2450677972966307993:=0
def tw13360642264519136247:=0
def tw15856974845645300327:=0
def tw5176274685081363684:=0
def tw11294507801075614546:=0
def tw10509711006805385930:=0
def tw787490737712074237:=0
def tw1993022902643399498:=0
def tw14583849164999366581:=0
def tw7757129440466499242:=0
def tw1969809696671973479:=0
def tw7440937998634865193:=0
def tw10600680810799160698:=0
def tw10544863513198258940:=0
def tw1988212806465327964:=0
def tw4928013063352929865:=0
def tw5395477641741907623:=0
def tw15337312723325019228:=0
def tw9069170003065726101:=0
def tw17496864120438787967:=0
def tw622047458948313682:=0
def tw6860859051296773775:=0
def tw10679089561369830288:=0
def tw11454873562397045388:=0
def tw4077642054018456597:=0
def tw10599066961864522210:=0
def tw10361305296208042566:=0
def tw3260259474246578248:=0
def tw16096588444244094483:=0
def tw6938107895273845662:=0
def tw8024365729088066829:=0
def tw11536742290004830791:=0
def tw16822278750390794914:=0
def tw299636913610180363:=0
def tw5417360305098329210:=0
def tw13058107058908931334:=0
def tw18223080897839596124:=0
def tw1217975377616745257:=0
def tw4574381797827769228:=0
def tw12670550007911630510:=0
def tw8850349556425109378:=0
def tw9663970564148738130:=0
def tw14523719127677041610:=0
def tw10361952155193678312:=0
def tw955114426092283931:=0
def tw7952565758882153580:=0
def tw8729527038645794438:=0
def tw1410743702278480322:=0
def tw16183065631226755998:=0
def tw1326794557274612479:=0
def tw13715225409031171063:=0
def tw15914294888948694300:=0
def tw11410382104282875724:=0
def tw114617895319917378:=0
def tw2558279725667653628:=0
def tw5872500373706396183:=0
def tw8488465432809786667:=0
def tw2202602136790679881:=0
def tw3580541223083177778:=0
def tw2903030025308916732:=0
def tw2907824108055188374:=0
def tw13362813460746945512:=0
def tw5285191456297370180:=0
def tw740180252207366046:=0
def tw13926539266058208838:=0
def tw15081020945547138177:=0
def tw16645222594182259332:=0
def tw13461436040999200165:=0
def tw17385339511171448633:=0
def tw7405545031719788655:=0
def tw265959122158607219:=0
def tw7517873690698974088:=0
def tw12460401417949681876:=0
def tw10070239372910875255:=0
def tw12552097189980578427:=0
def tw16941914119983950624:=0
def tw2305216900135666898:=0
def tw18013861446148476680:=0
def tw1547009306318800418:=0
def tw18028661306146695451:=0
def tw12843062984641856271:=0
def tw1097187809820916354:=0
def tw7211437548618858914:=0
def tw4277306314852394440:=0
def tw4316438640473730627:=0
def tw2077401780224012685:=0
def tw18122519288081868179:=0
def tw14637959260126503370:=0
def tw2479011942676570438:=0
def tw7241409431803880486:=0
def tw5217673039130884882:=0
def tw7964302521564882245:=0
def tw14973908815440467017:=0
def tw16721449450957205826:=0
def tw7485091295023636566:=0
def tw2204436042207361039:=0
def tw6173196524781272471:=0
def tw14296551249913323116:=0
def tw13867278848016696397:=0
def tw6758590117980726104:=0
def tw9092586850928503101:=0
def tw4590659269833680857:=0
def tw335407960270867548:=0
def tw84403466902519827:=0
def tw14031392429212037802:=0
def tw7992844665710768781:=0
def tw12891079597897581047:=0
def tw8874813887510266588:=0
def tw17331652966364283723:=0
def tw7125767484309315424:=0
def tw11629263817608181230:=0
def tw8796168283742019830:=0
def tw11915599973067668541:=0
def tw18246172361132587009:=0
def tw7265356492274447805:=0
def tw33050811086772459:=0
def tw6062202769003607759:=0
def tw6270848918257498624:=0
def tw13036571847319468634:=0
def tw12818950735040063326:=0
def tw11514107213889110799:=0
def tw7557180290887962311:=0
def tw6202489012199072373:=0
def tw9749944740773437434:=0
def tw1149605910197848247:=0
def tw12074754749070398468:=0
def tw12979646280579350203:=0
def tw6789679628584229178:=0
def tw7356894156646481168:=0
end PySem.W.Fast
set_option maxRecDepth 100000 in
set_option maxHeartbeats 0 in
theorem PySem.Challenge.cw_atmost_k08_refused_holds : PySem.Challenge.rw_atmost_k08_refused.Holds := by
 w_on;o_law;k_head;(case hw=>w_witness2)
 k_fill
 refine' At.Rh (l:=PySem.Challenge.rw_atmost_k08_refused) rfl rfl (fun w h Y=>PySem.W.km_in_of Y) ?hRec ?hTab ?hNo ?hFF
 case hRec=>rfl
 case hTab =>
  intro w
  refine' At.QA ?ta ?tl ?th ?tm ?tv
  (case ta|tl=>k_is)
  (case th=>rfl)
  (case tm=>k_is)
  (case tv=>rfl)
 case hNo=>intro w;kernel_rfl
 case hFF =>
  intro w mg fa h KX G hmg
  refine' At.TW KX G hmg ?la ?ll ?lc ?lk ?lt ?hDf _ w
  (case la=>k_is);(case ll=>k_is);(case lc=>k_is);(case lk=>k_is);(case lt=>refine' At.QA ?ta ?tl ?th ?tm ?tv;(case ta=>k_is);(case tl=>k_is);(case th=>rfl);(case tm=>k_is);(case tv=>rfl))
  refine' ⟨?g,?d1,?d2,?d3,?d4,?d5,?d6,?d7,?d8,?d9,?d10,?d11,?d12,?d13,?d14,?d15,?d16,?d17,?d18,?d19,?d20,?d21,?d22,?d23,?d24,?d25,?d26,?d27,?d28,?d29,?d30,?d31,?d32,?d33,?nr,?nv,?w,?b,?x1,?x2,?x3,?x4,?y,?z⟩
  case g =>
   refine' At.RP KX G ?q34 ?q35 ?q36 ?q37 ?q38 ?q39 ?q40 ?q41 ?q42 ?q43 ?q44 ?q45 ?q46 ?q47 ?q48 ?q49 ?q50 ?q51 ?q52
   (case q34|q35|q36|q37|q38|q39|q40|q41|q42|q43|q44|q45|q46|q47=>k_is)
   (case q48|q49|q50|q51|q52=>kit_is)
  case nr=>exact PySem.W.mg_none_of KX G (by k_is)
  case nv=>exact PySem.W.mg_none_of KX G (by k_is)
  case w =>
   refine' At.Mb KX G ?q53 ?q54 ?q55 ?q56 ?q57 ?q58 ?q59 ?q60 ?q61 ?q62 ?q63 ?q64 ?q65 ?q66 ?q67 ?q68 ?q69 ?q70 ?q71 ?q72 ?q73 ?q74 ?q75 ?q76 ?q77 ?q78 ?q79 ?q80 ?q81 ?q82 ?q83 ?q84 ?q85 ?q86 ?q87
   (case q53|q54|q55|q56|q57|q58|q59|q60|q61|q62|q63|q64|q65|q66|q67|q68|q69|q70|q71|q72|q73|q74|q75|q76|q77|q78|q79|q80|q81|q82|q83|q84|q85|q86|q87=>k_is)
  case b =>
   refine' At.W1 KX G ?q88 ?q89 ?q90 ?q91 ?q92 ?q93 ?q94 ?q1 ?q2 ?q3 ?q95 ?q96 ?q97 ?q4 ?q5 ?q6 ?q98 ?q99 ?q100 ?q101 ?q102 ?q103 ?q7 ?q104 ?q0 ?q8
   (case q88|q89|q90|q91|q92=>k_is)
   (case q93=>rfl)
   (case q94|q1|q2|q3|q95|q96|q97|q4|q5|q6|q98|q99|q100|q101|q102|q103|q7|q104|q0|q8=>k_is)
  case y =>
   refine' At.Du KX G ?q105 ?q106 ?q107 ?q108 ?q109 ?q9 ?q10 ?q11 ?q12 ?q13 ?q14 ?q15 ?q16 ?q17 ?q18 ?q19 ?q20 ?q21 ?q22 ?q23 ?q24 ?q25 ?q26 ?q27 ?q28 ?q29 ?q30 ?q31 ?q32 ?q33 ?q110 ?q111 ?q112 ?q113 ?q114
   (case q105|q106|q107|q108|q109=>k_is)
   (case q9|q10|q11|q12|q13|q14|q15|q16|q17|q18|q19|q20|q21|q22|q23|q24|q25|q26|q27|q28|q29|q30|q31|q32|q33|q110|q111|q112|q113|q114=>kit_is)
  case z =>
   refine' At.RN KX G ?q115 ?q116 ?q117 ?q118 ?q119 ?q120 ?q121 ?q122 ?q123 ?q124 ?q125 ?q126 ?q127 ?q128 ?q129 ?q130 ?q131 ?q132
   (case q115|q116|q117|q118|q119|q120|q121|q122|q123|q124|q125|q126|q127|q128|q129|q130|q131|q132=>kit_is)
  case d1 | d15 | d16 | d28 | d29 | d30 | d31 | d32 | d33 =>
   refine' At.UG KX G ?a ?l ?c ?k (fun _ _ _ _ _ _ _ hl=>At.len1 hl fun _=>rfl)
   (case a|l|c|k=>k_is)
  case d2 | d3 | d4 | d6 | d7 | d9 | d11 | d17 | d18 | d22 =>
   refine' At.UG KX G ?a ?l ?c ?k (fun _ _ _ _ _ _ _ hl=>At.len2 hl fun _ _=>rfl)
   (case a|l|c|k=>k_is)
  case d5 | d8 | d12 | d19 | d20 | d21 | d25 =>
   refine' At.UG KX G ?a ?l ?c ?k (fun _ _ _ _ _ _ _ hl=>At.len3 hl fun _ _ _=>rfl)
   (case a|l|c|k=>k_is)
  case d10 | d14 | d23 | d24 =>
   refine' At.UG KX G ?a ?l ?c ?k (fun _ _ _ _ _ _ _ hl=>At.len4 hl fun _ _ _ _=>rfl)
   (case a|l|c|k=>k_is)
  case d13 | d26 =>
   refine' At.UG KX G ?a ?l ?c ?k (fun _ _ _ _ _ _ _ hl=>At.len5 hl fun _ _ _ _ _=>rfl)
   (case a|l|c|k=>k_is)
  case d27 =>
   refine' At.UG KX G ?a ?l ?c ?k (fun _ _ _ _ _ _ _ hl=>At.len6 hl fun _ _ _ _ _ _=>rfl)
   (case a|l|c|k=>k_is)
  case x1 | x2 | x3 | x4 =>
   refine' At.Ra KX G ?a ?a0 ?l ?l0 ?n0 ?s0 ?i0 ?ini ?kp ?mo ?ga ?gr ?cl ?get ?tk ?bexc
   (case a|a0|l|l0|n0=>k_is)
   (case s0=>rfl)
   (case i0|ini|kp|mo|ga|gr|cl|get|tk|bexc=>k_is)
