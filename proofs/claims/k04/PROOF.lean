import PyProof.Rows.All
import Wide.All
import OpenK.AllK
import Wide.FinOn
import Lean
import PyProof.EqAt
import PyProof.EqKinds
import PyProof.TupleCall
import PyProof.NeKinds
import PyProof.ExcClass3
import PyProof.ExcBaseAll.ValueError
import PyProof.DictWalks
import PyProof.WalksEnum
import PyProof.EnumMake
import PyProof.Rows.EnumRows
import KE.KDictLaws
import KE.KLam
import KE.KSortKey
import PyProof.Rows.CallKwBuiltin
import PyProof.Rows.SortRuns
import PyProof.ExcAttrAll.ValueError
import PyProof.InstStoreFacts
import PyProof.FactsAll.range_1
import KE.KNest
import KE.KRevIter
import PyProof.ListRange
import PyProof.ListNew
import PyProof.MinMaxWalk
import PyProof.ZipIter
import PyProof.WalkInts
import PyProof.Rows.Range3
import PySem.Challenge.RW_atmost_k04_whole_needless
set_option compiler.extract_closed false
set_option Elab.async false
set_option linter.all false
namespace At
abbrev Say:=Int × Int × Int
def cnt (c i:Int):Bool:=decide (0 ≤ i) && decide (i < c)
theorem cnt_iff {c i:Int}:cnt c i = true ↔ 0 ≤ i∧i < c:=by unfold cnt; simp
def inside (c:Int) (s:Say):Bool:=cnt c s.1 && cnt c s.2.1
def keeps (hs:List Int) (s:Say):Bool:=decide (hs.getD s.2.1.toNat 0 - hs.getD s.1.toNat 0 ≤ s.2.2)
def walk (ss:List Say):List Int→Int→Option Int
 | [],p=>some p
 | k :: r,p=>if cnt ss.length k = true then (match ss[k.toNat]? with
  | some s=>if s.1 = p then walk ss r s.2.1 else none
  | none=>none) else none
def num (ss:List Say) (k:Int):Int:=((ss[k.toNat]?).map fun s=>s.2.2).getD 0
def sumC (ss:List Say) (ns:List Int):Int:=(ns.map (num ss)).sum
abbrev Fn:=Int→Option Int
def put (S:Fn) (k v:Int):Fn:=fun x=>if x = k then some v else S x
theorem put_same {S:Fn} {k v:Int}:put S k v k = some v:=by unfold put; rw [if_pos rfl]
theorem put_ne {S:Fn} {k v x:Int} (h:x ≠ k):put S k v x = S x:=by unfold put; rw [if_neg h]
def sy (ss:List Say) (k:Int):Say:=(ss[k.toNat]?).getD (0,0,0)
structure Ws where
 S:Fn
 L:Fn
 f:Bool
def relax (ss:List Say) (w:Ws) (k:Int):Ws :=
 match w.S (sy ss k).1 with
 | none=>w
 | some a =>
  match w.S (sy ss k).2.1 with
  | none=>⟨put w.S (sy ss k).2.1 (a + (sy ss k).2.2),put w.L (sy ss k).2.1 k,true⟩
  | some b=>if a + (sy ss k).2.2 < b then ⟨put w.S (sy ss k).2.1 (a + (sy ss k).2.2),put w.L (sy ss k).2.1 k,true⟩ else w
def goAll (ss:List Say) (order:List Int) (w:Ws):Ws:=order.foldl (relax ss) w
def back (ss:List Say) (L:Fn):Nat→Int→Option Int
 | 0,p=>some p
 | n + 1,p=>match L p with
  | none=>none
  | some k=>back ss L n (sy ss k).1
def wsum (ss:List Say) (L:Fn):Nat→Int→Int
 | 0,_=>0
 | n + 1,p=>match L p with
  | none=>0
  | some k=>(sy ss k).2.2 + wsum ss L n (sy ss k).1
def chainB (ss:List Say) (L:Fn):Nat→Int→List Int
 | 0,_=>[]
 | n + 1,p=>match L p with
  | none=>[]
  | some k=>k :: chainB ss L n (sy ss k).1
def J (ss:List Say) (S L:Fn):Prop:=∀ p k,L p = some k→cnt ss.length k = true∧(sy ss k).2.1 = p∧∃ a b,S (sy ss k).1 = some a∧S p = some b∧a + (sy ss k).2.2 ≤ b
def R (ss:List Say) (L:Fn):Prop:=∀ p n,back ss L (n + 1) p = some p→wsum ss L (n + 1) p < 0
def Z (S L:Fn):Prop:=∀ q v,L q = none→S q = some v→v = 0
section
variable {ss:List Say} {S L:Fn}
theorem back_add:∀ (m n:Nat) (p:Int),back ss L (m + n) p = (back ss L m p).bind (back ss L n)
 | 0,n,p=>by rw [Nat.zero_add]; rfl
 | m + 1,n,p=>by
  rw [Nat.succ_add]
  unfold back
  cases e:L p with
  | none=>rfl
  | some k=>exact back_add m n _
theorem wsum_add:∀ (m n:Nat) (p q:Int),back ss L m p = some q→wsum ss L (m + n) p = wsum ss L m p + wsum ss L n q
 | 0,n,p,q,h=>by
  have e:p = q:=Option.some.inj h
  subst e
  rw [Nat.zero_add]; unfold wsum; simp
 | m + 1,n,p,q,h=>by
  rw [Nat.succ_add]
  unfold back at h
  cases e:L p with
  | none=>rw [e] at h; cases h
  | some k =>
   rw [e] at h
   have:=wsum_add m n _ q h
   simp only [wsum,e]
   omega
theorem tele (hJ:J ss S L):∀ (n:Nat) (p q a b:Int),back ss L n p = some q→S q = some a→S p = some b→a + wsum ss L n p ≤ b
 | 0,p,q,a,b,h,ha,hb=>by
  have e:p = q:=Option.some.inj h
  subst e
  rw [ha] at hb; cases hb
  simp [wsum]
 | n + 1,p,q,a,b,h,ha,hb=>by
  unfold back at h
  cases e:L p with
  | none=>rw [e] at h; cases h
  | some k =>
   rw [e] at h
   obtain ⟨_,_,a',b',h1,h2,h3⟩:=hJ p k e
   rw [hb] at h2; cases h2
   have:=tele hJ n _ q a a' h ha h1
   simp only [wsum,e]
   omega
theorem back_has (hJ:J ss S L):∀ (n:Nat) (p q b:Int),back ss L n p = some q→S p = some b→∃ a,S q = some a
 | 0,p,q,b,h,hb=>by
  have e:p = q:=Option.some.inj h
  subst e
  exact ⟨b,hb⟩
 | n + 1,p,q,b,h,hb=>by
  unfold back at h
  cases e:L p with
  | none=>rw [e] at h; cases h
  | some k =>
   rw [e] at h
   obtain ⟨_,_,a',b',h1,h2,h3⟩:=hJ p k e
   exact back_has hJ n _ q a' h h1
variable {k a:Int}
theorem J_put (hJ:J ss S L) (hk:cnt ss.length k = true) (ha:S (sy ss k).1 = some a) (hb:∀ b,S (sy ss k).2.1 = some b→a + (sy ss k).2.2 < b) :
  J ss (put S (sy ss k).2.1 (a + (sy ss k).2.2)) (put L (sy ss k).2.1 k):=by
 intro p m hm
 by_cases hp:p = (sy ss k).2.1
 ·subst hp
  rw [put_same] at hm; cases hm
  refine ⟨hk,rfl,?_⟩
  by_cases hu:(sy ss k).1 = (sy ss k).2.1
  ·have h1:=hb a (by rw [← hu]; exact ha)
   refine ⟨a + (sy ss k).2.2,a + (sy ss k).2.2,?_,put_same,by omega⟩
   rw [hu]; exact put_same
  ·exact ⟨a,_,by rw [put_ne hu]; exact ha,put_same,Int.le_refl _⟩
 ·rw [put_ne hp] at hm
  obtain ⟨h1,h2,a',b',h3,h4,h5⟩:=hJ p m hm
  refine ⟨h1,h2,?_⟩
  by_cases hu:(sy ss m).1 = (sy ss k).2.1
  ·have:=hb a' (by rw [← hu]; exact h3)
   refine ⟨a + (sy ss k).2.2,b',?_,by rw [put_ne hp]; exact h4,by omega⟩
   rw [hu]; exact put_same
  ·exact ⟨a',b',by rw [put_ne hu]; exact h3,by rw [put_ne hp]; exact h4,h5⟩
theorem R_put (hJ:J ss S L) (hR:R ss L) (hk:cnt ss.length k = true) (ha:S (sy ss k).1 = some a) (hb:∀ b,S (sy ss k).2.1 = some b→a + (sy ss k).2.2 < b) :
  R ss (put L (sy ss k).2.1 k):=by
 have hJ':=J_put hJ hk ha hb
 have sv:put S (sy ss k).2.1 (a + (sy ss k).2.2) (sy ss k).2.1 = some (a + (sy ss k).2.2):=put_same
 have lv:put L (sy ss k).2.1 k (sy ss k).2.1 = some k:=put_same
 have key:∀ (m:Nat) (x c:Int),x ≠ (sy ss k).2.1→S x = some c→back ss (put L (sy ss k).2.1 k) m x = some (sy ss k).2.1→(a + (sy ss k).2.2) + wsum ss (put L (sy ss k).2.1 k) m x < c:=by
  intro m
  induction m with
  | zero=>intro x c hx _ h; exact absurd (Option.some.inj h) hx
  | succ m ih =>
   intro x c hx hc h
   unfold back at h
   rw [put_ne hx] at h
   cases e:L x with
   | none=>rw [e] at h; cases h
   | some j =>
    rw [e] at h
    dsimp only at h
    obtain ⟨_,_,a',b',h1,h2,h3⟩:=hJ x j e
    rw [hc] at h2; cases h2
    have ew:wsum ss (put L (sy ss k).2.1 k) (m + 1) x = (sy ss j).2.2 + wsum ss (put L (sy ss k).2.1 k) m (sy ss j).1:=by
     simp only [wsum,put_ne hx,e]
    rw [ew]
    by_cases hy:(sy ss j).1 = (sy ss k).2.1
    ·rw [hy] at h ⊢
     have t:=tele hJ' m _ _ _ _ h sv sv
     have:=hb a' (by rw [← hy]; exact h1)
     omega
    ·have:=ih _ a' hy h1 h
     omega
 have atV:∀ n,back ss (put L (sy ss k).2.1 k) (n + 1) (sy ss k).2.1 = some (sy ss k).2.1→wsum ss (put L (sy ss k).2.1 k) (n + 1) (sy ss k).2.1 < 0:=by
  intro n h
  unfold back at h
  rw [lv] at h
  have h:back ss (put L (sy ss k).2.1 k) n (sy ss k).1 = some (sy ss k).2.1:=h
  have ew:wsum ss (put L (sy ss k).2.1 k) (n + 1) (sy ss k).2.1 = (sy ss k).2.2 + wsum ss (put L (sy ss k).2.1 k) n (sy ss k).1:=by
   simp only [wsum,lv]
  rw [ew]
  by_cases hu:(sy ss k).1 = (sy ss k).2.1
  ·have h1:=hb a (by rw [← hu]; exact ha)
   rw [hu] at h ⊢
   have t:=tele hJ' n _ _ _ _ h sv sv
   omega
  ·have:=key n _ a hu ha h
   omega
 intro p n h
 by_cases hv:∃ i,i ≤ n∧back ss (put L (sy ss k).2.1 k) i p = some (sy ss k).2.1
 ·obtain ⟨i,hi,h1⟩:=hv
  have e1:i + (n + 1 - i) = n + 1:=by omega
  have h2:back ss (put L (sy ss k).2.1 k) (n + 1 - i) (sy ss k).2.1 = some p:=by
   have:=back_add (ss:=ss) (L:=put L (sy ss k).2.1 k) i (n + 1 - i) p
   rw [e1,h,h1] at this
   exact this.symm
  have h3:back ss (put L (sy ss k).2.1 k) ((n + 1 - i) + i) (sy ss k).2.1 = some (sy ss k).2.1:=by
   rw [back_add,h2]; exact h1
  have w1:=wsum_add (ss:=ss) (L:=put L (sy ss k).2.1 k) i (n + 1 - i) p _ h1
  have w2:=wsum_add (ss:=ss) (L:=put L (sy ss k).2.1 k) (n + 1 - i) i _ _ h2
  have e2:(n + 1 - i) + i = n + 1:=by omega
  rw [e2] at w2 h3
  rw [e1] at w1
  have:=atV n h3
  omega
 ·have same:∀ m (x:Int),(∀ i,i < m→back ss (put L (sy ss k).2.1 k) i x ≠ some (sy ss k).2.1)→back ss (put L (sy ss k).2.1 k) m x = back ss L m x∧wsum ss (put L (sy ss k).2.1 k) m x = wsum ss L m x:=by
   intro m
   induction m with
   | zero=>intro x _; exact ⟨rfl,rfl⟩
   | succ m ih =>
    intro x hx
    have h0:x ≠ (sy ss k).2.1:=fun z=>hx 0 (by omega) (by rw [z]; rfl)
    simp only [back,wsum,put_ne h0]
    cases e:L x with
    | none=>exact ⟨rfl,rfl⟩
    | some j =>
     have:=ih (sy ss j).1 fun i hi z=>hx (i + 1) (by omega) (by
      simp only [back,put_ne h0,e]; exact z)
     exact ⟨this.1,by simp only [this.2]⟩
  have s:=same (n + 1) p fun i hi z=>hv ⟨i,by omega,z⟩
  rw [s.2]
  rw [s.1] at h
  exact hR p n h
theorem Z_put (hZ:Z S L) {v x:Int}:Z (put S v x) (put L v k):=by
 intro q y hq hy
 by_cases e:q = v
 ·subst e; rw [put_same] at hq; cases hq
 ·rw [put_ne e] at hq hy; exact hZ q y hq hy
end
structure Wd (ss:List Say) (c:Int) (S L:Fn):Prop where
 j:J ss S L
 r:R ss L
 z:Z S L
 rg:∀ p v,S p = some v→cnt c p = true
theorem Wd.lr {ss:List Say} {c:Int} {S L:Fn} (h:Wd ss c S L) {p k:Int} (e:L p = some k):cnt c p = true:=by
 obtain ⟨_,_,_,b,_,hb,_⟩:=h.j p k e
 exact h.rg p b hb
theorem sy_in {ss:List Say} {c k:Int} (hin:ss.all (inside c) = true) (hk:cnt ss.length k = true):cnt c (sy ss k).1 = true∧cnt c (sy ss k).2.1 = true:=by
 obtain ⟨h0,h1⟩:=cnt_iff.mp hk
 have hl:k.toNat < ss.length:=by omega
 have e:sy ss k = ss[k.toNat]:=by unfold sy; rw [List.getElem?_eq_getElem hl]; rfl
 have:=List.all_eq_true.mp hin _ (List.getElem_mem hl)
 rw [e]
 unfold inside at this
 rwa [Bool.and_eq_true] at this
def Less (S S':Fn):Prop:=∃ p,(S p = none∧S' p ≠ none) ∨ ∃ b b',S p = some b∧S' p = some b'∧b' < b
def Down (S S':Fn):Prop:=∀ p b,S p = some b→∃ b',S' p = some b'∧b' ≤ b
theorem Down.refl (S:Fn):Down S S:=fun p b h=>⟨b,h,Int.le_refl _⟩
theorem Down.trans {S S1 S2:Fn} (a:Down S S1) (b:Down S1 S2):Down S S2:=fun p x h=>by
 obtain ⟨y,h1,h2⟩:=a p x h
 obtain ⟨z,h3,h4⟩:=b p y h1
 exact ⟨z,h3,by omega⟩
theorem Down.less {S S1 S2:Fn} (a:Down S S1) (b:Less S1 S2):Less S S2:=by
 obtain ⟨p,h⟩:=b
 refine ⟨p,?_⟩
 rcases h with ⟨h1,h2⟩ | ⟨x,y,h1,h2,h3⟩
 ·left
  refine ⟨?_,h2⟩
  cases e:S p with
  | none=>rfl
  | some v =>
   obtain ⟨v',e',_⟩:=a p v e
   rw [h1] at e'; cases e'
 ·cases e:S p with
  | none=>left; exact ⟨rfl,by rw [h2]; simp⟩
  | some v =>
   obtain ⟨v',e',h4⟩:=a p v e
   rw [h1] at e'; cases e'
   right; exact ⟨v,y,rfl,h2,by omega⟩
def Tight (ss:List Say) (S:Fn) (k:Int):Prop:=∀ a,S (sy ss k).1 = some a→∃ b,S (sy ss k).2.1 = some b∧b ≤ a + (sy ss k).2.2
theorem relax_cases (ss:List Say) (w:Ws) (k:Int):(relax ss w k = w∧Tight ss w.S k) ∨
  ∃ a,w.S (sy ss k).1 = some a∧(∀ b,w.S (sy ss k).2.1 = some b→a + (sy ss k).2.2 < b)∧relax ss w k = ⟨put w.S (sy ss k).2.1 (a + (sy ss k).2.2),put w.L (sy ss k).2.1 k,true⟩:=by
 unfold relax
 cases e:w.S (sy ss k).1 with
 | none=>left; exact ⟨rfl,fun a h=>by rw [e] at h; cases h⟩
 | some a =>
  dsimp only
  cases e2:w.S (sy ss k).2.1 with
  | none=>right; exact ⟨a,rfl,fun b h=>(by cases h),rfl⟩
  | some b =>
   dsimp only
   by_cases hl:a + (sy ss k).2.2 < b
   ·right
    exact ⟨a,rfl,fun b' h=>(by cases h; exact hl),by rw [if_pos hl]⟩
   ·left
    rw [if_neg hl]
    exact ⟨rfl,fun a' h=>by rw [e] at h; cases h; exact ⟨b,e2,by omega⟩⟩
structure Pass (ss:List Say) (c:Int) (w w':Ws) (done:List Int):Prop where
 wd:Wd ss c w'.S w'.L
 down:Down w.S w'.S
 less:w'.f = true→w.f = true ∨ Less w.S w'.S
 still:w'.f = false→w' = w∧∀ k ∈ done,Tight ss w.S k
theorem goAll_pass {ss:List Say} {c:Int} (hin:ss.all (inside c) = true) (w:Ws) (h:Wd ss c w.S w.L):∀ (order:List Int),(∀ k ∈ order,cnt ss.length k = true)→Pass ss c w (goAll ss order w) order:=by
 intro order
 have rev:∀ (l:List Int),(∀ k ∈ l,cnt ss.length k = true)→Pass ss c w (goAll ss l.reverse w) l.reverse:=by
  intro l
  induction l with
  | nil=>intro _; exact ⟨h,Down.refl _,fun z=>.inl z,fun _=>⟨rfl,fun k hk=>by simp at hk⟩⟩
  | cons k l ih =>
   intro hk
   have ih:=ih fun j hj=>hk j (List.mem_cons_of_mem _ hj)
   have e:goAll ss (k :: l).reverse w = relax ss (goAll ss l.reverse w) k:=by
    unfold goAll; rw [List.reverse_cons,List.foldl_append]; rfl
   rw [e]
   have hck:=hk k (List.mem_cons_self)
   rcases relax_cases ss (goAll ss l.reverse w) k with ⟨e1,t⟩ | ⟨a,ha,hb,e1⟩
   ·rw [e1]
    refine ⟨ih.wd,ih.down,ih.less,fun hf=>?_⟩
    obtain ⟨e2,h2⟩:=ih.still hf
    refine ⟨e2,fun j hj=>?_⟩
    rw [List.reverse_cons,List.mem_append] at hj
    rcases hj with hj | hj
    ·exact h2 j hj
    ·have:j = k:=by simpa using hj
     subst this
     rw [e2] at t; exact t
   ·rw [e1]
    have wd:=ih.wd
    have d1:Down (goAll ss l.reverse w).S (put (goAll ss l.reverse w).S (sy ss k).2.1 (a + (sy ss k).2.2)):=fun p b hp=>by
     by_cases e:p = (sy ss k).2.1
     ·subst e
      exact ⟨_,put_same,by have:=hb b hp; omega⟩
     ·exact ⟨b,by rw [put_ne e]; exact hp,Int.le_refl _⟩
    have l1:Less (goAll ss l.reverse w).S (put (goAll ss l.reverse w).S (sy ss k).2.1 (a + (sy ss k).2.2)):=by
     refine ⟨(sy ss k).2.1,?_⟩
     cases e:(goAll ss l.reverse w).S (sy ss k).2.1 with
     | none=>left; exact ⟨rfl,by rw [put_same]; simp⟩
     | some b=>right; exact ⟨b,_,rfl,put_same,hb b e⟩
    refine ⟨⟨J_put wd.j hck ha hb,R_put wd.j wd.r hck ha hb,Z_put wd.z,fun p v hp=>?_⟩,ih.down.trans d1,fun _=>.inr (ih.down.less l1),fun z=>by cases z⟩
    by_cases e:p = (sy ss k).2.1
    ·subst e; exact (sy_in hin hck).2
    ·dsimp only at hp
     rw [put_ne e] at hp; exact wd.rg p v hp
 intro ho
 have:=rev order.reverse fun k hk=>ho k (by simpa using hk)
 rwa [List.reverse_reverse] at this
theorem walk_append {ss:List Say}:∀ (l1 l2:List Int) (p:Int),walk ss (l1 ++ l2) p = (walk ss l1 p).bind (walk ss l2)
 | [],l2,p=>rfl
 | k :: r,l2,p=>by
  rw [List.cons_append]
  unfold walk
  by_cases hc:cnt ss.length k = true
  ·rw [if_pos hc,if_pos hc]
   cases e:ss[k.toNat]? with
   | none=>rfl
   | some s =>
    dsimp only
    by_cases hp:s.1 = p
    ·rw [if_pos hp,if_pos hp]; exact walk_append r l2 _
    ·rw [if_neg hp,if_neg hp]; rfl
  ·rw [if_neg hc,if_neg hc]; rfl
theorem sy_get {ss:List Say} {k:Int} (hk:cnt ss.length k = true):ss[k.toNat]? = some (sy ss k):=by
 obtain ⟨h0,h1⟩:=cnt_iff.mp hk
 have hl:k.toNat < ss.length:=by omega
 unfold sy; rw [List.getElem?_eq_getElem hl]; rfl
theorem walk_one {ss:List Say} {k:Int} (hk:cnt ss.length k = true):walk ss [k] (sy ss k).1 = some (sy ss k).2.1:=by
 unfold walk
 rw [if_pos hk,sy_get hk]
 dsimp only
 rw [if_pos rfl]; rfl
theorem num_sy {ss:List Say} {k:Int} (hk:cnt ss.length k = true):num ss k = (sy ss k).2.2:=by
 unfold num; rw [sy_get hk]; rfl
theorem sumC_append (ss:List Say) (a b:List Int):sumC ss (a ++ b) = sumC ss a + sumC ss b:=by
 unfold sumC; rw [List.map_append,List.sum_append]
theorem chainB_walk {ss:List Say} {S L:Fn} (hJ:J ss S L):∀ (n:Nat) (p q:Int),back ss L n p = some q→walk ss (chainB ss L n p).reverse q = some p∧sumC ss (chainB ss L n p).reverse = wsum ss L n p∧(chainB ss L n p).length = n
 | 0,p,q,h=>by
  have e:p = q:=Option.some.inj h
  subst e
  exact ⟨rfl,rfl,rfl⟩
 | n + 1,p,q,h=>by
  unfold back at h
  cases e:L p with
  | none=>rw [e] at h; cases h
  | some k =>
   rw [e] at h
   obtain ⟨h1,h2,_⟩:=hJ p k e
   obtain ⟨i1,i2,i3⟩:=chainB_walk hJ n _ q h
   simp only [chainB,wsum,e]
   refine ⟨?_,?_,by rw [List.length_cons,i3]⟩
   ·rw [List.reverse_cons,walk_append,i1]
    show walk ss [k] (sy ss k).1 = some p
    rw [walk_one h1,h2]
   ·rw [List.reverse_cons,sumC_append,i2]
    show wsum ss L n (sy ss k).1 + sumC ss [k] = _
    have:sumC ss [k] = (sy ss k).2.2:=by unfold sumC; simp [num_sy h1]
    omega
theorem chainB_snoc {ss:List Say} {L:Fn}:∀ (n:Nat) (p q k:Int),back ss L n p = some q→L q = some k→chainB ss L (n + 1) p = chainB ss L n p ++ [k]
 | 0,p,q,k,h,e=>by
  have z:p = q:=Option.some.inj h
  subst z
  simp only [chainB,e]; rfl
 | n + 1,p,q,k,h,e=>by
  unfold back at h
  cases ep:L p with
  | none=>rw [ep] at h; cases h
  | some j =>
   rw [ep] at h
   have:=chainB_snoc n _ q k h e
   rw [chainB]
   simp only [ep]
   rw [this]
   conv=>rhs; rw [chainB]
   simp only [ep,List.cons_append]
theorem back_snoc {ss:List Say} {L:Fn} {n:Nat} {p q k:Int} (h:back ss L n p = some q) (e:L q = some k):back ss L (n + 1) p = some (sy ss k).1:=by
 rw [back_add,h]
 show back ss L 1 q = _
 simp only [back,e]
def Grd (ss:List Say) (L:Fn) (p:Int):Prop:=∃ n q,back ss L n p = some q∧L q = none
theorem nodup_bound:∀ (c:Nat) (l:List Int),l.Nodup→(∀ x ∈ l,0 ≤ x∧x < (c:Int))→l.length ≤ c
 | 0,l,_,h=>by
  cases l with
  | nil=>exact Nat.le_refl _
  | cons x r=>have:=h x List.mem_cons_self; omega
 | c + 1,l,hn,h=>by
  have hn':(l.erase (c:Int)).Nodup:=hn.erase _
  have:=nodup_bound c (l.erase (c:Int)) hn' fun x hx=>by
   have hx1:=List.mem_of_mem_erase hx
   have h1:=h x hx1
   have h2:x ≠ (c:Int):=fun z=>by
    subst z
    exact (List.Nodup.not_mem_erase hn) hx
   omega
  have hle:l.length ≤ (l.erase (c:Int)).length + 1:=by
   rw [List.length_erase]; split <;> omega
  omega
theorem first_ground {ss:List Say} {L:Fn} {p:Int} (h:Grd ss L p):∃ n q,back ss L n p = some q∧L q = none∧∀ i,i < n→∃ x,back ss L i p = some x∧L x ≠ none:=by
 obtain ⟨n,q,h1,h2⟩:=h
 have:∀ n p,back ss L n p = some q→∃ m,m ≤ n∧∃ q',back ss L m p = some q'∧L q' = none∧∀ i,i < m→∃ x,back ss L i p = some x∧L x ≠ none:=by
  intro n
  induction n with
  | zero =>
   intro p h
   exact ⟨0,Nat.le_refl _,q,h,h2,fun i hi=>by omega⟩
  | succ n ih =>
   intro p h
   cases e:L p with
   | none=>exact ⟨0,Nat.zero_le _,p,rfl,e,fun i hi=>by omega⟩
   | some k =>
    simp only [back,e] at h
    obtain ⟨m,hm,q',g1,g2,g3⟩:=ih _ h
    refine ⟨m + 1,by omega,q',by simp only [back,e]; exact g1,g2,fun i hi=>?_⟩
    cases i with
    | zero=>exact ⟨p,rfl,by rw [e]; simp⟩
    | succ i =>
     obtain ⟨x,e1,e2⟩:=g3 i (by omega)
     exact ⟨x,by simp only [back,e]; exact e1,e2⟩
 obtain ⟨m,_,q',g1,g2,g3⟩:=this n p h1
 exact ⟨m,q',g1,g2,g3⟩
theorem ground_short {ss:List Say} {L:Fn} {c:Nat} (hr:∀ x k,L x = some k→cnt c x = true) {n:Nat} {p q:Int} (h1:back ss L n p = some q) (h2:L q = none) (h3:∀ i,i < n→∃ x,back ss L i p = some x∧L x ≠ none):n ≤ c:=by
 have inj:∀ i j,i < j→j < n→(back ss L i p).getD 0 = (back ss L j p).getD 0→False:=by
  intro i j hij hj e
  obtain ⟨x,ex,_⟩:=h3 i (by omega)
  obtain ⟨y,ey,_⟩:=h3 j hj
  rw [ex,ey] at e
  have e:x = y:=e
  subst e
  have e1:=back_add (ss:=ss) (L:=L) j (n - j) p
  rw [show j + (n - j) = n from by omega,h1,ey] at e1
  have e2:=back_add (ss:=ss) (L:=L) i (n - j) p
  rw [ex] at e2
  have e1:some q = back ss L (n - j) x:=e1
  have e2:back ss L (i + (n - j)) p = back ss L (n - j) x:=e2
  rw [← e1] at e2
  obtain ⟨z,ez,hz⟩:=h3 (i + (n - j)) (by omega)
  rw [e2] at ez; cases ez
  exact hz h2
 have nd:((List.range n).map fun i=>(back ss L i p).getD 0).Nodup:=by
  rw [List.Nodup,List.pairwise_map]
  refine List.Pairwise.imp_of_mem ?_ (List.pairwise_lt_range (n:=n))
  intro a b ha hb hab z
  exact inj a b hab (List.mem_range.mp hb) z
 have:=nodup_bound c _ nd fun x hx=>by
  obtain ⟨i,hi,rfl⟩:=List.mem_map.mp hx
  obtain ⟨y,ey,hy⟩:=h3 i (List.mem_range.mp hi)
  rw [ey]
  cases e:L y with
  | none=>exact absurd e hy
  | some k=>exact cnt_iff.mp (hr y k e)
 simpa using this
def bigNum (ss:List Say):Nat:=(ss.map fun s=>s.2.2.natAbs).sum
theorem big_of {ss:List Say} {k:Int} (hk:cnt ss.length k = true):-(bigNum ss:Int) ≤ (sy ss k).2.2∧(sy ss k).2.2 ≤ bigNum ss:=by
 have hm:sy ss k ∈ ss:=List.mem_of_getElem? (sy_get hk)
 have:∀ (l:List Say) (s:Say),s ∈ l→s.2.2.natAbs ≤ (l.map fun s=>s.2.2.natAbs).sum:=by
  intro l
  induction l with
  | nil=>intro s hs; simp at hs
  | cons x r ih =>
   intro s hs
   rw [List.map_cons,List.sum_cons]
   rcases List.mem_cons.mp hs with rfl | hs
   ·omega
   ·have:=ih s hs; omega
 have:=this ss _ hm
 unfold bigNum
 omega
theorem wsum_low {ss:List Say} {S L:Fn} (hJ:J ss S L):∀ (n:Nat) (p q:Int),back ss L n p = some q→-((n * bigNum ss:Nat):Int) ≤ wsum ss L n p
 | 0,p,q,h=>by simp [wsum]
 | n + 1,p,q,h=>by
  unfold back at h
  cases e:L p with
  | none=>rw [e] at h; cases h
  | some k =>
   rw [e] at h
   have i:=wsum_low hJ n _ q h
   have b:=big_of (hJ p k e).1
   simp only [wsum,e]
   rw [Nat.add_mul,Nat.one_mul]
   omega
theorem low_of {ss:List Say} {c:Nat} {S L:Fn} (h:Wd ss c S L) (g:∀ p k,L p = some k→Grd ss L p) {p v:Int} (hp:S p = some v):-((c * bigNum ss:Nat):Int) ≤ v:=by
 have gp:Grd ss L p:=by
  cases e:L p with
  | none=>exact ⟨0,p,rfl,e⟩
  | some k=>exact g p k e
 obtain ⟨n,q,h1,h2,h3⟩:=first_ground gp
 have hn:=ground_short (fun x k e=>h.lr e) h1 h2 h3
 obtain ⟨a,ha⟩:=back_has h.j n p q v h1 hp
 have ha0:=h.z q a h2 ha
 have t:=tele h.j n p q a v h1 ha hp
 have l:=wsum_low h.j n p q h1
 have m:n * bigNum ss ≤ c * bigNum ss:=Nat.mul_le_mul_right _ hn
 omega
def term (lo top:Int) (S:Fn) (i:Nat):Nat:=match S i with
 | some v=>(v - lo).toNat
 | none=>(top - lo).toNat + 1
def meas (c:Nat) (lo top:Int) (S:Fn):Nat:=((List.range c).map (term lo top S)).sum
theorem sum_le {f g:Nat→Nat}:∀ (l:List Nat),(∀ i ∈ l,f i ≤ g i)→(l.map f).sum ≤ (l.map g).sum
 | [],_=>Nat.le_refl _
 | x :: r,h=>by
  rw [List.map_cons,List.map_cons,List.sum_cons,List.sum_cons]
  have:=sum_le r fun i hi=>h i (List.mem_cons_of_mem _ hi)
  have:=h x List.mem_cons_self
  omega
theorem sum_lt {f g:Nat→Nat}:∀ (l:List Nat) (j:Nat),j ∈ l→f j < g j→(∀ i ∈ l,f i ≤ g i)→(l.map f).sum < (l.map g).sum
 | [],j,hj,_,_=>by simp at hj
 | x :: r,j,hj,hl,h=>by
  rw [List.map_cons,List.map_cons,List.sum_cons,List.sum_cons]
  have h0:=h x List.mem_cons_self
  rcases List.mem_cons.mp hj with rfl | hj
  ·have:=sum_le r fun i hi=>h i (List.mem_cons_of_mem _ hi)
   omega
  ·have:=sum_lt r j hj hl fun i hi=>h i (List.mem_cons_of_mem _ hi)
   omega
theorem meas_lt {c:Nat} {lo top:Int} {S S':Fn} (d:Down S S') (l:Less S S') (hr:∀ p v,S' p = some v→cnt c p = true) (hlo:∀ p v,S' p = some v→lo ≤ v) (htop:∀ p v,S' p = some v→v ≤ top):meas c lo top S' < meas c lo top S:=by
 have le:∀ i,term lo top S' i ≤ term lo top S i:=by
  intro i
  unfold term
  cases e:S i with
  | some v =>
   obtain ⟨v',e',h⟩:=d _ _ e
   rw [e']
   dsimp only
   omega
  | none =>
   cases e':S' i with
   | none=>exact Nat.le_refl _
   | some v =>
    have:=htop _ _ e'
    dsimp only
    omega
 obtain ⟨p,hp⟩:=l
 have hv:∃ v,S' p = some v:=by
  rcases hp with ⟨_,h⟩ | ⟨_,b,_,h,_⟩
  ·cases e:S' p with
   | none=>exact absurd e h
   | some v=>exact ⟨v,rfl⟩
  ·exact ⟨b,h⟩
 obtain ⟨v,hv⟩:=hv
 obtain ⟨h0,h1⟩:=cnt_iff.mp (hr p v hv)
 obtain ⟨i,rfl⟩:=Int.eq_ofNat_of_zero_le h0
 refine sum_lt (List.range c) i (List.mem_range.mpr (by omega)) ?_ fun j _=>le j
 unfold term
 have hlv:=hlo _ _ hv
 have htv:=htop _ _ hv
 rcases hp with ⟨h,_⟩ | ⟨b,b',h,h',hl⟩
 ·rw [h,hv]; dsimp only; omega
 ·rw [h,hv]
  rw [hv] at h'; cases h'
  dsimp only; omega
end At
set_option Elab.async false
set_option linter.all false
set_option maxRecDepth 100000
namespace L2
open PySem PySem.Spec PyProof.Rows
abbrev Key:=Sum Int Str
def keyIs:Key→Value→Bool
 | .inl k,v=>Value.isInt k v
 | .inr x,v=>Value.isStrOf x v
def keyH (w:World):Key→Int
 | .inl k=>hashInt k
 | .inr x=>hashStr w x
theorem keyIs_shape:∀ {k:Key} {v:Value},keyIs k v = true→(∃ i t,k = Sum.inl i∧v = Value.int i t) ∨ (∃ x t,k = Sum.inr x∧v = Value.str x t)
 | .inl i,v,h=>by
  obtain ⟨t,e⟩:=Value.isInt_shape (k:=i) (v:=v) h
  exact .inl ⟨i,t,rfl,e⟩
 | .inr x,v,h=>by
  obtain ⟨t,e⟩:=Value.isStrOf_shape (x:=x) (v:=v) h
  exact .inr ⟨x,t,rfl,e⟩
theorem keyIs_int (i:Int) (t:Tok):keyIs (.inl i) (.int i t) = true:=by simp [keyIs,Value.isInt]
theorem keyIs_str (x:Str) (t:Tok):keyIs (.inr x) (.str x t) = true:=by simp [keyIs,Value.isStrOf]
theorem key_ll (a b:Int):decide ((Sum.inl a:Key) = Sum.inl b) = (a == b):=by
 by_cases e:a = b
 ·subst e; simp
 ·have h:¬ (Sum.inl a:Key) = Sum.inl b:=fun q=>e (Sum.inl.inj q)
  rw [decide_eq_false h]
  exact (beq_eq_false_iff_ne.mpr e).symm
theorem key_rr (a b:Str):decide ((Sum.inr a:Key) = Sum.inr b) = decide (a = b):=by
 by_cases e:a = b
 ·subst e; simp
 ·have h:¬ (Sum.inr a:Key) = Sum.inr b:=fun q=>e (Sum.inr.inj q)
  rw [decide_eq_false h,decide_eq_false e]
theorem key_lr (a:Int) (b:Str):decide ((Sum.inl a:Key) = Sum.inr b) = false:=decide_eq_false (fun q=>nomatch q)
theorem key_rl (a:Str) (b:Int):decide ((Sum.inr a:Key) = Sum.inl b) = false:=decide_eq_false (fun q=>nomatch q)
def mixKind (prog:Program) (w:World):PySem.KeyKind prog w Key where
 is:=keyIs
 hash:=keyH w
 inj:=fun v a b ha hb=>by
  rcases keyIs_shape ha with ⟨i,t,rfl,rfl⟩ | ⟨x,t,rfl,rfl⟩
  ·rcases keyIs_shape hb with ⟨j,u,rfl,e⟩ | ⟨y,u,rfl,e⟩
   ·injection e with e1 _; rw [e1]
   ·exact nomatch e
  ·rcases keyIs_shape hb with ⟨j,u,rfl,e⟩ | ⟨y,u,rfl,e⟩
   ·exact nomatch e
   ·injection e with e1 _; rw [e1]
 byValue:=fun k v h=>by
  rcases keyIs_shape h with ⟨i,t,rfl,rfl⟩ | ⟨x,t,rfl,rfl⟩ <;> rfl
 pyHash:=fun hv h=>by
  rcases keyIs_shape hv with ⟨i,t,rfl,rfl⟩ | ⟨x,t,rfl,rfl⟩
  ·exact wpAny_pyHash_int h
  ·exact wpAny_pyHash_str h
 eqBool:=fun hu hv h=>by
  rcases keyIs_shape hu with ⟨i,t,rfl,rfl⟩ | ⟨x,t,rfl,rfl⟩
  ·rcases keyIs_shape hv with ⟨j,u,rfl,rfl⟩ | ⟨y,u,rfl,rfl⟩
   ·rw [key_ll] at h; exact wpAny_eqBool_int h
   ·rw [key_lr] at h; exact SeqAt.EqAt.int_str i t y u _ _ _ _ h
  ·rcases keyIs_shape hv with ⟨j,u,rfl,rfl⟩ | ⟨y,u,rfl,rfl⟩
   ·rw [key_rl] at h; exact SeqAt.EqAt.str_int x t j u _ _ _ _ h
   ·rw [key_rr] at h; exact wpAny_eqBool_str h
 «strs»:=fun k x t v h=>by
  rcases keyIs_shape h with ⟨i,u,rfl,e⟩ | ⟨y,u,rfl,e⟩
  ·exact nomatch e
  ·injection e with e1 _
   subst e1
   cases v <;> rfl
theorem mixKind_int (prog:Program) (w:World) (i:Int) (t:Tok):(mixKind prog w).is (.inl i) (.int i t) = true:=keyIs_int i t
theorem mixKind_str (prog:Program) (w:World) (x:Str) (t:Tok):(mixKind prog w).is (.inr x) (.str x t) = true:=keyIs_str x t
end L2
namespace L2
open PySem PySem.Spec PyProof.Rows
inductive V where
 | non | bl (b:Bool) | int (i:Int) | str (x:Str) | byt (b:Array UInt8) | flt (b:UInt64) | ref (a:Addr) | ty (n:String)
 deriving DecidableEq
def RelV:V→Value→Prop
 | .non,u=>u = Value.none
 | .bl b,u=>u = Value.bool b
 | .int i,u=>∃ t,u = Value.int i t
 | .str x,u=>∃ t,u = Value.str x t
 | .byt b,u=>∃ t,u = Value.bytes b t
 | .flt b,u=>∃ t,u = Value.float b t
 | .ref a,u=>u = Value.ref a
 | .ty n,u=>u = Value.type n
abbrev Vals:List V→List Value→Prop:=Paired RelV
theorem Vals.length {xs:List V} {us:List Value} (r:Vals xs us):xs.length = us.length:=Paired.length r
theorem Vals.get:∀ {xs:List V} {us:List Value} {i:Nat} {x:V},Vals xs us→xs[i]? = some x→∃ u,us[i]? = some u∧RelV x u
 | _,_,_,_,.nil,e=>by simp at e
 | _,_,0,_,.cons r _,e=>by simp at e; subst e; exact ⟨_,rfl,r⟩
 | _,_,i + 1,x,.cons _ t,e=>by
  obtain ⟨u,h1,h2⟩:=Vals.get (i:=i) (x:=x) t (by simpa using e)
  exact ⟨u,by simpa using h1,h2⟩
theorem Vals.append:∀ {xs ys:List V} {us ws:List Value},Vals xs us→Vals ys ws→Vals (xs ++ ys) (us ++ ws)
 | _,_,_,_,.nil,s=>s
 | _,_,_,_,.cons r t,s=>.cons r (Vals.append t s)
theorem Vals.take:∀ {xs:List V} {us:List Value} (n:Nat),Vals xs us→Vals (xs.take n) (us.take n)
 | _,_,0,_=>.nil
 | _,_,_ + 1,.nil=>.nil
 | _,_,n + 1,.cons r t=>.cons r (Vals.take n t)
theorem Vals.drop:∀ {xs:List V} {us:List Value} (n:Nat),Vals xs us→Vals (xs.drop n) (us.drop n)
 | _,_,0,r=>r
 | _,_,_ + 1,.nil=>.nil
 | _,_,n + 1,.cons _ t=>Vals.drop n t
def RelO:Option V→Option Value→Prop
 | some v,some u=>RelV v u
 | none,none=>True
 | _,_=>False
def KV {κ:Type}:List (κ × V)→List (κ × Value)→Prop:=Paired fun (p:κ × V) (q:κ × Value)=>p.1 = q.1∧RelV p.2 q.2
def kV:Key→V
 | .inl i=>.int i
 | .inr x=>.str x
inductive HO where
 
 | lst (xs:List V)
 
 | tup (xs:List V)
 
 | dK (kvs:List (Key × V)) | dT (kvs:List (List Key × V))
 
 | set (S:Int→Bool) (n:Nat)
 
 | ins (C dx:Addr) (fs:List (Str × V))
 
 | own (x:Addr)
 
 | xd (fs:List (Str × V))
 
 | met (f x:Addr)
 
 | rng (lo hi:Int)
 
 | frz (o:Obj) (u:HO)
 
 | tbl (ps:Array Value)
 
 | ext (φ:Heap→Prop)
abbrev Hp:=Addr→Option HO
def upd (H:Hp) (a:Addr) (o:HO):Hp:=fun b=>if b = a then some o else H b
theorem upd_same {H:Hp} {a:Addr} {o:HO}:upd H a o a = some o:=by unfold upd; rw [if_pos rfl]
theorem upd_ne {H:Hp} {a b:Addr} {o:HO} (h:b ≠ a):upd H a o b = H b:=by unfold upd; rw [if_neg h]
theorem ne_of {H:Hp} {a b:Addr} {o u:HO} (h:H a = some o) (h':H b = some u) (d:o ≠ u):a ≠ b:=by
 intro e; subst e; rw [h] at h'; exact d (Option.some.inj h')
theorem ne_of_none {H:Hp} {a b:Addr} {o:HO} (h:H a = some o) (h':H b = none):a ≠ b:=by
 intro e; subst e; rw [h] at h'; cases h'
section
variable (P:Program) (w:World)
def ObjOk (H:Hp) (h:Heap) (a:Addr):HO→Prop
 | .lst xs=>xs.length ≤ sizeLine∧∃ (its:List Value) (n:Nat),Vals xs its∧h.get? a = some { cls:=.type "list",data:=.seq its.toArray n }
 | .tup xs=>xs.length ≤ sizeLine∧∃ its:List Value,Vals xs its∧IsTup h a its.toArray
 | .dK kvs=>kvs.length ≤ sizeLine∧(a == sysModules) = false∧∃ vs,KV kvs vs∧h.DictOf (mixKind P w) a vs
 | .dT kvs=>kvs.length ≤ sizeLine∧(a == sysModules) = false∧∃ xs:List (List Key × Addr × Value),
   Paired (fun (p:List Key × V) (q:List Key × Addr × Value)=>p.1 = q.1∧H q.2.1 = some (.tup (p.1.map kV))∧RelV p.2 q.2.2) kvs xs ∧
   ∃ o es ep,h.get? a = some o∧o.ExactDict∧o.data = .dict es ep∧es.toList = xs.map (entryOfKey (tupleKind (mixKind P w)))∧(xs.map (·.1)).Nodup
 | .set S n=>h.SetOf (intKind P w) a S n
 | .ins C dx fs=>H dx = some (.own a)∧fs.length ≤ 1000∧dx ≠ a∧h.get? a = some (PySem.W.instObj C dx) ∧
   ∃ mA,h.Ns1 dx mA∧(∀ f,RelO (fs.lookup f) (mA f))∧PySem.Within mA (fs.map (·.1))
 | .own _=>∃ o,h.get? a = some o
 | .xd fs=>∃ mA,h.Ns1 a mA∧∀ f,RelO (fs.lookup f) (mA f)
 | .rng lo hi=>∃ t u v,h.get? a = some { cls:=.type "range",data:=.fields #[.int lo t,.int hi u,.int 1 v] }
 | .frz o u=>h.get? a = some o∧ObjOk H h a u
 | .tbl ps=>h.get? a = some { cls:=.none,data:=.fields ps }
 | .met f x=>h.get? a = some (PySem.W.methodObj (.ref f) (.ref x))
 | .ext φ=>φ h∧(∃ o,h.get? a = some o)∧∀ h1 h2:Heap,φ h1→(∀ o,h1.get? a = some o→h2.get? a = some o)→φ h2
def HOk (H:Hp) (h:Heap):Prop:=∀ a o,H a = some o→ObjOk P w H h a o
end
section
variable {P:Program} {w:World} {H H':Hp} {h h':Heap} {a:Addr} {o:HO}
theorem ObjOk.lt (x:ObjOk P w H h a o):a < h.objs.size:=by
 cases o with
 | lst xs=>obtain ⟨_,_,_,_,e⟩:=x; exact Heap.lt_size e
 | tup xs=>obtain ⟨_,_,_,p⟩:=x; exact p.lt
 | dK kvs=>obtain ⟨_,_,_,_,o,_,_,e,_⟩:=x; exact Heap.lt_size e
 | dT kvs=>obtain ⟨_,_,_,_,o,_,_,e,_⟩:=x; exact Heap.lt_size e
 | set S n=>obtain ⟨o,_,_,_,e,_⟩:=x; exact Heap.lt_size e
 | ins C dx fs=>obtain ⟨_,_,_,e,_⟩:=x; exact Heap.lt_size e
 | own y=>obtain ⟨_,e⟩:=x; exact Heap.lt_size e
 | xd fs=>obtain ⟨_,⟨_,_,_,e,_⟩,_⟩:=x; exact Heap.lt_size e
 | rng lo hi=>obtain ⟨_,_,_,e⟩:=x; exact Heap.lt_size e
 | frz ob u=>obtain ⟨e,_⟩:=x; exact Heap.lt_size e
 | tbl ps=>exact Heap.lt_size (show h.get? a = some _ from x)
 | met f y=>exact Heap.lt_size (show h.get? a = some _ from x)
 | ext φ=>obtain ⟨_,⟨_,e⟩,_⟩:=x; exact Heap.lt_size e
theorem Paired.mapP {α β:Type} {F G:α→β→Prop}:∀ {l₁:List α} {l₂:List β},Paired F l₁ l₂→(∀ a b,F a b→G a b)→Paired G l₁ l₂
 | _,_,.nil,_=>.nil
 | _,_,.cons r t,f=>.cons (f _ _ r) (Paired.mapP t f)
theorem ObjOk.stay (x:ObjOk P w H h a o) (k:∀ b u,(b = a ∨ H b = some (.own a))→h.get? b = some u→h'.get? b = some u)
  (ho:∀ b,H b = some (.own a)→H' b = some (.own a)) (ht:∀ b xs,H b = some (.tup xs)→H' b = some (.tup xs)):ObjOk P w H' h' a o:=by
 induction o with
 | lst xs=>obtain ⟨z,its,n,r,e⟩:=x; exact ⟨z,its,n,r,k _ _ (.inl rfl) e⟩
 | tup xs=>obtain ⟨z,its,r,ob,e,c⟩:=x; exact ⟨z,its,r,ob,k _ _ (.inl rfl) e,c⟩
 | dK kvs=>obtain ⟨z,y,vs,r,ob,es,ep,e,c⟩:=x; exact ⟨z,y,vs,r,ob,es,ep,k _ _ (.inl rfl) e,c⟩
 | dT kvs =>
  obtain ⟨z,y,xs,r,ob,es,ep,e,c⟩:=x
  exact ⟨z,y,xs,Paired.mapP r fun p q z=>⟨z.1,ht _ _ z.2.1,z.2.2⟩,ob,es,ep,k _ _ (.inl rfl) e,c⟩
 | set S n=>obtain ⟨ob,es,ep,t,e,c⟩:=x; exact ⟨ob,es,ep,t,k _ _ (.inl rfl) e,c⟩
 | ins C dx fs =>
  obtain ⟨d,z,ne,e,mA,⟨od,es,ep,e2,c⟩,r⟩:=x
  exact ⟨ho _ d,z,ne,k _ _ (.inl rfl) e,mA,⟨od,es,ep,k _ _ (.inr d) e2,c⟩,r⟩
 | own y=>obtain ⟨ob,e⟩:=x; exact ⟨ob,k _ _ (.inl rfl) e⟩
 | xd fs=>obtain ⟨mA,⟨od,es,ep,e,c⟩,r⟩:=x; exact ⟨mA,⟨od,es,ep,k _ _ (.inl rfl) e,c⟩,r⟩
 | rng lo hi=>obtain ⟨t,u,v,e⟩:=x; exact ⟨t,u,v,k _ _ (.inl rfl) e⟩
 | frz ob u ih=>obtain ⟨e,q⟩:=x; exact ⟨k _ _ (.inl rfl) e,ih q⟩
 | tbl ps =>
  have e:h.get? a = some { cls:=.none,data:=.fields ps }:=x
  show h'.get? a = some { cls:=.none,data:=.fields ps }
  exact k a _ (.inl rfl) e
 | met f y =>
  have e:h.get? a = some (PySem.W.methodObj (.ref f) (.ref y)):=x
  show h'.get? a = some (PySem.W.methodObj (.ref f) (.ref y))
  exact k a _ (.inl rfl) e
 | ext φ=>obtain ⟨p,⟨o,e⟩,st⟩:=x; exact ⟨st _ _ p fun o q=>k _ _ (.inl rfl) q,⟨o,k _ _ (.inl rfl) e⟩,st⟩
theorem HOk.lt (x:HOk P w H h) (e:H a = some o):a < h.objs.size:=(x a o e).lt
theorem HOk.fresh (x:HOk P w H h) (e:h.objs.size ≤ a):H a = none:=by
 cases q:H a with
 | none=>rfl
 | some u=>exact absurd (Nat.lt_of_lt_of_le (x.lt q) e) (Nat.lt_irrefl _)
theorem HOk.kept (x:HOk P w H h) (k:∀ b u,h.get? b = some u→h'.get? b = some u):HOk P w H h':=fun a o e =>
 (x a o e).stay (fun b u _ q=>k b u q) (fun _ q=>q) fun _ _ q=>q
theorem HOk.laid (x:HOk P w H h) (k:∀ b u,h.get? b = some u→h'.get? b = some u) (hp:h.objs.size ≤ a) (new:ObjOk P w (upd H a o) h' a o):HOk P w (upd H a o) h':=fun b u e=>by
 have hn:=x.fresh hp
 by_cases hb:b = a
 ·subst hb; rw [upd_same] at e; cases e; exact new
 ·rw [upd_ne hb] at e
  exact (x b u e).stay (fun c v _ q=>k c v q) (fun c q=>by rw [upd_ne (ne_of_none q hn)]; exact q) fun c xs q=>by rw [upd_ne (ne_of_none q hn)]; exact q
end
def Rd (H:Hp) (a:Addr) (u:HO):Prop:=H a = some u ∨ ∃ o,H a = some (.frz o u)
theorem Rd.ok {P:Program} {w:World} {H:Hp} {h:Heap} {a:Addr} {u:HO} (r:Rd H a u) (x:HOk P w H h):ObjOk P w H h a u:=by
 rcases r with r | ⟨o,r⟩
 ·exact x a u r
 ·obtain ⟨_,q⟩:=x a _ r
  exact q
def Mut:Option HO→Prop
 | some (.lst _)=>True
 | some (.dK _)=>True
 | some (.dT _)=>True
 | some (.set _ _)=>True
 | some (.ins _ _ _)=>True
 | some (.ext _)=>True
 | _=>False
section
variable {P:Program} {w:World} {H:Hp} {h h':Heap} {x e:Addr} {o':HO}
theorem HOk.write (ok:HOk P w H h) (mu:Mut (H x)) (he:e = x ∨ H e = some (.own x)) (k:∀ b u,b ≠ e→h.get? b = some u→h'.get? b = some u) (heo:∃ u,h'.get? e = some u)
  (new:ObjOk P w (upd H x o') h' x o'):HOk P w (upd H x o') h':=fun b u q=>by
 have nown:∀ c y,H c = some (.own y)→c ≠ x:=fun c y r z=>by subst z; rw [r] at mu; exact mu
 have ntup:∀ c xs,H c = some (.tup xs)→c ≠ x:=fun c xs r z=>by subst z; rw [r] at mu; exact mu
 by_cases hb:b = x
 ·subst hb; rw [upd_same] at q; cases q; exact new
 ·rw [upd_ne hb] at q
  by_cases hbe:b = e
  ·have q':H b = some (.own x):=by
    rcases he with z | z
    ·exact absurd (hbe.trans z) hb
    ·rw [hbe]; exact z
   rw [q] at q'; cases q'
   obtain ⟨v,hv⟩:=heo
   exact ⟨v,by rw [hbe]; exact hv⟩
  ·refine (ok b u q).stay (fun c v hc r=>k c v ?_ r) (fun c r=>by rw [upd_ne (nown c b r)]; exact r) fun c xs r=>by rw [upd_ne (ntup c xs r)]; exact r
   rcases hc with rfl | hc
   ·exact hbe
   ·rintro rfl
    rcases he with z | z
    ·exact nown c b hc z
    ·rw [hc] at z; cases z; exact hb rfl
end
structure Un (fs ex:List Addr) (H H':Hp) (h h':Heap):Prop where
 keep:∀ b o,h.get? b = some o→H b = none→b ∉ fs→b ∉ ex→h'.get? b = some o
 slot:∀ b o,h.get? b = some o→H b = none→b ∈ fs→b ∉ ex→∃ sl,h'.get? b = some { o with slots:=sl }
 free:∀ b o,h.get? b = some o→H b = none→b ∉ ex→H' b = none
 there:∀ b o,h.get? b = some o→b ∉ ex→∃ o',h'.get? b = some o'
 tups:∀ b xs,H b = some (.tup xs)→H' b = some (.tup xs)
 frzs:∀ b o u,H b = some (.frz o u)→H' b = some (.frz o u)
 tbls:∀ b ps,H b = some (.tbl ps)→∃ more,H' b = some (.tbl (ps ++ more))
section
variable {fs fs' ex ex':List Addr} {H H1 H2:Hp} {h h1 h2 h':Heap} {a x e:Addr} {o:HO}
theorem Un.any (u:Un fs ex H H1 h h1) {b:Addr} {ob:Obj} (q:h.get? b = some ob) (n:H b = none) (hx:b ∉ ex):∃ sl,h1.get? b = some { ob with slots:=sl }:=by
 by_cases hb:b ∈ fs
 ·exact u.slot b ob q n hb hx
 ·exact ⟨ob.slots,u.keep b ob q n hb hx⟩
theorem Un.trans (a:Un fs ex H H1 h h1) (b:Un fs ex H1 H2 h1 h2):Un fs ex H H2 h h2 where
 keep:=fun c ob q n hc hx=>b.keep c ob (a.keep c ob q n hc hx) (a.free c ob q n hx) hc hx
 slot:=fun c ob q n hc hx=>by
  obtain ⟨sl,e1⟩:=a.slot c ob q n hc hx
  obtain ⟨sl',e2⟩:=b.slot c _ e1 (a.free c ob q n hx) hc hx
  exact ⟨sl',e2⟩
 free:=fun c ob q n hx=>by
  obtain ⟨o',e1⟩:=a.there c ob q hx
  exact b.free c o' e1 (a.free c ob q n hx) hx
 there:=fun c ob q hx=>by
  obtain ⟨o',e1⟩:=a.there c ob q hx
  exact b.there c o' e1 hx
 tups:=fun c xs q=>b.tups c xs (a.tups c xs q)
 frzs:=fun c ob xs q=>b.frzs c ob xs (a.frzs c ob xs q)
 tbls:=fun c ps q=>by
  obtain ⟨m1,e1⟩:=a.tbls c ps q
  obtain ⟨m2,e2⟩:=b.tbls c _ e1
  exact ⟨m1 ++ m2,by rw [e2,Array.append_assoc]⟩
theorem Un.kept (k:∀ b u,h.get? b = some u→h'.get? b = some u):Un fs ex H H h h' :=
 ⟨fun b ob q _ _ _=>k b ob q,fun b ob q _ _ _=>⟨ob.slots,k b ob q⟩,fun _ _ _ n _=>n,fun b ob q _=>⟨ob,k b ob q⟩,fun _ _ q=>q,fun _ _ _ q=>q,fun _ ps q=>⟨#[],by rw [q]; simp⟩⟩
theorem Un.refl:Un fs ex H H h h:=Un.kept fun _ _ q=>q
theorem Un.laid (k:∀ b u,h.get? b = some u→h'.get? b = some u) (hp:h.objs.size ≤ a) (hn:H a = none):Un fs ex H (upd H a o) h h' where
 keep:=fun b u q _ _ _=>k b u q
 slot:=fun b u q _ _ _=>⟨u.slots,k b u q⟩
 free:=fun b u q n _=>by rw [upd_ne (Nat.ne_of_lt (Nat.lt_of_lt_of_le (Heap.lt_size q) hp))]; exact n
 there:=fun b u q _=>⟨u,k b u q⟩
 tups:=fun b xs q=>by rw [upd_ne (ne_of_none q hn)]; exact q
 frzs:=fun b u xs q=>by rw [upd_ne (ne_of_none q hn)]; exact q
 tbls:=fun b ps q=>⟨#[],by rw [upd_ne (ne_of_none q hn),q]; simp⟩
theorem Un.write (mu:Mut (H x)) (he:e = x ∨ H e = some (.own x)) (k:∀ b u,b ≠ e→h.get? b = some u→h'.get? b = some u) (heo:∃ u,h'.get? e = some u):Un fs ex H (upd H x o) h h':=by
 have hx:∀ b,H b = none→b ≠ x:=fun b n z=>by subst z; rw [n] at mu; exact mu
 have hb:∀ b,H b = none→b ≠ e:=fun b n z=>by
  subst z
  rcases he with r | r
  ·exact hx b n r
  ·rw [n] at r; cases r
 have hm:∀ b u,H b = some u→¬ Mut (some u)→b ≠ x:=fun b u q nm z=>by subst z; rw [q] at mu; exact nm mu
 refine ⟨fun b u q n _ _=>k b u (hb b n) q,fun b u q n _ _=>⟨u.slots,k b u (hb b n) q⟩,fun b u q n _=>by rw [upd_ne (hx b n)]; exact n,fun b u q _=>?_,
  fun b xs q=>by rw [upd_ne (hm b _ q fun z=>z)]; exact q,fun b u xs q=>by rw [upd_ne (hm b _ q fun z=>z)]; exact q,fun b ps q=>⟨#[],by rw [upd_ne (hm b _ q fun z=>z),q]; simp⟩⟩
 by_cases hbe:b = e
 ·subst hbe; exact heo
 ·exact ⟨u,k b u hbe q⟩
end
def trk (h:Heap) (H:Hp):List Addr:=(List.range h.objs.size).filter fun a=>(H a).isSome
def hidT (h:Heap) (H:Hp):Heap:=PySem.W.hideAll h (trk h H)
theorem hidT_size (h:Heap) (H:Hp):(hidT h H).objs.size = h.objs.size:=PySem.W.hideAll_size _ _
theorem hidT_get {h:Heap} {H:Hp} {b:Addr} {o:Obj} (e:h.get? b = some o) (n:H b = none):(hidT h H).get? b = some o :=
 PySem.W.hideAll_get _ e fun hm=>by
  have q:(H b).isSome = true:=(List.mem_filter.mp hm).2
  rw [n] at q; simp at q
theorem of_hidT {h:Heap} {H:Hp} {b:Addr} {o:Obj} (e:(hidT h H).get? b = some o):h.get? b = some o∧H b = none:=by
 have e':h.get? b = some o:=PySem.W.of_hideAll (trk h H) e
 refine ⟨e',?_⟩
 cases q:H b with
 | none=>rfl
 | some x =>
  have hm:b ∈ trk h H:=List.mem_filter.mpr ⟨List.mem_range.mpr (Heap.lt_size e'),by simp [q]⟩
  have z:(hidT h H).get? b = none:=PySem.W.hideAll_none (trk h H) hm
  rw [z] at e; cases e
def allNews (g h:Heap) (L:Addr):List (Addr × Obj):=(List.range h.objs.size).filterMap fun a=>if a = L ∨ (g.get? a).isSome = true then none else (h.get? a).map fun o=>(a,o)
def rest (g h:Heap) (L d:Addr):List (Addr × Obj):=(allNews g h L).filter fun p=>decide (p.1 ≠ d)
end L2
namespace L2
open PySem PySem.Spec PyProof.Rows
def CxOk (H:Hp) (cx:Value):Prop:=cx = .none ∨ ∃ y o v u,cx = .ref y∧H y = some (.frz o u)∧o.data = .fields v∧v[2]? = some .none
theorem CxOk.frzs {H H':Hp} {cx:Value} (x:CxOk H cx) (f:∀ b o u,H b = some (.frz o u)→H' b = some (.frz o u)):CxOk H' cx:=by
 rcases x with h | ⟨y,o,v,u,h1,h2,h3⟩
 ·exact .inl h
 ·exact .inr ⟨y,o,v,u,h1,f _ _ _ h2,h3⟩
def HdH (A:Around) (H:Hp):Prop:=A.handled = none ∨ ∃ x o v u cx,A.handled = some (.ref x)∧H x = some (.frz o u)∧o.data = .fields v∧v[2]? = some cx∧CxOk H cx
def Ch (h:Heap) (x:Addr):Prop:=∃ o v cx,h.get? x = some o∧o.data = .fields v∧v[2]? = some cx∧(cx = .none ∨ ∃ y o' v',cx = .ref y∧y ≠ x∧h.get? y = some o'∧o'.data = .fields v'∧v'[2]? = some .none)
def HdS (A:Around) (h:Heap):Prop:=A.handled = none ∨ ∃ x,A.handled = some (.ref x)∧Ch h x
theorem HdH.frzs {A:Around} {H H':Hp} (x:HdH A H) (f:∀ b o u,H b = some (.frz o u)→H' b = some (.frz o u)):HdH A H':=by
 rcases x with h | ⟨x,o,v,u,cx,h1,h2,h3,h4,h5⟩
 ·exact .inl h
 ·exact .inr ⟨x,o,v,u,cx,h1,f _ _ _ h2,h3,h4,h5.frzs f⟩
theorem Ch.keeps {h h':Heap} {x:Addr} (c:Ch h x) (k:∀ b o,h.get? b = some o→∀ v cx,o.data = .fields v→v[2]? = some cx→h'.get? b = some o):Ch h' x:=by
 obtain ⟨o,v,cx,h1,h2,h3,h4⟩:=c
 refine ⟨o,v,cx,k _ _ h1 _ _ h2 h3,h2,h3,?_⟩
 rcases h4 with h4 | ⟨y,o',v',e1,e2,e3,e4,e5⟩
 ·exact .inl h4
 ·exact .inr ⟨y,o',v',e1,e2,k _ _ e3 _ _ e4 e5,e4,e5⟩
theorem HdS.keeps {A:Around} {h h':Heap} (x:HdS A h) (k:∀ b o,h.get? b = some o→∀ v cx,o.data = .fields v→v[2]? = some cx→h'.get? b = some o):HdS A h':=by
 rcases x with x | ⟨a,h1,h2⟩
 ·exact .inl x
 ·exact .inr ⟨a,h1,h2.keeps k⟩
theorem HdH.s {P:Program} {w:World} {A:Around} {H:Hp} {h:Heap} (x:HdH A H) (ok:∀ a o u,H a = some (.frz o u)→h.get? a = some o):HdS A h:=by
 rcases x with x | ⟨x,o,v,u,cx,h1,h2,h3,h4,h5⟩
 ·exact .inl x
 ·refine .inr ⟨x,h1,o,v,cx,ok _ _ _ h2,h3,h4,?_⟩
  rcases h5 with h5 | ⟨y,o',v',u',e1,e2,e3,e4⟩
  ·exact .inl h5
  ·refine .inr ⟨y,o',v',e1,fun z=>?_,ok _ _ _ e2,e3,e4⟩
   subst z
   rw [h2] at e2; cases e2
   rw [h3] at e3; cases e3
   rw [h4] at e4; cases e4
   cases e1
section
variable {prog:Program} {w:World} {A:Around} {EE:Value→Shared→Prop} {s:Shared}
theorem entry_unchain:entryFor table "proto.unchain" = some Builtin.«proto.unchain»:=entryFor_of_tree (by kernel_rfl)
theorem raiseNew_x {α:Type} {e h0:Addr} {oe:Obj} {ve:Array Value} {Q:α→Shared→Prop} (hh:A.handled = some (.ref h0)) (g0:Ch s.heap h0) (nw:∀ y,Ch s.heap y→(∃ o v cx,s.heap.get? y = some o∧o.data = .fields v∧v[2]? = some cx)→(h0 = y ∨ ∃ o v,s.heap.get? h0 = some o∧o.data = .fields v∧v[2]? = some (.ref y))→y ≠ e)
  (he:s.heap.get? e = some oe) (de:oe.data = .fields ve) (sz:2 < ve.size)
  (k:EE (.ref e) { s with heap:=s.heap.update e (Obj.mapFields (·.setIfInBounds 2 (.ref h0))) }):wpAny (model prog w) A (raiseNew (.ref e):Sem α) Q EE s:=by
 obtain ⟨o0,v0,cx,g1,d0,c0,c1⟩:=id g0
 have ne:h0 ≠ e:=nw h0 g0 ⟨_,_,_,g1,d0,c0⟩ (.inl rfl)
 unfold raiseNew
 refine wpAny_bind (wpAny_handled ?_)
 rw [hh]
 dsimp only
 rw [if_pos (show (Value.ref h0 != Value.ref e) = true from by simp [ne])]
 have fin:wpAny (model prog w) A (setField (.ref e) 2 (.ref h0) >>= fun _=>throw (Value.ref e)) Q EE s:=wpAny_bind (wpAny_setField he de sz (wpAny_throw k))
 refine wpAny_bind (wpAny_holding (wpAny_runValue (codeAny_builtin entry_unchain ?_)))
 unfold Builtin.«proto.unchain»
 refine wpAny_bind (wpAny_field g1 d0 c0 ?_)
 rcases c1 with rfl | ⟨y,o',v',rfl,ny,g2,d2,c2⟩
 ·rw [if_pos (show (Value.none == Value.none) = true from rfl)]
  refine wpAny_bind (wpAny_pure (wpAny_pure ?_))
  exact fin
 ·have nye:y ≠ e:=nw y ⟨_,_,_,g2,d2,c2,.inl rfl⟩ ⟨_,_,_,g2,d2,c2⟩ (.inr ⟨_,_,g1,d0,c0⟩)
  rw [if_neg (show ¬ ((Value.ref y == Value.none) = true) from Bool.false_ne_true),if_neg (show ¬ ((Value.ref y == Value.ref e) = true) from by simp [nye])]
  dsimp only
  rw [if_neg (show ¬ ((Value.ref y == Value.ref h0) = true) from by simp [ny])]
  rw [if_neg (by decide)]
  refine wpAny_bind (wpAny_pure ?_)
  refine wpAny_pure ?_
  refine ⟨Code.quiet_builtin _ (by decide +kernel),codeAny_builtin entry_unchain ?_⟩
  unfold Builtin.«proto.unchain»
  refine wpAny_bind (wpAny_field g2 d2 c2 ?_)
  rw [if_pos (show (Value.none == Value.none) = true from rfl)]
  refine wpAny_bind (wpAny_pure (wpAny_pure ?_))
  exact fin
theorem stop_x {α:Type} {it h0:Addr} {h1:Heap} {Q:Option Value→Shared→Prop} (hh:A.handled = some (.ref h0)) (g0:Ch h1 h0)
  (hQ:∀ h',(∀ b o,h1.get? b = some o→h'.get? b = some o)→Q none { s with heap:=h' }) :
  wpAny (model prog w) A.in1 (newExc (.type "StopIteration") [] >>= fun e=>(raiseNew e:Sem α)) (fun _ _=>False)
   (fun e s1=>wpAny (model prog w) A (isInstance e (.type "StopIteration")) (fun b s2=>if b = true then Q none s2 else False) EE s1) { s with heap:=h1 }:=by
 refine wpAny_bind ?_
 simp only [newExc,newTuple]
 refine wpAny_bind (wpAny_newObj_type ?_ (by size_fits))
 refine wpAny_bind (m:=firstArgMember _ _) (wpAny_of_eq (a:=Value.none) (by first | rfl | (simp only [firstArgMember]; rfl)) ?_)
 refine wpAny_newObj_type ?_ (by size_fits)
 have lt:∀ b o,h1.get? b = some o→b < h1.objs.size:=fun b o e=>Heap.lt_size e
 have g0':=g0.keeps fun b o e _ _ _ _=>Heap.get?_push_of_some { cls:=.type "StopIteration",data:=.fields #[.ref h1.objs.size,.none,.none,.none,.bool false,.none] } (Heap.get?_push_of_some { cls:=.type "tuple",data:=.seq #[] } e)
 refine raiseNew_x (A:=A.in1) hh g0' ?_ (Heap.get?_push_size _ rfl) rfl (by simp [ownMembersOf]) ?_
 ·obtain ⟨o,v,cx,e1,e2,e3,e4⟩:=id g0
  rintro y _ _ (rfl | ⟨o2,v2,f1,f2,f3⟩)
  ·exact Nat.ne_of_lt (by rw [Heap.size_push]; exact Nat.lt_succ_of_lt (lt _ _ e1))
  ·have:=Heap.get?_push_of_some { cls:=.type "StopIteration",data:=.fields #[.ref h1.objs.size,.none,.none,.none,.bool false,.none] } (Heap.get?_push_of_some { cls:=.type "tuple",data:=.seq #[] } e1)
   have f1':=f1.symm.trans this
   cases f1'
   rw [e2] at f2; cases f2
   rw [e3] at f3; cases f3
   rcases e4 with z | ⟨y',o',v',z,_,g,_⟩
   ·cases z
   ·cases z
    exact Nat.ne_of_lt (by rw [Heap.size_push]; exact Nat.lt_succ_of_lt (lt _ _ g))
 refine wpAny_isInstance (T:="StopIteration") (b:=true) ⟨_,Heap.get?_update_self _ (Heap.get?_push_size _ rfl) rfl,rfl⟩ isSubtype_stop ?_
 rw [if_pos rfl]
 refine hQ _ fun b o e=>?_
 refine (Heap.get?_update_other _ _ (Nat.ne_of_gt ?_)).trans (Heap.get?_push_of_some _ (Heap.get?_push_of_some _ e))
 rw [Heap.size_push]
 exact Nat.lt_succ_of_lt (lt b o e)
theorem next_endX {it l h0:Addr} {i:Nat} {items:Array Value} {Q:Option Value→Shared→Prop} (hh:A.handled = some (.ref h0)) (g0:Ch s.heap h0)
  (hit:s.heap.IsListIter it l i) (hl:s.heap.IsList l items) (hx:items[i]? = none) (hQ:∀ h',Heap.ExtBut it s.heap h'→Q none { s with heap:=h' }):wpAny (model prog w) A (pyNext (.ref it)) Q EE s:=by
 obtain ⟨oi,gi,ci,di⟩:=id hit
 obtain ⟨ol,gl,_,nl,dl⟩:=hl
 unfold pyNext
 refine wpAny_bind (wpAny_attempt (wpAny_callSpecial?_slot (name:=Str.ofString "__next__") hit.typeIs slot_listiter_next (wpAny_call_entry slot_listiter_next hit.typeIs entry_listiter_next ?_ (args_listiter_next _))))
 show wpAny _ _ (field (.ref it) 0 >>= _) _ _ s
 refine wpAny_bind (wpAny_field gi di (x:=.ref l) rfl ?_)
 show wpAny _ _ (if (Value.ref l == Value.none) = true then _ else _) _ _ s
 rw [if_neg (show ¬ ((Value.ref l == Value.none) = true) from Bool.false_ne_true)]
 show wpAny _ _ (field (.ref it) 1 >>= _) _ _ s
 refine wpAny_bind (wpAny_field gi di (x:=.int i 0) rfl ?_)
 show wpAny _ _ (seqItems? (.ref l) >>= _) _ _ s
 refine wpAny_bind (wpAny_seqItems gl dl ?_)
 simp only [Int.toNat_natCast,hx]
 refine wpAny_bind (wpAny_rule (wpAny_bind (wpAny_setField gi di (by simp) ?_)))
 show wpAny _ _ (newExc (.type "StopIteration") [] >>= _) _ _ _
 have keep:∀ b o,b ≠ it→s.heap.get? b = some o→(s.heap.update it (Obj.mapFields (·.setIfInBounds 0 Value.none))).get? b = some o:=fun b o hb e=>(Heap.get?_update_other _ _ (Ne.symm hb)).trans e
 have nit:∀ b o,s.heap.get? b = some o→∀ v cx,o.data = .fields v→v[2]? = some cx→b ≠ it:=fun b o e v cx e1 e2 z=>by
  rw [z,gi] at e; cases e
  rw [di] at e1; cases e1
  simp at e2
 refine wpAny_mono (stop_x (it:=it) (EE:=EE) (Q:=Q) hh (g0.keeps fun b o e v cx e1 e2=>keep b o (nit b o e v cx e1 e2) e) fun h' k=>hQ h' fun b o hb e=>k b o (keep b o hb e)) (fun _ _ z=>z.elim) fun e s1 h1=>?_
 refine wpAny_bind (wpAny_mono h1 (fun b s2 h2=>?_) fun _ _ z=>z)
 cases b with
 | true=>exact wpAny_pure h2
 | false=>exact False.elim h2
theorem tup_endX {it t h0:Addr} {i:Nat} {items:Array Value} {Q:Option Value→Shared→Prop} (hh:A.handled = some (.ref h0)) (g0:Ch s.heap h0)
  (hit:IsTupIter s.heap it t i) (ht:IsTup s.heap t items) (hx:items[i]? = none) (hQ:∀ h',Heap.ExtBut it s.heap h'→Q none { s with heap:=h' }):wpAny (model prog w) A (pyNext (.ref it)) Q EE s:=by
 obtain ⟨o,ho,hc,hd⟩:=id hit
 obtain ⟨ol,hol,_,nl,hdl⟩:=ht
 unfold pyNext
 refine wpAny_bind (wpAny_attempt (wpAny_callSpecial?_slot (name:=Str.ofString "__next__") hit.typeIs slot_tupleiter_next
  (wpAny_call_entry slot_tupleiter_next hit.typeIs entry_tupleiter_next ?_ (args_tupleiter_next _))))
 show wpAny _ _ (field (.ref it) 0 >>= _) _ _ s
 refine wpAny_bind (wpAny_field ho hd (x:=.ref t) rfl ?_)
 show wpAny _ _ (if (Value.ref t == Value.none) = true then _ else _) _ _ s
 rw [if_neg (show ¬ ((Value.ref t == Value.none) = true) from Bool.false_ne_true)]
 show wpAny _ _ (field (.ref it) 1 >>= _) _ _ s
 refine wpAny_bind (wpAny_field ho hd (x:=.int i 0) rfl ?_)
 show wpAny _ _ (seqItems? (.ref t) >>= _) _ _ s
 refine wpAny_bind (wpAny_seqItems hol hdl ?_)
 simp only [Int.toNat_natCast,hx]
 refine wpAny_bind (wpAny_rule (wpAny_bind (wpAny_setField ho hd (by simp) ?_)))
 show wpAny _ _ (newExc (.type "StopIteration") [] >>= _) _ _ _
 have keep:∀ b o,b ≠ it→s.heap.get? b = some o→(s.heap.update it (Obj.mapFields (·.setIfInBounds 0 Value.none))).get? b = some o:=fun b o hb e=>(Heap.get?_update_other _ _ (Ne.symm hb)).trans e
 have nit:∀ b o,s.heap.get? b = some o→∀ v cx,o.data = .fields v→v[2]? = some cx→b ≠ it:=fun b o e v cx e1 e2 z=>by
  rw [z,ho] at e; cases e
  rw [hd] at e1; cases e1
  simp at e2
 refine wpAny_mono (stop_x (it:=it) (EE:=EE) (Q:=Q) hh (g0.keeps fun b o e v cx e1 e2=>keep b o (nit b o e v cx e1 e2) e) fun h' k=>hQ h' fun b o hb e=>k b o (keep b o hb e)) (fun _ _ z=>z.elim) fun e s1 h1=>?_
 refine wpAny_bind (wpAny_mono h1 (fun b s2 h2=>?_) fun _ _ z=>z)
 cases b with
 | true=>exact wpAny_pure h2
 | false=>exact False.elim h2
theorem list_endH {it l:Addr} {i:Nat} {items:Array Value} {Q:Option Value→Shared→Prop} (hh:HdS A s.heap)
  (hit:s.heap.IsListIter it l i) (hl:s.heap.IsList l items) (hx:items[i]? = none) (hQ:∀ h',Heap.ExtBut it s.heap h'→Q none { s with heap:=h' }):wpAny (model prog w) A (pyNext (.ref it)) Q EE s:=by
 rcases hh with hh | ⟨x,h1,h2⟩
 ·exact wpAny_pyNext_list_end hh hit hl hx hQ
 ·exact next_endX h1 h2 hit hl hx hQ
theorem tup_endH {it t:Addr} {i:Nat} {items:Array Value} {Q:Option Value→Shared→Prop} (hh:HdS A s.heap)
  (hit:IsTupIter s.heap it t i) (ht:IsTup s.heap t items) (hx:items[i]? = none) (hQ:∀ h',Heap.ExtBut it s.heap h'→Q none { s with heap:=h' }):wpAny (model prog w) A (pyNext (.ref it)) Q EE s:=by
 rcases hh with hh | ⟨x,h1,h2⟩
 ·exact next_tuple_end hh hit ht hx hQ
 ·exact tup_endX h1 h2 hit ht hx hQ
theorem unpackItemsH {t:Addr} {items:Array Value} {Q:List Value→Shared→Prop} (hh:HdS A s.heap) (ht:IsTup s.heap t items)
  (hQ:∀ h',Heap.ExtBut s.heap.objs.size s.heap h'→Q items.toList { s with heap:=h' }):wpAny (model prog w) A (unpackItems (.ref t) items.size none) Q EE s:=by
 have hlt:t ≠ s.heap.objs.size:=by obtain ⟨o,ho,_⟩:=ht; exact Nat.ne_of_lt (Heap.lt_size ho)
 unfold unpackItems
 refine wpAny_bind ?_
 ·unfold notIterableAtAll
  refine wpAny_bind (wpAny_specialOf ht.typeIs slot_tuple_iter.lookup ?_)
  refine wpAny_pure ?_
  simp only [Bool.false_eq_true,if_false]
  refine wpAny_bind (wpAny_holding (iter_tuple ht ?_))
  refine wpAny_bind (wpAny_holding (draw_tuple hlt items.size 0 _ _ ⟨_,Heap.get?_push_size _ rfl,rfl,rfl⟩ (ht.push _) (by omega) fun h₁ hit₁ hs₁=>?_))
  have hall:List.take items.size (List.drop 0 items.toList) = items.toList:=by
   rw [List.drop_zero]; exact List.take_of_length_le (by simp)
  rw [hall]
  rw [if_neg (by simp)]
  have ht₁:IsTup h₁ t items:=(ht.push _).extBut hs₁.extBut hlt
  have hh₁:HdS A h₁:=hh.keeps fun b o e _ _ _ _=>hs₁.extBut b o (Nat.ne_of_lt (Heap.lt_size e)) (Heap.get?_push_of_some _ e)
  refine wpAny_bind (wpAny_holding (tup_endH hh₁ hit₁ ht₁ (by simp) fun h₂ he₂=>?_))
  simp only [Option.isSome_none,Bool.false_eq_true,if_false]
  refine wpAny_pure (hQ h₂ fun b o hb e=>he₂ b o hb (hs₁.extBut b o hb (Heap.get?_push_of_some _ e)))
theorem assign_TupleH {env:Env} {elts:List Expr} {x1} {pos:Pos} {t:Addr} {items:Array Value} {Q:Unit→Shared→Prop} (hh:HdS A s.heap) (ht:IsTup s.heap t items)
  (hn:(assignEach elts env).length = items.size) (hstar:(assignEach elts env).findIdx? (·.1) = none)
  (h:∀ h',Heap.ExtBut s.heap.objs.size s.heap h'→wpAny (model prog w) A (assignInOrder ((assignEach elts env).map (·.2)) items.toList) Q EE { s with heap:=h' }) :
  wpAny (model prog w) A (assign (.Tuple elts x1 pos) env (.ref t)) Q EE s:=by
 rw [assign_Tuple]
 refine wpAny_bind (wpAny_standAt ?_)
 unfold unpack
 rw [hn,hstar]
 exact wpAny_bind (wpAny_holding (unpackItemsH hh ht h))
end
structure Mod (K:PySem.W.Frag) (mg:Str→Option Value) (base:Heap):Prop where
 kin:K.In base
 glob:base.Ns mainGlobals mg
 blt:∃ mb,base.Ns builtinsNs mb∧∀ x:Str,x ≠ "__name__"→mb x = bootBuiltins x
 nolimit:base.NoLimit
structure Cx where
 prog:Program
 w:World
 K:PySem.W.Frag
 mg:Str→Option Value
 base:Heap
 A:Around
 N:List Str
 s₀:Shared
 H₀:Hp
 env:Env
 outer:List Env
 stack:List Env
 ex:List Addr
 fn:Str→Bool
 calm:Bool
 pn:List (Addr × Obj)
 xe:Value→Shared→Prop
def frs (l:List Env):List Addr:=l.filterMap (·.frame)
abbrev Cx.fs (X:Cx):List Addr:=frs X.outer
def Vis (sc:Scope) (x:Str):Prop:=sc.names.lookup x = some .local ∨ sc.names.lookup x = some .cell ∨ sc.names.lookup x = some .free
def Loc (sc:Scope) (x:Str):Prop:=sc.names.lookup x = some .local ∨ sc.names.lookup x = some .cell
def Look (env:Env) (h:Heap) (m:Str→Option Value) (x:Str) (u:Value):Prop :=
 (env.kindOf x = some .local∧m x = some u) ∨ ((env.kindOf x = some .cell ∨ env.kindOf x = some .free)∧∃ c,env.cells.lookup x = some c∧h.IsCell c (some u))
structure Cx.Ok (X:Cx):Prop where
 mod:Mod X.K X.mg X.base
 kind:X.env.scope.kind = .function
 glob:X.env.globals = mainGlobals
 blt:X.env.builtins = builtinsNs
 above:X.s₀.heap.objs.size ≤ X.env.locals
 inj:∀ x y c,X.env.cells.lookup x = some c→X.env.cells.lookup y = some c→x = y
 has:∀ x,(X.env.kindOf x = some .cell ∨ X.env.kindOf x = some .free)→∃ c,X.env.cells.lookup x = some c
 cab:∀ x c,X.fn x = true→X.env.cells.lookup x = some c→X.s₀.heap.objs.size ≤ c
 hd:X.calm = true→X.A.handled = none
 frames:X.A.frames = some X.stack
 stk:X.stack = X.outer ∨ (X.stack = X.env :: X.outer∧X.env.frame = some X.env.locals)
 exf:∀ b ∈ X.ex,b ≠ X.env.locals∧∀ x c,X.env.cells.lookup x = some c→c ≠ b
 bs:∀ b o,X.base.get? b = some o→X.s₀.heap.get? b = some o∧X.H₀ b = none
 bsz:X.base.objs.size ≤ X.s₀.heap.objs.size
 noex:∀ b o,X.base.get? b = some o→b ∉ X.ex
 exfs:∀ b ∈ X.ex,b ∉ X.fs
 funs:X.s₀.heap.FunFrames X.base X.outer
 frf:∀ b ∈ X.fs,X.H₀ b = none
structure Inv (X:Cx) (pins:List (Addr × Obj)) (σ:List (Option V)) (H:Hp) (s:Shared):Prop where
 ok:X.Ok
 os:s.os = X.s₀.os
 bare:AllBare s.gens
 base:Un X.fs X.ex X.H₀ H X.s₀.heap s.heap
 loc:∃ m,s.heap.Ns X.env.locals m∧∀ (i:Nat) (x:Str) (v:V),X.N[i]? = some x→σ[i]? = some (some v)→Vis X.env.scope x→∃ u,RelV v u∧Look X.env s.heap m x u
 cell:∀ x c,X.env.cells.lookup x = some c→∃ v,s.heap.IsCell c v
 free:H X.env.locals = none
 freeC:∀ x c,X.env.cells.lookup x = some c→H c = none
 pin:∀ p ∈ X.pn ++ pins,s.heap.get? p.1 = some p.2∧H p.1 = none∧p.1 ≠ X.env.locals∧p.1 ∉ X.fs∧∀ v,p.2.data ≠ .cell v
 hok:HOk X.prog X.w H s.heap
 len:σ.length = X.N.length
 hdh:HdH X.A H
section
variable {X:Cx} {pins:List (Addr × Obj)} {σ:List (Option V)} {H H':Hp} {s:Shared} {h':Heap}
theorem Cx.Ok.nofr (ok:X.Ok) {b:Addr} {o:Obj} (e:X.base.get? b = some o):b ∉ X.fs:=fun hb=>by
 have:=(ok.funs.mem hb).1
 rw [e] at this; cases this
theorem Inv.hdS (I:Inv X pins σ H s):HdS X.A s.heap:=I.hdh.s (P:=X.prog) (w:=X.w) fun a o u e=>(show ObjOk X.prog X.w H s.heap a (.frz o u) from I.hok a _ e).1
theorem Inv.bs (I:Inv X pins σ H s):∀ b o,X.base.get? b = some o→s.heap.get? b = some o∧H b = none:=fun b o e =>
 ⟨I.base.keep b o (I.ok.bs b o e).1 (I.ok.bs b o e).2 (I.ok.nofr e) (I.ok.noex b o e),I.base.free b o (I.ok.bs b o e).1 (I.ok.bs b o e).2 (I.ok.noex b o e)⟩
theorem Inv.bk (I:Inv X pins σ H s):∀ b o,X.base.get? b = some o→s.heap.get? b = some o:=fun b o e=>(I.bs b o e).1
theorem Inv.mod (I:Inv X pins σ H s):Mod X.K X.mg X.base:=I.ok.mod
theorem Inv.kIn (I:Inv X pins σ H s):X.K.In s.heap:=I.ok.mod.kin.keeps I.bk
theorem Inv.nolimit (I:Inv X pins σ H s):s.heap.NoLimit:=I.ok.mod.nolimit.keeps I.bk
theorem Inv.lt (I:Inv X pins σ H s):X.env.locals < s.heap.objs.size:=let ⟨_,hn,_⟩:=I.loc; hn.lt
theorem Inv.sz (I:Inv X pins σ H s):X.s₀.heap.objs.size ≤ s.heap.objs.size:=Nat.le_trans I.ok.above (Nat.le_of_lt I.lt)
theorem Inv.nofs (I:Inv X pins σ H s) {a:Addr} (h:s.heap.objs.size ≤ a):a ∉ X.fs:=fun hb=>by
 obtain ⟨_,o,ho,_⟩:=I.ok.funs.mem hb
 exact absurd (Nat.lt_of_lt_of_le (Heap.lt_size ho) (Nat.le_trans I.sz h)) (Nat.lt_irrefl _)
theorem Inv.cne (I:Inv X pins σ H s):∀ x c,X.env.cells.lookup x = some c→c ≠ X.env.locals:=fun x c e z=>by
 obtain ⟨v,o,ho,hd⟩:=I.cell x c e
 obtain ⟨m,⟨o',es,ep,ho',hd',_⟩,_⟩:=I.loc
 rw [z,ho'] at ho; cases ho; rw [hd'] at hd; cases hd
theorem Inv.funs (I:Inv X pins σ H s):s.heap.FunFrames X.base X.outer:=by
 have all:∀ (l:List Env),(∀ b ∈ frs l,b ∈ X.fs)→X.s₀.heap.FunFrames X.base l→s.heap.FunFrames X.base l:=by
  intro l
  induction l with
  | nil=>intro _ _; trivial
  | cons env r ih =>
   intro hs hl
   obtain ⟨hk,⟨L,o,hf,hn,ho,hd⟩,hr⟩:=hl
   have hL:L ∈ X.fs:=hs L (by unfold frs; rw [List.filterMap_cons,hf]; exact List.mem_cons_self)
   obtain ⟨sl,e⟩:=I.base.slot L o ho (I.ok.frf L hL) hL fun z=>I.ok.exfs L z hL
   exact ⟨hk,⟨L,_,hf,hn,e,hd⟩,ih (fun b hb=>hs b (by unfold frs; rw [List.filterMap_cons,hf]; exact List.mem_cons_of_mem _ hb)) hr⟩
 exact all X.outer (fun _ hb=>hb) I.ok.funs
theorem Inv.stack (I:Inv X pins σ H s):s.heap.FunFrames X.base X.stack:=by
 rcases I.ok.stk with e | ⟨e,hf⟩
 ·rw [e]; exact I.funs
 ·rw [e]
  obtain ⟨m,hn,_⟩:=I.loc
  refine .cons (by rw [I.ok.kind]; decide) hf hn ?_ I.funs
  exact Heap.get?_none_of_le (Nat.le_trans I.ok.bsz I.ok.above)
theorem Inv.stkSub (I:Inv X pins σ H s):∀ b ∈ frs X.stack,b ∈ X.env.locals :: X.fs:=fun b hb=>by
 rcases I.ok.stk with e | ⟨e,hf⟩
 ·rw [e] at hb; exact List.mem_cons_of_mem _ hb
 ·rw [e] at hb
  unfold frs at hb
  rw [List.filterMap_cons,hf] at hb
  exact hb
theorem Inv.stkFree (I:Inv X pins σ H s):∀ b ∈ frs X.stack,H b = none:=fun b hb=>by
 rcases List.mem_cons.mp (I.stkSub b hb) with e | hb
 ·rw [e]; exact I.free
 ·obtain ⟨_,o,ho,_⟩:=I.ok.funs.mem hb
  exact I.base.free b o ho (I.ok.frf b hb) fun z=>I.ok.exfs b z hb
theorem Inv.step {g':Array GenState} {t':Nat} {d':Drawn} {ch:List Addr} (I:Inv X pins σ H s)
  (hch:∀ b ∈ ch,(b ∈ X.ex ∨ X.s₀.heap.objs.size ≤ b)∧b ≠ X.env.locals∧(∀ x c,X.env.cells.lookup x = some c→c ≠ b)∧∀ p ∈ X.pn ++ pins,p.1 ≠ b)
  (keep:∀ b o,b ≠ X.env.locals→b ∉ X.fs→b ∉ ch→s.heap.get? b = some o→H b = none→h'.get? b = some o)
  (slot:∀ b o,b ≠ X.env.locals→b ∈ X.fs→b ∉ ch→s.heap.get? b = some o→H b = none→∃ sl,h'.get? b = some { o with slots:=sl }) (free:∀ b o,b ∉ ch→s.heap.get? b = some o→H b = none→H' b = none)
  (there:∀ b o,b ∉ ch→s.heap.get? b = some o→∃ o',h'.get? b = some o')
  (tups:∀ b xs,H b = some (.tup xs)→H' b = some (.tup xs)) (frzs:∀ b o u,H b = some (.frz o u)→H' b = some (.frz o u)) (tbls:∀ b ps,H b = some (.tbl ps)→∃ more,H' b = some (.tbl (ps ++ more)))
  (ns:∀ m,s.heap.Ns X.env.locals m→h'.Ns X.env.locals m) (hok:HOk X.prog X.w H' h') (hg:AllBare g') :
  Inv X pins σ H' { s with heap:=h',gens:=g',drawn:=d',toks:=t' }:=by
 have neL:∀ b o,X.s₀.heap.get? b = some o→b ≠ X.env.locals:=fun b o e=>Nat.ne_of_lt (Nat.lt_of_lt_of_le (Heap.lt_size e) I.ok.above)
 have neC:∀ b o,X.s₀.heap.get? b = some o→b ∉ X.ex→b ∉ ch:=fun b o e hx hb=>by
  rcases (hch b hb).1 with z | z
  ·exact hx z
  ·exact absurd (Nat.lt_of_lt_of_le (Heap.lt_size e) z) (Nat.lt_irrefl _)
 have cellK:∀ x c,X.env.cells.lookup x = some c→∀ v,s.heap.IsCell c v→h'.IsCell c v:=fun x c e v ⟨o,ho,hd⟩=>by
  have nch:c ∉ ch:=fun z=>(hch c z).2.2.1 x c e rfl
  by_cases hc:c ∈ X.fs
  ·obtain ⟨sl,q⟩:=slot c o (I.cne x c e) hc nch ho (I.freeC x c e)
   exact ⟨_,q,hd⟩
  ·exact ⟨o,keep c o (I.cne x c e) hc nch ho (I.freeC x c e),hd⟩
 refine ⟨I.ok,I.os,hg,⟨fun b o e n hb hx=>?_,fun b o e n hb hx=>?_,fun b o e n hx=>?_,fun b o e hx=>?_,fun b xs e=>tups b xs (I.base.tups b xs e),fun b o xs e=>frzs b o xs (I.base.frzs b o xs e),fun b ps e=>?_⟩,?_,fun x c e=>?_,?_,fun x c e=>?_,fun p hp=>?_,hok,I.len,I.hdh.frzs frzs⟩
 ·exact keep b o (neL b o e) hb (neC b o e hx) (I.base.keep b o e n hb hx) (I.base.free b o e n hx)
 ·obtain ⟨sl,e1⟩:=I.base.slot b o e n hb hx
  obtain ⟨sl',e2⟩:=slot b _ (neL b o e) hb (neC b o e hx) e1 (I.base.free b o e n hx)
  exact ⟨sl',e2⟩
 ·obtain ⟨o',e1⟩:=I.base.there b o e hx
  exact free b o' (neC b o e hx) e1 (I.base.free b o e n hx)
 ·obtain ⟨o',e1⟩:=I.base.there b o e hx
  exact there b o' (neC b o e hx) e1
 ·obtain ⟨m1,e1⟩:=I.base.tbls b ps e
  obtain ⟨m2,e2⟩:=tbls b _ e1
  exact ⟨m1 ++ m2,by rw [e2,Array.append_assoc]⟩
 ·obtain ⟨m,hn,hl⟩:=I.loc
  refine ⟨m,ns m hn,fun i x v e1 e2 e3=>?_⟩
  obtain ⟨u,r,l⟩:=hl i x v e1 e2 e3
  refine ⟨u,r,?_⟩
  rcases l with l | ⟨k,c,e,z⟩
  ·exact .inl l
  ·exact .inr ⟨k,c,e,cellK x c e _ z⟩
 ·obtain ⟨v,z⟩:=I.cell x c e
  exact ⟨v,cellK x c e v z⟩
 ·obtain ⟨m,⟨o,_,_,ho,_⟩,_⟩:=I.loc
  exact free _ o (fun z=>(hch _ z).2.1 rfl) ho I.free
 ·obtain ⟨v,o,ho,hd⟩:=I.cell x c e
  exact free c o (fun z=>(hch c z).2.2.1 x c e rfl) ho (I.freeC x c e)
 ·obtain ⟨e,n,ne,nf,d⟩:=I.pin p hp
  have nch:p.1 ∉ ch:=fun z=>(hch p.1 z).2.2.2 p hp rfl
  exact ⟨keep p.1 p.2 ne nf nch e n,free p.1 p.2 nch e n,ne,nf,d⟩
theorem Inv.un {t':Nat} (I:Inv X pins σ H s) (u:Un X.fs [] H H' s.heap h') (hok:HOk X.prog X.w H' h'):Inv X pins σ H' { s with heap:=h',toks:=t' }:=by
 obtain ⟨m,⟨o,es,ep,ho,r⟩,_⟩:=id I.loc
 obtain ⟨sl,hL⟩:=u.any ho I.free (by simp)
 exact I.step (g':=s.gens) (d':=s.drawn) (ch:=[]) (fun _ z=>nomatch z) (fun b o _ hb _ e n=>u.keep b o e n hb (by simp)) (fun b o _ hb _ e n=>u.slot b o e n hb (by simp)) (fun b o _ e n=>u.free b o e n (by simp)) (fun b o _ e=>u.there b o e (by simp)) u.tups u.frzs u.tbls (fun m' hm=>by
  obtain ⟨o',es',ep',ho',r'⟩:=hm
  rw [ho] at ho'; cases ho'
  exact ⟨_,es',ep',hL,r'⟩) hok I.bare
theorem Inv.call {g':Array GenState} {t':Nat} {d':Drawn} {ch:List Addr} (I:Inv X pins σ H s) (u:Un (frs X.stack) ch H H' s.heap h') (hok:HOk X.prog X.w H' h') (hg:AllBare g')
  (hch:∀ b ∈ ch,(b ∈ X.ex ∨ X.s₀.heap.objs.size ≤ b)∧b ≠ X.env.locals∧(∀ x c,X.env.cells.lookup x = some c→c ≠ b)∧∀ p ∈ X.pn ++ pins,p.1 ≠ b) :
  Inv X pins σ H' { s with heap:=h',gens:=g',drawn:=d',toks:=t' }:=by
 obtain ⟨m,⟨o,es,ep,ho,r⟩,_⟩:=id I.loc
 obtain ⟨sl,hL⟩:=u.any ho I.free fun z=>(hch _ z).2.1 rfl
 exact I.step (ch:=ch) hch (fun b o hL hb hc e n=>u.keep b o e n (fun z=>(List.mem_cons.mp (I.stkSub b z)).elim hL hb) hc) (fun b o _ _ hc e n=>u.any e n hc) (fun b o hc e n=>u.free b o e n hc) (fun b o hc e=>u.there b o e hc) u.tups u.frzs u.tbls (fun m' hm=>by
  obtain ⟨o',es',ep',ho',r'⟩:=hm
  rw [ho] at ho'; cases ho'
  exact ⟨_,es',ep',hL,r'⟩) hok hg
theorem Inv.turned {t':Nat} {it:Addr} (I:Inv X pins σ H s) (k:∀ b o,b ≠ it→s.heap.get? b = some o→h'.get? b = some o) (hn:H it = none) (hL:it ≠ X.env.locals)
  (h1:it ∈ X.ex ∨ X.s₀.heap.objs.size ≤ it) (h2:∀ x c,X.env.cells.lookup x = some c→c ≠ it) (h3:∀ p ∈ X.pn ++ pins,p.1 ≠ it):Inv X pins σ H { s with heap:=h',toks:=t' }:=by
 have nit:∀ b u,H b = some u→b ≠ it:=fun b u e z=>by rw [z,hn] at e; cases e
 refine I.step (g':=s.gens) (d':=s.drawn) (ch:=[it]) (fun b hb=>?_) (fun b o _ _ hc e _=>k b o (fun z=>hc (by simp [z])) e) (fun b o _ _ hc e _=>⟨o.slots,k b o (fun z=>hc (by simp [z])) e⟩) (fun _ _ _ _ n=>n)
  (fun b o hc e=>⟨o,k b o (fun z=>hc (by simp [z])) e⟩) (fun _ _ e=>e) (fun _ _ _ e=>e) (fun b ps e=>⟨#[],by rw [e]; simp⟩) (fun m hm=>?_) (fun b u e=>?_) I.bare
 ·have e:b = it:=by simpa using hb
  subst e
  exact ⟨h1,hL,h2,h3⟩
 ·obtain ⟨o,es,ep,ho,r⟩:=hm
  exact ⟨o,es,ep,k _ o (Ne.symm hL) ho,r⟩
 ·refine (I.hok b u e).stay (fun c v hc q=>k c v ?_ q) (fun _ q=>q) fun _ _ q=>q
  rcases hc with z | z
  ·rw [z]; exact nit b u e
  ·exact nit c _ z
theorem Inv.tok (I:Inv X pins σ H s) (t:Nat):Inv X pins σ H { s with toks:=t }:=I.un (h':=s.heap) (t':=t) Un.refl I.hok
theorem Inv.kept {t':Nat} (I:Inv X pins σ H s) (k:∀ b u,s.heap.get? b = some u→h'.get? b = some u):Inv X pins σ H { s with heap:=h',toks:=t' }:=I.un (Un.kept k) (I.hok.kept k)
theorem Inv.laid {a:Addr} {o:HO} {t':Nat} (I:Inv X pins σ H s) (k:∀ b u,s.heap.get? b = some u→h'.get? b = some u) (hp:s.heap.objs.size ≤ a) (new:ObjOk X.prog X.w (upd H a o) h' a o) :
  Inv X pins σ (upd H a o) { s with heap:=h',toks:=t' }:=I.un (Un.laid k hp (I.hok.fresh hp)) (I.hok.laid k hp new)
theorem Inv.write {x e:Addr} {o:HO} {t':Nat} (I:Inv X pins σ H s) (mu:Mut (H x)) (he:e = x ∨ H e = some (.own x)) (k:∀ b u,b ≠ e→s.heap.get? b = some u→h'.get? b = some u) (heo:∃ u,h'.get? e = some u)
  (new:ObjOk X.prog X.w (upd H x o) h' x o):Inv X pins σ (upd H x o) { s with heap:=h',toks:=t' }:=I.un (Un.write mu he k heo) (I.hok.write mu he k heo new)
theorem Inv.pins_of {pins':List (Addr × Obj)} (I:Inv X pins σ H s) (h:∀ p ∈ pins',s.heap.get? p.1 = some p.2∧H p.1 = none∧p.1 ≠ X.env.locals∧p.1 ∉ X.fs∧∀ v,p.2.data ≠ .cell v):Inv X pins' σ H s :=
 ⟨I.ok,I.os,I.bare,I.base,I.loc,I.cell,I.free,I.freeC,fun p hp=>(List.mem_append.mp hp).elim (fun z=>I.pin p (List.mem_append_left _ z)) (h p),I.hok,I.len,I.hdh⟩
theorem nodup_ix {N:List Str} (hN:N.Nodup) {i j:Nat} {x:Str} (a:N[i]? = some x) (b:N[j]? = some x):i = j:=by
 obtain ⟨h1,e1⟩:=List.getElem?_eq_some_iff.mp a
 obtain ⟨h2,e2⟩:=List.getElem?_eq_some_iff.mp b
 exact (List.getElem_inj hN).mp (e1.trans e2.symm)
theorem store_ok2 {M:Model} {A:Around} {E:Value→Shared→Prop} {i:Nat} {x:Str} {v:V} {u:Value} {Q:Unit→Shared→Prop} (I:Inv X pins σ H s) (hN:X.N.Nodup) (hi:X.N[i]? = some x) (hx:Loc X.env.scope x) (r:RelV v u)
  (h:∀ s',Inv X pins (σ.set i (some v)) H s'→(∃ a,Heap.SameBut a s.heap s'.heap∧(a = X.env.locals ∨ X.env.cells.lookup x = some a))→Q () s') (hf:X.fn x = true ∨ X.env.scope.names.lookup x = some .local:=by first | exact .inl rfl | exact .inr rfl | assumption):wpAny M A (storeName X.env x u) Q E s:=by
 obtain ⟨m,hn,hl⟩:=id I.loc
 have hcls:(X.env.scope.kind == .class || (X.env.scope.kind == .module && X.env.locals != X.env.globals)) = false:=by rw [I.ok.kind]; rfl
 have hiσ:i < σ.length:=by rw [I.len]; exact (List.getElem?_eq_some_iff.mp hi).1
 have cne:=I.cne
 have tracked:∀ {a:Addr} {h':Heap},(∃ o,s.heap.get? a = some o∧H a = none)→Heap.SameBut a s.heap h'→HOk X.prog X.w H h':=fun {a h'} ha hs b ob e=>by
  obtain ⟨_,_,hfree⟩:=ha
  refine (I.hok b ob e).stay (fun c w' hc q=>(hs.2 c ?_).trans q) (fun _ q=>q) fun _ _ q=>q
  rintro rfl
  rcases hc with rfl | hc
  ·rw [hfree] at e; cases e
  ·rw [hfree] at hc; cases hc
 rcases hx with hk | hk
 ·refine wpAny_storeName_local hk hn (fun h' hn' hs=>?_) hcls
  obtain ⟨oL,_,_,hoL,_⟩:=id hn
  refine h _ ⟨I.ok,I.os,I.bare,⟨fun b o e n hb hx=>?_,fun b o e n hb hx=>?_,I.base.free,fun b o e hx=>?_,I.base.tups,I.base.frzs,I.base.tbls⟩,⟨_,hn',fun j y v' e1 e2 e3=>?_⟩,fun y c e=>?_,I.free,I.freeC,fun p hp=>?_,tracked ⟨oL,hoL,I.free⟩ hs,by simpa using I.len,I.hdh⟩ ⟨_,hs,.inl rfl⟩
  ·exact (hs.2 b (Nat.ne_of_lt (Nat.lt_of_lt_of_le (Heap.lt_size e) I.ok.above))).trans (I.base.keep b o e n hb hx)
  ·obtain ⟨sl,e1⟩:=I.base.slot b o e n hb hx
   exact ⟨sl,(hs.2 b (Nat.ne_of_lt (Nat.lt_of_lt_of_le (Heap.lt_size e) I.ok.above))).trans e1⟩
  ·obtain ⟨o',e1⟩:=I.base.there b o e hx
   exact ⟨o',(hs.2 b (Nat.ne_of_lt (Nat.lt_of_lt_of_le (Heap.lt_size e) I.ok.above))).trans e1⟩
  ·by_cases hj:j = i
   ·subst hj
    rw [hi] at e1; cases e1
    rw [List.getElem?_set_self hiσ] at e2
    cases e2
    exact ⟨u,r,.inl ⟨hk,by simp⟩⟩
   ·rw [List.getElem?_set_ne (Ne.symm hj)] at e2
    obtain ⟨u',r',q⟩:=hl j y v' e1 e2 e3
    refine ⟨u',r',?_⟩
    rcases q with ⟨k,e⟩ | ⟨k,c,e,z⟩
    ·refine .inl ⟨k,?_⟩
     have:y ≠ x:=fun e=>hj (nodup_ix hN e1 (e ▸ hi))
     simp [this,e]
    ·exact .inr ⟨k,c,e,z.sameBut hs (cne y c e)⟩
  ·obtain ⟨w',z⟩:=I.cell y c e
   exact ⟨w',z.sameBut hs (cne y c e)⟩
  ·obtain ⟨e,n,ne,nf,d⟩:=I.pin p hp
   exact ⟨(hs.2 p.1 ne).trans e,n,ne,nf,d⟩
 ·have hfn:X.fn x = true:=by
   rcases hf with z | z
   ·exact z
   ·rw [z] at hk; cases hk
  obtain ⟨c,hc⟩:=I.ok.has x (.inl hk)
  obtain ⟨w',z⟩:=I.cell x c hc
  refine wpAny_storeName_cell I.ok.kind hk hc z (fun h' hc' hs=>?_)
  obtain ⟨oc,hoc,hocd⟩:=id z
  refine h { s with heap:=h' } ⟨I.ok,I.os,I.bare,⟨fun b o e n hb hx=>?_,fun b o e n hb hx=>?_,I.base.free,fun b o e hx=>?_,I.base.tups,I.base.frzs,I.base.tbls⟩,⟨m,hn.sameBut hs (Ne.symm (cne x c hc)),fun j y v' e1 e2 e3=>?_⟩,fun y c' e=>?_,I.free,I.freeC,fun p hp=>?_,tracked ⟨oc,hoc,I.freeC x c hc⟩ hs,by simpa using I.len,I.hdh⟩ ⟨c,hs,.inr hc⟩
  ·exact (hs.2 b (Nat.ne_of_lt (Nat.lt_of_lt_of_le (Heap.lt_size e) (I.ok.cab x c hfn hc)))).trans (I.base.keep b o e n hb hx)
  ·obtain ⟨sl,e1⟩:=I.base.slot b o e n hb hx
   exact ⟨sl,(hs.2 b (Nat.ne_of_lt (Nat.lt_of_lt_of_le (Heap.lt_size e) (I.ok.cab x c hfn hc)))).trans e1⟩
  ·obtain ⟨o',e1⟩:=I.base.there b o e hx
   exact ⟨o',(hs.2 b (Nat.ne_of_lt (Nat.lt_of_lt_of_le (Heap.lt_size e) (I.ok.cab x c hfn hc)))).trans e1⟩
  ·by_cases hj:j = i
   ·subst hj
    rw [hi] at e1; cases e1
    rw [List.getElem?_set_self hiσ] at e2
    cases e2
    exact ⟨u,r,.inr ⟨.inl hk,c,hc,hc'⟩⟩
   ·rw [List.getElem?_set_ne (Ne.symm hj)] at e2
    obtain ⟨u',r',q⟩:=hl j y v' e1 e2 e3
    refine ⟨u',r',?_⟩
    rcases q with q | ⟨k,c',e,z'⟩
    ·exact .inl q
    ·refine .inr ⟨k,c',e,z'.sameBut hs ?_⟩
     rintro rfl
     exact hj (nodup_ix hN e1 (I.ok.inj _ _ _ e hc ▸ hi))
  ·by_cases hcc:c' = c
   ·subst hcc; exact ⟨_,hc'⟩
   ·obtain ⟨w2,z2⟩:=I.cell y c' e
    exact ⟨w2,z2.sameBut hs hcc⟩
  ·obtain ⟨e,n,ne,nf,d⟩:=I.pin p hp
   refine ⟨(hs.2 p.1 ?_).trans e,n,ne,nf,d⟩
   intro q
   rw [q,hoc] at e
   have q':oc = p.2:=Option.some.inj e
   exact d w' (by rw [← q']; exact hocd)
theorem store_ok {M:Model} {A:Around} {E:Value→Shared→Prop} {i:Nat} {x:Str} {v:V} {u:Value} {Q:Unit→Shared→Prop} (I:Inv X pins σ H s) (hN:X.N.Nodup) (hi:X.N[i]? = some x) (hx:Loc X.env.scope x) (r:RelV v u)
  (h:∀ s',Inv X pins (σ.set i (some v)) H s'→Q () s') (hf:X.fn x = true ∨ X.env.scope.names.lookup x = some .local:=by first | exact .inl rfl | exact .inr rfl | assumption):wpAny M A (storeName X.env x u) Q E s :=
 store_ok2 I hN hi hx r (fun s' I' _=>h s' I') hf
theorem Inv.call' {s':Shared} {ch:List Addr} (I:Inv X pins σ H s) (ho:s'.os = s.os) (u:Un (frs X.stack) ch H H' s.heap s'.heap) (hok:HOk X.prog X.w H' s'.heap) (hg:AllBare s'.gens)
  (hch:∀ b ∈ ch,(b ∈ X.ex ∨ X.s₀.heap.objs.size ≤ b)∧b ≠ X.env.locals∧(∀ x c,X.env.cells.lookup x = some c→c ≠ b)∧∀ p ∈ X.pn ++ pins,p.1 ≠ b):Inv X pins σ H' s':=by
 obtain ⟨h',g',d',t',o'⟩:=s'
 have e:o' = s.os:=ho
 subst e
 exact I.call (g':=g') (t':=t') (d':=d') u hok hg hch
end
abbrev XK:=Value→Option Addr→Hp→Prop
abbrev St:=List (Option V)
abbrev VK:=V→Hp→Prop
abbrev TE:=St→Hp→VK→Prop
abbrev TT:=St→Hp→(Bool→Hp→Prop)→Prop
abbrev TA:=St→Hp→(List V→Hp→Prop)→Prop
structure Ends where
 nx:St→Hp→Prop
 rt:VK
 bk:St→Hp→Prop:=fun _ _=>False
 ct:St→Hp→Prop:=fun _ _=>False
abbrev TS:=Ends→St→Hp→Prop
def EP (X:Cx) (pins:List (Addr × Obj)) (σ:St) (Q:VK) (u:Value) (s':Shared):Prop:=∃ v H',Inv X pins σ H' s'∧RelV v u∧Q v H'
def TP (X:Cx) (pins:List (Addr × Obj)) (σ:St) (Q:Bool→Hp→Prop) (b:Bool) (s':Shared):Prop:=∃ H',Inv X pins σ H' s'∧Q b H'
def AP (X:Cx) (pins:List (Addr × Obj)) (σ:St) (Q:List V→Hp→Prop) (us:List Value) (s':Shared):Prop:=∃ vs H',Inv X pins σ H' s'∧Vals vs us∧Q vs H'
def SP (X:Cx) (pins:List (Addr × Obj)) (D:Ends) (f:Flow) (s':Shared):Prop :=
 match f with
 | .next=>∃ σ' H',Inv X pins σ' H' s'∧D.nx σ' H'
 | .brk=>∃ σ' H',Inv X pins σ' H' s'∧D.bk σ' H'
 | .cont=>∃ σ' H',Inv X pins σ' H' s'∧D.ct σ' H'
 | .ret u=>∃ v σ' H',Inv X pins σ' H' s'∧RelV v u∧D.rt v H'
def PE (X:Cx) (e:Expr) (t:TE):Prop :=
 ∀ (pins:List (Addr × Obj)) (s:Shared) (σ:St) (H:Hp) (Q:VK),Inv X pins σ H s→t σ H Q→wpAny (model X.prog X.w) X.A (eval e X.env) (EP X pins σ Q) X.xe s
def PT (X:Cx) (e:Expr) (t:TT):Prop :=
 ∀ (pins:List (Addr × Obj)) (s:Shared) (σ:St) (H:Hp) (Q:Bool→Hp→Prop),Inv X pins σ H s→t σ H Q→wpAny (model X.prog X.w) X.A (isTrue e X.env (eval e X.env)) (TP X pins σ Q) X.xe s
def PW (X:Cx) (e:Expr) (t:TT):Prop :=
 ∀ (whole:Sem Value) (pins:List (Addr × Obj)) (s:Shared) (σ:St) (H:Hp) (Q:Bool→Hp→Prop),Inv X pins σ H s→t σ H Q→wpAny (model X.prog X.w) X.A (isTrue e X.env whole) (TP X pins σ Q) X.xe s
theorem PW.pt {X:Cx} {e:Expr} {t:TT} (h:PW X e t):PT X e t:=h _
def PA (X:Cx) (es:List Expr) (t:TA):Prop :=
 ∀ (pos:Pos) (pins:List (Addr × Obj)) (s:Shared) (σ:St) (H:Hp) (Q:List V→Hp→Prop),Inv X pins σ H s→t σ H Q→wpAny (model X.prog X.w) X.A (spliced (backTo pos (starEach es X.env))) (AP X pins σ Q) X.xe s
def PS (X:Cx) (st:Stmt) (t:TS):Prop :=
 ∀ (pins:List (Addr × Obj)) (s:Shared) (σ:St) (H:Hp) (D:Ends),Inv X pins σ H s→t D σ H→wpAny (model X.prog X.w) X.A (exec st X.env) (SP X pins D) X.xe s
def PSs (X:Cx) (st:List Stmt) (t:TS):Prop :=
 ∀ (pins:List (Addr × Obj)) (s:Shared) (σ:St) (H:Hp) (D:Ends),Inv X pins σ H s→t D σ H→wpAny (model X.prog X.w) X.A (execs st X.env) (SP X pins D) X.xe s
theorem thn {α:Type} {t:Sem α} {Q Q':α→Shared→Prop} {M:Model} {A:Around} {E:Value→Shared→Prop} {s:Shared} (h:wpAny M A t Q E s) (hQ:∀ a s,Q a s→Q' a s):wpAny M A t Q' E s:=wpAny_mono h hQ fun _ _ x=>x
end L2
namespace L2
open PySem PySem.Spec PyProof.Rows
section
variable {X:Cx}
theorem bin {a b:Expr} {ta tb:TE} (ha:PE X a ta) (hb:PE X b tb) {pins:List (Addr × Obj)} {s:Shared} {σ:St} {H:Hp} {R:V→V→Hp→Prop} (I:Inv X pins σ H s) (h:ta σ H fun x H1=>tb σ H1 fun y H2=>R x y H2)
  {α:Type} {Q:α→Shared→Prop} {f:Value→Value→Sem α}
  (hf:∀ v u s2 x y H2,Inv X pins σ H2 s2→RelV x v→RelV y u→R x y H2→wpAny (model X.prog X.w) X.A (f v u) Q X.xe s2) :
  wpAny (model X.prog X.w) X.A (eval a X.env) (fun v s₁=>wpAny (model X.prog X.w) X.A (eval b X.env) (fun u s₂=>wpAny (model X.prog X.w) X.A (f v u) Q X.xe s₂) X.xe s₁) X.xe s:=by
 refine thn (ha pins s σ H _ I h) fun v s1 ⟨x,H1,I1,r1,q1⟩=>?_
 refine thn (hb pins s1 σ H1 _ I1 q1) fun u s2 ⟨y,H2,I2,r2,q2⟩=>?_
 exact hf v u s2 x y H2 I2 r1 r2 q2
def tVar (i:Nat):TE:=fun σ H Q=>∃ v,σ[i]? = some (some v)∧Q v H
def tC (v:V):TE:=fun _ H Q=>Q v H
theorem pe_var {i:Nat} {x:Str} {pos:Pos} (hN:X.N[i]? = some x) (hv:Vis X.env.scope x) (hd:(x == ("__debug__":Str)) = false:=by decide) (hcd:(x == ("__classdict__":Str)) = false:=by decide):PE X (.Name x pos) (tVar i):=by
 intro pins s σ H Q I h
 obtain ⟨v,e,h⟩:=h
 obtain ⟨m,hn,hl⟩:=I.loc
 obtain ⟨u,r,l⟩:=hl i x v hN e hv
 have fin:EP X pins σ Q u s:=⟨v,H,I,r,h⟩
 rcases l with ⟨hk,hm⟩ | ⟨hk,c,hc,hcell⟩
 ·exact wpAny_Name (wpAny_loadName_local I.ok.kind hk hn hm fin) hd
 ·rcases hk with hk | hk
  ·exact wpAny_Name (wpAny_loadName_cell I.ok.kind hk hc hcell fin) hd
  ·exact wpAny_Name (wpAny_loadName_free I.ok.kind hk hc hcell fin hcd) hd
theorem pe_int {i j pos}:PE X (.Constant (.int i) j pos) (tC (.int i)):=fun _ _ _ H _ I h=>wpAny_Constant_int ⟨.int i,H,I.tok _,⟨_,rfl⟩,h⟩
theorem pe_bl {b j pos}:PE X (.Constant (.bool b) j pos) (tC (.bl b)):=fun _ _ _ H _ I h=>Constant_bool ⟨.bl b,H,I,rfl,h⟩
theorem pe_non {j pos}:PE X (.Constant .none j pos) (tC .non):=fun _ _ _ H _ I h=>Constant_none ⟨.non,H,I,rfl,h⟩
theorem pe_str {x j pos}:PE X (.Constant (.str x) j pos) (tC (.str x)):=fun _ _ _ H _ I h=>Calls.Constant_str ⟨.str x,H,I.tok _,⟨_,rfl⟩,h⟩
def Gl (X:Cx) (x:Str):Prop:=X.env.kindOf x = some .globalImplicit
theorem ld_glob {E:Value→Shared→Prop} {pins:List (Addr × Obj)} {s:Shared} {σ:St} {H:Hp} {x:Str} {u:Value} {pos:Pos} {Q:Value→Shared→Prop} (I:Inv X pins σ H s) (hg:Gl X x) (hm:X.mg x = some u) (h:Q u s)
  (hd:(x == ("__debug__":Str)) = false:=by decide):wpAny (model X.prog X.w) X.A (eval (.Name x pos) X.env) Q E s :=
 Calls.Name_function_global I.ok.kind hg (Calls.loadGlobal_global (by rw [I.ok.glob]; exact I.mod.glob.keeps I.bk) hm h) hd
theorem ld_blt {E:Value→Shared→Prop} {pins:List (Addr × Obj)} {s:Shared} {σ:St} {H:Hp} {x:Str} {u:Value} {pos:Pos} {Q:Value→Shared→Prop} (I:Inv X pins σ H s) (hg:Gl X x) (hm:X.mg x = none) (hv:bootBuiltins x = some u) (h:Q u s)
  (hn:x ≠ "__name__":=by decide) (hd:(x == ("__debug__":Str)) = false:=by decide):wpAny (model X.prog X.w) X.A (eval (.Name x pos) X.env) Q E s:=by
 obtain ⟨mb,h1,h2⟩:=I.mod.blt
 exact Calls.Name_function_global I.ok.kind hg (Calls.loadGlobal_builtin (by rw [I.ok.glob]; exact I.mod.glob.keeps I.bk) hm (by rw [I.ok.blt]; exact h1.keeps I.bk) ((h2 x hn).trans hv) h) hd
theorem pe_glob {x:Str} {v:V} {u:Value} {pos:Pos} (hg:Gl X x) (hm:X.mg x = some u) (r:RelV v u) (hd:(x == ("__debug__":Str)) = false:=by decide):PE X (.Name x pos) (tC v) :=
 fun _ _ _ H _ I h=>ld_glob I hg hm ⟨v,H,I,r,h⟩ hd
theorem pe_bltn {x:Str} {v:V} {u:Value} {pos:Pos} (hg:Gl X x) (hm:X.mg x = none) (hv:bootBuiltins x = some u) (r:RelV v u) (hn:x ≠ "__name__":=by decide) (hd:(x == ("__debug__":Str)) = false:=by decide):PE X (.Name x pos) (tC v) :=
 fun _ _ _ H _ I h=>ld_blt I hg hm hv ⟨v,H,I,r,h⟩ hn hd
variable {a b:Expr} {ta tb:TE} {pos:Pos}
def PC (X:Cx) (op:CmpOp) (a b:Expr) (t:TE):Prop :=
 ∀ (pins:List (Addr × Obj)) (s:Shared) (σ:St) (H:Hp) (Q:VK),Inv X pins σ H s→t σ H Q →
  wpAny (model X.prog X.w) X.A (eval a X.env) (fun v s₁=>wpAny (model X.prog X.w) X.A (eval b X.env) (fun u s₂=>wpAny (model X.prog X.w) X.A (compareOp op v u) (EP X pins σ Q) X.xe s₂) X.xe s₁) X.xe s
theorem nobehind (b:Expr) {op:CmpOp} (h:op ≠ .In) (h2:op ≠ .NotIn):behindInMarks op b = false:=by
 have e1:(op == CmpOp.In) = false:=by cases op <;> first | rfl | exact absurd rfl h
 have e2:(op == CmpOp.NotIn) = false:=by cases op <;> first | rfl | exact absurd rfl h2
 cases b <;> simp [behindInMarks,e1,e2]
def tNotN (ta:TE):TE:=fun σ H Q=>ta σ H fun x H1=>Q (.bl (!decide (x = .non))) H1
theorem RelV.none_iff {x:V} {v:Value} (r:RelV x v):(v == Value.none) = decide (x = .non):=by
 cases x with
 | non=>cases r; rfl
 | bl _=>cases r; rfl
 | int _=>obtain ⟨t,rfl⟩:=r; rfl
 | str _=>obtain ⟨t,rfl⟩:=r; rfl
 | byt _=>obtain ⟨t,rfl⟩:=r; rfl
 | flt _=>obtain ⟨t,rfl⟩:=r; rfl
 | ref _=>cases r; rfl
 | ty _=>cases r; rfl
theorem pc_notN {j pos'} (ha:PE X a ta):PC X .IsNot a (.Constant .none j pos') (tNotN ta):=by
 intro pins s σ H Q I h
 refine thn (ha pins s σ H _ I h) fun v s1 ⟨x,H1,I1,r1,q1⟩=>?_
 exact Constant_none (isnot_none_gen ⟨.bl _,H1,I1,by rw [r1.none_iff]; rfl,q1⟩)
def tB (t:TE):TT:=fun σ H Q=>t σ H fun x H1=>∃ c,x = .bl c∧Q c H1
theorem pt_cmp {op:CmpOp} {t:TE} (h:PC X op a b t) (h1:behindInMarks op b = false:=by first | exact nobehind _ (by decide) (by decide) | rfl):PT X (.Compare a [op] [b] pos) (tB t):=by
 intro pins s σ H Q I hw
 refine wpAny_isTrue_Compare1 (thn (h pins s σ H _ I hw) fun v s1 h1=>thn h1 fun u s2 h2=>thn h2 fun c s3 ⟨x,H1,I1,r1,q1⟩=>?_) h1
 obtain ⟨d,rfl,q⟩:=q1
 cases r1
 exact wpAny_truthy_bool ⟨H1,I1,q⟩
theorem pt_val {e:Expr} {t:TE} (h:PE X e t) (he:∀ whole,isTrue e X.env whole = (do let v ← whole; standAt e.pos; holding [v] (truthy v)):=by intro _; rfl):PT X e (tB t):=by
 intro pins s σ H Q I hw
 refine isTrue_plain (thn (h pins s σ H _ I hw) fun v s1 ⟨x,H1,I1,r1,q1⟩=>?_) (he _)
 obtain ⟨d,rfl,q⟩:=q1
 cases r1
 exact wpAny_truthy_bool ⟨H1,I1,q⟩
variable {tA tB':TT} {rest:List Expr}
def tAnd (t u:TT):TT:=fun σ H Q=>t σ H fun c H1=>if c = true then u σ H1 Q else Q false H1
def tOr (t u:TT):TT:=fun σ H Q=>t σ H fun c H1=>if c = true then Q true H1 else u σ H1 Q
def tNot (t:TT):TT:=fun σ H Q=>t σ H fun c H1=>Q (!c) H1
theorem pw_and1 (ha:PT X a tA):PW X (.BoolOp .And [a] pos) tA:=by
 intro wh pins s σ H Q I h
 refine isTrue_and (thn (ha pins s σ H Q I h) fun c s1 e=>?_)
 cases c with
 | true=>exact isTrue_and_nil e
 | false=>exact e
theorem pw_or1 (ha:PT X a tA):PW X (.BoolOp .Or [a] pos) tA:=by
 intro wh pins s σ H Q I h
 refine isTrue_or (thn (ha pins s σ H Q I h) fun c s1 e=>?_)
 cases c with
 | false=>exact isTrue_or_nil e
 | true=>exact e
theorem pw_and (ha:PT X a tA) (hb:PW X (.BoolOp .And (b :: rest) pos) tB'):PW X (.BoolOp .And (a :: b :: rest) pos) (tAnd tA tB'):=by
 intro wh pins s σ H Q I h
 refine isTrue_and (thn (ha pins s σ H _ I h) fun c s1 ⟨H1,I1,q1⟩=>?_)
 cases c with
 | true=>exact hb wh pins s1 σ H1 Q I1 q1
 | false=>exact ⟨H1,I1,q1⟩
theorem pw_or (ha:PT X a tA) (hb:PW X (.BoolOp .Or (b :: rest) pos) tB'):PW X (.BoolOp .Or (a :: b :: rest) pos) (tOr tA tB'):=by
 intro wh pins s σ H Q I h
 refine isTrue_or (thn (ha pins s σ H _ I h) fun c s1 ⟨H1,I1,q1⟩=>?_)
 cases c with
 | true=>exact ⟨H1,I1,q1⟩
 | false=>exact hb wh pins s1 σ H1 Q I1 q1
theorem pt_not (ha:PT X a tA):PT X (.UnaryOp .Not a pos) (tNot tA):=by
 intro pins s σ H Q I h
 exact isTrue_not (ha pins s σ H (fun c H1=>Q (!c) H1) I h)
def tAndV (ta tb:TE):TE:=fun σ H Q=>ta σ H fun x H1=>∃ c,x = .bl c∧if c = true then tb σ H1 Q else Q (.bl false) H1
def tOrV (ta tb:TE):TE:=fun σ H Q=>ta σ H fun x H1=>∃ c,x = .bl c∧if c = true then Q (.bl true) H1 else tb σ H1 Q
def tNotV (ta:TE):TE:=fun σ H Q=>ta σ H fun x H1=>∃ c,x = .bl c∧Q (.bl (!c)) H1
theorem pe_one {op} {t:TE} (h:PE X a t):PE X (.BoolOp op [a] pos) t:=fun pins s σ H Q I hw=>BoolOp_one (h pins s σ H Q I hw)
theorem pe_and (ha:PE X a ta) (hb:PE X (.BoolOp .And (b :: rest) pos) tb):PE X (.BoolOp .And (a :: b :: rest) pos) (tAndV ta tb):=by
 intro pins s σ H Q I h
 refine BoolOp_and (thn (ha pins s σ H _ I h) fun v s1 ⟨x,H1,I1,r1,q1⟩=>?_)
 obtain ⟨c,rfl,q1⟩:=q1
 cases r1
 refine wpAny_truthy_bool ?_
 cases c with
 | true=>exact hb pins s1 σ H1 Q I1 q1
 | false=>exact ⟨.bl false,H1,I1,rfl,q1⟩
theorem pe_or (ha:PE X a ta) (hb:PE X (.BoolOp .Or (b :: rest) pos) tb):PE X (.BoolOp .Or (a :: b :: rest) pos) (tOrV ta tb):=by
 intro pins s σ H Q I h
 refine BoolOp_or (thn (ha pins s σ H _ I h) fun v s1 ⟨x,H1,I1,r1,q1⟩=>?_)
 obtain ⟨c,rfl,q1⟩:=q1
 cases r1
 refine wpAny_truthy_bool ?_
 cases c with
 | false=>exact hb pins s1 σ H1 Q I1 q1
 | true=>exact ⟨.bl true,H1,I1,rfl,q1⟩
theorem pe_not (ha:PE X a ta):PE X (.UnaryOp .Not a pos) (tNotV ta):=by
 intro pins s σ H Q I h
 refine UnaryOp_ (thn (ha pins s σ H _ I h) fun v s1 ⟨x,H1,I1,r1,q1⟩=>?_)
 obtain ⟨c,rfl,q1⟩:=q1
 cases r1
 exact not_of (wpAny_truthy_bool ⟨.bl (!c),H1,I1,rfl,q1⟩)
def tIf (t:TT) (ta tb:TE):TE:=fun σ H Q=>t σ H fun c H1=>if c = true then ta σ H1 Q else tb σ H1 Q
theorem pe_ifExp {c:Expr} (hc:PT X c tA) (ha:PE X a ta) (hb:PE X b tb):PE X (.IfExp c a b pos) (tIf tA ta tb):=by
 intro pins s σ H Q I h
 refine wpAny_IfExp (thn (hc pins s σ H _ I h) fun d s1 ⟨H1,I1,q1⟩=>?_)
 cases d with
 | true=>exact ha pins s1 σ H1 Q I1 q1
 | false=>exact hb pins s1 σ H1 Q I1 q1
end
end L2
namespace L2
open PySem PySem.Spec PyProof.Rows
def SqL (K:PySem.W.Frag) (H:Hp) (a:Addr) (xs:List V):Prop :=
 Rd H a (.lst xs) ∨
  ∃ (o:Obj) (its:Array Value) (n:Nat),K.lookup a = some o∧o.cls = .type "list"∧o.dict = none∧o.data = .seq its n∧its.size ≤ sizeLine∧Vals xs its.toList
def SqT (K:PySem.W.Frag) (H:Hp) (a:Addr) (xs:List V):Prop :=
 Rd H a (.tup xs) ∨
  ∃ (o:Obj) (its:Array Value) (n:Nat),K.lookup a = some o∧o.cls = .type "tuple"∧o.data = .seq its n∧its.size ≤ sizeLine∧Vals xs its.toList
def absV:Value→Option V
 | .none=>some .non
 | .bool b=>some (.bl b)
 | .int i _=>some (.int i)
 | .str x _=>some (.str x)
 | .bytes b _=>some (.byt b)
 | .float b _=>some (.flt b)
 | .ref a=>some (.ref a)
 | .type n=>some (.ty n)
 | _=>none
theorem RelV.abs {x:V} {u:Value} (r:RelV x u):absV u = some x:=by
 cases x with
 | non=>cases r; rfl
 | bl _=>cases r; rfl
 | int _=>obtain ⟨t,rfl⟩:=r; rfl
 | str _=>obtain ⟨t,rfl⟩:=r; rfl
 | byt _=>obtain ⟨t,rfl⟩:=r; rfl
 | flt _=>obtain ⟨t,rfl⟩:=r; rfl
 | ref _=>cases r; rfl
 | ty _=>cases r; rfl
theorem RelV.inj {x y:V} {u:Value} (r:RelV x u) (q:RelV y u):x = y:=Option.some.inj (r.abs.symm.trans q.abs)
theorem Vals.inj:∀ {xs ys:List V} {us:List Value},Vals xs us→Vals ys us→xs = ys
 | _,_,_,.nil,.nil=>rfl
 | _,_,_,.cons r t,.cons r' t'=>by rw [r.inj r',Vals.inj t t']
section
variable {X:Cx} {pins:List (Addr × Obj)} {σ:St} {H:Hp} {s:Shared} {a:Addr} {xs ys:List V}
theorem SqL.of {K:PySem.W.Frag} (h:H a = some (.lst xs)):SqL K H a xs:=.inl (.inl h)
theorem SqT.of {K:PySem.W.Frag} (h:H a = some (.tup xs)):SqT K H a xs:=.inl (.inl h)
theorem Inv.list (I:Inv X pins σ H s) (h:SqL X.K H a xs):∃ its:List Value,Vals xs its∧PlainL s.heap a its.toArray∧xs.length ≤ sizeLine:=by
 rcases h with h | ⟨o,its,n,hk,hc,hd,hs,hz,r⟩
 ·obtain ⟨z,its,n,r,e⟩:=h.ok I.hok
  exact ⟨its,r,⟨_,n,e,rfl,rfl,rfl⟩,z⟩
 ·refine ⟨its.toList,r,⟨o,n,I.kIn a o hk,hc,hd,by simpa using hs⟩,?_⟩
  have e:=r.length
  simp only [Array.length_toList] at e
  omega
theorem Inv.tuple (I:Inv X pins σ H s) (h:SqT X.K H a xs):∃ its:List Value,Vals xs its∧IsTup s.heap a its.toArray∧xs.length ≤ sizeLine:=by
 rcases h with h | ⟨o,its,n,hk,hc,hs,hz,r⟩
 ·obtain ⟨z,its,r,p⟩:=h.ok I.hok
  exact ⟨its,r,p,z⟩
 ·refine ⟨its.toList,r,⟨o,I.kIn a o hk,hc,n,by simpa using hs⟩,?_⟩
  have e:=r.length
  simp only [Array.length_toList] at e
  omega
theorem Inv.list_inj (I:Inv X pins σ H s) (h:SqL X.K H a xs) (h':SqL X.K H a ys):xs = ys:=by
 obtain ⟨its,r,⟨o,n,e,_,_,d⟩,_⟩:=I.list h
 obtain ⟨its',r',⟨o',n',e',_,_,d'⟩,_⟩:=I.list h'
 rw [e] at e'; cases e'
 rw [d] at d'
 injection d' with d1 _
 have:its = its':=by simpa using congrArg Array.toList d1
 subst this
 exact r.inj r'
end
abbrev Cx.wish (X:Cx) (E:Value→Shared→Prop):Cx:={ X with xe:=E }
abbrev Cx.nox (X:Cx):Cx:=X.wish fun _ _=>False
theorem Cx.Ok.wish {X:Cx} (ok:X.Ok) (E:Value→Shared→Prop):(X.wish E).Ok :=
 ⟨ok.mod,ok.kind,ok.glob,ok.blt,ok.above,ok.inj,ok.has,ok.cab,ok.hd,ok.frames,ok.stk,ok.exf,ok.bs,ok.bsz,ok.noex,ok.exfs,ok.funs,ok.frf⟩
theorem Cx.Ok.unwish {X:Cx} {E:Value→Shared→Prop} (ok:(X.wish E).Ok):X.Ok :=
 ⟨ok.mod,ok.kind,ok.glob,ok.blt,ok.above,ok.inj,ok.has,ok.cab,ok.hd,ok.frames,ok.stk,ok.exf,ok.bs,ok.bsz,ok.noex,ok.exfs,ok.funs,ok.frf⟩
section
variable {X:Cx} {pins:List (Addr × Obj)} {σ:St} {H:Hp} {s:Shared} {E:Value→Shared→Prop}
theorem Inv.wish (I:Inv X pins σ H s) (E:Value→Shared→Prop):Inv (X.wish E) pins σ H s:=⟨I.ok.wish E,I.os,I.bare,I.base,I.loc,I.cell,I.free,I.freeC,I.pin,I.hok,I.len,I.hdh⟩
theorem Inv.unwish (I:Inv (X.wish E) pins σ H s):Inv X pins σ H s:=⟨I.ok.unwish,I.os,I.bare,I.base,I.loc,I.cell,I.free,I.freeC,I.pin,I.hok,I.len,I.hdh⟩
theorem SP.unwish {D:Ends} {f:Flow} {s':Shared} (h:SP (X.wish E) pins D f s'):SP X pins D f s':=by
 cases f with
 | next=>obtain ⟨σ',H',I,q⟩:=h; exact ⟨σ',H',I.unwish,q⟩
 | brk=>obtain ⟨σ',H',I,q⟩:=h; exact ⟨σ',H',I.unwish,q⟩
 | cont=>obtain ⟨σ',H',I,q⟩:=h; exact ⟨σ',H',I.unwish,q⟩
 | ret u=>obtain ⟨v,σ',H',I,r,q⟩:=h; exact ⟨v,σ',H',I.unwish,r,q⟩
theorem PSs.nox {st:List Stmt} {t:TS} (h:PSs X.nox st t):PSs X st t:=fun pins s σ H D I hw =>
 wpAny_mono (h pins s σ H D (I.wish _) hw) (fun _ _ q=>q.unwish) fun _ _ z=>False.elim z
end
section
variable {X:Cx} {st:Stmt} {rest:List Stmt} {t u:TS} {e:Expr} {te:TE} {pos:Pos}
def tNext:TS:=fun D σ H=>D.nx σ H
def tSeq (t u:TS):TS:=fun D σ H=>t { D with nx:=u D } σ H
theorem pss_nil:PSs X [] tNext:=fun _ _ σ H _ I h=>wpAny_execs_nil ⟨σ,H,I,h⟩
theorem pss_cons (h1:PS X st t) (h2:PSs X rest u):PSs X (st :: rest) (tSeq t u):=by
 intro pins s σ H D I h
 refine wpAny_execs_cons (thn (h1 pins s σ H { D with nx:=u D } I h) fun f s1 q=>?_)
 cases f with
 | next =>
  obtain ⟨σ',H',I',q⟩:=q
  exact h2 pins s1 σ' H' D I' q
 | ret v=>exact q
 | brk=>exact q
 | cont=>exact q
theorem pss_one (h1:PS X st t):PSs X [st] t:=by
 intro pins s σ H D I h
 refine wpAny_execs_cons (thn (h1 pins s σ H D I h) fun f s1 q=>?_)
 cases f with
 | next=>exact wpAny_execs_nil q
 | ret v=>exact q
 | brk=>exact q
 | cont=>exact q
theorem Inv.quiet {pins:List (Addr × Obj)} {σ:St} {H:Hp} {s:Shared} (I:Inv X pins σ H s):interactive X.env = false:=by simp [interactive,I.ok.kind]
def tDrop (te:TE):TS:=fun D σ H=>te σ H fun _ H1=>D.nx σ H1
theorem ps_expr (he:PE X e te) (hs:swapsWith e none pos.line X.env = pure false:=by rfl):PS X (.Expr e pos) (tDrop te):=by
 intro pins s σ H D I h
 exact wpAny_Expr_any (thn (he pins s σ H _ I h) fun v s1 ⟨x,H1,I1,r1,q1⟩=>⟨σ,H1,I1,q1⟩) I.quiet hs
def tRet (te:TE):TS:=fun D σ H=>te σ H D.rt
theorem ps_ret (he:PE X e te):PS X (.Return (some e) pos) (tRet te):=by
 intro pins s σ H D I h
 exact wpAny_Return_some (thn (he pins s σ H _ I h) fun v s1 ⟨x,H1,I1,r1,q1⟩=>⟨x,σ,H1,I1,r1,q1⟩)
def tIfS (c:TT) (t u:TS):TS:=fun D σ H=>c σ H fun b H1=>if b = true then t D σ H1 else u D σ H1
theorem ps_if {c:Expr} {a b:List Stmt} {tc:TT} (hc:PT X c tc) (ha:PSs X a t) (hb:PSs X b u):PS X (.If c a b pos) (tIfS tc t u):=by
 intro pins s σ H D I h
 refine wpAny_If (thn (hc pins s σ H _ I h) fun d s1 ⟨H1,I1,q1⟩=>?_)
 cases d with
 | true=>exact ha pins s1 σ H1 D I1 q1
 | false=>exact hb pins s1 σ H1 D I1 q1
def tNever:TS:=fun _ _ _=>False
theorem pss_never {sts:List Stmt}:PSs X sts tNever:=fun _ _ _ _ _ _ h=>h.elim
end
abbrev TG:=V→St→Hp→(St→Hp→Prop)→Prop
abbrev TGs:=List V→St→Hp→(St→Hp→Prop)→Prop
def PG (X:Cx) (target:Expr) (t:TG):Prop :=
 ∀ (pins:List (Addr × Obj)) (s:Shared) (σ:St) (H:Hp) (v:V) (u:Value) (Q:St→Hp→Prop),Inv X pins σ H s→RelV v u→t v σ H Q →
  wpAny (model X.prog X.w) X.A (assign target X.env u) (fun _ s'=>∃ σ' H',Inv X pins σ' H' s'∧Q σ' H') X.xe s
def PGs (X:Cx) (ts:List Expr) (t:TGs):Prop :=
 ∀ (pins:List (Addr × Obj)) (s:Shared) (σ:St) (H:Hp) (vs:List V) (us:List Value) (Q:St→Hp→Prop),Inv X pins σ H s→Vals vs us→t vs σ H Q →
  wpAny (model X.prog X.w) X.A (assignInOrder ((assignEach ts X.env).map (·.2)) us) (fun _ s'=>∃ σ' H',Inv X pins σ' H' s'∧Q σ' H') X.xe s
section
variable {X:Cx} {pos:Pos}
def gName (i:Nat):TG:=fun v σ H Q=>Q (σ.set i (some v)) H
theorem pg_name {i:Nat} {x:Str} (hN:X.N.Nodup) (hi:X.N[i]? = some x) (hx:Loc X.env.scope x) (hf:X.fn x = true ∨ X.env.scope.names.lookup x = some .local:=by first | exact .inl rfl | exact .inr rfl | assumption):PG X (.Name x pos) (gName i):=by
 intro pins s σ H v u Q I r h
 exact wpAny_assign_Name (store_ok I hN hi hx r (fun s' I'=>⟨_,H,I',h⟩) hf)
def gNil:TGs:=fun vs σ H Q=>vs = []∧Q σ H
def gCons (t:TG) (u:TGs):TGs:=fun vs σ H Q=>∃ v r,vs = v :: r∧t v σ H fun σ' H'=>u r σ' H' Q
theorem pgs_nil:PGs X [] gNil:=by
 intro pins s σ H vs us Q I r h
 obtain ⟨e,h⟩:=h
 subst e
 cases r
 exact assignInOrder_nil ⟨σ,H,I,h⟩
theorem pgs_cons {e:Expr} {es:List Expr} {t:TG} {u:TGs} (h1:PG X e t) (h2:PGs X es u)
  (hs:(assignEach (e :: es) X.env).map (·.2) = assign e X.env :: (assignEach es X.env).map (·.2):=by rfl):PGs X (e :: es) (gCons t u):=by
 intro pins s σ H vs us Q I r h
 obtain ⟨v,vr,e1,h⟩:=h
 subst e1
 cases r with
 | cons r rr =>
  rw [hs]
  refine assignInOrder_cons (thn (h1 pins s σ H _ _ _ I r h) fun _ s1 ⟨σ1,H1,I1,q1⟩=>?_)
  exact h2 pins s1 σ1 H1 _ _ Q I1 rr q1
def gTup (K:PySem.W.Frag) (n:Nat) (t:TGs):TG:=fun v σ H Q=>∃ a xs,v = .ref a∧SqT K H a xs∧xs.length = n∧t xs σ H Q
theorem pg_tup {es:List Expr} {k:Nat} {t:TGs} {n:Nat} (hc:True = True) (h:PGs X es t)
  (hn:(assignEach es X.env).length = n:=by rfl) (hst:(assignEach es X.env).findIdx? (·.1) = none:=by rfl):PG X (.Tuple es k pos) (gTup X.K n t):=by
 intro pins s σ H v u Q I r hw
 obtain ⟨a,xs,e1,hq,hl,hw⟩:=hw
 subst e1
 cases r
 obtain ⟨its,rv,ht,hz⟩:=I.tuple hq
 refine assign_TupleH I.hdS ht (by simp [hn,← hl,rv.length]) hst fun h' hx=>?_
 have I1:Inv X pins σ H { s with heap:=h' }:=I.kept (t':=s.toks) fun b o e=>hx b o (Nat.ne_of_lt (Heap.lt_size e)) e
 exact h pins _ σ H xs _ Q I1 (by simpa using rv) hw
def tAsg (te:TE) (g:TG):TS:=fun D σ H=>te σ H fun x H1=>g x σ H1 D.nx
theorem ps_asg {tg e:Expr} {te:TE} {g:TG} (he:PE X e te) (hg:PG X tg g) (hs:swapsWithSole [tg] e pos.line X.env = pure false:=by rfl) (hw:swappedStores [tg] e X.env = pure none:=by rfl)
  (h1:(assignEach [tg] X.env).map (·.2) = [assign tg X.env]:=by rfl):PS X (.Assign [tg] e pos) (tAsg te g):=by
 intro pins s σ H D I h
 refine wpAny_Assign_stores (thn (he pins s σ H _ I h) fun v s1 ⟨x,H1,I1,r1,q1⟩=>?_) hs hw
 rw [h1]
 exact thn (hg pins s1 σ H1 x v _ I1 r1 q1) fun _ s2 q=>q
theorem ps_set {i:Nat} {x:Str} {e:Expr} {te:TE} {pos':Pos} (hN:X.N.Nodup) (hi:X.N[i]? = some x) (hx:Loc X.env.scope x) (he:PE X e te) (hs:swapsWith e (some (.Name x pos')) pos.line X.env = pure false:=by rfl) (hf:X.fn x = true ∨ X.env.scope.names.lookup x = some .local:=by first | exact .inl rfl | exact .inr rfl | assumption) :
  PS X (.Assign [.Name x pos'] e pos) (tAsg te (gName i)):=by
 intro pins s σ H D I h
 refine wpAny_Assign_Name (thn (he pins s σ H _ I h) fun v s1 ⟨y,H1,I1,r1,q1⟩=>?_) hs
 exact store_ok I1 hN hi hx r1 (fun s2 I2=>⟨_,H1,I2,q1⟩) hf
def tPar (i j:Nat) (ta:TA):TS:=fun D σ H=>ta σ H fun vs H1=>∃ v w,vs = [v,w]∧D.nx ((σ.set i (some v)).set j (some w)) H1
theorem ps_par {i j:Nat} {x y:Str} {a b:Expr} {ta:TA} {px py pt:Pos} {kt k2 pt2} (hc:True = True) (hN:X.N.Nodup) (hi:X.N[i]? = some x) (hj:X.N[j]? = some y) (hij:i ≠ j)
  (hx:X.env.scope.names.lookup x = some .local) (hy:X.env.scope.names.lookup y = some .local) (ha:PA X [a,b] ta)
  (hw:swappedStores [.Tuple [.Name x px,.Name y py] kt pt] (.Tuple [a,b] k2 pt2) X.env = pure (some [x,y]))
  (hs:swapsWithSole [.Tuple [.Name x px,.Name y py] kt pt] (.Tuple [a,b] k2 pt2) pos.line X.env = pure false:=by rfl) :
  PS X (.Assign [.Tuple [.Name x px,.Name y py] kt pt] (.Tuple [a,b] k2 pt2) pos) (tPar i j ta):=by
 intro pins s σ H D I h
 rw [exec_Assign_arm]
 refine wpAny_bind (wpAny_standAt ?_)
 rw [hs]
 refine wpAny_bind (wpAny_pure ?_)
 rw [if_neg (by decide)]
 refine wpAny_bind (Tuple_ (thn (ha _ pins s σ H _ I h) fun us s1 ⟨vs,H1,I1,r1,q1⟩=>?_))
 obtain ⟨v,w,e1,q1⟩:=q1
 subst e1
 obtain ⟨u1,u2,rfl,rv,rw'⟩:∃ u1 u2,us = [u1,u2]∧RelV v u1∧RelV w u2:=by
  cases r1 with
  | cons p q =>
   cases q with
   | cons p' q' =>
    cases q'
    exact ⟨_,_,rfl,p,p'⟩
 refine wpAny_newObj_type ?_ (by show 2 ≤ sizeLine; decide)
 have I2:Inv X pins σ H1 { s1 with heap:=s1.heap.push { cls:=.type "tuple",data:=.seq [u1,u2].toArray } }:=I1.kept (t':=s1.toks) fun b o e=>Heap.get?_push_of_some _ e
 rw [hw]
 refine wpAny_bind (wpAny_pure ?_)
 show wpAny (model X.prog X.w) X.A (do rule "assign.swapped-stores"; let items ← unpackItems (.ref s1.heap.objs.size) 2 none; assignInOrder [fun v=>bindName X.env y v,fun v=>bindName X.env x v] items.reverse; pure Flow.next) _ _ _
 refine wpAny_bind (wpAny_rule (wpAny_bind (unpackItemsH (items:=#[u1,u2]) I2.hdS (IsTup.new s1.heap _) fun h' hx'=>?_)))
 have I3:=I2.kept (h':=h') (t':=s1.toks) fun b o e=>hx' b o (Nat.ne_of_lt (Heap.lt_size e)) e
 show wpAny _ _ (assignInOrder [fun v=>bindName X.env y v,fun v=>bindName X.env x v] [u2,u1] >>= fun _=>pure Flow.next) _ _ _
 refine wpAny_bind (assignInOrder_cons (wpAny_bindName (store_ok I3 hN hj (.inl hy) rw' (fun s2 I4=>?_) (.inr hy))))
 refine assignInOrder_cons (wpAny_bindName (store_ok I4 hN hi (.inl hx) rv (fun s3 I5=>assignInOrder_nil (wpAny_pure ?_)) (.inr hx)))
 rw [List.set_comm _ _ (Ne.symm hij)] at I5
 exact ⟨_,H1,I5,q1⟩
end
section
variable {X:Cx} {pos:Pos}
def tWhile (c:TT) (tb:TS):TS:=fun D σ H=>∃ W:Nat→St→Hp→Prop,(∃ m,W m σ H)∧∀ m σ H,W m σ H →
 c σ H fun b H1=>if b = true then ∃ N:St→Hp→Prop,(∀ σ' H',N σ' H'→∃ m',m' < m∧W m' σ' H')∧tb { D with nx:=N,ct:=N,bk:=D.nx } σ H1 else D.nx σ H1
theorem ps_while {c:Expr} {body:List Stmt} {tc:TT} {tb:TS} (hp:PassesOwn (model X.prog X.w) X.A X.env X.xe) (hc:PT X c tc) (hb:PSs X body tb):PS X (.While c body [] pos) (tWhile tc tb):=by
 intro pins s σ H D I h
 obtain ⟨W,⟨m0,w0⟩,turn⟩:=h
 refine wpAny_While (codeAny_whileLoop (fun n s'=>∃ σ' H',Inv X pins σ' H' s'∧W n σ' H') ?_ m0 ⟨σ,H,I,w0⟩)
 rintro n s1 ⟨σ1,H1,I1,w1⟩
 refine wpAny_passesOwn hp (thn (hc pins s1 σ1 H1 _ I1 (turn n σ1 H1 w1)) fun b s2 ⟨H2,I2,q2⟩=>?_)
 cases b with
 | true =>
  obtain ⟨N,hN,q2⟩:=q2
  rw [if_pos rfl]
  refine wpAny_passesOwn hp (thn (hb pins s2 σ1 H2 _ I2 q2) fun f s3 q3=>?_)
  cases f with
  | next =>
   obtain ⟨σ3,H3,I3,n3⟩:=q3
   obtain ⟨m',hm,w3⟩:=hN σ3 H3 n3
   exact ⟨m',hm,σ3,H3,I3,w3⟩
  | cont =>
   obtain ⟨σ3,H3,I3,n3⟩:=q3
   obtain ⟨m',hm,w3⟩:=hN σ3 H3 n3
   exact ⟨m',hm,σ3,H3,I3,w3⟩
  | brk=>exact q3
  | ret v=>exact q3
 | false =>
  rw [if_neg Bool.false_ne_true]
  exact wpAny_execs_nil ⟨σ1,H2,I2,q2⟩
end
structure It where
 go:Nat→Hp→Prop
 yld:Nat→Hp→V→Hp→Prop
 stop:Nat→Hp→Prop
 nd:Bool
def FpOk (X:Cx) (pins:List (Addr × Obj)) (H:Hp) (b:Addr):Prop :=
 H b = none∧b ≠ X.env.locals∧b ∉ X.fs∧(b ∈ X.ex ∨ X.s₀.heap.objs.size ≤ b)∧(∀ x c,X.env.cells.lookup x = some c→c ≠ b)∧∀ p ∈ X.pn ++ pins,p.1 ≠ b
theorem Inv.fpOk {X:Cx} {pins:List (Addr × Obj)} {σ:St} {H H':Hp} {s:Shared} {b:Addr} (I:Inv X pins σ H s) (hb:s.heap.objs.size ≤ b) (hn:H' b = none):FpOk X pins H' b:=by
 refine ⟨hn,Nat.ne_of_gt (Nat.lt_of_lt_of_le I.lt hb),I.nofs hb,.inr (Nat.le_trans I.sz hb),fun x c e z=>?_,fun p hp z=>?_⟩
 ·obtain ⟨v,q⟩:=I.cell x c e
  exact absurd (Nat.lt_of_lt_of_le q.lt (by rw [z]; exact hb)) (Nat.lt_irrefl _)
 ·exact absurd (Nat.lt_of_lt_of_le (Heap.lt_size (I.pin p hp).1) (by rw [z]; exact hb)) (Nat.lt_irrefl _)
structure Turn (P:Program) (w:World) (K:PySem.W.Frag) (tg:Expr) (J:It) (fp:List Addr) (it:Addr) (tn:Nat→Heap→Prop):Prop where
 mem:it ∈ fp
 obj:∀ i h,tn i h→∀ b ∈ fp,∃ o,h.get? b = some o∧∀ v,o.data ≠ .cell v
 keep:∀ i h h',tn i h→(∀ b ∈ fp,∀ o,h.get? b = some o→h'.get? b = some o)→tn i h'
 item:∀ (X:Cx),X.prog = P→X.w = w→X.K = K→(J.nd = true→X.calm = true)→∀ (i:Nat) (pins:List (Addr × Obj)) (s:Shared) (σ:St) (H:Hp) (E:Value→Shared→Prop),Inv X pins σ H s→(∀ b ∈ fp,FpOk X pins H b)→tn i s.heap→J.go i H →
  wpAny (model P w) X.A (pyNext (.ref it)) (fun r s1=>∃ u,r = some u ∧
   wpAny (model P w) X.A (letOwnedTupleGo tg (.ref it) u) (fun _ s2=>∃ x H',Inv X pins σ H' s2∧RelV x u∧J.yld i H x H'∧tn (i + 1) s2.heap∧∀ b ∈ fp,H' b = none) E s1) E s
 done:∀ (X:Cx),X.prog = P→X.w = w→X.K = K→(J.nd = true→X.calm = true)→∀ (i:Nat) (pins:List (Addr × Obj)) (s:Shared) (σ:St) (H:Hp) (E:Value→Shared→Prop),Inv X pins σ H s→(∀ b ∈ fp,FpOk X pins H b)→tn i s.heap→J.stop i H →
  wpAny (model P w) X.A (pyNext (.ref it)) (fun r s1=>r = none∧Inv X pins σ H s1) E s
 self:∀ (A:Around) (i:Nat) (s:Shared) (Q:Value→Shared→Prop) (E:Value→Shared→Prop),tn i s.heap→Q (.ref it) s→wpAny (model P w) A (pyIter (.ref it)) Q E s
abbrev TI:=St→Hp→(It→Hp→Prop)→Prop
def PIE (X:Cx) (pins:List (Addr × Obj)) (σ:St) (tg:Expr) (R:It→Hp→Prop) (itv:Value) (s2:Shared):Prop :=
 ∃ (it:Addr) (fp:List Addr) (tn:Nat→Heap→Prop) (J:It) (H':Hp),itv = .ref it∧Inv X pins σ H' s2∧Turn X.prog X.w X.K tg J fp it tn∧tn 0 s2.heap∧(∀ b ∈ fp,FpOk X pins H' b)∧(J.nd = true→X.calm = true)∧R J H'
def PI (X:Cx) (tg iter:Expr) (wi:TI):Prop :=
 ∀ (pins:List (Addr × Obj)) (s:Shared) (σ:St) (H:Hp) (R:It→Hp→Prop),Inv X pins σ H s→wi σ H R →
  wpAny (model X.prog X.w) X.A (eval iter X.env) (fun v s1=>wpAny (model X.prog X.w) X.A (pyIter v) (PIE X pins σ tg R) X.xe s1) X.xe s
theorem go_of {M:Model} {A:Around} {E:Value→Shared→Prop} {s:Shared} {tg:Expr} {it:Addr} {u:Value} {o:Obj} {n:String} {vs:Array Value} {Q:Unit→Shared→Prop} (ho:s.heap.get? it = some o) (hc:o.cls = .type n) (hd:o.data = .fields vs)
  (hn:["enumerate","zip","dict_itemiterator","dict_reverseitemiterator","odict_iterator","itertools.zip_longest","itertools.pairwise"].contains n = false) (hQ:Q () s):wpAny M A (letOwnedTupleGo tg (.ref it) u) Q E s:=by
 unfold letOwnedTupleGo
 cases tg <;> first
  | exact wpAny_pure hQ
  | (cases u <;> first
    | exact wpAny_pure hQ
    | (refine wpAny_bind (wpAny_load ho ?_)
       rw [hc,hd]
       show wpAny M A (if (["enumerate","zip","dict_itemiterator","dict_reverseitemiterator","odict_iterator","itertools.zip_longest","itertools.pairwise"].contains n && vs[0]? == some (rawInt _)) = true then _ else _) Q E s
       rw [if_neg (by intro h; rw [hn,Bool.false_and] at h; cases h)]
       exact wpAny_pure hQ))
def Itl (K:PySem.W.Frag) (a:Addr):It :=
 ⟨fun i H=>∃ xs x,SqL K H a xs∧xs[i]? = some x,fun i H x H'=>H' = H∧∀ xs,SqL K H a xs→xs[i]? = some x,fun i H=>∃ xs,SqL K H a xs∧xs.length ≤ i,false⟩
def Itr (lo:Int) (n:Nat):It:=⟨fun i _=>i < n,fun i H x H'=>H' = H∧x = .int (lo + i),fun i _=>n ≤ i,true⟩
theorem turn_list {P:Program} {w:World} {K:PySem.W.Frag} {tg:Expr} (a it:Addr):Turn P w K tg (Itl K a) [it] it (fun i h=>h.IsListIter it a i) where
 mem:=by simp
 obj:=fun i h st b hb=>by
  have e:b = it:=by simpa using hb
  subst e
  obtain ⟨o,e,c,d⟩:=st
  exact ⟨o,e,fun v z=>by rw [d] at z; cases z⟩
 keep:=fun i h h' st k=>st.at fun o e=>k it (by simp) o e
 item:=by
  intro X hP hw hK hc i pins s σ H E I hf st hg
  subst hP hw hK
  obtain ⟨xs,x,hq,hx⟩:=hg
  obtain ⟨its,rv,p,hz⟩:=I.list hq
  obtain ⟨u,hu,ru⟩:=rv.get hx
  obtain ⟨f0,f1,f2,f3,f4,f5⟩:=hf it (by simp)
  refine wpAny_pyNext_list_item st p.isList (x:=u) (by simpa using hu) fun h' st' sb=>?_
  have I1:Inv X pins σ H { s with heap:=h' }:=I.turned (t':=s.toks) (fun b o hb e=>(sb.2 b hb).trans e) f0 f1 f3 f4 f5
  obtain ⟨o,e,c,d⟩:=id st'
  exact ⟨u,rfl,go_of (s:={ s with heap:=h' }) e c d (by decide) ⟨x,H,I1,ru,⟨rfl,fun ys hy=>by rw [I.list_inj hy hq]; exact hx⟩,st',fun b hb=>(hf b hb).1⟩⟩
 done:=by
  intro X hP hw hK hc i pins s σ H E I hf st hg
  subst hP hw hK
  obtain ⟨xs,hq,hx⟩:=hg
  obtain ⟨its,rv,p,hz⟩:=I.list hq
  obtain ⟨f0,f1,f2,f3,f4,f5⟩:=hf it (by simp)
  have hl:=rv.length
  exact list_endH I.hdS st p.isList (by simp; omega) fun h' eb=>⟨rfl,I.turned (t':=s.toks) (fun b o hb e=>eb b o hb e) f0 f1 f3 f4 f5⟩
 self:=fun _ _ _ _ _ st h=>wpAny_pyIter_listiter st h
theorem turn_range {P:Program} {w:World} {K:PySem.W.Frag} {tg:Expr} (it:Addr) (lo:Int) (n:Nat):Turn P w K tg (Itr lo n) [it] it (fun i h=>IsRangeIter h it (lo + (i:Nat) * 1) ((n:Int) - (i:Nat)) 1) where
 mem:=by simp
 obj:=fun i h st b hb=>by
  have e:b = it:=by simpa using hb
  subst e
  exact ⟨_,st,fun v z=>by
   have z':Data.fields _ = Data.cell v:=z
   cases z'⟩
 keep:=fun i h h' st k=>k it (by simp) _ st
 item:=by
  intro X hP hw hK hc i pins s σ H E I hf st hg
  subst hP hw hK
  obtain ⟨f0,f1,f2,f3,f4,f5⟩:=hf it (by simp)
  have W:=Walks.range (prog:=X.prog) (w:=X.w) (I.ok.hd (hc rfl)) it lo 1 n
  refine W.item i s _ _ hg st fun v h' tk hv st' kk=>?_
  obtain ⟨t,rfl⟩:=hv
  have I1:Inv X pins σ H { s with heap:=h',toks:=tk }:=I.turned (fun b o hb e=>kk b o (by simpa using hb) e) f0 f1 f3 f4 f5
  refine ⟨_,rfl,go_of (s:={ s with heap:=h',toks:=tk }) (n:="range_iterator") st' rfl rfl (by decide) ⟨.int (lo + i),H,I1,⟨t,?_⟩,⟨rfl,rfl⟩,st',fun b hb=>(hf b hb).1⟩⟩
  rw [Int.mul_one]
 done:=by
  intro X hP hw hK hc i pins s σ H E I hf st hg
  subst hP hw hK
  obtain ⟨f0,f1,f2,f3,f4,f5⟩:=hf it (by simp)
  exact wpAny_pyNext_range_end (I.ok.hd (hc rfl)) st (by have:n ≤ i:=hg; omega) fun h' eb=>⟨rfl,I.turned (t':=s.toks) (fun b o hb e=>eb b o hb e) f0 f1 f3 f4 f5⟩
 self:=fun _ _ _ _ _ st h=>wpAny_pyIter_rangeiter st h
end L2
namespace L2
open PySem PySem.Spec PyProof.Rows
section
variable {X:Cx} {tg:Expr}
def iList (K:PySem.W.Frag) (tl:TE):TI:=fun σ H R=>tl σ H fun x H1=>∃ a,x = .ref a∧(∃ xs,SqL K H1 a xs)∧R (Itl K a) H1
theorem pi_list {l:Expr} {tl:TE} (hl:PE X l tl):PI X tg l (iList X.K tl):=by
 intro pins s σ H R I h
 refine thn (hl pins s σ H _ I h) fun v s1 ⟨x,H1,I1,r1,q1⟩=>?_
 obtain ⟨a,e,⟨xs,hq⟩,q⟩:=q1
 subst e
 cases r1
 obtain ⟨its,rv,p,hz⟩:=I1.list hq
 refine wpAny_pyIter_list p.isList ?_
 refine ⟨s1.heap.objs.size,[s1.heap.objs.size],_,_,H1,rfl,I1.kept (t':=s1.toks) fun b o e=>Heap.get?_push_of_some _ e,turn_list a _,⟨_,Heap.get?_push_size _ rfl,rfl,rfl⟩,fun b hb=>?_,(fun z=>nomatch z),q⟩
 have e:b = s1.heap.objs.size:=by simpa using hb
 subst e
 exact I1.fpOk (Nat.le_refl _) (I1.hok.fresh (Nat.le_refl _))
theorem range_it (hc:X.calm = true) {pins:List (Addr × Obj)} {σ:St} {H:Hp} {s:Shared} {R:It→Hp→Prop} {E:Value→Shared→Prop} {lo hi:Int} {t u v:Tok} {tk:Nat} (I:Inv X pins σ H s) (h1:-(2 ^ 62) ≤ lo) (h2:lo < 2 ^ 62) (h3:-(2 ^ 62) ≤ hi) (h4:hi < 2 ^ 62)
  (q:R (Itr lo (hi - lo).toNat) H):wpAny (model X.prog X.w) X.A (pyIter (.ref s.heap.objs.size)) (PIE X pins σ tg R) E { s with heap:=s.heap.push { cls:=.type "range",data:=.fields #[.int lo t,.int hi u,.int 1 v] },toks:=tk }:=by
 refine wpAny_pyIter_range (IsRange.new ..) (small_one h1 h2 h3 h4) ?_
 have I1:Inv X pins σ H { s with heap:=s.heap.push { cls:=.type "range",data:=.fields #[.int lo t,.int hi u,.int 1 v] },toks:=tk }:=I.kept fun b o e=>Heap.get?_push_of_some _ e
 refine ⟨(s.heap.push { cls:=.type "range",data:=.fields #[.int lo t,.int hi u,.int 1 v] }).objs.size,[(s.heap.push { cls:=.type "range",data:=.fields #[.int lo t,.int hi u,.int 1 v] }).objs.size],_,_,H,rfl,
  I1.kept (t':=tk) fun b o e=>Heap.get?_push_of_some _ e,turn_range _ lo (hi - lo).toNat,?_,fun b hb=>?_,(fun _=>hc),q⟩
 ·have e1:lo + ((0:Nat):Int) * 1 = lo:=by simp
  have e2:(((hi - lo).toNat:Nat):Int) - ((0:Nat):Int) = Builtin.Range.rangeSize lo hi 1:=by rw [rangeSize_one]; split <;> omega
  show IsRangeIter _ _ (lo + ((0:Nat):Int) * 1) ((((hi - lo).toNat:Nat):Int) - ((0:Nat):Int)) 1
  rw [e1,e2]
  exact Heap.get?_push_size _ rfl
 ·have e:b = (s.heap.push { cls:=.type "range",data:=.fields #[.int lo t,.int hi u,.int 1 v] }).objs.size:=by simpa using hb
  subst e
  exact I1.fpOk (Nat.le_refl _) (I1.hok.fresh (Nat.le_refl _))
def iRng1 (ta:TA):TI:=fun σ H R=>ta σ H fun vs H1=>∃ j:Int,vs = [.int j]∧-(2 ^ 62) ≤ j∧j < 2 ^ 62∧R (Itr 0 j.toNat) H1
theorem pi_range1 {a:Expr} {ta:TA} {p pos:Pos} (hg:Gl X "range") (hm:X.mg "range" = none) (ha:PA X [a] ta) (hs:starEach [a] X.env = [(false,eval a X.env)]:=by rfl) (hc:X.calm = true:=by rfl):PI X tg (.Call (.Name "range" p) [a] [] pos) (iRng1 ta):=by
 intro pins s σ H R I h
 refine Call_ (ld_blt I hg hm boot_range (PyProof.Rows.callWith_type1 (thn (ha pos pins s σ H _ I h) fun us s1 ⟨vs,H1,I1,r1,q1⟩=>?_) hs rfl))
 obtain ⟨j,e,q1,q2,q⟩:=q1
 subst e
 cases r1 with
 | cons r rr =>
  cases rr
  obtain ⟨t,rfl⟩:=r
  exact call_range_1 (range_it hc I1 (by omega) (by omega) q1 q2 (by simpa using q))
def tFor (wi:TI) (g:TG) (tb:TS):TS:=fun D σ H=>wi σ H fun J H1=>∃ W:Nat→Nat→St→Hp→Prop,(∃ m,W 0 m σ H1)∧∀ i m σ H,W i m σ H →
 (J.stop i H∧D.nx σ H) ∨ (J.go i H∧∃ N:St→Hp→Prop,(∀ σ' H',N σ' H'→∃ m',m' < m∧W (i + 1) m' σ' H')∧∀ x H',J.yld i H x H'→g x σ H' fun σ2 H2=>tb { D with nx:=N,ct:=N,bk:=D.nx } σ2 H2)
def pinsAt (fp:List Addr) (h:Heap):List (Addr × Obj):=fp.filterMap fun b=>(h.get? b).map fun o=>(b,o)
theorem mem_pinsAt {fp:List Addr} {h:Heap} {b:Addr} {o:Obj} (hb:b ∈ fp) (e:h.get? b = some o):(b,o) ∈ pinsAt fp h:=List.mem_filterMap.mpr ⟨b,hb,by rw [e]; rfl⟩
theorem of_pinsAt {fp:List Addr} {h:Heap} {p:Addr × Obj} (hp:p ∈ pinsAt fp h):p.1 ∈ fp∧h.get? p.1 = some p.2:=by
 obtain ⟨b,hb,e⟩:=List.mem_filterMap.mp hp
 cases q:h.get? b with
 | none=>rw [q] at e; cases e
 | some o =>
  rw [q] at e
  have e':(b,o) = p:=Option.some.inj e
  subst e'
  exact ⟨hb,q⟩
theorem Inv.pinned {pins:List (Addr × Obj)} {σ:St} {H:Hp} {s:Shared} {fp:List Addr} (I:Inv X pins σ H s) (hf:∀ b ∈ fp,FpOk X pins H b) (ho:∀ b ∈ fp,∃ o,s.heap.get? b = some o∧∀ v,o.data ≠ .cell v):Inv X (pins ++ pinsAt fp s.heap) σ H s :=
 I.pins_of fun p hp=>(List.mem_append.mp hp).elim (fun z=>I.pin p (List.mem_append_right _ z)) fun z=>by
  obtain ⟨hb,e⟩:=of_pinsAt z
  obtain ⟨f0,f1,f2,_⟩:=hf p.1 hb
  obtain ⟨o,e',d⟩:=ho p.1 hb
  rw [e] at e'; cases e'
  exact ⟨e,f0,f1,f2,d⟩
theorem Inv.unpinned {pins pl:List (Addr × Obj)} {σ:St} {H:Hp} {s:Shared} (I:Inv X (pins ++ pl) σ H s):Inv X pins σ H s:=I.pins_of fun p hp=>I.pin p (List.mem_append_right _ (List.mem_append_left _ hp))
theorem ps_for {iter:Expr} {body:List Stmt} {wi:TI} {g:TG} {tb:TS} {pos:Pos} (hp:PassesOwn (model X.prog X.w) X.A X.env X.xe) (_:True = True) (hi:PI X tg iter wi) (hg:PG X tg g) (hb:PSs X body tb)
  (hs:∀ x,foldedSetIterable iter X.env x = pure x:=by intro _; rfl):PS X (.For tg iter body [] pos) (tFor wi g tb):=by
 intro pins s σ H D I h
 refine wpAny_For (thn (hi pins s σ H _ I h) fun v s1 h1=>thn h1 fun itv s2 h2=>?_) hs
 obtain ⟨it,fp,tn,J,H2,e,I2,T,st2,f2,hc,W,⟨m0,w0⟩,turn⟩:=h2
 subst e
 have stat:∀ {H':Hp},(∀ b ∈ fp,H' b = none)→∀ b ∈ fp,FpOk X pins H' b:=fun hn b hb=>⟨hn b hb,(f2 b hb).2⟩
 refine codeAny_forLoop_any (fun n s'=>∃ i σ' H',Inv X pins σ' H' s'∧tn i s'.heap∧(∀ b ∈ fp,H' b = none)∧W i n σ' H') ?_ m0 ⟨0,σ,H2,I2,st2,fun b hb=>(f2 b hb).1,w0⟩
 rintro n s3 ⟨i,σ3,H3,I3,st3,fr3,w3⟩
 rcases turn i n σ3 H3 w3 with ⟨stop,qn⟩ | ⟨go,N,hN,step⟩
 ·refine wpAny_passesOwn hp (thn (T.done X rfl rfl rfl hc i pins s3 σ3 H3 X.xe I3 (stat fr3) st3 stop) fun r s4 ⟨hr,I4⟩=>?_)
  subst hr
  exact wpAny_execs_nil ⟨σ3,H3,I4,qn⟩
 ·refine wpAny_passesOwn hp (thn (T.item X rfl rfl rfl hc i pins s3 σ3 H3 X.xe I3 (stat fr3) st3 go) fun r s4 ⟨u,hr,h4⟩=>?_)
  subst hr
  refine wpAny_passesOwn hp (thn h4 fun _ s5 ⟨x,H5,I5,r5,y5,st5,fr5⟩=>?_)
  have I5':=I5.pinned (stat fr5) (T.obj _ _ st5)
  refine wpAny_passesOwn hp (thn (hg _ s5 σ3 H5 x u _ I5' r5 (step x H5 y5)) fun _ s6 ⟨σ6,H6,I6,q6⟩=>?_)
  refine wpAny_passesOwn hp (thn (hb _ s6 σ6 H6 _ I6 q6) fun f s7 q7=>?_)
  have again:∀ {σ7:St} {H7:Hp},Inv X (pins ++ pinsAt fp s5.heap) σ7 H7 s7→N σ7 H7→∃ m,m < n∧∃ i σ' H',Inv X pins σ' H' s7∧tn i s7.heap∧(∀ b ∈ fp,H' b = none)∧W i m σ' H':=fun {σ7 H7} I7 n7=>by
   obtain ⟨m',hm,w7⟩:=hN σ7 H7 n7
   refine ⟨m',hm,i + 1,σ7,H7,I7.unpinned,T.keep _ _ _ st5 fun b hb o e=>(I7.pin (b,o) (List.mem_append_right _ (List.mem_append_right _ (mem_pinsAt hb e)))).1,fun b hb=>?_,w7⟩
   obtain ⟨o,e,d⟩:=T.obj _ _ st5 b hb
   exact (I7.pin (b,o) (List.mem_append_right _ (List.mem_append_right _ (mem_pinsAt hb e)))).2.1
  cases f with
  | next=>obtain ⟨σ7,H7,I7,n7⟩:=q7; exact again I7 n7
  | cont=>obtain ⟨σ7,H7,I7,n7⟩:=q7; exact again I7 n7
  | brk=>obtain ⟨σ7,H7,I7,q7⟩:=q7; exact ⟨σ7,H7,I7.unpinned,q7⟩
  | ret v=>obtain ⟨x7,σ7,H7,I7,r7,q7⟩:=q7; exact ⟨x7,σ7,H7,I7.unpinned,r7,q7⟩
end
theorem for_list {K:PySem.W.Frag} {a:Addr} {xs:List V} {g:TG} {tb:TS} {D:Ends} {σ:St} {H:Hp} (Pv:Nat→St→Hp→Prop) (h0:Pv 0 σ H) (hl:∀ i σ H,i ≤ xs.length→Pv i σ H→SqL K H a xs)
  (hs:∀ i x σ H,xs[i]? = some x→Pv i σ H→g x σ H fun σ2 H2=>tb { D with nx:=Pv (i + 1),ct:=Pv (i + 1),bk:=D.nx } σ2 H2) (hd:∀ σ H,Pv xs.length σ H→D.nx σ H) :
  ∃ W:Nat→Nat→St→Hp→Prop,(∃ m,W 0 m σ H)∧∀ i m σ H,W i m σ H →
   ((Itl K a).stop i H∧D.nx σ H) ∨ ((Itl K a).go i H∧∃ N:St→Hp→Prop,(∀ σ' H',N σ' H'→∃ m',m' < m∧W (i + 1) m' σ' H')∧∀ x H',(Itl K a).yld i H x H'→g x σ H' fun σ2 H2=>tb { D with nx:=N,ct:=N,bk:=D.nx } σ2 H2):=by
 refine ⟨fun i m σ H=>m = xs.length - i∧i ≤ xs.length∧Pv i σ H,⟨xs.length,by simp,Nat.zero_le _,h0⟩,?_⟩
 rintro i m σ H ⟨rfl,hi,p⟩
 have q:=hl i σ H hi p
 by_cases hlt:i < xs.length
 ·refine .inr ⟨⟨xs,xs[i],q,by simp [hlt]⟩,Pv (i + 1),fun σ' H' p'=>⟨xs.length - (i + 1),by omega,rfl,hlt,p'⟩,fun x H' y=>?_⟩
  obtain ⟨e,y⟩:=y
  subst e
  exact hs i x σ _ (y xs q) p
 ·have e:i = xs.length:=by omega
  subst e
  exact .inl ⟨⟨xs,q,Nat.le_refl _⟩,hd σ H p⟩
end L2
namespace L2
open PySem PySem.Spec PyProof.Rows
abbrev R2:=V→V→Hp→VK→Prop
def OpR (X:Cx) (f:Value→Value→Sem Value) (r:R2):Prop :=
 ∀ (pins:List (Addr × Obj)) (s:Shared) (σ:St) (H:Hp) (x y:V) (v u:Value) (Q:VK),Inv X pins σ H s→RelV x v→RelV y u→r x y H Q →
  wpAny (model X.prog X.w) X.A (f v u) (EP X pins σ Q) X.xe s
def UnR (X:Cx) (f:Value→Sem Value) (r:V→Hp→VK→Prop):Prop :=
 ∀ (pins:List (Addr × Obj)) (s:Shared) (σ:St) (H:Hp) (x:V) (v:Value) (Q:VK),Inv X pins σ H s→RelV x v→r x H Q →
  wpAny (model X.prog X.w) X.A (f v) (EP X pins σ Q) X.xe s
def CallR (X:Cx) (f:Value) (r:List V→Hp→VK→Prop):Prop :=
 ∀ (pins:List (Addr × Obj)) (s:Shared) (σ:St) (H:Hp) (xs:List V) (us:List Value) (Q:VK),Inv X pins σ H s→Vals xs us→r xs H Q →
  wpAny (model X.prog X.w) X.A (call f us) (EP X pins σ Q) X.xe s
def tOp (r:R2) (ta tb:TE):TE:=fun σ H Q=>ta σ H fun x H1=>tb σ H1 fun y H2=>r x y H2 Q
def tUn (r:V→Hp→VK→Prop) (ta:TE):TE:=fun σ H Q=>ta σ H fun x H1=>r x H1 Q
def rI (C:Int→Int→Prop) (g:Int→Int→V):R2:=fun x y H Q=>∃ i j,x = .int i∧y = .int j∧C i j∧Q (g i j) H
def rI0 (g:Int→Int→V):R2:=fun x y H Q=>∃ i j,x = .int i∧y = .int j∧Q (g i j) H
def rU (g:Int→V):V→Hp→VK→Prop:=fun x H Q=>∃ i,x = .int i∧Q (g i) H
section
variable {X:Cx} {a b c:Expr} {ta tb tc:TE} {pos:Pos}
theorem binT (ha:PE X a ta) (hb:PE X b tb) {pins:List (Addr × Obj)} {s:Shared} {σ:St} {H:Hp} {R:V→V→Hp→Prop} (I:Inv X pins σ H s)
  (h:ta σ H fun x H1=>tb σ H1 fun y H2=>R x y H2) {Q:Value→Shared→Prop} {f:Value→Value→Sem Value}
  (hf:∀ v u s2 x y H2,Inv X pins σ H2 s2→RelV x v→RelV y u→R x y H2→wpAny (model X.prog X.w) X.A (f v u) Q X.xe s2) :
  wpAny (model X.prog X.w) X.A (eval a X.env) (fun v s₁=>wpAny (model X.prog X.w) X.A (eval b X.env) (fun u s₂=>wpAny (model X.prog X.w) X.A (f v u) Q X.xe s₂) X.xe s₁) X.xe s:=by
 refine thn (ha pins s σ H _ I h) fun v s1 ⟨x,H1,I1,r1,q1⟩=>?_
 refine thn (hb pins s1 σ H1 _ I1 q1) fun u s2 ⟨y,H2,I2,r2,q2⟩=>?_
 exact hf v u s2 x y H2 I2 r1 r2 q2
theorem pe_op {op:Operator} {r:R2} (ho:OpR X (binaryOp op) r) (ha:PE X a ta) (hb:PE X b tb):PE X (.BinOp a op b pos) (tOp r ta tb):=by
 intro pins s σ H Q I h
 exact wpAny_BinOp (binT ha hb I h fun v u s2 x y H2 I2 rx ry q=>ho pins s2 σ H2 x y v u Q I2 rx ry q)
theorem pe_un {op:UnaryOp} {r:V→Hp→VK→Prop} (ho:UnR X (unaryOp op) r) (ha:PE X a ta):PE X (.UnaryOp op a pos) (tUn r ta):=by
 intro pins s σ H Q I h
 exact UnaryOp_ (thn (ha pins s σ H _ I h) fun v s1 ⟨x,H1,I1,r1,q1⟩=>ho pins s1 σ H1 x v Q I1 r1 q1)
theorem opI {f:Value→Value→Sem Value} {C:Int→Int→Prop} {g:Int→Int→Int}
  (rule:∀ (i j:Int) (t u:Tok) (s:Shared) (Q:Value→Shared→Prop) (E:Value→Shared→Prop),C i j→Q (.int (g i j) s.toks) { s with toks:=s.toks + 1 }→wpAny (model X.prog X.w) X.A (f (.int i t) (.int j u)) Q E s) :
  OpR X f (rI C fun i j=>.int (g i j)):=by
 intro pins s σ H x y v u Q I rx ry h
 obtain ⟨i,j,rfl,rfl,hc,q⟩:=h
 obtain ⟨t,rfl⟩:=rx
 obtain ⟨t',rfl⟩:=ry
 exact rule i j t t' s _ _ hc ⟨.int (g i j),H,I.tok _,⟨_,rfl⟩,q⟩
theorem opI0 {f:Value→Value→Sem Value} {g:Int→Int→Int}
  (rule:∀ (i j:Int) (t u:Tok) (s:Shared) (Q:Value→Shared→Prop) (E:Value→Shared→Prop),Q (.int (g i j) s.toks) { s with toks:=s.toks + 1 }→wpAny (model X.prog X.w) X.A (f (.int i t) (.int j u)) Q E s) :
  OpR X f (rI0 fun i j=>.int (g i j)):=by
 intro pins s σ H x y v u Q I rx ry h
 obtain ⟨i,j,rfl,rfl,q⟩:=h
 obtain ⟨t,rfl⟩:=rx
 obtain ⟨t',rfl⟩:=ry
 exact rule i j t t' s _ _ ⟨.int (g i j),H,I.tok _,⟨_,rfl⟩,q⟩
theorem opB0 {f:Value→Value→Sem Value} {g:Int→Int→Bool}
  (rule:∀ (i j:Int) (t u:Tok) (s:Shared) (Q:Value→Shared→Prop) (E:Value→Shared→Prop),Q (.bool (g i j)) s→wpAny (model X.prog X.w) X.A (f (.int i t) (.int j u)) Q E s) :
  OpR X f (rI0 fun i j=>.bl (g i j)):=by
 intro pins s σ H x y v u Q I rx ry h
 obtain ⟨i,j,rfl,rfl,q⟩:=h
 obtain ⟨t,rfl⟩:=rx
 obtain ⟨t',rfl⟩:=ry
 exact rule i j t t' s _ _ ⟨.bl (g i j),H,I,rfl,q⟩
def CDiv (i j:Int):Prop:=0 < j∧j < 1073741824
def CPow (i j:Int):Prop:=0 ≤ j∧j ≤ 1000000∧i.natAbs < 2 ^ 64
def CMul (i j:Int):Prop:=(-(2 ^ 64) < i∧i < 2 ^ 64) ∨ (-(2 ^ 64) < j∧j < 2 ^ 64)
theorem CMul.ok {i j:Int} (h:CMul i j):IntMulOk i j:=by
 rcases h with ⟨h1,h2⟩ | ⟨h1,h2⟩
 ·exact .of_left (intBits_le_64 h1 h2)
 ·exact .of_right (intBits_le_64 h1 h2)
theorem op_add:OpR X (binaryOp .Add) (rI0 fun i j=>.int (i + j)):=opI0 fun _ _ _ _ _ _ _ q=>add_int q
theorem op_sub:OpR X (binaryOp .Sub) (rI0 fun i j=>.int (i - j)):=opI0 fun _ _ _ _ _ _ _ q=>sub_int q
theorem op_mul:OpR X (binaryOp .Mult) (rI CMul fun i j=>.int (i * j)):=opI fun _ _ _ _ _ _ _ hc q=>mul_int q hc.ok
theorem op_fdiv:OpR X (binaryOp .FloorDiv) (rI CDiv fun i j=>.int (i / j)):=opI fun i j _ _ _ _ _ hc q=>by
 have h1:(0:Int) < j:=hc.1
 have h2:j < 1073741824:=hc.2
 exact floordiv_int (by omega) (by rw [Int.fdiv_eq_ediv_of_nonneg i (by omega)]; exact q) (.inl (PyProof.noPylong_small (by omega)))
theorem op_mod:OpR X (binaryOp .Mod) (rI (fun _ j=>0 < j) fun i j=>.int (i % j)):=opI fun i j _ _ _ _ _ hc q=>by
 have h1:(0:Int) < j:=hc
 exact mod_int' (by omega) (by rw [Int.fmod_eq_emod_of_nonneg i (by omega)]; exact q)
theorem op_pow:OpR X (binaryOp .Pow) (rI CPow fun i j=>.int (i ^ j.toNat)):=opI fun _ _ _ _ _ _ _ hc q=>pow_int_small hc.1 hc.2.1 hc.2.2 q
theorem unI {f:Value→Sem Value} {g:Int→Int}
  (rule:∀ (i:Int) (t:Tok) (s:Shared) (Q:Value→Shared→Prop) (E:Value→Shared→Prop),Q (.int (g i) s.toks) { s with toks:=s.toks + 1 }→wpAny (model X.prog X.w) X.A (f (.int i t)) Q E s) :
  UnR X f (rU fun i=>.int (g i)):=by
 intro pins s σ H x v Q I rx h
 obtain ⟨i,rfl,q⟩:=h
 obtain ⟨t,rfl⟩:=rx
 exact rule i t s _ _ ⟨.int (g i),H,I.tok _,⟨_,rfl⟩,q⟩
theorem un_neg:UnR X (unaryOp .USub) (rU fun i=>.int (-i)):=unI fun _ _ _ _ _ q=>neg_int q
end
def scal:V→V→Bool
 | .non,.non=>true | .non,.int _=>true | .int _,.non=>true | .non,.bl _=>true | .bl _,.non=>true | .non,.str _=>true | .str _,.non=>true
 | .int _,.int _=>true | .bl _,.bl _=>true | .str _,.str _=>true | .byt _,.byt _=>true
 | .int _,.str _=>true | .str _,.int _=>true | .bl _,.str _=>true | .str _,.bl _=>true
 | _,_=>false
def rEq:R2:=fun x y H Q=>scal x y = true∧Q (.bl (decide (x = y))) H
def rNe:R2:=fun x y H Q=>scal x y = true∧Q (.bl (!decide (x = y))) H
theorem dec_int {i j:Int}:decide (V.int i = V.int j) = (i == j):=by
 rw [Bool.eq_iff_iff]
 simp
theorem dec_bl {i j:Bool}:decide (V.bl i = V.bl j) = (i == j):=by
 rw [Bool.eq_iff_iff]
 simp
theorem dec_str {i j:Str}:decide (V.str i = V.str j) = (i == j):=by
 rw [Bool.eq_iff_iff]
 simp
theorem dec_byt {i j:Array UInt8}:decide (V.byt i = V.byt j) = (i.toList == j.toList):=by
 rw [Bool.eq_iff_iff]
 cases i
 cases j
 simp
section
variable {X:Cx} {a b c:Expr} {ta tb tc:TE} {pos:Pos}
theorem fin_bl {pins:List (Addr × Obj)} {σ:St} {H:Hp} {s:Shared} {Q:VK} {k k':Bool} (I:Inv X pins σ H s) (q:Q (.bl k) H) (e:k = k'):EP X pins σ Q (.bool k') s:=by
 subst e
 exact ⟨.bl k,H,I,rfl,q⟩
theorem op_eq:OpR X (compareOp .Eq) rEq:=by
 intro pins s σ H x y v u Q I rx ry h
 obtain ⟨hs,q⟩:=h
 cases x with
 | non =>
  cases rx
  cases y with
  | non=>cases ry; exact PySem.EqNone.eq_none_none (fin_bl I q (by simp))
  | bl j=>cases ry; exact PySem.EqNone.eq_none_bool (fin_bl I q (by simp))
  | int j=>obtain ⟨t',rfl⟩:=ry; exact PySem.EqNone.eq_none_int (fin_bl I q (by simp))
  | str j=>obtain ⟨t',rfl⟩:=ry; exact PySem.EqNone.eq_none_str (fin_bl I q (by simp))
  | _=>exact absurd (show false = true from hs) Bool.false_ne_true
 | bl i =>
  cases rx
  cases y with
  | non=>cases ry; exact PySem.EqNone.eq_bool_none (fin_bl I q (by simp))
  | bl j=>cases ry; exact eq_bool (fin_bl I q dec_bl)
  | str j=>obtain ⟨t',rfl⟩:=ry; exact PySem.EqMixed.eq_bool_str (fin_bl I q (by simp))
  | _=>exact absurd (show false = true from hs) Bool.false_ne_true
 | int i =>
  obtain ⟨t,rfl⟩:=rx
  cases y with
  | non=>cases ry; exact PySem.EqNone.eq_int_none (fin_bl I q (by simp))
  | int j=>obtain ⟨t',rfl⟩:=ry; exact eq_int (fin_bl I q dec_int)
  | str j=>obtain ⟨t',rfl⟩:=ry; exact PySem.EqMixed.eq_int_str (fin_bl I q (by simp))
  | _=>exact absurd (show false = true from hs) Bool.false_ne_true
 | str i =>
  obtain ⟨t,rfl⟩:=rx
  cases y with
  | non=>cases ry; exact PySem.EqNone.eq_str_none (fin_bl I q (by simp))
  | bl j=>cases ry; exact PySem.EqMixed.eq_str_bool (fin_bl I q (by simp))
  | int j=>obtain ⟨t',rfl⟩:=ry; exact PySem.EqMixed.eq_str_int (fin_bl I q (by simp))
  | str j=>obtain ⟨t',rfl⟩:=ry; exact eq_str (fin_bl I q dec_str)
  | _=>exact absurd (show false = true from hs) Bool.false_ne_true
 | byt i =>
  obtain ⟨t,rfl⟩:=rx
  cases y with
  | byt j=>obtain ⟨t',rfl⟩:=ry; exact PySem.W.eq_bytes (fin_bl I q dec_byt)
  | _=>exact absurd (show false = true from hs) Bool.false_ne_true
 | _=>cases y <;> exact absurd (show false = true from hs) Bool.false_ne_true
theorem op_ne:OpR X (compareOp .NotEq) rNe:=by
 intro pins s σ H x y v u Q I rx ry h
 obtain ⟨hs,q⟩:=h
 cases x with
 | non =>
  cases rx
  cases y with
  | non=>cases ry; exact PySem.EqNone.ne_none_none (fin_bl I q (by simp))
  | bl j=>cases ry; exact PySem.EqNone.ne_none_bool (fin_bl I q (by simp))
  | int j=>obtain ⟨t',rfl⟩:=ry; exact PySem.EqNone.ne_none_int (fin_bl I q (by simp))
  | str j=>obtain ⟨t',rfl⟩:=ry; exact PySem.EqNone.ne_none_str (fin_bl I q (by simp))
  | _=>exact absurd (show false = true from hs) Bool.false_ne_true
 | bl i =>
  cases rx
  cases y with
  | non=>cases ry; exact PySem.EqNone.ne_bool_none (fin_bl I q (by simp))
  | bl j=>cases ry; exact ne_bool (fin_bl I q (congrArg not dec_bl))
  | str j=>obtain ⟨t',rfl⟩:=ry; exact PySem.EqMixed.ne_bool_str (fin_bl I q (by simp))
  | _=>exact absurd (show false = true from hs) Bool.false_ne_true
 | int i =>
  obtain ⟨t,rfl⟩:=rx
  cases y with
  | non=>cases ry; exact PySem.EqNone.ne_int_none (fin_bl I q (by simp))
  | int j=>obtain ⟨t',rfl⟩:=ry; exact ne_int (fin_bl I q (congrArg not dec_int))
  | str j=>obtain ⟨t',rfl⟩:=ry; exact PySem.EqMixed.ne_int_str (fin_bl I q (by simp))
  | _=>exact absurd (show false = true from hs) Bool.false_ne_true
 | str i =>
  obtain ⟨t,rfl⟩:=rx
  cases y with
  | non=>cases ry; exact PySem.EqNone.ne_str_none (fin_bl I q (by simp))
  | bl j=>cases ry; exact PySem.EqMixed.ne_str_bool (fin_bl I q (by simp))
  | int j=>obtain ⟨t',rfl⟩:=ry; exact PySem.EqMixed.ne_str_int (fin_bl I q (by simp))
  | str j=>obtain ⟨t',rfl⟩:=ry; exact ne_str (fin_bl I q (congrArg not dec_str))
  | _=>exact absurd (show false = true from hs) Bool.false_ne_true
 | byt i =>
  obtain ⟨t,rfl⟩:=rx
  cases y with
  | byt j=>obtain ⟨t',rfl⟩:=ry; exact PySem.W.ne_bytes (fin_bl I q (congrArg not dec_byt))
  | _=>exact absurd (show false = true from hs) Bool.false_ne_true
 | _=>cases y <;> exact absurd (show false = true from hs) Bool.false_ne_true
theorem op_lt:OpR X (compareOp .Lt) (rI0 fun i j=>.bl (decide (i < j))):=opB0 fun _ _ _ _ _ _ _ q=>lt_int q
theorem op_le:OpR X (compareOp .LtE) (rI0 fun i j=>.bl (decide (i ≤ j))):=opB0 fun _ _ _ _ _ _ _ q=>le_int q
theorem op_gt:OpR X (compareOp .Gt) (rI0 fun i j=>.bl (decide (j < i))):=opB0 fun _ _ _ _ _ _ _ q=>gt_int q
theorem op_notN:OpR X (compareOp .IsNot) (fun x y H Q=>y = .non∧Q (.bl (!decide (x = .non))) H):=by
 intro pins s σ H x y v u Q I rx ry h
 obtain ⟨rfl,q⟩:=h
 cases ry
 refine isnot_none_gen (fin_bl I q ?_)
 cases x <;> first
  | (cases rx; rfl)
  | (obtain ⟨t,rfl⟩:=rx; rfl)
theorem nomark (b:Expr) {op:CmpOp} (h:op ≠ .In:=by decide) (h2:op ≠ .NotIn:=by decide):behindInMarks op b = false:=by
 have e1:(op == CmpOp.In) = false:=by cases op <;> first | rfl | exact absurd rfl h
 have e2:(op == CmpOp.NotIn) = false:=by cases op <;> first | rfl | exact absurd rfl h2
 cases b <;> simp [behindInMarks,e1,e2]
theorem pe_cmpR {op:CmpOp} {r:R2} (ho:OpR X (compareOp op) r) (ha:PE X a ta) (hb:PE X b tb) (hm:behindInMarks op b = false):PE X (.Compare a [op] [b] pos) (tOp r ta tb):=by
 intro pins s σ H Q I h
 exact wpAny_Compare1 (binT ha hb I h fun v u s2 x y H2 I2 rx ry q=>ho pins s2 σ H2 x y v u Q I2 rx ry q) hm
def tTest (t:TE):TT:=fun σ H Q=>t σ H fun x H'=>∃ k,x = .bl k∧Q k H'
theorem pt_cmpR {op:CmpOp} {r:R2} (ho:OpR X (compareOp op) r) (ha:PE X a ta) (hb:PE X b tb) (hm:behindInMarks op b = false):PT X (.Compare a [op] [b] pos) (tTest (tOp r ta tb)):=by
 intro pins s σ H Q I h
 refine wpAny_isTrue_Compare1 (thn (ha pins s σ H _ I h) fun v s1 ⟨x,H1,I1,r1,q1⟩=>thn (hb pins s1 σ H1 _ I1 q1) fun u s2 ⟨y,H2,I2,r2,q2⟩ =>
  thn (ho pins s2 σ H2 x y v u _ I2 r1 r2 q2) fun c s3 ⟨z,H3,I3,r3,k,e,q3⟩=>?_) hm
 subst e
 cases r3
 exact wpAny_truthy_bool ⟨H3,I3,q3⟩
def tChain (r r':R2) (ta tb tc:TE):TE:=fun σ H Q=>ta σ H fun x H1=>tb σ H1 fun y H2=>r x y H2 fun z H3=>∃ k,z = .bl k ∧
 (if k = true then tc σ H3 fun w' H4=>r' y w' H4 Q else Q (.bl false) H3)
theorem pe_chain {op op':CmpOp} {r r':R2} (ho:OpR X (compareOp op) r) (ho':OpR X (compareOp op') r') (ha:PE X a ta) (hb:PE X b tb) (hc:PE X c tc)
  (hm:lastMarks [op,op'] [b,c] = false:=by with_unfolding_all rfl):PE X (.Compare a [op,op'] [b,c] pos) (tChain r r' ta tb tc):=by
 intro pins s σ H Q I h
 refine Compare_chain (thn (ha pins s σ H _ I h) fun v s1 ⟨x,H1,I1,r1,q1⟩=>chain_link (thn (hb pins s1 σ H1 _ I1 q1) fun u s2 ⟨y,H2,I2,r2,q2⟩ =>
  thn (ho pins s2 σ H2 x y v u _ I2 r1 r2 q2) fun d s3 ⟨z,H3,I3,r3,k,e,q3⟩=>?_)) hm
 subst e
 cases r3
 refine wpAny_truthy_bool ?_
 cases k with
 | false=>exact ite_ff ⟨.bl false,H3,I3,rfl,q3⟩
 | true=>exact ite_tt (chain_last (thn (hc pins s3 σ H3 _ I3 q3) fun w' s4 ⟨z',H4,I4,r4,q4⟩=>ho' pins s4 σ H4 y z' u w' Q I4 r2 r4 q4))
theorem pt_chain {op op':CmpOp} {r r':R2} (ho:OpR X (compareOp op) r) (ho':OpR X (compareOp op') r') (ha:PE X a ta) (hb:PE X b tb) (hc:PE X c tc)
  (hm:lastMarks [op,op'] [b,c] = false:=by with_unfolding_all rfl):PT X (.Compare a [op,op'] [b,c] pos) (tTest (tChain r r' ta tb tc)):=by
 intro pins s σ H Q I h
 refine isTrue_chain (thn (ha pins s σ H _ I h) fun v s1 ⟨x,H1,I1,r1,q1⟩=>test_link (thn (hb pins s1 σ H1 _ I1 q1) fun u s2 ⟨y,H2,I2,r2,q2⟩ =>
  thn (ho pins s2 σ H2 x y v u _ I2 r1 r2 q2) fun d s3 ⟨z,H3,I3,r3,k,e,q3⟩=>?_)) hm
 subst e
 cases r3
 refine wpAny_truthy_bool ?_
 cases k with
 | false =>
  obtain ⟨k',e',q'⟩:=q3
  cases e'
  exact ite_ff ⟨H3,I3,q'⟩
 | true =>
  refine ite_tt (test_last (thn (hc pins s3 σ H3 _ I3 q3) fun w' s4 ⟨z',H4,I4,r4,q4⟩=>thn (ho' pins s4 σ H4 y z' u w' _ I4 r2 r4 q4) fun d' s5 ⟨z2,H5,I5,r5,k2,e2,q5⟩=>?_))
  subst e2
  cases r5
  exact wpAny_truthy_bool ⟨H5,I5,q5⟩
theorem line63:(sizeLine:Nat) < 2 ^ 63:=by rw [sizeLine_eq]; decide
theorem vals1 {x:V} {us:List Value} (r:Vals [x] us):∃ u,us = [u]∧RelV x u:=by
 cases r with
 | cons r1 r2=>cases r2; exact ⟨_,rfl,r1⟩
theorem vals2 {x y:V} {us:List Value} (r:Vals [x,y] us):∃ u w',us = [u,w']∧RelV x u∧RelV y w':=by
 cases r with
 | cons r1 r2 =>
  cases r2 with
  | cons r3 r4=>cases r4; exact ⟨_,_,rfl,r1,r3⟩
end
end L2
namespace L2
open PySem PySem.Spec PyProof.Rows
structure ObjM (h:Heap) (x dx C:Addr) (mA:Str→Option Value):Prop where
 obj:h.get? x = some (PySem.W.instObj C dx)
 ns:h.Ns1 dx mA
 ne:dx ≠ x
theorem lookIn_ns {h:Heap} {dx:Addr} {mA:Str→Option Value} (n:h.Ns1 dx mA):∃ od,h.get? dx = some od∧∀ name,PySem.W.lookIn name od = some (mA name):=by
 obtain ⟨o,es,ep,ho,hd,hk,_,hm⟩:=n
 refine ⟨o,ho,fun name=>?_⟩
 have e:=hm name
 unfold nsFind findBy at e
 rw [← Array.find?_toList] at e
 unfold PySem.W.lookIn
 rw [hd]
 dsimp only
 split
 ·rename_i y q
  rw [q] at e
  exact congrArg some e
 ·rename_i q
  rw [q] at e
  have a:es.toList.any (·.refKey) = false:=by
   rw [List.any_eq_false]
   intro y hy
   obtain ⟨z,t,hkey⟩:=hk y (Array.mem_toList_iff.mp hy)
   simp [DictEntry.refKey,hkey]
  have a':¬ es.toList.any (·.refKey) = true:=by rw [a]; exact Bool.false_ne_true
  rw [if_neg a']
  exact congrArg some e
theorem ObjM.look {h:Heap} {x dx C:Addr} {mA:Str→Option Value} (I:ObjM h x dx C mA):∃ od,PySem.W.InstAt h x (PySem.W.instObj C dx) C (some od)∧∀ name,PySem.W.lookIn name od = some (mA name) :=
 let ⟨od,ho,hl⟩:=lookIn_ns I.ns
 ⟨od,⟨I.obj,rfl,rfl,ho⟩,hl⟩
section
variable {prog:Program} {w:World} {A:Around} {E:Value→Shared→Prop} {s:Shared} {K:PySem.W.Frag} {x dx C f:Addr} {mA:Str→Option Value} {name:Str} {v:Value}
theorem get_map {expr:Bool} {Q:Value→Shared→Prop} (X:K.In s.heap) (I:ObjM s.heap x dx C mA) (hg:PySem.W.plainGet K C name = true) (hh:PySem.W.hasDictIn K C = true)
  (ha:PySem.W.findIn K (.ref C) name = some none) (hv:mA name = some v) (hv':PySem.W.handedIn v = true) (h:Q v { s with toks:=s.toks + 1 }) :
  wpAny (model prog w) A (getAttr (.ref x) name expr) Q E s:=by
 obtain ⟨od,J,hl⟩:=I.look
 exact PySem.W.get_value X J (PySem.W.plainGet_of hg).1 (PySem.W.findObj_own hh ha rfl (by rw [hl,hv])) hv' h
theorem get_meth {pl:Sem Bool} {Q:Value × List Value→Shared→Prop} (X:K.In s.heap) (I:ObjM s.heap x dx C mA) (hg:PySem.W.plainGet K C name = true)
  (hf:PySem.W.findIn K (.ref C) name = some (some (.ref f))) (ht:PySem.W.isFn K (.ref f) = true) (hv:mA name = none) (h:Q (.ref f,[.ref x]) s) :
  wpAny (model prog w) A (getMethod (.ref x) name pl) Q E s:=by
 obtain ⟨od,J,hl⟩:=I.look
 exact PySem.W.method_fn X J (PySem.W.plainGet_of hg).1 (PySem.W.plainGet_of hg).2 hf (beq_iff_eq.mp ht) (by show (PySem.W.lookIn name od).map (·.isSome) = some false; rw [hl,hv]; rfl) h
theorem set_map {ns:List Str} {Q:Unit→Shared→Prop} (X:K.In s.heap) (I:ObjM s.heap x dx C mA)
  (hs:PySem.W.findIn K (.ref C) "__setattr__" = some (some (.builtin "object.__setattr__"))) (hp:PySem.W.plainOver K C = true) (ht:PySem.W.takerIn K C name = some none) (hh:PySem.W.hasDictIn K C = true)
  (hw:PySem.Within mA ns) (hsz:ns.length ≤ sizeLine)
  (h:∀ h',ObjM h' x dx C (fun y=>if y = name then some v else mA y)→Heap.SameBut dx s.heap h'→Q () { s with heap:=h',toks:=s.toks + 2 }) :
  wpAny (model prog w) A (setAttr (.ref x) name v) Q E s:=by
 obtain ⟨od,J,hl⟩:=I.look
 refine PySem.W.set_plain X J hs (PySem.W.osa_open (s:={ s with toks:=s.toks + 1 }) (r:=none) X J hp ht fun b=>?_)
 obtain ⟨cd,hc,hd'⟩:=PySem.W.any_some hh
 have hx:s.heap.get? x = some ⟨.ref C,some dx,.plain,#[]⟩:=I.obj
 refine wpAny_bind (wpAny_pure (wpAny_bind (wpAny_bind (wpAny_loadPart hx (wpAny_bind (PySem.W.Looks.here (s:={ s with toks:=s.toks + 1 }) (PySem.W.looks_clsIn X hc) ?_))))))
 rw [hd']
 refine wpAny_pure (a:=some dx) (wpAny_bind (wpAny_pure (wpAny_bind ?_)))
 refine wpAny_nsSet1 (s:={ s with toks:=s.toks + 1 }) I.ns fun h' hn2 hs2=>?_
 obtain ⟨oD,esD,epD,hoD,hdD,hcD⟩:=hn2.count (PySem.Within.cons name v hw)
 refine wpAny_bind (wpAny_lookBehind hoD (by rw [hdD]; exact pastItsLine_dict (Nat.le_trans hcD (by rw [List.length_cons]; omega))) ?_)
 exact wpAny_pure (h _ ⟨(hs2.2 _ (Ne.symm I.ne)).trans I.obj,hn2,I.ne⟩ hs2)
theorem make_map {R:Result→Shared→Prop} {vs:List Value} {kw:List (Str × Value)} (X:K.In s.heap) (hm:PySem.W.makesIn K C = true)
  (hi:PySem.W.findIn K (.ref C) "__init__" = some (some (.ref f))) (hf:PySem.W.typeIn K (.ref f) = some (.type "function"))
  (h:codeAny (model prog w) (A.under (.builtin "type.__call__" ⟨.ref C :: vs,kw⟩)) (.call (.ref f) ⟨.ref (s.heap.objs.size + 1) :: vs,kw⟩) (PySem.W.InitBack (s.heap.objs.size + 1) R)
   { s with heap:=(s.heap.push PySem.W.emptyDict).push (PySem.W.instObj C s.heap.objs.size) }) :
  codeAny (model prog w) A (.call (.ref C) ⟨vs,kw⟩) R s:=by
 obtain ⟨hh,g,d,t,os⟩:=s
 exact PySem.W.make_core (PySem.W.makes_of X hm) (PySem.W.looks_findIn X hi) (fun self=>PySem.W.bind_fn X self hf) (.inl rfl) h
end
def putF (f:Str) (v:V):List (Str × V)→List (Str × V)
 | []=>[(f,v)]
 | (g,x) :: r=>if g = f then (g,v) :: r else (g,x) :: putF f v r
theorem lookup_putF (f g:Str) (v:V):∀ fs:List (Str × V),(putF f v fs).lookup g = if g = f then some v else fs.lookup g
 | []=>by
  show List.lookup g [(f,v)] = _
  by_cases h:g = f
  ·have hb:(g == f) = true:=beq_iff_eq.mpr h
   simp only [List.lookup,hb,if_pos h]
  ·have hb:(g == f) = false:=beq_eq_false_iff_ne.mpr h
   simp only [List.lookup,hb,if_neg h]
 | (k,x) :: r=>by
  have ih:=lookup_putF f g v r
  rw [show putF f v ((k,x) :: r) = (if k = f then (k,v) :: r else (k,x) :: putF f v r) from rfl]
  by_cases hk:k = f
  ·rw [if_pos hk]
   by_cases h:g = k
   ·have hb:(g == k) = true:=beq_iff_eq.mpr h
    simp only [List.lookup,hb,if_pos (h.trans hk)]
   ·have hb:(g == k) = false:=beq_eq_false_iff_ne.mpr h
    simp only [List.lookup,hb,if_neg (fun e:g = f=>h (e.trans hk.symm))]
  ·rw [if_neg hk]
   by_cases h:g = k
   ·have hb:(g == k) = true:=beq_iff_eq.mpr h
    simp only [List.lookup,hb,if_neg (fun e:g = f=>hk (h.symm.trans e))]
   ·have hb:(g == k) = false:=beq_eq_false_iff_ne.mpr h
    simp only [List.lookup,hb]
    exact ih
theorem keys_putF (f:Str) (v:V):∀ fs:List (Str × V),f ∈ (putF f v fs).map (·.1)∧∀ g,g ∈ fs.map (·.1)→g ∈ (putF f v fs).map (·.1)
 | []=>⟨by simp [putF],fun g h=>by simp at h⟩
 | (k,x) :: r=>by
  obtain ⟨i1,i2⟩:=keys_putF f v r
  rw [show putF f v ((k,x) :: r) = (if k = f then (k,v) :: r else (k,x) :: putF f v r) from rfl]
  by_cases hk:k = f
  ·rw [if_pos hk]
   subst hk
   exact ⟨by simp,fun g h=>by simpa using h⟩
  ·rw [if_neg hk]
   refine ⟨?_,fun g h=>?_⟩
   ·rw [List.map_cons]
    exact List.mem_cons_of_mem _ i1
   ·rw [List.map_cons] at h ⊢
    rcases List.mem_cons.mp h with e | e
    ·exact List.mem_cons.mpr (.inl e)
    ·exact List.mem_cons_of_mem _ (i2 g e)
theorem length_putF (f:Str) (v:V):∀ fs:List (Str × V),(putF f v fs).length ≤ fs.length + 1
 | []=>by simp [putF]
 | (k,x) :: r=>by
  have ih:=length_putF f v r
  rw [show putF f v ((k,x) :: r) = (if k = f then (k,v) :: r else (k,x) :: putF f v r) from rfl]
  by_cases hk:k = f
  ·rw [if_pos hk,List.length_cons,List.length_cons]; omega
  ·rw [if_neg hk,List.length_cons,List.length_cons]; omega
theorem RelO.some_of {v:V} {o:Option Value} (r:RelO (some v) o):∃ u,o = some u∧RelV v u:=by
 cases o with
 | none=>exact (show False from r).elim
 | some u=>exact ⟨u,rfl,r⟩
theorem RelO.none_of {o:Option Value} (r:RelO none o):o = none:=by
 cases o with
 | none=>rfl
 | some u=>exact (show False from r).elim
theorem handed_of {v:V} {u:Value} (r:RelV v u):PySem.W.handedIn u = true:=by
 cases v with
 | non=>cases (show u = Value.none from r); rfl
 | bl b=>cases (show u = Value.bool b from r); rfl
 | int i=>obtain ⟨t,e⟩:=(show ∃ t,u = Value.int i t from r); cases e; rfl
 | str x=>obtain ⟨t,e⟩:=(show ∃ t,u = Value.str x t from r); cases e; rfl
 | byt b=>obtain ⟨t,e⟩:=(show ∃ t,u = Value.bytes b t from r); cases e; rfl
 | flt b=>obtain ⟨t,e⟩:=(show ∃ t,u = Value.float b t from r); cases e; rfl
 | ref a=>cases (show u = Value.ref a from r); rfl
 | ty n=>cases (show u = Value.type n from r); rfl
section
variable {P:Program} {w:World} {H H':Hp} {h h':Heap} {a C dx:Addr} {fs fs':List (Str × V)}
theorem ins_get (hok:HOk P w H h) (e:H a = some (.ins C dx fs)):∃ mA,ObjM h a dx C mA∧(∀ f,RelO (fs.lookup f) (mA f))∧PySem.Within mA (fs.map (·.1))∧fs.length ≤ 1000∧H dx = some (.own a):=by
 obtain ⟨d,z,ne,ob,mA,n,r,q⟩:=(show ObjOk P w H h a (.ins C dx fs) from hok a _ e)
 exact ⟨mA,⟨ob,n,ne⟩,r,q,z,d⟩
end
structure Cls (K:PySem.W.Frag) (C:Addr):Prop where
 pg:PySem.W.plainGet K C Str.empty = true
 hd:PySem.W.hasDictIn K C = true
 po:PySem.W.plainOver K C = true
 sa:PySem.W.findIn K (.ref C) "__setattr__" = some (some (.builtin "object.__setattr__"))
theorem Cls.get {K:PySem.W.Frag} {C:Addr} (c:Cls K C) (f:Str):PySem.W.plainGet K C f = true:=c.pg
def NoAttr (K:PySem.W.Frag) (C:Addr) (f:Str):Prop:=PySem.W.findIn K (.ref C) f = some none
theorem NoAttr.taker {K:PySem.W.Frag} {C:Addr} {f:Str} (n:NoAttr K C f):PySem.W.takerIn K C f = some none:=by
 unfold PySem.W.takerIn
 rw [show PySem.W.findIn K (.ref C) f = some none from n]
 rfl
structure Meth (K:PySem.W.Frag) (C:Addr) (m:Str) (f:Addr):Prop where
 at_:PySem.W.findIn K (.ref C) m = some (some (.ref f))
 fn:PySem.W.isFn K (.ref f) = true
 kp:PySem.W.keepIn K (.ref f) = true
section
variable {X:Cx} {pins:List (Addr × Obj)} {σ:St} {H:Hp} {s:Shared} {a C dx:Addr} {fs:List (Str × V)} {f:Str} {v:V} {A:Around} {E:Value→Shared→Prop}
theorem getattr_ok {b:Bool} {Q:Value→Shared→Prop} (I:Inv X pins σ H s) (e:H a = some (.ins C dx fs)) (c:Cls X.K C) (n:NoAttr X.K C f) (l:fs.lookup f = some v)
  (h:∀ u s',Inv X pins σ H s'→RelV v u→Q u s'):wpAny (model X.prog X.w) A (getAttr (.ref a) f b) Q E s:=by
 obtain ⟨mA,O,r,_,_,_⟩:=ins_get I.hok e
 obtain ⟨u,hu,ru⟩:=RelO.some_of (v:=v) (o:=mA f) (by rw [← l]; exact r f)
 exact get_map I.kIn O (c.get f) c.hd n hu (handed_of ru) (h u _ (I.tok _) ru)
theorem getmeth_ok {m:Str} {g:Addr} {pl:Sem Bool} {Q:Value × List Value→Shared→Prop} (I:Inv X pins σ H s) (e:H a = some (.ins C dx fs)) (c:Cls X.K C) (k:Meth X.K C m g) (l:fs.lookup m = none)
  (h:Q (.ref g,[.ref a]) s):wpAny (model X.prog X.w) A (getMethod (.ref a) m pl) Q E s:=by
 obtain ⟨mA,O,r,_,_,_⟩:=ins_get I.hok e
 have hn:mA m = none:=RelO.none_of (by rw [← l]; exact r m)
 exact get_meth I.kIn O (c.get m) k.at_ k.fn hn h
theorem setattr_ok {y:V} {u:Value} {Q:Unit→Shared→Prop} (I:Inv X pins σ H s) (e:H a = some (.ins C dx fs)) (c:Cls X.K C) (n:NoAttr X.K C f) (hl:fs.length < 1000) (ry:RelV y u)
  (h:∀ s',Inv X pins σ (upd H a (.ins C dx (putF f y fs))) s'→Q () s'):wpAny (model X.prog X.w) A (setAttr (.ref a) f u) Q E s:=by
 obtain ⟨mA,O,r,wi,_,ho⟩:=ins_get I.hok e
 have hz:(fs.map (·.1)).length ≤ sizeLine:=by rw [List.length_map,sizeLine_eq]; omega
 refine set_map I.kIn O c.sa c.po n.taker c.hd wi hz fun h' O' sb=>h _ ?_
 have hd:∃ o,h'.get? dx = some o:=let ⟨o,_,_,e',_⟩:=O'.ns; ⟨o,e'⟩
 refine I.write (x:=a) (e:=dx) (by rw [e]; exact True.intro) (.inr ho) (fun b q hb z=>(sb.2 b hb).trans z) hd ?_
 refine ⟨by rw [upd_ne O.ne]; exact ho,?_,O.ne,O'.obj,_,O'.ns,fun g=>?_,fun g hg=>?_⟩
 ·have:=length_putF f y fs; omega
 ·show RelO ((putF f y fs).lookup g) (if g = f then some u else mA g)
  rw [lookup_putF]
  by_cases q:g = f
  ·rw [if_pos q,if_pos q]; exact ry
  ·rw [if_neg q,if_neg q]; exact r g
 ·by_cases q:g = f
  ·rw [q]; exact (keys_putF f y fs).1
  ·refine (keys_putF f y fs).2 g (wi g fun z=>hg ?_)
   show (if g = f then some u else mA g) = none
   rw [if_neg q]; exact z
theorem Inv.made (I:Inv X pins σ H s):Inv X pins σ (upd (upd H s.heap.objs.size (.own (s.heap.objs.size + 1))) (s.heap.objs.size + 1) (.ins C s.heap.objs.size []))
  { s with heap:=(s.heap.push PySem.W.emptyDict).push (PySem.W.instObj C s.heap.objs.size) }:=by
 have e1:(s.heap.push PySem.W.emptyDict).get? s.heap.objs.size = some PySem.W.emptyDict:=Heap.get?_push_size s.heap rfl
 have e2:((s.heap.push PySem.W.emptyDict).push (PySem.W.instObj C s.heap.objs.size)).get? (s.heap.objs.size + 1) = some (PySem.W.instObj C s.heap.objs.size):=by
  have:=Heap.get?_push_size (s.heap.push PySem.W.emptyDict) (o:=PySem.W.instObj C s.heap.objs.size) rfl
  rwa [Heap.size_push] at this
 have e3:(s.heap.push PySem.W.emptyDict).Ns s.heap.objs.size (fun _=>none):=⟨PySem.W.emptyDict,#[],_,e1,rfl,(fun e he=>absurd he (by simp)),fun _=>rfl⟩
 have I1:=I.laid (a:=s.heap.objs.size) (o:=.own (s.heap.objs.size + 1)) (h':=s.heap.push PySem.W.emptyDict) (t':=s.toks) (fun b u q=>Heap.get?_push_of_some _ q) (Nat.le_refl _) ⟨_,e1⟩
 refine I1.laid (a:=s.heap.objs.size + 1) (o:=.ins C s.heap.objs.size []) (t':=s.toks) (fun b u q=>Heap.get?_push_of_some _ q) (Nat.le_of_eq (Heap.size_push _ _)) ?_
 have ne:s.heap.objs.size ≠ s.heap.objs.size + 1:=Nat.ne_of_lt (Nat.lt_succ_self _)
 refine ⟨by rw [upd_ne ne,upd_same],Nat.zero_le _,ne,e2,fun _=>none,(Heap.Ns1.of_empty e3).at fun o q=>Heap.get?_push_of_some _ q,fun _=>True.intro,fun y hy=>absurd rfl hy⟩
theorem attr_of {prog:Program} {w:World} {env:Env} {e:Expr} {f:Str} {pos:Pos} {s:Shared} {Q:Value→Shared→Prop} (hb:attributeBase e f env (eval e env) = eval e env)
  (h:wpAny (model prog w) A (eval e env) (fun o s₁=>wpAny (model prog w) A (getAttr o f true) Q E s₁) E s):wpAny (model prog w) A (eval (.Attribute e f pos) env) Q E s :=
 Attribute_any_ h (by rw [arm_eval_Attribute,hb])
end
def tFld (K:PySem.W.Frag) (ta:TE) (f:Str):TE:=fun σ H Q=>ta σ H fun x H1=>∃ a C dx fs v,x = .ref a∧H1 a = some (.ins C dx fs)∧Cls K C∧NoAttr K C f∧fs.lookup f = some v∧Q v H1
def sFld (K:PySem.W.Frag) (ta tv:TE) (f:Str):TS:=fun D σ H=>tv σ H fun y H1=>ta σ H1 fun x H2=>∃ a C dx fs,x = .ref a∧H2 a = some (.ins C dx fs)∧Cls K C∧NoAttr K C f∧fs.length < 1000 ∧
 D.nx σ (upd H2 a (.ins C dx (putF f y fs)))
section
variable {X:Cx} {o e value:Expr} {f:Str} {pos pos' tpos:Pos} {ta tv:TE}
theorem pe_fld (he:PE X e ta) (hb:attributeBase e f X.env (eval e X.env) = eval e X.env):PE X (.Attribute e f pos) (tFld X.K ta f):=by
 intro pins s σ H Q I h
 refine attr_of hb (thn (he pins s σ H _ I h) fun u s1 ⟨x,H1,I1,rx,a,C,dx,fs,v,ex,ea,c,n,l,q⟩=>?_)
 subst ex
 obtain rfl:u = Value.ref a:=rx
 exact getattr_ok I1 ea c n l fun u' s2 I2 ru=>⟨v,H1,I2,ru,q⟩
theorem ps_fld (ha:PE X o ta) (hv:PE X value tv) (hs:swapsWith value (some (.Attribute o f pos')) pos.line X.env = pure false):PS X (.Assign [.Attribute o f pos'] value pos) (sFld X.K ta tv f):=by
 intro pins s σ H D I h
 refine plainObj_wpAny_Assign_Attribute (thn (hv pins s σ H _ I h) fun u s1 ⟨y,H1,I1,ry,q⟩=>thn (ha pins s1 σ H1 _ I1 q) fun ov s2 ⟨x,H2,I2,rx,a,C,dx,fs,ex,ea,c,n,l,q2⟩=>?_) hs
 subst ex
 obtain rfl:ov = Value.ref a:=rx
 exact setattr_ok I2 ea c n l ry fun s3 I3=>⟨σ,_,I3,q2⟩
theorem methcall_of {pl:Sem Bool} {m:Str} {apos:Pos} {args:List Expr} {pins:List (Addr × Obj)} {s:Shared} {σ:St} {H:Hp} {Q:Value→Shared→Prop} {te:TE} (he:PE X e te) (I:Inv X pins σ H s)
  (h:te σ H fun x H1=>∃ a C dx fs g,x = .ref a∧H1 a = some (.ins C dx fs)∧Cls X.K C∧Meth X.K C m g∧fs.lookup m = none ∧
   ∀ s1,Inv X pins σ H1 s1→wpAny (model X.prog X.w) X.A (callWith pos (.ref g) [.ref a] (backTo pos (starEach args X.env)) (backToKw pos (keywordEach [] X.env))) Q X.xe s1)
  (ht:eval (.Call (.Attribute e m apos) args [] pos) X.env = (do
   let ov ← eval e X.env
   standAt apos.atName
   let (f,first) ← holding [ov] (getMethod ov m pl)
   callWith pos f first (backTo pos (starEach args X.env)) (backToKw pos (keywordEach [] X.env)))) :
  wpAny (model X.prog X.w) X.A (eval (.Call (.Attribute e m apos) args [] pos) X.env) Q X.xe s:=by
 refine PySem.W.methodCall_KW (pl:=pl) (thn (he pins s σ H _ I h) fun u s1 ⟨x,H1,I1,rx,a,C,dx,fs,g,ex,ea,c,k,l,q⟩=>?_) ht
 subst ex
 obtain rfl:u = Value.ref a:=rx
 exact getmeth_ok I1 ea c k l (q s1 I1)
end
section
variable {X:Cx} {pins:List (Addr × Obj)} {σ:St} {H:Hp} {s:Shared} {A:Around} {E:Value→Shared→Prop} {Q:Value→Shared→Prop} {c:Value} {b:Bool}
inductive TyOf (K:PySem.W.Frag) (H:Hp):V→Value→Prop where
 | non:TyOf K H .non (.type "NoneType")
 | bl (x:Bool):TyOf K H (.bl x) (.type "bool")
 | int (i:Int):TyOf K H (.int i) (.type "int")
 | str (x:Str):TyOf K H (.str x) (.type "str")
 | flt (x:UInt64):TyOf K H (.flt x) (.type "float")
 | lst {a:Addr} {xs:List V} (e:H a = some (.lst xs)):TyOf K H (.ref a) (.type "list")
 | frz {a:Addr} {o:Obj} {xs:List V} (e:H a = some (.frz o (.lst xs))):TyOf K H (.ref a) (.type "list")
 | tup {a:Addr} {xs:List V} (e:H a = some (.tup xs)):TyOf K H (.ref a) (.type "tuple")
 | dK {a:Addr} {kvs:List (Key × V)} (e:H a = some (.dK kvs)):TyOf K H (.ref a) (.type "dict")
 | dT {a:Addr} {kvs:List (List Key × V)} (e:H a = some (.dT kvs)):TyOf K H (.ref a) (.type "dict")
 | ins {a C dx:Addr} {fs:List (Str × V)} (e:H a = some (.ins C dx fs)) (cl:Cls K C) (ha:PySem.W.findIn K (.ref C) "__class__" = some (some (.builtin "object.__class__")))
   (hn:PySem.W.specialIn K (.builtin "object.__class__") "__get__" = some (some (.builtin "getset_descriptor.__get__"))) (htk:PySem.W.takesIn K (.builtin "object.__class__") = some true)
   (hm:PySem.W.mroIn K C (.type "object") = some true):TyOf K H (.ref a) (.ref C)
theorem isinst_ok {x:V} {u t:Value} (I:Inv X pins σ H s) (rx:RelV x u) (ty:TyOf X.K H x t) (e:PySem.W.kitOne X.K t c = some b) (h:∀ tk,Q (.bool b) { s with toks:=tk }) :
  wpAny (model X.prog X.w) A (call (.builtin "isinstance") [u,c]) Q E s:=by
 cases ty with
 | non=>cases (show u = Value.none from rx); exact PySem.W.kia_one PySem.W.kitx_none I.kIn True.intro e (fun z=>nomatch z) h
 | bl y=>cases (show u = Value.bool y from rx); exact PySem.W.kia_one PySem.W.kitx_bool I.kIn True.intro e (fun z=>nomatch z) h
 | int i=>obtain ⟨t,q⟩:=(show ∃ t,u = Value.int i t from rx); cases q; exact PySem.W.kia_one PySem.W.kitx_int I.kIn True.intro e (fun z=>nomatch z) h
 | str y=>obtain ⟨t,q⟩:=(show ∃ t,u = Value.str y t from rx); cases q; exact PySem.W.kia_one PySem.W.kitx_str I.kIn True.intro e (fun z=>nomatch z) h
 | flt y=>obtain ⟨t,q⟩:=(show ∃ t,u = Value.float y t from rx); cases q; exact PySem.W.kia_one PySem.W.kitx_float I.kIn True.intro e (fun z=>nomatch z) h
 | @lst a xs ea =>
  cases (show u = Value.ref a from rx)
  obtain ⟨_,_,n,_,h1⟩:=(show ObjOk X.prog X.w H s.heap a (.lst xs) from I.hok a _ ea)
  exact PySem.W.kia_one PySem.W.kitx_list I.kIn ⟨_,h1,rfl⟩ e (fun z=>nomatch z) h
 | @frz a ob xs ea =>
  cases (show u = Value.ref a from rx)
  obtain ⟨_,_,_,n,_,h1⟩:=(show ObjOk X.prog X.w H s.heap a (.frz ob (.lst xs)) from I.hok a _ ea)
  exact PySem.W.kia_one PySem.W.kitx_list I.kIn ⟨_,h1,rfl⟩ e (fun z=>nomatch z) h
 | @tup a xs ea =>
  cases (show u = Value.ref a from rx)
  obtain ⟨_,_,_,p⟩:=(show ObjOk X.prog X.w H s.heap a (.tup xs) from I.hok a _ ea)
  obtain ⟨o,h1,h2,_⟩:=p
  exact PySem.W.kia_one PySem.W.kitx_tuple I.kIn ⟨o,h1,h2⟩ e (fun z=>nomatch z) h
 | @dK a kvs ea =>
  cases (show u = Value.ref a from rx)
  obtain ⟨_,_,vs,_,p⟩:=(show ObjOk X.prog X.w H s.heap a (.dK kvs) from I.hok a _ ea)
  obtain ⟨o,es,ep,h1,h2,_⟩:=p
  exact PySem.W.kia_one PySem.W.kitx_dict I.kIn ⟨o,h1,h2.1⟩ e (fun z=>nomatch z) h
 | @dT a kvs ea =>
  cases (show u = Value.ref a from rx)
  obtain ⟨_,_,xs,_,o,es,ep,h1,h2,_⟩:=(show ObjOk X.prog X.w H s.heap a (.dT kvs) from I.hok a _ ea)
  exact PySem.W.kia_one PySem.W.kitx_dict I.kIn ⟨o,h1,h2.1⟩ e (fun z=>nomatch z) h
 | @ins a C dx fs ea cl ha hn htk hm =>
  cases (show u = Value.ref a from rx)
  obtain ⟨mA,O,_⟩:=ins_get I.hok ea
  obtain ⟨od,J,_⟩:=O.look
  exact PySem.W.kia_one (PySem.W.kitx_own (cl.get _) cl.hd ha hn htk hm) I.kIn J e (fun z=>nomatch z) h
end
end L2
namespace L2
open PySem PySem.Spec PyProof.Rows
structure Room (k:Nat) (A:Around):Prop where
 dp:A.depth + 3 * k + 5 < recursionLimit
 un:A.units + 16 * k + 200 < cLine
theorem Room.mono {j k:Nat} {A:Around} (r:Room k A) (h:j ≤ k):Room j A:=⟨by have:=r.dp; omega,by have:=r.un; omega⟩
theorem Room.deeper {k:Nat} {A:Around} (r:Room (k + 1) A) (env:Env):Room k (A.deeper env) :=
 ⟨by have:=r.dp; show A.depth + 1 + 3 * k + 5 < _; omega,by have:=r.un; show A.units + 3 + 16 * k + 200 < _; omega⟩
theorem make_depth {A:Around} {C:Addr} {us:List Value} {kw:List (Str × Value)}:(A.under (.builtin "type.__call__" ⟨.ref C :: us,kw⟩)).depth = A.depth + 1:=by
 first | rfl | simp [Around.under,Code.weight,Code.isCreation,Code.isGuard,Code.isCaller,Code.frames,Code.isFrame,guardIds]
theorem make_units {A:Around} {C:Addr} {us:List Value} {kw:List (Str × Value)}:(A.under (.builtin "type.__call__" ⟨.ref C :: us,kw⟩)).units = A.units + 1:=by
 first | rfl | simp [Around.under,Code.cUnits,Code.frames,Code.isFrame]
theorem Room.make {k:Nat} {A:Around} (r:Room (k + 1) A) (C:Addr) (us:List Value) (kw:List (Str × Value)):Room k (A.under (.builtin "type.__call__" ⟨.ref C :: us,kw⟩)) :=
 ⟨by have:=r.dp; rw [make_depth]; omega,by have:=r.un; rw [make_units]; omega⟩
theorem Room.depth {k:Nat} {A:Around} (r:Room k A):A.depth < recursionLimit:=by have:=r.dp; omega
theorem Room.units {k:Nat} {A:Around} (r:Room k A):A.units + 64 < cLine:=by have:=r.un; omega
def tNil:TA:=fun _ H Q=>Q [] H
def tCons (ta:TE) (tr:TA):TA:=fun σ H Q=>ta σ H fun x H1=>tr σ H1 fun xs H2=>Q (x :: xs) H2
section
variable {X:Cx} {e:Expr} {es:List Expr} {te:TE} {t:TA} {pos:Pos}
theorem pa_nil:PA X [] tNil:=fun _ _ _ _ H Q I h=>Calls.spliced_nil ⟨[],H,I,.nil,h⟩
theorem pa_cons (ha:PE X e te) (hr:PA X es t) (hs:starEach (e :: es) X.env = (false,eval e X.env) :: starEach es X.env:=by rfl):PA X (e :: es) (tCons te t):=by
 intro pos pins s σ H Q I h
 rw [hs]
 show wpAny _ _ (spliced ((false,eval e X.env) :: backTo pos (starEach es X.env))) _ _ s
 refine Calls.spliced_cons (thn (ha pins s σ H _ I h) fun u s1 ⟨x,H1,I1,r1,q1⟩=>?_)
 exact thn (hr pos pins s1 σ H1 _ I1 q1) fun us s2 ⟨xs,H2,I2,r2,q2⟩=>⟨x :: xs,H2,I2,.cons r1 r2,q2⟩
def tTup (t:TA):TE:=fun σ H Q=>t σ H fun xs H1=>xs.length ≤ sizeLine∧∀ p,H1 p = none→Q (.ref p) (upd H1 p (.tup xs))
def tLst (t:TA):TE:=fun σ H Q=>t σ H fun xs H1=>xs.length ≤ sizeLine∧∀ p,H1 p = none→Q (.ref p) (upd H1 p (.lst xs))
theorem pe_tup {x1} (h:PA X es t):PE X (.Tuple es x1 pos) (tTup t):=by
 intro pins s σ H Q I hq
 refine wpAny_Tuple_spliced (thn (h pos pins s σ H _ I hq) fun us s1 ⟨xs,H1,I1,r,z,q⟩=>⟨by rw [← r.length]; exact z,?_⟩)
 have hf:H1 s1.heap.objs.size = none:=I1.hok.fresh (Nat.le_refl _)
 refine ⟨.ref s1.heap.objs.size,upd H1 s1.heap.objs.size (.tup xs),I1.laid (t':=s1.toks) (fun b u e=>Heap.get?_push_of_some _ e) (Nat.le_refl _) ?_,rfl,q _ hf⟩
 exact ⟨z,us,r,⟨_,Heap.get?_push_size _ rfl,rfl,_,rfl⟩⟩
theorem pe_lst (h:PA X es t):PE X (.List es pos) (tLst t):=by
 intro pins s σ H Q I hq
 refine wpAny_List_spliced (thn (h pos pins s σ H _ I hq) fun us s1 ⟨xs,H1,I1,r,z,q⟩=>⟨by rw [← r.length]; exact z,?_⟩)
 have hf:H1 s1.heap.objs.size = none:=I1.hok.fresh (Nat.le_refl _)
 refine ⟨.ref s1.heap.objs.size,upd H1 s1.heap.objs.size (.lst xs),I1.laid (t':=s1.toks) (fun b u e=>Heap.get?_push_of_some _ e) (Nat.le_refl _) ?_,rfl,q _ hf⟩
 exact ⟨z,us,0,r,Heap.get?_push_size _ rfl⟩
end
abbrev Sp:=List V→Hp→VK→XK→Prop
structure CXT where
 rel:List Env→Hp→Shared→XK→Value→Shared→Prop
 calm:Bool
instance:CoeFun CXT (fun _=>List Env→Hp→Shared→XK→Value→Shared→Prop):=⟨CXT.rel⟩
structure Env0 (P:Program) (w:World) (K:PySem.W.Frag) (mg:Str→Option Value) (base:Heap) (A:Around) (outer:List Env) (s:Shared) (H:Hp):Prop where
 frames:A.frames = some outer
 mod:Mod K mg base
 bs:∀ b o,base.get? b = some o→s.heap.get? b = some o∧H b = none
 bsz:base.objs.size ≤ s.heap.objs.size
 funs:s.heap.FunFrames base outer
 frf:∀ b ∈ frs outer,H b = none
 hok:HOk P w H s.heap
 bare:AllBare s.gens
 hdx:HdH A H
def CE (outer:List Env) (P:Program) (w:World) (H:Hp) (s:Shared) (Q:VK) (u:Value) (s':Shared):Prop :=
 ∃ v H',s'.os = s.os∧AllBare s'.gens∧Un (frs outer) [] H H' s.heap s'.heap∧HOk P w H' s'.heap∧RelV v u∧Q v H'
def CR (CX:CXT) (outer:List Env) (P:Program) (w:World) (H:Hp) (s:Shared) (Q:VK) (E:XK) (r:Result) (s':Shared):Prop :=
 match r with
 | .ok (.ret u)=>CE outer P w H s Q u s'
 | .ok _=>False
 | .error e=>CX outer H s E e s'
structure FnOk (P:Program) (w:World) (K:PySem.W.Frag) (mg:Str→Option Value) (base:Heap) (CX:CXT) (k:Nat) (f:Addr) (fd:FuncData) (ps:List Str) (sp:Sp):Prop where
 len:∀ vs H Q E,sp vs H Q E→vs.length = ps.length
 run:∀ (A:Around) (outer:List Env) (s:Shared) (H:Hp) (args:Args) (us:List Value) (vs:List V) (Q:VK) (E:XK),Room k A→(CX.calm = true→A.handled = none)→Env0 P w K mg base A outer s H→BindsTo s fd args (ps.zip us)→Vals vs us→sp vs H Q E →
  codeAny (model P w) A (.call (.ref f) args) (CR CX outer P w H s Q E) s
theorem FnOk.mono {P:Program} {w:World} {K:PySem.W.Frag} {mg:Str→Option Value} {base:Heap} {CX:CXT} {j k:Nat} {f:Addr} {fd:FuncData} {ps:List Str} {sp:Sp} (F:FnOk P w K mg base CX j f fd ps sp) (h:j ≤ k) :
  FnOk P w K mg base CX k f fd ps sp:=⟨F.len,fun A outer s H args us vs Q E hr=>F.run A outer s H args us vs Q E (hr.mono h)⟩
theorem Env0.make {P:Program} {w:World} {K:PySem.W.Frag} {mg:Str→Option Value} {base:Heap} {A:Around} {outer:List Env} {s:Shared} {H:Hp} (e:Env0 P w K mg base A outer s H) (C:Addr) (us:List Value) (kw:List (Str × Value)) :
  Env0 P w K mg base (A.under (.builtin "type.__call__" ⟨.ref C :: us,kw⟩)) outer s H:=⟨by first | exact e.frames | (simpa [Around.under,Code.envs,Code.isFrame,pushEnvs] using e.frames),e.mod,e.bs,e.bsz,e.funs,e.frf,e.hok,e.bare,e.hdx⟩
section
variable {X:Cx} {pins:List (Addr × Obj)} {σ:St} {H:Hp} {s s':Shared}
theorem Inv.env0 (I:Inv X pins σ H s):Env0 X.prog X.w X.K X.mg X.base X.A X.stack s H :=
 ⟨I.ok.frames,I.ok.mod,I.bs,Nat.le_trans I.ok.bsz I.sz,I.stack,I.stkFree,I.hok,I.bare,I.hdh⟩
theorem Inv.after {Q:VK} {u:Value} (I:Inv X pins σ H s) (h:CE X.stack X.prog X.w H s Q u s'):EP X pins σ Q u s':=by
 obtain ⟨v,H',os,bare,un,hok,r,q⟩:=h
 obtain ⟨hh,g,d,t,os'⟩:=s'
 obtain rfl:os' = s.os:=os
 exact ⟨v,H',I.call (h':=hh) (g':=g) (d':=d) (t':=t) (ch:=[]) un hok bare (fun b z=>absurd z (by simp)),r,q⟩
end
def tCall (sp:Sp) (dvs:List V) (E:XK) (t:TA):TE:=fun σ H Q=>t σ H fun vs H1=>sp (vs ++ dvs) H1 Q E
def tMeth (C:Addr) (m:Str) (sp:Sp) (dvs:List V) (E:XK) (ta:TE) (t:TA):TE:=fun σ H Q=>ta σ H fun x H1=>∃ a dx fs,x = .ref a∧H1 a = some (.ins C dx fs)∧fs.lookup m = none ∧
 t σ H1 fun vs H2=>sp (x :: (vs ++ dvs)) H2 Q E
def tMake (C:Addr) (sp:Sp) (dvs:List V) (E:XK) (t:TA):TE:=fun σ H Q=>t σ H fun vs H1=>∀ x dx,H1 x = none→H1 dx = none→dx ≠ x →
 sp (.ref x :: (vs ++ dvs)) (upd (upd H1 dx (.own x)) x (.ins C dx [])) (fun v H2=>v = .non∧Q (.ref x) H2) E
def Binds (K:PySem.W.Frag) (fd:FuncData) (ps:List Str) (ds:List Value):Prop :=
 ∀ (s:Shared) (us:List Value),K.In s.heap→(us ++ ds).length = ps.length→BindsTo s fd ⟨us,[]⟩ (ps.zip (us ++ ds))
theorem Binds.all {K:PySem.W.Frag} {fd:FuncData} {ps:List Str} (h:∀ us:List Value,us.length = ps.length→bindArgs fd ⟨us,[]⟩ = pure (ps.zip us)):Binds K fd ps []:=fun s us _ hl=>by
 rw [List.append_nil] at hl ⊢
 exact .of_eq (h us hl)
def Passes (CX:CXT) (X:Cx) (E:XK):Prop:=∀ (pins:List (Addr × Obj)) (σ:St) (H:Hp) (s:Shared) (e:Value) (s':Shared),Inv X pins σ H s→CX X.stack H s E e s'→X.xe e s'
section
variable {X:Cx} {CX:CXT} {k:Nat} {f C:Addr} {fd:FuncData} {ps:List Str} {sp:Sp} {dvs:List V} {ds:List Value} {E:XK} {x m:Str} {p pos apos:Pos} {e o:Expr} {es:List Expr} {ta:TE} {t:TA}
theorem run_fn {pins:List (Addr × Obj)} {σ:St} {H:Hp} {s:Shared} {Q:VK} {us:List Value} {vs:List V} (F:FnOk X.prog X.w X.K X.mg X.base CX k f fd ps sp) (hr:Room k X.A) (hb:Binds X.K fd ps ds) (hd:Vals dvs ds) (hx:Passes CX X E) (hcc:CX.calm = true→X.calm = true)
  (I:Inv X pins σ H s) (r:Vals vs us) (h:sp (vs ++ dvs) H Q E):wpAny (model X.prog X.w) X.A (call (.ref f) us) (EP X pins σ Q) X.xe s:=by
 have r2:Vals (vs ++ dvs) (us ++ ds):=r.append hd
 have hl:(us ++ ds).length = ps.length:=by rw [← r2.length]; exact F.len _ _ _ _ h
 refine wpAny_call (codeAny_mono (F.run X.A X.stack s H ⟨us,[]⟩ (us ++ ds) (vs ++ dvs) Q E hr (fun z=>I.ok.hd (hcc z)) I.env0 (hb s us I.kIn hl) r2 h) fun r s' hq=>?_)
 cases r with
 | error e=>exact hx pins σ H s e s' I hq
 | ok fl =>
  cases fl with
  | ret u=>exact I.after hq
  | next=>exact False.elim hq
  | brk=>exact False.elim hq
  | cont=>exact False.elim hq
theorem pe_call (F:FnOk X.prog X.w X.K X.mg X.base CX k f fd ps sp) (hr:Room k X.A) (hg:Gl X x) (hm:X.mg x = some (.ref f)) (hk:PySem.W.keepIn X.K (.ref f) = true) (hb:Binds X.K fd ps ds) (hd:Vals dvs ds) (hx:Passes CX X E)
  (ha:PA X (e :: es) t) (hdb:(x == ("__debug__":Str)) = false:=by decide) (he:starEach (e :: es) X.env = (false,eval e X.env) :: starEach es X.env:=by rfl) (hpl:(backTo pos (starEach es X.env)).any (·.1) = false:=by rfl) (hcc:CX.calm = true→X.calm = true:=by first | exact fun _=>rfl | exact fun z=>nomatch z) :
  PE X (.Call (.Name x p) (e :: es) [] pos) (tCall sp dvs E t):=by
 intro pins s σ H Q I h
 refine wpAny_Call_Name_kw (ld_glob I hg hm ?_ hdb)
 refine PySem.W.callWith_K (h₀:=X.base) I.ok.mod.kin hk (thn (ha pos pins s σ H _ I h) fun us s1 ⟨vs,H1,I1,r,q⟩=>⟨I1.kIn,?_⟩) he hpl
 exact run_fn F hr hb hd hx hcc I1 r q
theorem pe_meth {pl:Sem Bool} (he:PE X o ta) (c:Cls X.K C) (hm:Meth X.K C m f) (F:FnOk X.prog X.w X.K X.mg X.base CX k f fd ps sp) (hr:Room k X.A) (hb:Binds X.K fd ps ds) (hd:Vals dvs ds) (hx:Passes CX X E) (ha:PA X (e :: es) t)
  (hst:starEach (e :: es) X.env = (false,eval e X.env) :: starEach es X.env:=by rfl) (hpl:(backTo pos (starEach es X.env)).any (·.1) = false:=by rfl)
  (ht:eval (.Call (.Attribute o m apos) (e :: es) [] pos) X.env = (do
   let ov ← eval o X.env
   standAt apos.atName
   let (f,first) ← holding [ov] (getMethod ov m pl)
   callWith pos f first (backTo pos (starEach (e :: es) X.env)) (backToKw pos (keywordEach [] X.env))):=by rfl) (hcc:CX.calm = true→X.calm = true:=by first | exact fun _=>rfl | exact fun z=>nomatch z) :
  PE X (.Call (.Attribute o m apos) (e :: es) [] pos) (tMeth C m sp dvs E ta t):=by
 intro pins s σ H Q I h
 refine PySem.W.methodCall_KW (pl:=pl) (thn (he pins s σ H _ I h) fun u s1 ⟨x,H1,I1,rx,a,dx,fs,ex,ea,l,q⟩=>?_) ht
 subst ex
 obtain rfl:u = Value.ref a:=rx
 refine getmeth_ok I1 ea c hm l ?_
 refine PySem.W.callWith_K (first:=[.ref a]) (h₀:=X.base) I.ok.mod.kin hm.kp (thn (ha pos pins s1 σ H1 _ I1 q) fun us s2 ⟨vs,H2,I2,r,q2⟩=>⟨I2.kIn,?_⟩) hst hpl
 exact run_fn (us:=.ref a :: us) (vs:=.ref a :: vs) F hr hb hd hx hcc I2 (.cons rfl r) q2
theorem pe_meth0 {pl:Sem Bool} (he:PE X o ta) (c:Cls X.K C) (hm:Meth X.K C m f) (F:FnOk X.prog X.w X.K X.mg X.base CX k f fd ps sp) (hr:Room k X.A) (hb:Binds X.K fd ps ds) (hd:Vals dvs ds) (hx:Passes CX X E)
  (ht:eval (.Call (.Attribute o m apos) [] [] pos) X.env = (do
   let ov ← eval o X.env
   standAt apos.atName
   let (f,first) ← holding [ov] (getMethod ov m pl)
   callWith pos f first (backTo pos (starEach [] X.env)) (backToKw pos (keywordEach [] X.env))):=by rfl) (hcc:CX.calm = true→X.calm = true:=by first | exact fun _=>rfl | exact fun z=>nomatch z) :
  PE X (.Call (.Attribute o m apos) [] [] pos) (tMeth C m sp dvs E ta tNil):=by
 intro pins s σ H Q I h
 refine PySem.W.methodCall_KW (pl:=pl) (thn (he pins s σ H _ I h) fun u s1 ⟨x,H1,I1,rx,a,dx,fs,ex,ea,l,q⟩=>?_) ht
 subst ex
 obtain rfl:u = Value.ref a:=rx
 refine getmeth_ok I1 ea c hm l ?_
 exact PySem.W.callWith_K0 (first:=[.ref a]) I1.kIn hm.kp (run_fn (us:=[.ref a]) (vs:=[.ref a]) F hr hb hd hx hcc I1 (.cons rfl .nil) q)
structure Mk (K:PySem.W.Frag) (C f:Addr):Prop where
 makes:PySem.W.makesIn K C = true
 init:PySem.W.findIn K (.ref C) "__init__" = some (some (.ref f))
 fn:PySem.W.isFn K (.ref f) = true
 kp:PySem.W.keepIn K (.ref C) = true
theorem run_make {pins:List (Addr × Obj)} {σ:St} {H:Hp} {s:Shared} {Q:VK} {us:List Value} {vs:List V} (M:Mk X.K C f) (F:FnOk X.prog X.w X.K X.mg X.base CX k f fd ps sp) (hr:Room (k + 1) X.A) (hb:Binds X.K fd ps ds) (hd:Vals dvs ds)
  (hx:Passes CX X E) (hcc:CX.calm = true→X.calm = true) (I:Inv X pins σ H s) (r:Vals vs us)
  (h:∀ x dx,H x = none→H dx = none→dx ≠ x→sp (.ref x :: (vs ++ dvs)) (upd (upd H dx (.own x)) x (.ins C dx [])) (fun v H2=>v = .non∧Q (.ref x) H2) E) :
  wpAny (model X.prog X.w) X.A (call (.ref C) us) (EP X pins σ Q) X.xe s:=by
 have hq:=h (s.heap.objs.size + 1) s.heap.objs.size (I.hok.fresh (Nat.le_succ _)) (I.hok.fresh (Nat.le_refl _)) (Nat.ne_of_lt (Nat.lt_succ_self _))
 have I2:=Inv.made (C:=C) I
 have r2:Vals (V.ref (s.heap.objs.size + 1) :: (vs ++ dvs)) (Value.ref (s.heap.objs.size + 1) :: (us ++ ds)):=.cons rfl (r.append hd)
 have hl:(Value.ref (s.heap.objs.size + 1) :: us ++ ds).length = ps.length:=by
  have e:=r2.length
  rw [F.len _ _ _ _ hq] at e
  exact e.symm
 refine wpAny_call (make_map (f:=f) I.kIn M.makes M.init (beq_iff_eq.mp M.fn) (codeAny_mono (F.run _ X.stack _ _ ⟨Value.ref (s.heap.objs.size + 1) :: us,[]⟩ (Value.ref (s.heap.objs.size + 1) :: (us ++ ds)) _ _ E (hr.make C us []) (fun z=>I.ok.hd (hcc z))
  (I2.env0.make C us []) (hb _ (Value.ref (s.heap.objs.size + 1) :: us) I2.kIn hl) r2 hq) fun r s' hq'=>?_))
 cases r with
 | error e=>exact hx pins σ _ _ e s' I2 hq'
 | ok fl =>
  cases fl with
  | ret u =>
   obtain ⟨v,H',I3,rv,ev,q3⟩:=I2.after hq'
   subst ev
   exact ⟨rv,⟨V.ref (s.heap.objs.size + 1),H',I3,rfl,q3⟩⟩
  | next=>exact False.elim hq'
  | brk=>exact False.elim hq'
  | cont=>exact False.elim hq'
theorem pe_make (M:Mk X.K C f) (F:FnOk X.prog X.w X.K X.mg X.base CX k f fd ps sp) (hr:Room (k + 1) X.A) (hg:Gl X x) (hm:X.mg x = some (.ref C)) (hb:Binds X.K fd ps ds) (hd:Vals dvs ds) (hx:Passes CX X E)
  (ha:PA X (e :: es) t) (hdb:(x == ("__debug__":Str)) = false:=by decide) (he:starEach (e :: es) X.env = (false,eval e X.env) :: starEach es X.env:=by rfl) (hpl:(backTo pos (starEach es X.env)).any (·.1) = false:=by rfl) (hcc:CX.calm = true→X.calm = true:=by first | exact fun _=>rfl | exact fun z=>nomatch z) :
  PE X (.Call (.Name x p) (e :: es) [] pos) (tMake C sp dvs E t):=by
 intro pins s σ H Q I h
 refine wpAny_Call_Name_kw (ld_glob I hg hm ?_ hdb)
 refine PySem.W.callWith_K (h₀:=X.base) I.ok.mod.kin M.kp (thn (ha pos pins s σ H _ I h) fun us s1 ⟨vs,H1,I1,r,q⟩=>⟨I1.kIn,?_⟩) he hpl
 exact run_make M F hr hb hd hx hcc I1 r q
end
def PK (X:Cx) (kws:List Keyword) (t:TA):Prop :=
 ∀ (pos:Pos) (pins:List (Addr × Obj)) (s:Shared) (σ:St) (H:Hp) (Q:List V→Hp→Prop),Inv X pins σ H s→t σ H Q→wpAny (model X.prog X.w) X.A (evalAll ((backToKw pos (keywordEach kws X.env)).map (·.2))) (AP X pins σ Q) X.xe s
section
variable {X:Cx} {CX:CXT} {k:Nat} {f C:Addr} {fd:FuncData} {ps ks:List Str} {sp:Sp} {E:XK} {x m:Str} {p pos apos kpos:Pos} {e o:Expr} {es:List Expr} {kws:List Keyword} {te ta:TE} {t tk:TA} {nm:Option Str}
theorem pk_nil:PK X [] tNil:=fun _ _ _ _ H Q I h=>wpAny_evalAll_nil ⟨[],H,I,.nil,h⟩
theorem pk_cons (ha:PE X e te) (hr:PK X kws t):PK X (⟨nm,e,kpos⟩ :: kws) (tCons te t):=by
 intro pos pins s σ H Q I h
 show wpAny _ _ (evalAll ((do let v ← eval e X.env; standAt pos; pure v) :: (backToKw pos (keywordEach kws X.env)).map (·.2))) _ _ s
 refine wpAny_evalAll_cons (wpAny_bind (thn (ha pins s σ H _ I h) fun u s1 ⟨x,H1,I1,r1,q1⟩=>wpAny_bind (wpAny_standAt (wpAny_pure ?_))))
 exact thn (hr pos pins s1 σ H1 _ I1 q1) fun us s2 ⟨xs,H2,I2,r2,q2⟩=>⟨x :: xs,H2,I2,.cons r1 r2,q2⟩
variable {g:List Value→List Value→List Value} {gV:List V→List V→List V}
end
structure FnScope (N P:List Str) (sc:Scope):Prop where
 kind:sc.kind = .function
 co:sc.isCoroutine = false
 gen:sc.isGenerator = false
 nd:N.Nodup
 pre:N.take P.length = P
 par:∀ x ∈ P,sc.names.lookup x = some .local ∨ sc.names.lookup x = some .cell
 nofree:∀ y ∈ sc.names,y.2 ≠ .free
theorem bindL_out {kindOf:Str→Option NameKind} {x:Str}:∀ {binds:List (Str × Value)} {m:Str→Option Value},(∀ v,(x,v) ∉ binds)→bindL kindOf binds m x = m x
 | [],_,_=>rfl
 | (n,v) :: r,m,h=>by
  unfold bindL
  rw [bindL_out fun w hw=>h w (List.mem_cons_of_mem _ hw)]
  split
  ·have:x ≠ n:=by rintro rfl; exact h v List.mem_cons_self
   simp [this]
  ·rfl
theorem bindC_out {kindOf:Str→Option NameKind} {x:Str}:∀ {binds:List (Str × Value)} {m:Str→Option Value},(∀ v,(x,v) ∉ binds)→bindC kindOf binds m x = m x
 | [],_,_=>rfl
 | (n,v) :: r,m,h=>by
  unfold bindC
  rw [bindC_out fun w hw=>h w (List.mem_cons_of_mem _ hw)]
  split
  ·rfl
  ·have:x ≠ n:=by rintro rfl; exact h v List.mem_cons_self
   simp [this]
theorem bindL_get {kindOf:Str→Option NameKind} {x:Str} {v:Value}:∀ {P:List Str} {vs:List Value} {i:Nat} {m:Str→Option Value},P.Nodup→P[i]? = some x→vs[i]? = some v→kindOf x = some .local →
  bindL kindOf (P.zip vs) m x = some v
 | [],_,_,_,_,h,_,_=>by simp at h
 | _ :: _,[],_,_,_,_,h,_=>by simp at h
 | p :: P,w :: vs,0,m,nd,h1,h2,hk=>by
  simp at h1 h2; subst h1; subst h2
  show bindL kindOf ((p,w) :: P.zip vs) m p = _
  unfold bindL
  rw [bindL_out fun v hv=>(List.nodup_cons.mp nd).1 (List.of_mem_zip hv).1,if_pos hk]
  simp
 | p :: P,w :: vs,i + 1,m,nd,h1,h2,hk=>by
  show bindL kindOf ((p,w) :: P.zip vs) m x = _
  unfold bindL
  exact bindL_get (i:=i) (List.nodup_cons.mp nd).2 (by simpa using h1) (by simpa using h2) hk
theorem bindC_get {kindOf:Str→Option NameKind} {x:Str} {v:Value}:∀ {P:List Str} {vs:List Value} {i:Nat} {m:Str→Option Value},P.Nodup→P[i]? = some x→vs[i]? = some v→kindOf x ≠ some .local →
  bindC kindOf (P.zip vs) m x = some v
 | [],_,_,_,_,h,_,_=>by simp at h
 | _ :: _,[],_,_,_,_,h,_=>by simp at h
 | p :: P,w :: vs,0,m,nd,h1,h2,hk=>by
  simp at h1 h2; subst h1; subst h2
  show bindC kindOf ((p,w) :: P.zip vs) m p = _
  unfold bindC
  rw [bindC_out fun v hv=>(List.nodup_cons.mp nd).1 (List.of_mem_zip hv).1,if_neg hk]
  simp
 | p :: P,w :: vs,i + 1,m,nd,h1,h2,hk=>by
  show bindC kindOf ((p,w) :: P.zip vs) m x = _
  unfold bindC
  exact bindC_get (i:=i) (List.nodup_cons.mp nd).2 (by simpa using h1) (by simpa using h2) hk
def start (N:List Str) (vs:List V):St:=vs.map some ++ List.replicate (N.length - vs.length) none
def cxOf (CX:CXT) (P:Program) (w:World) (K:PySem.W.Frag) (mg:Str→Option Value) (base:Heap) (N:List Str) (qual:Str) (scope:Scope) (f:Addr) (cd:Value) (A:Around) (outer:List Env) (s:Shared) (H:Hp) (E:XK):Cx where
 prog:=P
 w:=w
 K:=K
 mg:=mg
 base:=base
 A:=A.deeper (envOfC qual scope s.heap.objs.size f cd)
 N:=N
 s₀:=s
 H₀:=H
 env:=envOfC qual scope s.heap.objs.size f cd
 outer:=outer
 stack:=envOfC qual scope s.heap.objs.size f cd :: outer
 ex:=[]
 calm:=CX.calm
 fn:=fun _=>true
 pn:=[]
 xe:=fun e s'=>wpAny (model P w) (A.deeper (envOfC qual scope s.heap.objs.size f cd)) (leaving (envOfC qual scope s.heap.objs.size f cd) e) (fun _ s''=>CX outer H s E e s'') (fun e' s''=>CX outer H s E e' s'') s'
theorem cell_has {sc:Scope} {n:Nat} {x:Str} (h:sc.names.lookup x = some .cell):∃ c,(cellsFrom n sc.names []).lookup x = some c:=by
 have q:=PySem.W.cellsFrom_some sc.names n [] (.inl h)
 exact Option.isSome_iff_exists.mp q
theorem inv_start {CX:CXT} {P:Program} {w:World} {K:PySem.W.Frag} {mg:Str→Option Value} {base:Heap} {N ps:List Str} {qual:Str} {scope:Scope} {f:Addr} {cd:Value} {A:Around} {outer:List Env} {s s1:Shared} {H:Hp} {E:XK} {us:List Value} {vs:List V}
  (S:FnScope N ps scope) (hd:CX.calm = true→A.handled = none) (e0:Env0 P w K mg base A outer s H) (hl:vs.length = ps.length) (r:Vals vs us)
  (x:InCallC s s.heap.objs.size (bindL (envOfC qual scope s.heap.objs.size f cd).kindOf (ps.zip us) fun _=>none) (cellsFrom (s.heap.objs.size + 1) scope.names []) (bindC (envOfC qual scope s.heap.objs.size f cd).kindOf (ps.zip us) fun _=>none) s1) :
  Inv (cxOf CX P w K mg base N qual scope f cd A outer s H E) [] (start N vs) H s1:=by
 have hpl:ps.length ≤ N.length:=by have:=congrArg List.length S.pre; rw [List.length_take] at this; omega
 obtain ⟨h1,tk,rfl,hk⟩:=x.done
 have noA:∀ b:Addr,b ∉ (cxOf CX P w K mg base N qual scope f cd A outer s H E).ex:=fun b z=>absurd (show b ∈ ([]:List Addr) from z) (by simp)
 refine ⟨⟨e0.mod,S.kind,rfl,rfl,Nat.le_refl _,fun y z c h1 h2=>?_,fun y hy=>?_,fun y c _ h=>?_,hd,Around.frames_deeper e0.frames,.inr ⟨rfl,rfl⟩,fun b z=>absurd z (noA b),e0.bs,e0.bsz,fun b _ _=>noA b,fun b z=>absurd z (noA b),e0.funs,e0.frf⟩,
  rfl,e0.bare,Un.kept hk,⟨_,x.toInCall.ns,fun i y v h1 h2 h3=>?_⟩,fun y c h=>⟨_,x.cell y c h⟩,e0.hok.fresh (Nat.le_refl _),fun y c h=>?_,fun p hp=>absurd (show p ∈ ([]:List (Addr × Obj)) from hp) (by simp),e0.hok.kept hk,?_,e0.hdx⟩
 ·exact name_of_addr x.apart (PySem.mem_of_lookup h1) (PySem.mem_of_lookup h2)
 ·have hy:scope.names.lookup y = some .cell ∨ scope.names.lookup y = some .free:=hy
  rcases hy with hy | hy
  ·exact cell_has hy
  ·exact absurd rfl (S.nofree _ (PySem.mem_of_lookup hy))
 ·exact Nat.le_of_lt (x.above y c (PySem.mem_of_lookup h))
 ·have hi:i < vs.length:=by
   unfold start at h2
   by_cases hi:i < vs.length
   ·exact hi
   ·rw [List.getElem?_append_right (by simpa using hi)] at h2
    rw [List.getElem?_replicate] at h2
    split at h2 <;> cases h2
  have ha:vs[i]? = some v:=by
   unfold start at h2
   rw [List.getElem?_append_left (by simpa using hi),List.getElem?_map] at h2
   cases e:vs[i]? with
   | none=>rw [e] at h2; cases h2
   | some a=>rw [e] at h2; cases h2; rfl
  obtain ⟨u,hu,rv⟩:=r.get ha
  have hp:ps[i]? = some y:=by
   rw [← S.pre,List.getElem?_take_of_lt (by omega)]; exact h1
  have ndP:ps.Nodup:=by rw [← S.pre]; exact S.nd.sublist (List.take_sublist _ _)
  refine ⟨u,rv,?_⟩
  rcases S.par y (List.mem_of_getElem? hp) with k | k
  ·exact .inl ⟨k,bindL_get ndP hp hu k⟩
  ·obtain ⟨c,e⟩:=cell_has (n:=s.heap.objs.size + 1) k
   refine .inr ⟨.inl k,c,e,?_⟩
   have q:=x.cell y c e
   rw [bindC_get ndP hp hu (by show scope.names.lookup y ≠ _; rw [k]; decide)] at q
   exact q
 ·exact e0.hok.fresh (Nat.le_of_lt (x.above y c (PySem.mem_of_lookup h)))
 ·unfold start
  show _ = N.length
  rw [List.length_append,List.length_map,List.length_replicate]
  omega
theorem fn_of {CX:CXT} {P:Program} {w:World} {K:PySem.W.Frag} {mg:Str→Option Value} {base:Heap} {k:Nat} {f:Addr} {name qual:Str} {params:Arguments} {body:List Stmt} {scope:Scope} {dV kV doc pm cdv ct oc:Value} {an od:Option Addr}
  {osl:Array (Option Value)} {N ps:List Str} {sp:Sp} (lk:K.lookup f = some ⟨oc,od,.func (PySem.W.fnOf name qual params body scope dV kV doc pm an cdv ct),osl⟩) (hcd:PySem.W.codeIn K cdv qual = true) (S:FnScope N ps scope)
  (len:∀ vs H Q E,sp vs H Q E→vs.length = ps.length)
  (hbody:∀ (A:Around) (outer:List Env) (s:Shared) (H:Hp) (vs:List V) (Q:VK) (E:XK),Room k (A.deeper (envOfC qual scope s.heap.objs.size f cdv))→sp vs H Q E →
   ∃ t,PSs (cxOf CX P w K mg base N qual scope f cdv A outer s H E) body t∧t { nx:=fun _ H'=>Q .non H',rt:=Q } (start N vs) H) :
  FnOk P w K mg base CX (k + 1) f (PySem.W.fnOf name qual params body scope dV kV doc pm an cdv ct) ps sp:=by
 refine ⟨len,fun A outer s H args us vs Q E hr hcm e0 hb r hsp=>?_⟩
 have hl:=len _ _ _ _ hsp
 have KX:K.In s.heap:=e0.mod.kin.keeps fun b o e=>(e0.bs b o e).1
 have lim:s.heap.NoLimit:=e0.mod.nolimit.keeps fun b o e=>(e0.bs b o e).1
 have hkind:∀ y ∈ ps.zip us,scope.names.lookup y.1 = some .local ∨ (scope.names.lookup y.1 = some .cell∧((cellsFrom (s.heap.objs.size + 1) scope.names []).lookup y.1).isSome = true):=fun ⟨n,v⟩ hy=>by
  rcases S.par n (List.of_mem_zip hy).1 with q | q
  ·exact .inl q
  ·exact .inr ⟨q,PySem.W.cellsFrom_some _ _ _ (.inl q)⟩
 refine codeAny_call_function hr.depth (KX _ _ lk) rfl S.co S.gen rfl (PySem.W.codeRec_of KX hcd) (hb _ _ _ _ ?_)
 refine wpAny_newFunctionEnv_cells S.kind hkind fun env he s1 x=>?_
 subst he
 refine ⟨lim.keeps x.toInCall.keep,codeAny_func ?_⟩
 obtain ⟨t,ht,hq⟩:=hbody A outer s H vs Q E (hr.deeper _) hsp
 have I:Inv (cxOf CX P w K mg base N qual scope f cdv A outer s H E) [] (start N vs) H s1:=inv_start S hcm e0 hl r x
 refine wpAny_mono (ht [] s1 (start N vs) H _ I hq) (fun fl s' hs=>?_) fun e s' hs=>hs
 have fin:∀ {σ':St} {H':Hp} {v:V} {u:Value},Inv (cxOf CX P w K mg base N qual scope f cdv A outer s H E) [] σ' H' s'→RelV v u→Q v H'→CE outer P w H s Q u s' :=
  fun {σ' H' v u} J rv q=>⟨v,H',J.os,J.bare,J.base,J.hok,rv,q⟩
 cases fl with
 | ret u =>
  obtain ⟨v,σ',H',J,rv,q⟩:=hs
  exact fin J rv q
 | next =>
  obtain ⟨σ',H',J,q⟩:=hs
  exact fin (v:=V.non) (u:=Value.none) J rfl q
 | brk =>
  obtain ⟨_,_,_,q⟩:=hs
  exact False.elim q
 | cont =>
  obtain ⟨_,_,_,q⟩:=hs
  exact False.elim q
end L2
namespace L2
open PySem PySem.Spec PyProof.Rows
section
variable {X:Cx} {x:Str} {p pos:Pos} {e:Expr} {es:List Expr} {t:TA} {id T:String} {r:List V→Hp→VK→Prop}
def tCB (r:List V→Hp→VK→Prop) (t:TA):TE:=fun σ H Q=>t σ H fun vs H1=>r vs H1 Q
theorem pe_callB (hc:CallR X (.builtin id) r) (hg:Gl X x) (hm:X.mg x = none) (hv:bootBuiltins x = some (.builtin id)) (ha:PA X (e :: es) t) (hn:x ≠ "__name__":=by decide) (hdb:(x == ("__debug__":Str)) = false:=by decide)
  (he:starEach (e :: es) X.env = (false,eval e X.env) :: starEach es X.env:=by rfl) (hpl:(backTo pos (starEach es X.env)).any (·.1) = false:=by rfl):PE X (.Call (.Name x p) (e :: es) [] pos) (tCB r t):=by
 intro pins s σ H Q I h
 refine wpAny_Call_Name_kw (ld_blt I hg hm hv ?_ hn hdb)
 exact PyProof.Rows.callWith_builtin1 (thn (ha pos pins s σ H _ I h) fun us s1 ⟨vs,H1,I1,r1,q1⟩=>hc pins s1 σ H1 vs us Q I1 r1 q1) he hpl
theorem pe_callTy (hc:CallR X (.type T) r) (hg:Gl X x) (hm:X.mg x = none) (hv:bootBuiltins x = some (.type T)) (ha:PA X (e :: es) t) (hn:x ≠ "__name__":=by decide) (hdb:(x == ("__debug__":Str)) = false:=by decide)
  (he:starEach (e :: es) X.env = (false,eval e X.env) :: starEach es X.env:=by rfl) (hpl:(backTo pos (starEach es X.env)).any (·.1) = false:=by rfl):PE X (.Call (.Name x p) (e :: es) [] pos) (tCB r t):=by
 intro pins s σ H Q I h
 refine wpAny_Call_Name_kw (ld_blt I hg hm hv ?_ hn hdb)
 exact PyProof.Rows.callWith_type1 (thn (ha pos pins s σ H _ I h) fun us s1 ⟨vs,H1,I1,r1,q1⟩=>hc pins s1 σ H1 vs us Q I1 r1 q1) he hpl
end
end L2
namespace HT
open PySem PyProof.Rows
section
open PySem.SeqAt
open PySem.AutoSeq1 (wpAny_loadPart')
open PySem.MeetsSeq PySem.MeetsSeq2 PySem.MeetsSeq3
end
section
variable {prog:Program} {w:World} {A:Around} {E:Value→Shared→Prop} {s:Shared}
def sIx (n d:Nat):Option Int→Nat
 | none=>d
 | some v=>if v < 0 then (v + (n:Int)).toNat else min v.toNat n
theorem sIx_none (n d:Nat):sIx n d none = d:=rfl
theorem sIx_nat (n d k:Nat):sIx n d (some (k:Int)) = min k n:=by
 show (if (k:Int) < 0 then ((k:Int) + (n:Int)).toNat else min (k:Int).toNat n) = min k n
 rw [if_neg (by omega),Int.toNat_natCast]
end
end HT
namespace L2
open PySem PySem.Spec PyProof.Rows
abbrev TO:=St→Hp→(Option Int→Hp→Prop)→Prop
def PO (X:Cx) (e:Option Expr) (t:TO):Prop :=
 ∀ (pins:List (Addr × Obj)) (s:Shared) (σ:St) (H:Hp) (Q:Option Int→Hp→Prop),Inv X pins σ H s→t σ H Q →
  wpAny (model X.prog X.w) X.A (evalPart e X.env) (fun u s'=>∃ o H',Inv X pins σ H' s'∧IsPart u o∧Q o H') X.xe s
def tNoPart:TO:=fun _ H Q=>Q none H
def tPart (t:TE):TO:=fun σ H Q=>t σ H fun x H1=>∃ i,x = .int i∧Q (some i) H1
theorem intsAre_of {ns:List Int}:∀ {us:List Value},Vals (ns.map V.int) us→IntsAre us ns:=by
 induction ns with
 | nil=>intro us r; rw [List.map_nil] at r; cases r; exact .nil
 | cons n ns ih =>
  intro us r
  rw [List.map_cons] at r
  cases r with
  | cons r1 r2 =>
   obtain ⟨t,e⟩:=r1
   subst e
   exact .cons n t (ih r2)
section
variable {X:Cx} {e:Expr} {te:TE} {lo hi:Option Expr} {tl th:TO} {pos p2:Pos}
theorem po_none:PO X none tNoPart:=by
 intro pins s σ H Q I h
 rw [evalPart_none]
 exact wpAny_pure ⟨none,H,I,.none,h⟩
theorem po_some (h:PE X e te):PO X (some e) (tPart te):=by
 intro pins s σ H Q I hw
 rw [evalPart_some]
 refine thn (h pins s σ H _ I hw) fun u s1 ⟨x,H1,I1,r1,q1⟩=>?_
 obtain ⟨i,rfl,q⟩:=q1
 obtain ⟨t,rfl⟩:=r1
 exact ⟨some i,H1,I1,.int i t,q⟩
def SlR (X:Cx) (r:V→Option Int→Option Int→Hp→VK→Prop):Prop :=
 ∀ (pins:List (Addr × Obj)) (s:Shared) (σ:St) (H:Hp) (x:V) (v vl vu:Value) (lo hi:Option Int) (sl:Addr) (Q:VK),Inv X pins σ H s→RelV x v→s.heap.IsSliceOf sl vl vu .none→IsPart vl lo→IsPart vu hi→r x lo hi H Q →
  ∃ T id,typeLookup (.type T) "__getitem__" = pure (some (.builtin id))∧s.TypeIs v T∧wpAny (model X.prog X.w) X.A (getItem v (.ref sl)) (EP X pins σ Q) X.xe s
def tSl (r:V→Option Int→Option Int→Hp→VK→Prop) (te:TE) (tl th:TO):TE:=fun σ H Q=>te σ H fun x H1=>tl σ H1 fun l H2=>th σ H2 fun u H3=>r x l u H3 Q
theorem pe_slice {r:V→Option Int→Option Int→Hp→VK→Prop} (hr:SlR X r) (he:PE X e te) (hl:PO X lo tl) (hu:PO X hi th):PE X (.Subscript e (.Slice lo hi none p2) pos) (tSl r te tl th):=by
 intro pins s σ H Q I h
 refine Subscript_ (thn (he pins s σ H _ I h) fun v s1 ⟨x,H1,I1,r1,q1⟩=>?_)
 refine wpAny_Slice (thn (hl pins s1 σ H1 _ I1 q1) fun vl s2 ⟨l,H2,I2,pl,q2⟩=>thn (hu pins s2 σ H2 _ I2 q2) fun vu s3 ⟨u,H3,I3,pu,q3⟩=>?_)
 rw [evalPart_none]
 refine wpAny_pure ?_
 have I4:Inv X pins σ H3 { s3 with heap:=s3.heap.push { cls:=.type "slice",data:=.fields #[vl,vu,.none] } }:=I3.kept (t':=s3.toks) fun b ob q=>Heap.get?_push_of_some _ q
 obtain ⟨T,id,hT,ht,hg⟩:=hr pins { s3 with heap:=s3.heap.push { cls:=.type "slice",data:=.fields #[vl,vu,.none] } } σ H3 x v vl vu l u s3.heap.objs.size Q I4 r1 (Heap.IsSliceOf.new ..) pl pu q3
 show wpAny (model X.prog X.w) X.A (subscriptTail e (.Slice lo hi none p2) v (.ref s3.heap.objs.size)) (EP X pins σ Q) X.xe { s3 with heap:=s3.heap.push { cls:=.type "slice",data:=.fields #[vl,vu,.none] } }
 exact tail_any (ops:=[.ref s3.heap.objs.size,v]) ht hT hg (by with_unfolding_all rfl)
def cutV (xs:List V) (lo hi:Option Int):List V:=(xs.drop (HT.sIx xs.length 0 lo)).take (HT.sIx xs.length xs.length hi - HT.sIx xs.length 0 lo)
theorem cutV_length (xs:List V) (lo hi:Option Int):(cutV xs lo hi).length ≤ xs.length:=by
 unfold cutV
 rw [List.length_take,List.length_drop]
 omega
end
end L2
namespace L2
open PySem PySem.Spec PyProof.Rows
def ixN (n:Nat) (i:Int):Option Nat:=if 0 ≤ i then (if i < n then some i.toNat else none) else if -(n:Int) ≤ i then some (i + n).toNat else none
def atI {α:Type} (xs:List α) (i:Int):Option α:=(ixN xs.length i).bind fun j=>xs[j]?
theorem ixN_seq {n:Nat} {i:Int} {j:Nat} (h:ixN n i = some j):seqIndex? i n = some j∧j < n∧-(n:Int) ≤ i∧i < n:=by
 unfold ixN at h
 by_cases h0:0 ≤ i
 ·rw [if_pos h0] at h
  by_cases h1:i < n
  ·rw [if_pos h1] at h
   have e:i.toNat = j:=Option.some.inj h
   exact ⟨by rw [seqIndex_of h0 h1,e],by omega,by omega,h1⟩
  ·rw [if_neg h1] at h; cases h
 ·rw [if_neg h0] at h
  by_cases h1:-(n:Int) ≤ i
  ·rw [if_pos h1] at h
   have e:(i + n).toNat = j:=Option.some.inj h
   exact ⟨by rw [seqIndex_neg (by omega) h1,e],by omega,h1,by omega⟩
  ·rw [if_neg h1] at h; cases h
theorem atI_get {α:Type} {xs:List α} {i:Int} {v:α} (h:atI xs i = some v):∃ j,seqIndex? i xs.length = some j∧xs[j]? = some v∧j < xs.length∧-(xs.length:Int) ≤ i∧i < xs.length:=by
 unfold atI at h
 cases e:ixN xs.length i with
 | none=>rw [e] at h; cases h
 | some j =>
  rw [e] at h
  obtain ⟨h1,h2,h3,h4⟩:=ixN_seq e
  exact ⟨j,h1,h,h2,h3,h4⟩
theorem atI_nat {α:Type} {xs:List α} {j:Nat} {v:α} (h:xs[j]? = some v):atI xs (j:Int) = some v:=by
 have hj:j < xs.length:=(List.getElem?_eq_some_iff.mp h).1
 have e:ixN xs.length (j:Int) = some j:=by
  unfold ixN
  rw [if_pos (by omega),if_pos (by omega)]; simp
 unfold atI; rw [e]; exact h
theorem atI_last {α:Type} (xs:List α) (v:α):atI (xs ++ [v]) (-1) = some v:=by
 have hl:(xs ++ [v]).length = xs.length + 1:=by simp
 have e:ixN (xs ++ [v]).length (-1) = some xs.length:=by
  unfold ixN
  rw [hl,if_neg (by decide),if_pos (by omega)]
  congr 1
  omega
 unfold atI
 rw [e]
 show (xs ++ [v])[xs.length]? = some v
 simp
def PlainIx (b:Expr):Prop:=∀ o i,subscripted b false o i = operate [o,i] (getItem o i)
def IxR (X:Cx) (r:R2):Prop :=
 ∀ (value slice:Expr) (pins:List (Addr × Obj)) (s:Shared) (σ:St) (H:Hp) (x y:V) (v u:Value) (Q:VK),Inv X pins σ H s→RelV x v→RelV y u→r x y H Q →
  subscripted slice false v u = operate [v,u] (getItem v u)→wpAny (model X.prog X.w) X.A (subscriptTail value slice v u) (EP X pins σ Q) X.xe s
def MtR (X:Cx) (id:String) (r:V→List V→Hp→VK→Prop):Prop :=
 ∀ (pins:List (Addr × Obj)) (s:Shared) (σ:St) (H:Hp) (x:V) (xs:List V) (v:Value) (us:List Value) (Q:VK),Inv X pins σ H s→RelV x v→Vals xs us→r x xs H Q →
  wpAny (model X.prog X.w) X.A (call (.builtin id) (v :: us)) (EP X pins σ Q) X.xe s
section
variable {X:Cx} {a b:Expr} {ta tb:TE} {pos:Pos}
theorem pe_ix {r:R2} (hr:IxR X r) (ha:PE X a ta) (hb:PE X b tb) (hs:PlainIx b):PE X (.Subscript a b pos) (tOp r ta tb):=by
 intro pins s σ H Q I h
 exact Subscript_ (binT ha hb I h fun v u s2 x y H2 I2 rx ry q=>hr a b pins s2 σ H2 x y v u Q I2 rx ry q (hs _ _))
def rIxL (K:PySem.W.Frag):R2:=fun x y H Q=>∃ p xs i v,x = .ref p∧y = .int i∧SqL K H p xs∧atI xs i = some v∧Q v H
def rIxT (K:PySem.W.Frag):R2:=fun x y H Q=>∃ p xs i v,x = .ref p∧y = .int i∧SqT K H p xs∧atI xs i = some v∧Q v H
theorem ix_list:IxR X (rIxL X.K):=by
 intro value slice pins s σ H x y v u Q I rx ry h hs
 obtain ⟨p,xs,i,z,rfl,rfl,hq,he,q⟩:=h
 cases rx
 obtain ⟨t,rfl⟩:=ry
 obtain ⟨its,r,pl,hz⟩:=I.list hq
 obtain ⟨j,h1,h2,h3,h4,h5⟩:=atI_get he
 obtain ⟨w,ew,rw'⟩:=r.get h2
 have hl:=r.length
 have hn:=line63
 have fin:EP X pins σ Q w s:=⟨z,H,I,rw',q⟩
 by_cases h0:0 ≤ i
 ·have hj:i.toNat = j:=by
   rw [seqIndex_of h0 h5] at h1
   exact Option.some.inj h1
  exact item_listR pl.isList h0 (by omega) (by rw [hj]; simpa using ew) fin hs
 ·have hj:(i + (its.toArray.size:Int)).toNat = j:=by
   rw [seqIndex_neg (by omega) h4] at h1
   rw [List.size_toArray,← hl]
   exact Option.some.inj h1
  exact subscriptTail_builtinR (x:=w) pl.isList.typeIs slot_list_getitem.lookup
   (wpAny_getItem_list_neg (Q:=fun r s'=>r = w∧EP X pins σ Q r s') pl.isList (by omega) (by rw [List.size_toArray] <;> omega) (by omega) (by rw [hj]; simpa using ew) ⟨rfl,fin⟩) hs
theorem ix_tup:IxR X (rIxT X.K):=by
 intro value slice pins s σ H x y v u Q I rx ry h hs
 obtain ⟨p,xs,i,z,rfl,rfl,hq,he,q⟩:=h
 cases rx
 obtain ⟨t,rfl⟩:=ry
 obtain ⟨its,r,pl,hz⟩:=I.tuple hq
 obtain ⟨j,h1,h2,h3,h4,h5⟩:=atI_get he
 obtain ⟨w,ew,rw'⟩:=r.get h2
 have hl:=r.length
 have hn:=line63
 have fin:EP X pins σ Q w s:=⟨z,H,I,rw',q⟩
 exact subscriptTail_builtinR (x:=w) pl.typeIs slot_tuple_getitem.lookup
  (getItem_tuple (j:=j) (Q:=fun r s'=>r = w∧EP X pins σ Q r s') pl (by omega) (by omega) (by rw [List.size_toArray,← hl]; exact h1) (by simpa using ew) ⟨rfl,fin⟩) hs
theorem slice_bounds (lo hi:Option Int) (n:Nat):(sliceBounds lo hi none n).1 = ((HT.sIx n 0 lo:Nat):Int)∧(sliceBounds lo hi none n).2.1 = ((HT.sIx n n hi:Nat):Int)∧(sliceBounds lo hi none n).2.2 = 1:=by
 refine ⟨?_,?_,rfl⟩
 ·cases lo with
  | none=>simp [sliceBounds,HT.sIx]
  | some i =>
   simp only [sliceBounds,HT.sIx,Option.getD_none,show (1:Int) > 0 by decide,if_true]
   by_cases h:i < 0
   ·simp only [h,if_true] <;> omega
   ·simp only [h,if_false] <;> omega
 ·cases hi with
  | none=>simp [sliceBounds,HT.sIx]
  | some i =>
   simp only [sliceBounds,HT.sIx,Option.getD_none,show (1:Int) > 0 by decide,if_true]
   by_cases h:i < 0
   ·simp only [h,if_true] <;> omega
   ·simp only [h,if_false] <;> omega
theorem slicePick_cut (its:List Value) (lo hi:Option Int):slicePick its.toArray lo hi none = ((its.drop (HT.sIx its.length 0 lo)).take (HT.sIx its.length its.length hi - HT.sIx its.length 0 lo)).toArray:=by
 obtain ⟨h1,h2,h3⟩:=slice_bounds lo hi its.toArray.size
 unfold slicePick
 rw [h1,h2,h3]
 simp only [sliceRange_one,pick_run,List.size_toArray] <;> rfl
def rSlL (K:PySem.W.Frag):V→Option Int→Option Int→Hp→VK→Prop:=fun x lo hi H Q=>∃ a xs,x = .ref a∧SqL K H a xs∧∀ p,H p = none→Q (.ref p) (upd H p (.lst (cutV xs lo hi)))
theorem sl_list:SlR X (rSlL X.K):=by
 intro pins s σ H x v vl vu lo hi sl Q I rx hs pl pu h
 obtain ⟨a,xs,rfl,hx,q⟩:=h
 cases rx
 obtain ⟨its,r,ht,hz⟩:=I.list hx
 have hlen:=r.length
 refine ⟨"list",_,slot_list_getitem.lookup,ht.isList.typeIs,?_⟩
 refine wpAny_getItem_list_slice ht.isList hs pl pu .none (by simp) ?_ (by rw [List.size_toArray] <;> omega)
 rw [slicePick_cut,← hlen]
 refine ⟨.ref s.heap.objs.size,_,I.laid (t':=s.toks) (o:=.lst (cutV xs lo hi)) (fun b ob q=>Heap.get?_push_of_some _ q) (Nat.le_refl _) ?_,rfl,q _ (I.hok.fresh (Nat.le_refl _))⟩
 exact ⟨Nat.le_trans (cutV_length xs lo hi) hz,_,0,(r.drop (HT.sIx xs.length 0 lo)).take (HT.sIx xs.length xs.length hi - HT.sIx xs.length 0 lo),Heap.get?_push_size _ rfl⟩
def flatV:V→Bool
 | .non=>true
 | .bl _=>true
 | .int _=>true
 | .str _=>true
 | _=>false
def eqV:V→V→Bool
 | .non,.non=>true
 | .bl a,.bl b=>a == b
 | .bl a,.int b=>(if a then 1 else 0) == b
 | .int a,.bl b=>a == (if b then 1 else 0)
 | .int a,.int b=>a == b
 | .str a,.str b=>a == b
 | _,_=>false
theorem eqAt_V {A:Around} {s:Shared} {y x:V} {u v:Value} (ry:RelV y u) (rx:RelV x v) (fy:flatV y = true) (fx:flatV x = true):SeqAt.EqAt A s u v (eqV y x):=by
 cases y with
 | non =>
  cases ry
  cases x with
  | non=>cases rx; exact SeqAt.EqAt.same _
  | bl b=>cases rx; exact SeqAt.EqAt.none_bool b
  | int b=>obtain ⟨t,rfl⟩:=rx; exact SeqAt.EqAt.none_int b t
  | str b=>obtain ⟨t,rfl⟩:=rx; exact SeqAt.EqAt.none_str b t
  | _=>exact absurd (show false = true from fx) Bool.false_ne_true
 | bl a =>
  cases ry
  cases x with
  | non=>cases rx; exact SeqAt.EqAt.bool_none a
  | bl b=>cases rx; exact SeqAt.EqAt.bool_bool a b
  | int b=>obtain ⟨t,rfl⟩:=rx; exact SeqAt.EqAt.bool_int a b t
  | str b=>obtain ⟨t,rfl⟩:=rx; exact SeqAt.EqAt.bool_str a b t
  | _=>exact absurd (show false = true from fx) Bool.false_ne_true
 | int a =>
  obtain ⟨t',rfl⟩:=ry
  cases x with
  | non=>cases rx; exact SeqAt.EqAt.int_none a t'
  | bl b=>cases rx; exact SeqAt.EqAt.int_bool a t' b
  | int b=>obtain ⟨t,rfl⟩:=rx; exact SeqAt.EqAt.int_int a t' b t
  | str b=>obtain ⟨t,rfl⟩:=rx; exact SeqAt.EqAt.int_str a t' b t
  | _=>exact absurd (show false = true from fx) Bool.false_ne_true
 | str a =>
  obtain ⟨t',rfl⟩:=ry
  cases x with
  | non=>cases rx; exact SeqAt.EqAt.str_none a t'
  | bl b=>cases rx; exact SeqAt.EqAt.str_bool a t' b
  | int b=>obtain ⟨t,rfl⟩:=rx; exact SeqAt.EqAt.str_int a t' b t
  | str b=>obtain ⟨t,rfl⟩:=rx; exact SeqAt.EqAt.str_str a t' b t
  | _=>exact absurd (show false = true from fx) Bool.false_ne_true
 | _=>exact absurd (show false = true from fy) Bool.false_ne_true
def eqU (x:V) (u:Value):Bool:=match u with
 | .none=>eqV .non x
 | .bool b=>eqV (.bl b) x
 | .int i _=>eqV (.int i) x
 | .str z _=>eqV (.str z) x
 | _=>false
theorem eqU_of {x y:V} {u:Value} (r:RelV y u) (f:flatV y = true):eqU x u = eqV y x:=by
 cases y with
 | non=>cases r; rfl
 | bl b=>cases r; rfl
 | int i=>obtain ⟨t,rfl⟩:=r; rfl
 | str z=>obtain ⟨t,rfl⟩:=r; rfl
 | _=>exact absurd (show false = true from f) Bool.false_ne_true
theorem any_eqU {x:V}:∀ {xs:List V} {us:List Value},Vals xs us→xs.all flatV = true→us.any (eqU x) = xs.any fun y=>eqV y x
 | _,_,.nil,_=>rfl
 | y :: xs,u :: us,.cons r t,f=>by
  rw [List.all_cons,Bool.and_eq_true] at f
  rw [List.any_cons,List.any_cons,eqU_of r f.1,any_eqU t f.2]
theorem mem_eqAt {A:Around} {s:Shared} {x:V} {v:Value} (rx:RelV x v) (fx:flatV x = true):∀ {xs:List V} {us:List Value},Vals xs us→xs.all flatV = true→∀ u ∈ us,SeqAt.EqAt A s u v (eqU x u)
 | _,_,.nil,_=>fun u hu=>by cases hu
 | y :: xs,u :: us,.cons r t,f=>fun u' hu=>by
  rw [List.all_cons,Bool.and_eq_true] at f
  rcases List.mem_cons.mp hu with rfl | hu
  ·rw [eqU_of r f.1]; exact eqAt_V r rx f.1 fx
  ·exact mem_eqAt rx fx t f.2 u' hu
def inV (x:V) (xs:List V):Bool:=xs.any fun y=>eqV y x
def rIn (K:PySem.W.Frag) (neg:Bool):R2:=fun x y H Q=>∃ p xs,y = .ref p∧(SqL K H p xs ∨ SqT K H p xs)∧flatV x = true∧xs.all flatV = true∧Q (.bl (if neg then !inV x xs else inV x xs)) H
theorem op_in_seq:OpR X (compareOp .In) (rIn X.K false):=by
 intro pins s σ H x y v u Q I rx ry h
 obtain ⟨p,xs,rfl,hq,fx,fs,q⟩:=h
 cases ry
 rcases hq with hq | hq
 ·obtain ⟨its,r,pl,hz⟩:=I.list hq
  refine SeqAt.in_listAt (eqU x) pl.isList (fun w hw=>mem_eqAt rx fx r fs w (by simpa using hw)) ⟨.bl _,H,I,rfl,?_⟩
  rw [show its.toArray.any (eqU x) = its.any (eqU x) by simp,any_eqU r fs]
  exact q
 ·obtain ⟨its,r,pl,hz⟩:=I.tuple hq
  refine SeqAt.in_tupleAt (eqU x) pl (fun w hw=>mem_eqAt rx fx r fs w (by simpa using hw)) ⟨.bl _,H,I,rfl,?_⟩
  rw [show its.toArray.any (eqU x) = its.any (eqU x) by simp,any_eqU r fs]
  exact q
theorem op_notIn_seq:OpR X (compareOp .NotIn) (rIn X.K true):=by
 intro pins s σ H x y v u Q I rx ry h
 obtain ⟨p,xs,rfl,hq,fx,fs,q⟩:=h
 cases ry
 rcases hq with hq | hq
 ·obtain ⟨its,r,pl,hz⟩:=I.list hq
  refine SeqAt.notIn_listAt (eqU x) pl.isList (fun w hw=>mem_eqAt rx fx r fs w (by simpa using hw)) ⟨.bl _,H,I,rfl,?_⟩
  rw [show its.toArray.any (eqU x) = its.any (eqU x) by simp,any_eqU r fs]
  exact q
 ·obtain ⟨its,r,pl,hz⟩:=I.tuple hq
  refine SeqAt.notIn_tupleAt (eqU x) pl (fun w hw=>mem_eqAt rx fx r fs w (by simpa using hw)) ⟨.bl _,H,I,rfl,?_⟩
  rw [show its.toArray.any (eqU x) = its.any (eqU x) by simp,any_eqU r fs]
  exact q
theorem call_len_seq:CallR X (.builtin "len") (fun xs H Q=>∃ p ys,xs = [.ref p]∧(SqL X.K H p ys ∨ SqT X.K H p ys)∧Q (.int ys.length) H):=by
 intro pins s σ H xs us Q I r h
 obtain ⟨p,ys,rfl,hq,q⟩:=h
 obtain ⟨u,rfl,rx⟩:=vals1 r
 cases rx
 have hn:=line63
 rcases hq with hq | hq
 ·obtain ⟨its,r',pl,hz⟩:=I.list hq
  have hlen:=r'.length
  exact Calls.call_len_list pl.isList (by simp only [List.size_toArray] <;> omega) ⟨.int ys.length,H,I.tok _,⟨s.toks + 1,by rw [List.size_toArray,hlen]⟩,q⟩
 ·obtain ⟨its,r',pl,hz⟩:=I.tuple hq
  have hlen:=r'.length
  exact len_tuple pl (by simp only [List.size_toArray] <;> omega) ⟨.int ys.length,H,I.tok _,⟨s.toks + 1,by rw [List.size_toArray,hlen]⟩,q⟩
theorem call_list_of:CallR X (.type "list") (fun xs H Q=>∃ p ys,xs = [.ref p]∧(SqL X.K H p ys ∨ SqT X.K H p ys)∧∀ l,H l = none→Q (.ref l) (upd H l (.lst ys))):=by
 intro pins s σ H xs us Q I r h
 obtain ⟨p,ys,rfl,hq,q⟩:=h
 obtain ⟨u,rfl,rx⟩:=vals1 r
 cases rx
 have fin:∀ (its:List Value),Vals ys its→ys.length ≤ sizeLine→∀ (h':Heap) (c':Nat),(∀ b o',s.heap.get? b = some o'→h'.get? b = some o') →
   h'.get? s.heap.objs.size = some { cls:=.type "list",dict:=none,data:=.seq its.toArray c',slots:=#[] }→EP X pins σ Q (.ref s.heap.objs.size) { s with heap:=h' }:=fun its r' hz h' c' kp e =>
  ⟨.ref s.heap.objs.size,_,I.laid (t':=s.toks) kp (Nat.le_refl _) (show ObjOk X.prog X.w _ h' _ (.lst ys) from ⟨hz,its,c',r',e⟩),rfl,q _ (I.hok.fresh (Nat.le_refl _))⟩
 rcases hq with hq | hq
 ·obtain ⟨its,r',pl,hz⟩:=I.list hq
  have hlen:=r'.length
  obtain ⟨o,ho,hc,n,hd⟩:=pl.isList
  exact call_list_seq p (.inl rfl) ho hc hd (fun h' c' kp e=>fin its r' hz h' c' kp e) (by simp only [List.size_toArray] <;> omega)
 ·obtain ⟨its,r',pl,hz⟩:=I.tuple hq
  have hlen:=r'.length
  obtain ⟨o,ho,hc,n,hd⟩:=pl
  exact call_list_seq p (.inr rfl) ho hc hd (fun h' c' kp e=>fin its r' hz h' c' kp e) (by simp only [List.size_toArray] <;> omega)
def tyV (K:PySem.W.Frag) (T:String) (x:V) (H:Hp):Prop:=match x with
 | .str _=>T = "str"
 | .int _=>T = "int"
 | .ref p=>(T = "list"∧∃ xs,SqL K H p xs) ∨ (T = "tuple"∧∃ o,K.lookup p = some o∧o.cls = .type "tuple"∧o.dict = none) ∨
   (T = "dict"∧((∃ kvs,H p = some (.dK kvs)) ∨ ∃ kvs,H p = some (.dT kvs))) ∨ (T = "set"∧∃ S n,H p = some (.set S n))
 | _=>False
theorem tyV_is {pins:List (Addr × Obj)} {σ:St} {H:Hp} {s:Shared} {T:String} {x:V} {v:Value} (I:Inv X pins σ H s) (r:RelV x v) (ty:tyV X.K T x H) :
  s.TypeIs v T∧∀ a,v = .ref a→∃ ob,s.heap.get? a = some ob∧ob.dict = none:=by
 cases x with
 | str z =>
  obtain ⟨t,rfl⟩:=r
  cases (show T = "str" from ty)
  exact ⟨typeIs_str s z t,fun _ e=>nomatch e⟩
 | int i =>
  obtain ⟨t,rfl⟩:=r
  cases (show T = "int" from ty)
  exact ⟨typeIs_int s i t,fun _ e=>nomatch e⟩
 | ref p =>
  cases r
  rcases ty with ⟨rfl,xs,hq⟩ | ⟨rfl,o,hk,hc,hd⟩ | ⟨rfl,hk⟩ | ⟨rfl,S,n,hk⟩
  ·obtain ⟨its,_,pl,_⟩:=I.list hq
   refine ⟨pl.isList.typeIs,fun a e=>?_⟩
   cases e
   obtain ⟨o,n,e,c,hd,_⟩:=pl
   exact ⟨o,e,hd⟩
  ·refine ⟨⟨o,I.kIn p o hk,hc⟩,fun a e=>?_⟩
   cases e
   exact ⟨o,I.kIn _ o hk,hd⟩
  ·have z:∃ o,s.heap.get? p = some o∧o.ExactDict:=by
    rcases hk with ⟨kvs,hk⟩ | ⟨kvs,hk⟩
    ·obtain ⟨_,_,_,_,o,_,_,e,ex,_⟩:=I.hok p _ hk
     exact ⟨o,e,ex⟩
    ·obtain ⟨_,_,_,_,o,_,_,e,ex,_⟩:=I.hok p _ hk
     exact ⟨o,e,ex⟩
   obtain ⟨o,e,ex⟩:=z
   refine ⟨⟨o,e,ex.1⟩,fun a e2=>?_⟩
   cases e2
   exact ⟨o,e,ex.2.1⟩
  ·obtain ⟨o,_,_,_,e,ex,_⟩:=I.hok p _ hk
   refine ⟨⟨o,e,ex.1⟩,fun a e2=>?_⟩
   cases e2
   exact ⟨o,e,ex.2.1⟩
 | _=>exact False.elim ty
def tBM0 (K:PySem.W.Frag) (T:String) (r:V→List V→Hp→VK→Prop) (to:TE):TE:=fun σ H Q=>to σ H fun x H1=>tyV K T x H1∧r x [] H1 Q
def tBM (K:PySem.W.Frag) (T:String) (r:V→List V→Hp→VK→Prop) (to:TE) (t:TA):TE:=fun σ H Q=>to σ H fun x H1=>tyV K T x H1∧t σ H1 fun xs H2=>r x xs H2 Q
variable {o e:Expr} {es:List Expr} {to:TE} {t:TA} {name:Str} {apos cpos:Pos} {T id:String} {r:V→List V→Hp→VK→Prop}
theorem pe_bm0 (pa:PlainAttrs T) (slot:Slot T name id) (hty:typeOf (.builtin id) = pure (.type "method_descriptor")) (hm:MtR X id r) (ho:PE X o to)
  (hbase:attributeBase o name X.env (eval o X.env) = eval o X.env:=by rfl) (hline:(apos.endLine == cpos.line) = true:=by rfl):PE X (.Call (.Attribute o name apos) [] [] cpos) (tBM0 X.K T r to):=by
 intro pins s σ H Q I h
 refine wpAny_Call_method0_late hbase hline (thn (ho pins s σ H _ I h) fun v s1 ⟨x,H1,I1,r1,ty,q1⟩=>?_)
 obtain ⟨h1,h2⟩:=tyV_is I1 r1 ty
 exact ⟨T,id,pa,slot,hty,h1,h2,Calls.callWith_builtin rfl (PySem.evalArgs_none (hm pins s1 σ H1 x [] v [] Q I1 r1 .nil q1))⟩
theorem pe_bm (pa:PlainAttrs T) (slot:Slot T name id) (hty:typeOf (.builtin id) = pure (.type "method_descriptor")) (hm:MtR X id r) (ho:PE X o to) (ha:PA X (e :: es) t)
  (hbase:attributeBase o name X.env (eval o X.env) = eval o X.env:=by rfl)
  (hfew:((backTo cpos (starEach (e :: es) X.env)).all (fun x=>!x.1) && (backToKw cpos (keywordEach [] X.env)).all (fun x=>x.1.isSome)
   && decide ((e :: es).length + ([]:List Keyword).length + (if ([]:List Keyword).isEmpty then 0 else 1) < 30)) = true:=by rfl)
  (hline:(apos.endLine == cpos.line) = true:=by rfl) (hs:starEach (e :: es) X.env = (false,eval e X.env) :: starEach es X.env:=by rfl) (hplain:(backTo cpos (starEach es X.env)).any (·.1) = false:=by rfl) :
  PE X (.Call (.Attribute o name apos) (e :: es) [] cpos) (tBM X.K T r to t):=by
 intro pins s σ H Q I h
 refine wpAny_Call_method_late hbase hfew hline rfl (thn (ho pins s σ H _ I h) fun v s1 ⟨x,H1,I1,r1,ty,q1⟩=>?_)
 obtain ⟨h1,h2⟩:=tyV_is I1 r1 ty
 refine ⟨T,id,pa,slot,hty,h1,h2,?_⟩
 have hA:=ha cpos pins s1 σ H1 _ I1 q1
 rw [hs] at hA ⊢
 refine Calls.callWith_builtin (by show (false || (backTo cpos (starEach es X.env)).any (·.1)) = false; rw [hplain] <;> rfl) (Calls.evalArgs_plain ?_)
 exact thn hA fun us s2 ⟨vs,H2,I2,r2,q2⟩=>hm pins s2 σ H2 x vs v us Q I2 r1 r2 q2
end
end L2
namespace L2
open PySem PySem.Spec PyProof.Rows
def MtM (X:Cx) (id:String) (r:V→List V→Hp→VK→Prop):Prop :=
 ∀ (pins:List (Addr × Obj)) (s:Shared) (σ:St) (H:Hp) (x:V) (xs:List V) (v:Value) (us:List Value) (Q:VK),Inv X pins σ H s→RelV x v→Vals xs us→r x xs H Q →
  wpAny (model X.prog X.w) X.A (call (.builtin id) (v :: us)) (EP X pins σ Q) X.xe s
theorem Vals.one:∀ {x:V} {us:List Value},Vals [x] us→∃ u,us = [u]∧RelV x u
 | _,_,.cons r .nil=>⟨_,rfl,r⟩
theorem Vals.zero:∀ {us:List Value},Vals [] us→us = []
 | _,.nil=>rfl
theorem Vals.dropLast {xs:List V} {us:List Value} (h:Vals xs us):Vals xs.dropLast us.dropLast:=by
 induction h with
 | nil=>exact .nil
 | cons r t ih =>
  cases t with
  | nil=>exact .nil
  | cons q t'=>exact .cons r ih
theorem Vals.reverse {xs:List V} {us:List Value} (h:Vals xs us):Vals xs.reverse us.reverse:=by
 induction h with
 | nil=>exact .nil
 | cons r t ih=>rw [List.reverse_cons,List.reverse_cons]; exact Vals.append ih (.cons r .nil)
theorem erase_last {α:Type} (l:List α):l.eraseIdx (l.length - 1) = l.dropLast:=by
 induction l with
 | nil=>rfl
 | cons a r ih =>
  cases r with
  | nil=>rfl
  | cons b r =>
   have e:(a :: b :: r).length - 1 = ((b :: r).length - 1) + 1:=by
    have h1:(a :: b :: r).length = r.length + 2:=rfl
    have h2:(b :: r).length = r.length + 1:=rfl
    omega
   rw [e,List.eraseIdx_cons_succ,ih]
   all_goals rfl
section
variable {X:Cx} {pins:List (Addr × Obj)} {σ:St} {H:Hp} {s:Shared} {l b:Addr} {xs ys zs:List V}
theorem Inv.lset {its its':List Value} {n:Nat} {f:Array Value→Array Value} {t':Nat} (I:Inv X pins σ H s) (hH:H l = some (.lst xs))
  (e:s.heap.get? l = some { cls:=.type "list",data:=.seq its.toArray n }) (hf:f its.toArray = its'.toArray) (hv:Vals ys its') (hz:ys.length ≤ sizeLine) :
  Inv X pins σ (upd H l (.lst ys)) { s with heap:=s.heap.update l (Obj.mapSeq f),toks:=t' }:=by
 have q:=PySem.IsL.update e f
 rw [hf] at q
 refine I.write (x:=l) (e:=l) (by rw [hH]; exact trivial) (.inl rfl) (fun b' u hb hu=>(Heap.get?_update_other s.heap (Obj.mapSeq f) (Ne.symm hb)).trans hu) ⟨_,q⟩ ?_
 exact ⟨hz,its',_,hv,q⟩
theorem Inv.lnew {its:List Value} {t':Nat} (I:Inv X pins σ H s) (hv:Vals ys its) (hz:ys.length ≤ sizeLine) :
  Inv X pins σ (upd H s.heap.objs.size (.lst ys)) { s with heap:=s.heap.push { cls:=.type "list",data:=.seq its.toArray },toks:=t' } :=
 I.laid (fun _ _ q=>Heap.get?_push_of_some _ q) (Nat.le_refl _) ⟨hz,its,0,hv,Heap.get?_push_size _ rfl⟩
theorem Inv.fresh (I:Inv X pins σ H s):H s.heap.objs.size = none:=I.hok.fresh (Nat.le_refl _)
theorem Inv.lstM (I:Inv X pins σ H s) (hH:H l = some (.lst xs)):xs.length ≤ sizeLine∧∃ (its:List Value) (n:Nat),Vals xs its∧xs.length = its.length∧s.heap.get? l = some { cls:=.type "list",data:=.seq its.toArray n }:=by
 obtain ⟨z,its,n,r,e⟩:=I.hok l _ hH
 exact ⟨z,its,n,r,r.length,e⟩
theorem notLongL {n:Nat} (h:n ≤ sizeLine):Builtin.List.listTooLong n = false:=by
 unfold Builtin.List.listTooLong
 exact decide_eq_false (by omega)
end
section
variable {X:Cx}
def rAppend:V→List V→Hp→VK→Prop:=fun x vs H Q=>∃ l xs y,x = .ref l∧vs = [y]∧H l = some (.lst xs)∧xs.length < sizeLine∧Q .non (upd H l (.lst (xs ++ [y])))
theorem mt_append:MtM X "list.append" rAppend:=by
 intro pins s σ H x vs v us Q I rx rv h
 obtain ⟨l,xs,y,rfl,rfl,hH,hz,q⟩:=h
 cases rx
 obtain ⟨u,rfl,ru⟩:=rv.one
 obtain ⟨z,its,n,r,hl,e⟩:=I.lstM hH
 refine call_meets F.slot_list_append ⟨_,e,rfl⟩ F.entry_list_append (F.args_list_append_2 _ _) (PySem.list_append l its.toArray n u (by rw [List.size_toArray]; omega)) ⟨e,?_⟩
 refine ⟨.non,_,I.lset (its':=its ++ [u]) hH e (by simp) (r.append (.cons ru .nil)) ?_,rfl,q⟩
 rw [List.length_append,List.length_singleton]
 omega
def rExtend:V→List V→Hp→VK→Prop:=fun x vs H Q=>∃ l b xs zs,x = .ref l∧vs = [.ref b]∧H l = some (.lst xs)∧H b = some (.lst zs)∧xs.length + zs.length ≤ sizeLine∧Q .non (upd H l (.lst (xs ++ zs)))
theorem mt_extend:MtM X "list.extend" rExtend:=by
 intro pins s σ H x vs v us Q I rx rv h
 obtain ⟨l,b,xs,zs,rfl,rfl,hH,hB,hz,q⟩:=h
 cases rx
 obtain ⟨u,rfl,ru⟩:=rv.one
 cases ru
 obtain ⟨z,its,n,r,hl,e⟩:=I.lstM hH
 obtain ⟨z2,its2,n2,r2,hl2,e2⟩:=I.lstM hB
 have hsz:its.toArray.size + its2.toArray.size ≤ sizeLine:=by rw [List.size_toArray,List.size_toArray]; omega
 have hlong:¬ (!its.toArray.isEmpty && Builtin.List.listTooLong (its.toArray.size + its2.toArray.size)) = true:=by
  rw [notLongL hsz,Bool.and_false]
  exact Bool.false_ne_true
 refine call_meets F.slot_list_extend ⟨_,e,rfl⟩ F.entry_list_extend (F.args_list_extend_2 _ _)
  (AutoSeq1.list_extend_list_list_0 l its.toArray n b its2.toArray n2 hlong (by rw [List.size_toArray]; omega) (by omega)) ⟨e,e2,?_⟩
 refine ⟨.non,_,I.lset (its':=its ++ its2) hH e (by simp) (r.append r2) ?_,rfl,q⟩
 rw [List.length_append]
 omega
def rPop:V→List V→Hp→VK→Prop:=fun x vs H Q=>∃ l xs y,x = .ref l∧vs = []∧H l = some (.lst xs)∧xs[xs.length - 1]? = some y∧Q y (upd H l (.lst xs.dropLast))
theorem mt_pop:MtM X "list.pop" rPop:=by
 intro pins s σ H x vs v us Q I rx rv h
 obtain ⟨l,xs,y,rfl,rfl,hH,hy,q⟩:=h
 cases rx
 have hus:=rv.zero
 subst hus
 obtain ⟨z,its,n,r,hl,e⟩:=I.lstM hH
 obtain ⟨u,hu,ru⟩:=r.get hy
 have hy':its.toArray[its.toArray.size - 1]? = some u:=by
  show its.toArray[its.length - 1]? = some u
  rw [← Array.getElem?_toList,← hl]
  exact hu
 refine call_meets F.slot_list_pop ⟨_,e,rfl⟩ F.entry_list_pop (F.args_list_pop_1 _) (MeetsSeq.list_pop_last l its.toArray n u hy' (by rw [List.size_toArray]; omega)) ⟨e,?_⟩
 refine ⟨y,_,I.lset (its':=its.dropLast) hH e ?_ r.dropLast ?_,ru,q⟩
 ·show its.toArray.eraseIdxIfInBounds (its.toArray.size - 1) = its.dropLast.toArray
  rw [List.size_toArray,List.eraseIdxIfInBounds_toArray,erase_last]
 ·rw [List.length_dropLast]
  omega
def rReverse:V→List V→Hp→VK→Prop:=fun x vs H Q=>∃ l xs,x = .ref l∧vs = []∧H l = some (.lst xs)∧Q .non (upd H l (.lst xs.reverse))
theorem mt_reverse:MtM X "list.reverse" rReverse:=by
 intro pins s σ H x vs v us Q I rx rv h
 obtain ⟨l,xs,rfl,rfl,hH,q⟩:=h
 cases rx
 have hus:=rv.zero
 subst hus
 obtain ⟨z,its,n,r,hl,e⟩:=I.lstM hH
 refine call_meets F.slot_list_reverse ⟨_,e,rfl⟩ F.entry_list_reverse (F.args_list_reverse_1 _) (AutoSeq1.list_reverse_list_0 l its.toArray n (by rw [List.size_toArray]; omega)) ⟨e,?_⟩
 refine ⟨.non,_,I.lset (its':=its.reverse) hH e (by simp) r.reverse ?_,rfl,q⟩
 rw [List.length_reverse]
 omega
def rCat:R2:=fun x y H Q=>∃ l b xs zs,x = .ref l∧y = .ref b∧H l = some (.lst xs)∧H b = some (.lst zs)∧xs.length + zs.length ≤ sizeLine∧∀ p,H p = none→Q (.ref p) (upd H p (.lst (xs ++ zs)))
theorem op_cat:OpR X (binaryOp .Add) rCat:=by
 intro pins s σ H x y v u Q I rx ry h
 obtain ⟨l,b,xs,zs,rfl,rfl,hH,hB,hz,q⟩:=h
 cases rx
 cases ry
 obtain ⟨z,its,n,r,hl,e⟩:=I.lstM hH
 obtain ⟨z2,its2,n2,r2,hl2,e2⟩:=I.lstM hB
 refine PySem.P.add_list e e2 ?_ (by rw [List.size_toArray,List.size_toArray]; omega)
 have ea:its.toArray ++ its2.toArray = (its ++ its2).toArray:=by simp
 rw [ea]
 exact ⟨.ref _,_,I.lnew (t':=s.toks) (r.append r2) (by rw [List.length_append]; omega),rfl,q _ I.fresh⟩
end
section
variable {prog:Program} {w:World} {A:Around} {E:Value→Shared→Prop} {s:Shared}
set_option maxRecDepth 100000 in
end
section
variable {X:Cx}
end
end L2
namespace L2
open PySem PySem.Spec PyProof.Rows
section
variable {κ:Type} [DecidableEq κ]
def valV (kvs:List (κ × V)) (k:κ):Option V:=(kvs.find? fun kv=>decide (kv.1 = k)).map (·.2)
def putK (kvs:List (κ × V)) (k:κ) (v:V):List (κ × V) :=
 if (kvs.any fun kv=>decide (kv.1 = k)) = true then kvs.map (fun kv=>if kv.1 = k then (kv.1,v) else kv) else kvs ++ [(k,v)]
theorem valV_pos {p:κ × V} {r:List (κ × V)} {k:κ} (e:p.1 = k):valV (p :: r) k = some p.2:=by simp [valV,List.find?_cons,e]
theorem valV_neg {p:κ × V} {r:List (κ × V)} {k:κ} (e:¬ p.1 = k):valV (p :: r) k = valV r k:=by simp [valV,List.find?_cons,e]
theorem valV_any (k:κ):∀ kvs:List (κ × V),(kvs.any fun kv=>decide (kv.1 = k)) = (valV kvs k).isSome
 | []=>rfl
 | p :: r=>by
  rw [List.any_cons]
  by_cases e:p.1 = k
  ·simp only [valV_pos e,decide_eq_true e,Bool.true_or,Option.isSome_some]
  ·rw [valV_neg e,decide_eq_false e,Bool.false_or]; exact valV_any k r
theorem valV_map (k j:κ) (y:V):∀ kvs:List (κ × V),valV (kvs.map fun kv=>if kv.1 = k then (kv.1,y) else kv) j = (valV kvs j).map fun x=>if j = k then y else x
 | []=>rfl
 | p :: r=>by
  have ih:=valV_map k j y r
  rw [List.map_cons]
  by_cases h:p.1 = k
  ·rw [if_pos h]
   by_cases e:p.1 = j
   ·rw [valV_pos (p:=(p.1,y)) e,valV_pos e,Option.map_some,if_pos (e.symm.trans h)]
   ·rw [valV_neg (p:=(p.1,y)) e,valV_neg e,ih]
  ·rw [if_neg h]
   by_cases e:p.1 = j
   ·rw [valV_pos (p:=p) e,valV_pos e,Option.map_some,if_neg (fun z=>h (e.trans z))]
   ·rw [valV_neg (p:=p) e,valV_neg e,ih]
theorem valV_snoc (k j:κ) (y:V):∀ kvs:List (κ × V),valV kvs k = none→valV (kvs ++ [(k,y)]) j = if j = k then some y else valV kvs j
 | [],_=>by
  by_cases e:k = j
  ·rw [if_pos e.symm]; exact valV_pos (p:=(k,y)) e
  ·rw [if_neg (fun z=>e z.symm)]; exact valV_neg (p:=(k,y)) e
 | p :: r,hn=>by
  rw [List.cons_append]
  have hk:¬ p.1 = k:=fun z=>by rw [valV_pos z] at hn; cases hn
  rw [valV_neg hk] at hn
  have ih:=valV_snoc k j y r hn
  by_cases e:p.1 = j
  ·rw [valV_pos e,valV_pos e,if_neg (fun z=>hk (e.trans z))]
  ·rw [valV_neg e,valV_neg e,ih]
theorem valV_put (kvs:List (κ × V)) (k j:κ) (y:V):valV (putK kvs k y) j = if j = k then some y else valV kvs j:=by
 unfold putK
 by_cases a:(kvs.any fun kv=>decide (kv.1 = k)) = true
 ·rw [if_pos a,valV_map]
  rw [valV_any] at a
  by_cases e:j = k
  ·obtain ⟨x,hx⟩:=Option.isSome_iff_exists.mp a
   rw [if_pos e,e,hx,Option.map_some,if_pos rfl]
  ·rw [if_neg e]
   cases valV kvs j with
   | none=>rfl
   | some x=>rw [Option.map_some,if_neg e]
 ·rw [if_neg a]
  refine valV_snoc k j y kvs ?_
  rw [valV_any] at a
  cases q:valV kvs k with
  | none=>rfl
  | some x=>rw [q] at a; exact (a rfl).elim
theorem length_putK (kvs:List (κ × V)) (k:κ) (v:V):(putK kvs k v).length ≤ kvs.length + 1:=by
 unfold putK
 split
 ·rw [List.length_map]; omega
 ·rw [List.length_append,List.length_cons,List.length_nil]; omega
theorem putK_new {kvs:List (κ × V)} {k:κ} (v:V) (h:valV kvs k = none):putK kvs k v = kvs ++ [(k,v)]:=by
 unfold putK
 rw [valV_any,h]
 exact if_neg (by decide)
theorem RelO.isSome_eq {o:Option V} {u:Option Value} (r:RelO o u):o.isSome = u.isSome:=by
 cases o with
 | none=>cases u with
  | none=>rfl
  | some _=>exact (show False from r).elim
 | some _=>cases u with
  | none=>exact (show False from r).elim
  | some _=>rfl
theorem RelO.getD {o:Option V} {u:Option Value} {d:V} {d':Value} (r:RelO o u) (rd:RelV d d'):RelV (o.getD d) (u.getD d'):=by
 cases o with
 | none=>cases u with
  | none=>exact rd
  | some _=>exact (show False from r).elim
 | some _=>cases u with
  | none=>exact (show False from r).elim
  | some _=>exact r
theorem KV.val {kvs:List (κ × V)} {vs:List (κ × Value)} (r:KV kvs vs) (k:κ):RelO (valV kvs k) (valueAt vs k):=by
 unfold KV at r
 induction r with
 | nil=>exact True.intro
 | @cons p q ps qs h t ih =>
  obtain ⟨h1,h2⟩:=h
  by_cases e:p.1 = k
  ·have e':q.1 = k:=h1.symm.trans e
   have b:valueAt (q :: qs) k = some q.2:=by simp [valueAt,List.find?_cons,e']
   rw [valV_pos e,b]; exact h2
  ·have e':¬ q.1 = k:=fun z=>e (h1.trans z)
   have b:valueAt (q :: qs) k = valueAt qs k:=by simp [valueAt,List.find?_cons,e']
   rw [valV_neg e,b]; exact ih
theorem KV.any {kvs:List (κ × V)} {vs:List (κ × Value)} (r:KV kvs vs) (k:κ):(kvs.any fun kv=>decide (kv.1 = k)) = vs.any fun kv=>decide (kv.1 = k):=by
 unfold KV at r
 induction r with
 | nil=>rfl
 | cons h t ih=>rw [List.any_cons,List.any_cons,ih,h.1]
theorem KV.repl {kvs:List (κ × V)} {vs:List (κ × Value)} (r:KV kvs vs) (k:κ) {y:V} {u:Value} (ry:RelV y u) :
  KV (kvs.map fun kv=>if kv.1 = k then (kv.1,y) else kv) (vs.map fun kv=>if kv.1 = k then (kv.1,u) else kv):=by
 unfold KV at r ⊢
 induction r with
 | nil=>exact .nil
 | @cons p q ps qs h t ih =>
  rw [List.map_cons,List.map_cons]
  refine .cons ?_ ih
  obtain ⟨h1,h2⟩:=h
  by_cases e:p.1 = k
  ·rw [if_pos e,if_pos (h1.symm.trans e)]; exact ⟨h1,ry⟩
  ·rw [if_neg e,if_neg (fun z=>e (h1.trans z))]; exact ⟨h1,h2⟩
theorem KV.put {kvs:List (κ × V)} {vs:List (κ × Value)} (r:KV kvs vs) (k:κ) {y:V} {u:Value} (ry:RelV y u):KV (putK kvs k y) (stored vs k u):=by
 unfold putK stored
 rw [r.any k]
 by_cases e:(vs.any fun kv=>decide (kv.1 = k)) = true
 ·rw [if_pos e,if_pos e]; exact r.repl k ry
 ·rw [if_neg e,if_neg e]; exact Paired.snoc r ⟨rfl,ry⟩
theorem KV.length {kvs:List (κ × V)} {vs:List (κ × Value)} (r:KV kvs vs):kvs.length = vs.length:=Paired.length r
end
theorem kV_is {P:Program} {w:World} {k:Key} {u:Value} (r:RelV (kV k) u):(mixKind P w).is k u = true:=by
 cases k with
 | inl i=>obtain ⟨t,e⟩:=(show ∃ t,u = Value.int i t from r); subst e; exact mixKind_int P w i t
 | inr x=>obtain ⟨t,e⟩:=(show ∃ t,u = Value.str x t from r); subst e; exact mixKind_str P w x t
theorem items_are {P:Program} {w:World}:∀ {ks:List Key} {us:List Value},Vals (ks.map kV) us→ItemsAre (mixKind P w) ks us
 | [],_,r=>by rw [List.map_nil] at r; cases r; exact .nil
 | k :: ks,_,r=>by
  rw [List.map_cons] at r
  cases r with
  | cons h t=>exact .cons (kV_is h) (items_are t)
abbrev KT (H:Hp):List (List Key × V)→List (List Key × Addr × Value)→Prop:=Paired fun p q=>p.1 = q.1∧H q.2.1 = some (.tup (p.1.map kV))∧RelV p.2 q.2.2
theorem KT.val {H:Hp} {kvs:List (List Key × V)} {xs:List (List Key × Addr × Value)} (r:KT H kvs xs) (k:List Key):RelO (valV kvs k) ((atKey xs k).map (·.2)):=by
 induction r with
 | nil=>exact True.intro
 | @cons p q ps qs h t ih =>
  obtain ⟨h1,_,h2⟩:=h
  by_cases e:p.1 = k
  ·have e':q.1 = k:=h1.symm.trans e
   have b:atKey (q :: qs) k = some q.2:=by simp [atKey,List.find?_cons,e']
   rw [valV_pos e,b]; exact h2
  ·have e':¬ q.1 = k:=fun z=>e (h1.trans z)
   have b:atKey (q :: qs) k = atKey qs k:=by simp [atKey,List.find?_cons,e']
   rw [valV_neg e,b]; exact ih
theorem KT.repl {H:Hp} {kvs:List (List Key × V)} {xs:List (List Key × Addr × Value)} (r:KT H kvs xs) (k:List Key) {y:V} {u:Value} (ry:RelV y u) :
  KT H (kvs.map fun kv=>if kv.1 = k then (kv.1,y) else kv) (xs.map (putAt k u)):=by
 induction r with
 | nil=>exact .nil
 | @cons p q ps qs h t ih =>
  rw [List.map_cons,List.map_cons]
  refine .cons ?_ ih
  obtain ⟨h1,h2,h3⟩:=h
  unfold putAt
  by_cases e:p.1 = k
  ·rw [if_pos e,if_pos (h1.symm.trans e)]; exact ⟨h1,h2,ry⟩
  ·rw [if_neg e,if_neg (fun z=>e (h1.trans z))]; exact ⟨h1,h2,h3⟩
theorem KT.put {H:Hp} {kvs:List (List Key × V)} {xs:List (List Key × Addr × Value)} (r:KT H kvs xs) (k:List Key) {b:Addr} {y:V} {u:Value} (hb:H b = some (.tup (k.map kV))) (ry:RelV y u) :
  KT H (putK kvs k y) (storedH xs k b u):=by
 have e:(kvs.any fun kv=>decide (kv.1 = k)) = (atKey xs k).isSome:=by
  rw [valV_any,(r.val k).isSome_eq,Option.isSome_map]
 unfold putK storedH
 rw [e]
 by_cases q:(atKey xs k).isSome = true
 ·rw [if_pos q,if_pos q]; exact r.repl k ry
 ·rw [if_neg q,if_neg q]; exact Paired.snoc r ⟨rfl,hb,ry⟩
theorem KT.keeps {H H':Hp} {kvs:List (List Key × V)} {xs:List (List Key × Addr × Value)} (r:KT H kvs xs) (ht:∀ b ys,H b = some (.tup ys)→H' b = some (.tup ys)):KT H' kvs xs :=
 Paired.mapP r fun _ _ z=>⟨z.1,ht _ _ z.2.1,z.2.2⟩
section
variable {P:Program} {w:World} {H:Hp} {h:Heap} {a:Addr}
theorem rd_of {u:HO} (ok:HOk P w H h) (e:Rd H a u):ObjOk P w H h a u:=e.ok ok
theorem dk_rd {kvs:List (Key × V)} (ok:HOk P w H h) (e:Rd H a (.dK kvs)):kvs.length ≤ sizeLine∧(a == sysModules) = false∧∃ vs,KV kvs vs∧h.DictOf (mixKind P w) a vs :=
 show ObjOk P w H h a (.dK kvs) from rd_of ok e
theorem dk_of {kvs:List (Key × V)} (ok:HOk P w H h) (e:H a = some (.dK kvs)):kvs.length ≤ sizeLine∧(a == sysModules) = false∧∃ vs,KV kvs vs∧h.DictOf (mixKind P w) a vs:=dk_rd ok (.inl e)
theorem key_of {ks:List Key} (ok:HOk P w H h) (e:H a = some (.tup (ks.map kV))):(tupleKind (mixKind P w)).is h ks a:=by
 obtain ⟨_,its,r,o,h1,h2,n,h3⟩:=(show ObjOk P w H h a (.tup (ks.map kV)) from ok a _ e)
 exact ⟨o,its.toArray,n,h1,h2,h3,by simpa using items_are r⟩
theorem dt_rd {kvs:List (List Key × V)} (ok:HOk P w H h) (e:Rd H a (.dT kvs)):kvs.length ≤ sizeLine∧(a == sysModules) = false ∧
  ∃ xs,KT H kvs xs∧h.DictOfH (tupleKind (mixKind P w)) a xs:=by
 obtain ⟨z,y,xs,r,o,es,ep,h1,h2,h3,h4,h5⟩:=(show ObjOk P w H h a (.dT kvs) from rd_of ok e)
 refine ⟨z,y,xs,r,o,es,ep,h1,h2,h3,h4,fun x hx=>?_,h5⟩
 have all:∀ {l:List (List Key × V)} {m:List (List Key × Addr × Value)},KT H l m→∀ x ∈ m,(tupleKind (mixKind P w)).is h x.1 x.2.1:=by
  intro l m q
  induction q with
  | nil=>intro x hx; exact nomatch hx
  | @cons p q ps qs hq t ih =>
   intro x hx
   rcases List.mem_cons.mp hx with e | hx
   ·subst e
    exact key_of ok (by rw [← hq.1]; exact hq.2.1)
   ·exact ih x hx
 exact all r x hx
theorem dt_of {kvs:List (List Key × V)} (ok:HOk P w H h) (e:H a = some (.dT kvs)):kvs.length ≤ sizeLine∧(a == sysModules) = false ∧
  ∃ xs,KT H kvs xs∧h.DictOfH (tupleKind (mixKind P w)) a xs:=dt_rd ok (.inl e)
end
def DGet (H:Hp) (a:Addr) (y:V) (r:Option V):Prop :=
 (∃ kvs k,Rd H a (.dK kvs)∧y = kV k∧r = valV kvs k) ∨ ∃ kvs k b,Rd H a (.dT kvs)∧y = .ref b∧H b = some (.tup (k.map kV))∧r = valV kvs k
def DPut (H:Hp) (a:Addr) (y v:V) (H':Hp):Prop :=
 (∃ kvs k,H a = some (.dK kvs)∧y = kV k∧kvs.length < sizeLine∧H' = upd H a (.dK (putK kvs k v))) ∨
 ∃ kvs k b,H a = some (.dT kvs)∧y = .ref b∧H b = some (.tup (k.map kV))∧kvs.length < sizeLine∧H' = upd H a (.dT (putK kvs k v))
theorem DGet.k {H:Hp} {a:Addr} {kvs:List (Key × V)} {k:Key} (e:H a = some (.dK kvs)):DGet H a (kV k) (valV kvs k):=.inl ⟨kvs,k,.inl e,rfl,rfl⟩
theorem DPut.k {H:Hp} {a:Addr} {kvs:List (Key × V)} {k:Key} {v:V} (e:H a = some (.dK kvs)) (hl:kvs.length < sizeLine):DPut H a (kV k) v (upd H a (.dK (putK kvs k v))):=.inl ⟨kvs,k,e,rfl,hl,rfl⟩
section
variable {X:Cx} {pins:List (Addr × Obj)} {σ:St} {H:Hp} {s:Shared} {a:Addr} {y v:V} {u r:Value} {o:Option V} {A:Around} {E:Value→Shared→Prop}
theorem Inv.big (I:Inv X pins σ H s):sysModules < s.heap.objs.size:=by
 have h:mainGlobals < s.heap.objs.size:=(I.mod.glob.keeps I.bk).lt
 exact Nat.lt_trans (by decide) h
theorem d_getItem {Q:Value→Shared→Prop} (hu:A.units + 1 < cLine) (I:Inv X pins σ H s) (g:DGet H a y (some v)) (ry:RelV y u) (h:∀ w' s',Inv X pins σ H s'→RelV v w'→Q w' s') :
  wpAny (model X.prog X.w) A (getItem (.ref a) u) Q E s:=by
 rcases g with ⟨kvs,k,e,ey,l⟩ | ⟨kvs,k,b,e,ey,eb,l⟩
 ·subst ey
  obtain ⟨z,hd,vs,rel,dd⟩:=dk_rd I.hok e
  obtain ⟨w',hw,rw'⟩:=RelO.some_of (v:=v) (o:=valueAt vs k) (by rw [l]; exact rel.val k)
  exact wpAny_getItem_of (kV_is ry) dd.mapOf hw (h w' _ (I.tok _) rw')
 ·subst ey
  cases (show u = Value.ref b from ry)
  obtain ⟨z,hd,xs,rel,dd⟩:=dt_rd I.hok e
  obtain ⟨w',hw,rw'⟩:=RelO.some_of (v:=v) (o:=(atKey xs k).map (·.2)) (by rw [l]; exact rel.val k)
  obtain ⟨p,hp,hp2⟩:=Option.map_eq_some_iff.mp hw
  refine wpAny_getItem_heap (tupleKind_room_in1 hu) (key_of I.hok eb) dd hp ?_
  rw [hp2]
  exact h w' _ (I.tok _) rw'
theorem d_in {Q:Value→Shared→Prop} (hu:A.units + 1 < cLine) (I:Inv X pins σ H s) (g:DGet H a y o) (ry:RelV y u) (h:∀ s',Inv X pins σ H s'→Q (.bool o.isSome) s') :
  wpAny (model X.prog X.w) A (compareOp .In u (.ref a)) Q E s:=by
 rcases g with ⟨kvs,k,e,ey,l⟩ | ⟨kvs,k,b,e,ey,eb,l⟩
 ·subst ey
  obtain ⟨z,hd,vs,rel,dd⟩:=dk_rd I.hok e
  refine wpAny_in_of (kV_is ry) hd dd.mapOf ?_
  rw [← (rel.val k).isSome_eq,← l]
  exact h _ (I.tok _)
 ·subst ey
  cases (show u = Value.ref b from ry)
  obtain ⟨z,hd,xs,rel,dd⟩:=dt_rd I.hok e
  refine wpAny_in_heap (tupleKind_room_in1 hu) (key_of I.hok eb) hd dd ?_
  have q:=(rel.val k).isSome_eq
  rw [Option.isSome_map] at q
  rw [← q,← l]
  exact h _ (I.tok _)
theorem d_notIn {Q:Value→Shared→Prop} (hu:A.units + 1 < cLine) (I:Inv X pins σ H s) (g:DGet H a y o) (ry:RelV y u) (h:∀ s',Inv X pins σ H s'→Q (.bool (!o.isSome)) s') :
  wpAny (model X.prog X.w) A (compareOp .NotIn u (.ref a)) Q E s:=by
 rcases g with ⟨kvs,k,e,ey,l⟩ | ⟨kvs,k,b,e,ey,eb,l⟩
 ·subst ey
  obtain ⟨z,hd,vs,rel,dd⟩:=dk_rd I.hok e
  refine wpAny_notIn_of (kV_is ry) hd dd.mapOf ?_
  rw [← (rel.val k).isSome_eq,← l]
  exact h _ (I.tok _)
 ·subst ey
  cases (show u = Value.ref b from ry)
  obtain ⟨z,hd,xs,rel,dd⟩:=dt_rd I.hok e
  refine wpAny_notIn_heap (tupleKind_room_in1 hu) (key_of I.hok eb) hd dd ?_
  have q:=(rel.val k).isSome_eq
  rw [Option.isSome_map] at q
  rw [← q,← l]
  exact h _ (I.tok _)
theorem d_write {h':Heap} {t':Nat} {ob:HO} (I:Inv X pins σ H s) (mu:Mut (H a)) (hs:Heap.SameBut a s.heap h') (he:∃ q,h'.get? a = some q) (new:ObjOk X.prog X.w (upd H a ob) h' a ob) :
  Inv X pins σ (upd H a ob) { s with heap:=h',toks:=t' } :=
 I.write (x:=a) (e:=a) mu (.inl rfl) (fun b q hb z=>(hs.2 b hb).trans z) he new
theorem dk_new {P:Program} {w:World} {H':Hp} {h':Heap} {kvs:List (Key × V)} {vs:List (Key × Value)} (z:kvs.length ≤ sizeLine) (hd:(a == sysModules) = false) (rel:KV kvs vs) (dd:h'.DictOf (mixKind P w) a vs) :
  ObjOk P w H' h' a (.dK kvs):=⟨z,hd,vs,rel,dd⟩
theorem d_setItem {H':Hp} {Q:Unit→Shared→Prop} (hu:A.units + 1 < cLine) (I:Inv X pins σ H s) (g:DPut H a y v H') (ry:RelV y u) (rv:RelV v r) (h:∀ s',Inv X pins σ H' s'→Q () s') :
  wpAny (model X.prog X.w) A (setItem (.ref a) u r) Q E s:=by
 rcases g with ⟨kvs,k,e,ey,l,eH⟩ | ⟨kvs,k,b,e,ey,eb,l,eH⟩
 ·subst ey eH
  obtain ⟨z,hd,vs,rel,dd⟩:=dk_of I.hok e
  have hz:vs.length ≤ sizeLine:=by rw [← rel.length]; exact z
  have hl:(putK kvs k v).length ≤ sizeLine:=by have:=length_putK kvs k v; omega
  refine wpAny_setItem_pairs (hsz:=hz) (kV_is ry) dd fun h' dd' hs=>h _ ?_
  have he:∃ q,h'.get? a = some q:=let ⟨q,_,_,hq,_⟩:=dd'; ⟨q,hq⟩
  exact d_write I (by rw [e]; exact True.intro) hs he (dk_new hl hd (rel.put k rv) dd')
 ·subst ey eH
  cases (show u = Value.ref b from ry)
  obtain ⟨z,hd,xs,rel,dd⟩:=dt_of I.hok e
  have hz:xs.length ≤ sizeLine:=by rw [← Paired.length rel]; exact z
  have hl:(putK kvs k v).length ≤ sizeLine:=by have:=length_putK kvs k v; omega
  refine wpAny_setItem_heap (hsz:=hz) (tupleKind_room_in1 hu) (key_of I.hok eb) dd fun h' dd' hs=>h _ ?_
  obtain ⟨q,es,ep,hq,h2,h3,h4,_,h5⟩:=dd'
  refine d_write I (by rw [e]; exact True.intro) hs ⟨q,hq⟩ ⟨hl,hd,_,(rel.put k eb rv).keeps fun c ys ec=>?_,q,es,ep,hq,h2,h3,h4,h5⟩
  rw [upd_ne (ne_of ec e (fun z=>nomatch z))]
  exact ec
end
section
variable {X:Cx} {pins:List (Addr × Obj)} {σ:St} {H:Hp} {s:Shared} {a:Addr} {kvs:List (Key × V)} {k:Key} {u:Value} {A:Around} {E:Value→Shared→Prop}
theorem d_len {Q:Value→Shared→Prop} (I:Inv X pins σ H s) (e:Rd H a (.dK kvs)) (h:∀ t s',Inv X pins σ H s'→Q (.int kvs.length t) s'):wpAny (model X.prog X.w) A (call (.builtin "len") [.ref a]) Q E s:=by
 obtain ⟨z,hd,vs,rel,dd⟩:=dk_rd I.hok e
 refine call_len_dict hd dd (by rw [← rel.length]; rw [sizeLine_eq] at z; omega) ?_
 rw [← rel.length]
 exact h _ _ (I.tok _)
end
def NoSl (i:Expr):Prop:=∀ ov iv,subscripted i false ov iv = operate [ov,iv] (getItem ov iv)
theorem subD_of {prog:Program} {w:World} {A:Around} {E:Value→Shared→Prop} {s:Shared} {env:Env} {value slice:Expr} {pos:Pos} {T id:String} {Q:Value→Shared→Prop}
  (hl:typeLookup (.type T) "__getitem__" = pure (some (.builtin id))) (hs:NoSl slice)
  (h:wpAny (model prog w) A (eval value env) (fun o s₁=>wpAny (model prog w) A (eval slice env) (fun i s₂=>s₂.TypeIs o T∧wpAny (model prog w) A (getItem o i) Q E s₂) E s₁) E s) :
  wpAny (model prog w) A (eval (.Subscript value slice pos) env) Q E s:=by
 refine Subscript_ (wpAny_mono h (fun o s₁ h₁=>wpAny_mono h₁ (fun i s₂ h₂=>?_) fun _ _ x=>x) fun _ _ x=>x)
 obtain ⟨hT,h₂⟩:=h₂
 unfold subscriptTail
 refine wpAny_bind ?_
 rw [getitemInPython_of_ne hT.not_modules]
 refine wpAny_bind (wpAny_specialOf hT hl ?_)
 have fin:wpAny (model prog w) A (subscripted slice false o i) (fun r s₃=>wpAny (model prog w) A (letTemporaryGo value o r >>= fun _=>pure r) Q E s₃) E s₂:=by
  rw [hs o i]
  exact wpAny_operating (wpAny_mono h₂ (fun r s₃ h₃=>wpAny_bind (wpAny_letTemporaryGo (wpAny_pure h₃))) fun _ _ x=>x)
 first
  | exact wpAny_pure (wpAny_bind fin)
  | exact wpAny_bind (wpAny_pure (wpAny_bind fin))
  | exact wpAny_bind fin
theorem dict_typeIs {X:Cx} {pins:List (Addr × Obj)} {σ:St} {H:Hp} {s:Shared} {a:Addr} {y:V} {o:Option V} (I:Inv X pins σ H s) (g:DGet H a y o):s.TypeIs (.ref a) "dict":=by
 rcases g with ⟨kvs,k,e,_,_⟩ | ⟨kvs,k,b,e,_,_,_⟩
 ·obtain ⟨_,_,vs,_,dd⟩:=dk_rd I.hok e
  exact dd.typeIs
 ·obtain ⟨_,_,xs,_,dd⟩:=dt_rd I.hok e
  exact dd.typeIs
def tDGet (td ty:TE):TE:=fun σ H Q=>td σ H fun x H1=>ty σ H1 fun y H2=>∃ a v,x = .ref a∧DGet H2 a y (some v)∧Q v H2
def tDIn (ty td:TE):TE:=fun σ H Q=>ty σ H fun y H1=>td σ H1 fun x H2=>∃ a o,x = .ref a∧DGet H2 a y o∧Q (.bl o.isSome) H2
def tDNotIn (ty td:TE):TE:=fun σ H Q=>ty σ H fun y H1=>td σ H1 fun x H2=>∃ a o,x = .ref a∧DGet H2 a y o∧Q (.bl (!o.isSome)) H2
def sDPut (td ty tv:TE):TS:=fun D σ H=>tv σ H fun v H1=>td σ H1 fun x H2=>ty σ H2 fun y H3=>∃ a H4,x = .ref a∧DPut H3 a y v H4∧D.nx σ H4
section
variable {X:Cx} {o i e value:Expr} {pos pos' tpos:Pos} {td ty tv:TE}
theorem pe_dget (hu:X.A.units + 1 < cLine) (ho:PE X o td) (hi:PE X i ty) (hs:NoSl i):PE X (.Subscript o i pos) (tDGet td ty):=by
 intro pins s σ H Q I h
 refine subD_of PySem.F.slot_dict_getitem.lookup hs (thn (ho pins s σ H _ I h) fun u s1 ⟨x,H1,I1,rx,q1⟩=>thn (hi pins s1 σ H1 _ I1 q1) fun iv s2 ⟨y,H2,I2,ry,a,v,ex,g,q2⟩=>?_)
 subst ex
 obtain rfl:u = Value.ref a:=rx
 exact ⟨dict_typeIs I2 g,d_getItem hu I2 g ry fun w' s3 I3 rw'=>⟨v,H2,I3,rw',q2⟩⟩
theorem pc_din (hu:X.A.units + 1 < cLine) (hi:PE X i ty) (ho:PE X o td):PC X .In i o (tDIn ty td):=by
 intro pins s σ H Q I h
 refine thn (hi pins s σ H _ I h) fun iv s1 ⟨y,H1,I1,ry,q1⟩=>thn (ho pins s1 σ H1 _ I1 q1) fun u s2 ⟨x,H2,I2,rx,a,ov,ex,g,q2⟩=>?_
 subst ex
 obtain rfl:u = Value.ref a:=rx
 exact d_in hu I2 g ry fun s3 I3=>⟨.bl ov.isSome,H2,I3,rfl,q2⟩
theorem pc_dnotin (hu:X.A.units + 1 < cLine) (hi:PE X i ty) (ho:PE X o td):PC X .NotIn i o (tDNotIn ty td):=by
 intro pins s σ H Q I h
 refine thn (hi pins s σ H _ I h) fun iv s1 ⟨y,H1,I1,ry,q1⟩=>thn (ho pins s1 σ H1 _ I1 q1) fun u s2 ⟨x,H2,I2,rx,a,ov,ex,g,q2⟩=>?_
 subst ex
 obtain rfl:u = Value.ref a:=rx
 exact d_notIn hu I2 g ry fun s3 I3=>⟨.bl (!ov.isSome),H2,I3,rfl,q2⟩
theorem ps_dput (hu:X.A.units + 1 < cLine) (ho:PE X o td) (hi:PE X i ty) (hv:PE X value tv) (hs:swapsWith value (some (.Subscript o i pos')) pos.line X.env = pure false) :
  PS X (.Assign [.Subscript o i pos'] value pos) (sDPut td ty tv):=by
 intro pins s σ H D I h
 refine wpAny_Assign_Subscript (thn (hv pins s σ H _ I h) fun r s1 ⟨v,H1,I1,rv,q1⟩=>thn (ho pins s1 σ H1 _ I1 q1) fun u s2 ⟨x,H2,I2,rx,q2⟩=>thn (hi pins s2 σ H2 _ I2 q2) fun iv s3 ⟨y,H3,I3,ry,a,H4,ex,g,q3⟩=>?_) hs
 subst ex
 obtain rfl:u = Value.ref a:=rx
 exact d_setItem hu I3 g ry rv fun s4 I4=>⟨σ,H4,I4,q3⟩
end
theorem dk_empty {P:Program} {w:World} {H:Hp} (h:Heap) (hb:sysModules < h.objs.size):ObjOk P w H (h.push { cls:=.type "dict",data:=.dict #[] }) h.objs.size (.dK []) :=
 ⟨Nat.zero_le _,beq_eq_false_iff_ne.mpr (Ne.symm (Nat.ne_of_lt hb)),[],.nil,Heap.DictOf.new h⟩
def tDNewK:TE:=fun _ H Q=>∀ p,H p = none→Q (.ref p) (upd H p (.dK []))
section
variable {X:Cx} {pos:Pos}
theorem pe_dnewK:PE X (.Dict [] [] pos) tDNewK:=fun pins s σ H Q I h =>
 wpAny_Dict_empty ⟨.ref s.heap.objs.size,_,I.laid (a:=s.heap.objs.size) (o:=.dK []) (t':=s.toks) (fun _ _ q=>Heap.get?_push_of_some _ q) (Nat.le_refl _) (dk_empty s.heap I.big),rfl,h _ (I.hok.fresh (Nat.le_refl _))⟩
end
def tPairs:List (TE × TE)→St→Hp→(List (V × V)→Hp→Prop)→Prop
 | [],_,H,Q=>Q [] H
 | (tk,tv) :: r,σ,H,Q=>tk σ H fun x H1=>tv σ H1 fun y H2=>tPairs r σ H2 fun ps H3=>Q ((x,y) :: ps) H3
abbrev VV:List (V × V)→List (Value × Value)→Prop:=Paired fun p q=>RelV p.1 q.1∧RelV p.2 q.2
def PPs (X:Cx) (pos:Pos) (keys:List (Option Expr)) (values:List Expr) (trs:List (TE × TE)):Prop :=
 ∀ (pins:List (Addr × Obj)) (s:Shared) (σ:St) (H:Hp) (Q:List (V × V)→Hp→Prop),Inv X pins σ H s→tPairs trs σ H Q →
  wpAny (model X.prog X.w) X.A (evalPairs (pairTrees keys values X.env pos)) (fun vs s'=>∃ ps H',Inv X pins σ H' s'∧VV ps vs∧Q ps H') X.xe s
theorem pps_nil {X:Cx} {pos:Pos}:PPs X pos [] [] []:=fun pins s σ H Q I h=>pairTrees_nil_walk ⟨[],H,I,.nil,h⟩
theorem pps_cons {X:Cx} {pos:Pos} {k v:Expr} {ks:List (Option Expr)} {vs:List Expr} {tk tv:TE} {trs:List (TE × TE)} (hk:PE X k tk) (hv:PE X v tv) (hr:PPs X pos ks vs trs) :
  PPs X pos (some k :: ks) (v :: vs) ((tk,tv) :: trs):=fun pins s σ H Q I h =>
 pairTrees_cons_walk (thn (hk pins s σ H _ I h) fun u s1 ⟨x,H1,I1,rx,q1⟩=>thn (hv pins s1 σ H1 _ I1 q1) fun w2 s2 ⟨y,H2,I2,ry,q2⟩ =>
  thn (hr pins s2 σ H2 _ I2 q2) fun ws s3 ⟨ps,H3,I3,rel,q3⟩=>⟨(x,y) :: ps,H3,I3,.cons ⟨rx,ry⟩ rel,q3⟩)
def mergeK (kvs more:List (Key × V)):List (Key × V):=more.foldl (fun acc kv=>putK acc kv.1 kv.2) kvs
theorem KV.merge:∀ {more:List (Key × V)} {rs:List (Key × Value)} {kvs:List (Key × V)} {vs:List (Key × Value)},KV more rs→KV kvs vs→KV (mergeK kvs more) (merged vs rs):=by
 intro more rs kvs vs r
 unfold KV at r
 induction r generalizing kvs vs with
 | nil=>intro q; exact q
 | @cons p q ps qs h t ih =>
  intro r0
  have e:KV (putK kvs p.1 p.2) (stored vs q.1 q.2):=by
   have:=r0.put p.1 h.2
   rw [← h.1]; exact this
  exact ih e
theorem length_mergeK:∀ (more kvs:List (Key × V)),(mergeK kvs more).length ≤ kvs.length + more.length
 | [],kvs=>by show kvs.length ≤ kvs.length + 0; omega
 | p :: r,kvs=>by
  have h1:=length_mergeK r (putK kvs p.1 p.2)
  have h2:=length_putK kvs p.1 p.2
  show (mergeK (putK kvs p.1 p.2) r).length ≤ _
  rw [List.length_cons]; omega
theorem carries_of {P:Program} {w:World}:∀ {kvs:List (Key × V)} {ws:List (Value × Value)},VV (kvs.map fun kv=>(kV kv.1,kv.2)) ws→∃ rs,Carries (mixKind P w) ws rs∧KV kvs rs
 | [],_,r=>by rw [List.map_nil] at r; cases r; exact ⟨[],True.intro,.nil⟩
 | p :: kvs,_,r=>by
  rw [List.map_cons] at r
  cases r with
  | @cons a b as bs h t =>
   obtain ⟨rs,c,q⟩:=carries_of (P:=P) (w:=w) t
   obtain ⟨b1,b2⟩:=b
   exact ⟨(p.1,b2) :: rs,⟨kV_is h.1,rfl,c⟩,.cons ⟨rfl,h.2⟩ q⟩
def tDisp (trs:List (TE × TE)):TE:=fun σ H Q=>∀ p,H p = none→tPairs trs σ (upd H p (.dK [])) fun ps H2=>H2 p = some (.dK [])∧∃ kvs:List (Key × V),ps = kvs.map (fun kv=>(kV kv.1,kv.2))∧kvs.length ≤ 15∧Q (.ref p) (upd H2 p (.dK (mergeK [] kvs)))
theorem pe_disp {X:Cx} {pos:Pos} {keys:List (Option Expr)} {values:List Expr} {trs:List (TE × TE)} (h:PPs X pos keys values trs) (hall:keys.all (·.isSome) = true) (hl:keys.length = values.length) (h0:keys ≠ [])
  (h15:keys.length ≤ 15):PE X (.Dict keys values pos) (tDisp trs):=by
 intro pins s σ H Q I q
 have hn:=I.hok.fresh (Nat.le_refl s.heap.objs.size)
 have I1:=I.laid (a:=s.heap.objs.size) (o:=.dK []) (h':=s.heap.push { cls:=.type "dict",data:=.dict #[] }) (t':=s.toks) (fun _ _ q=>Heap.get?_push_of_some _ q) (Nat.le_refl _) (dk_empty s.heap I.big)
 refine wpAny_Dict_walk (knd:=mixKind X.prog X.w) hall hl h0 h15 (thn (h pins _ σ _ _ I1 (q _ hn)) fun ws s2 ⟨ps,H2,I2,rel,e,kvs,ep,lk,q2⟩=>?_)
 subst ep
 obtain ⟨rs,c,rk⟩:=carries_of (P:=X.prog) (w:=X.w) rel
 obtain ⟨z,hd,vs0,r0,dd⟩:=dk_of I2.hok e
 cases r0
 refine ⟨rs,c,dd,fun h' dd' hs=>⟨.ref s.heap.objs.size,_,?_,rfl,q2⟩⟩
 have hz:(mergeK [] kvs).length ≤ sizeLine:=by
  have h1:=length_mergeK kvs []
  rw [List.length_nil] at h1
  rw [sizeLine_eq]; omega
 have he:∃ q,h'.get? s.heap.objs.size = some q:=let ⟨q,_,_,hq,_⟩:=dd'; ⟨q,hq⟩
 exact d_write I2 (by rw [e]; exact True.intro) hs he (dk_new hz hd (rk.merge .nil) dd')
structure M1 (X:Cx) (o:Expr) (m:Str) (apos:Pos) (e:Expr) (cpos:Pos):Prop where
 base:attributeBase o m X.env (eval o X.env) = eval o X.env
 few:((backTo cpos (starEach [e] X.env)).all (fun x=>!x.1) && (backToKw cpos (keywordEach [] X.env)).all (fun x=>x.1.isSome)
  && decide (([e]:List Expr).length + ([]:List Keyword).length + (if ([]:List Keyword).isEmpty then 0 else 1) < 30)) = true
 line:(apos.endLine == cpos.line) = true
 trees:backTo cpos (starEach [e] X.env) = [(false,eval e X.env)]
structure M2 (X:Cx) (o:Expr) (m:Str) (apos:Pos) (e f:Expr) (cpos:Pos):Prop where
 base:attributeBase o m X.env (eval o X.env) = eval o X.env
 few:((backTo cpos (starEach [e,f] X.env)).all (fun x=>!x.1) && (backToKw cpos (keywordEach [] X.env)).all (fun x=>x.1.isSome)
  && decide (([e,f]:List Expr).length + ([]:List Keyword).length + (if ([]:List Keyword).isEmpty then 0 else 1) < 30)) = true
 line:(apos.endLine == cpos.line) = true
 trees:backTo cpos (starEach [e,f] X.env) = [(false,eval e X.env),(false,eval f X.env)]
def IsD (H:Hp) (a:Addr):Prop:=(∃ kvs,Rd H a (.dK kvs)) ∨ ∃ kvs,Rd H a (.dT kvs)
theorem isD_at {X:Cx} {pins:List (Addr × Obj)} {σ:St} {H:Hp} {s:Shared} {a:Addr} (I:Inv X pins σ H s) (d:IsD H a) :
  s.TypeIs (.ref a) "dict"∧(∀ b,Value.ref a = .ref b→∃ ob,s.heap.get? b = some ob∧ob.dict = none)∧(a == sysModules) = false:=by
 rcases d with ⟨kvs,e⟩ | ⟨kvs,e⟩
 ·obtain ⟨_,hd,vs,_,dd⟩:=dk_rd I.hok e
  refine ⟨dd.typeIs,fun b q=>?_,hd⟩
  cases q
  obtain ⟨ob,_,_,h1,h2,_⟩:=dd
  exact ⟨ob,h1,h2.2.1⟩
 ·obtain ⟨_,hd,xs,_,dd⟩:=dt_rd I.hok e
  refine ⟨dd.typeIs,fun b q=>?_,hd⟩
  cases q
  obtain ⟨ob,_,_,h1,h2,_⟩:=dd
  exact ⟨ob,h1,h2.2.1⟩
section
variable {X:Cx} {pins:List (Addr × Obj)} {σ:St} {H:Hp} {s:Shared} {a:Addr} {y d:V} {u r:Value} {o:Option V} {A:Around} {E:Value→Shared→Prop}
theorem d_get1 {Q:Value→Shared→Prop} (hu:A.units + 1 < cLine) (I:Inv X pins σ H s) (g:DGet H a y o) (ry:RelV y u) (h:∀ w' s',Inv X pins σ H s'→RelV (o.getD .non) w'→Q w' s') :
  wpAny (model X.prog X.w) A (call (.builtin "dict.get") [.ref a,u]) Q E s:=by
 rcases g with ⟨kvs,k,e,ey,l⟩ | ⟨kvs,k,b,e,ey,eb,l⟩
 ·subst ey
  obtain ⟨z,hd,vs,rel,dd⟩:=dk_rd I.hok e
  refine call_meetsIn PySem.F.slot_dict_get dd.typeIs PySem.F.entry_dict_get (PySem.F.args_dict_get_2 _ _) (meets_dict_get (mixKind X.prog X.w) a (kV_is ry) hd) ⟨_,dd.mapOf,h _ _ (I.tok _) ?_⟩
  rw [l]
  exact (rel.val k).getD rfl
 ·subst ey
  cases (show u = Value.ref b from ry)
  obtain ⟨z,hd,xs,rel,dd⟩:=dt_rd I.hok e
  refine call_meetsIn PySem.F.slot_dict_get dd.typeIs PySem.F.entry_dict_get (PySem.F.args_dict_get_2 _ _) (meetsH_dict_get (tupleKind (mixKind X.prog X.w)) a b hd) ⟨tupleKind_room_in1 hu,k,xs,key_of I.hok eb,dd,h _ _ (I.tok _) ?_⟩
  rw [l]
  exact (rel.val k).getD rfl
theorem d_get2 {Q:Value→Shared→Prop} (hu:A.units + 1 < cLine) (I:Inv X pins σ H s) (g:DGet H a y o) (ry:RelV y u) (rd:RelV d r) (h:∀ w' s',Inv X pins σ H s'→RelV (o.getD d) w'→Q w' s') :
  wpAny (model X.prog X.w) A (call (.builtin "dict.get") [.ref a,u,r]) Q E s:=by
 rcases g with ⟨kvs,k,e,ey,l⟩ | ⟨kvs,k,b,e,ey,eb,l⟩
 ·subst ey
  obtain ⟨z,hd,vs,rel,dd⟩:=dk_rd I.hok e
  refine call_meetsIn PySem.F.slot_dict_get dd.typeIs PySem.F.entry_dict_get (PySem.F.args_dict_get_3 _ _ _) (meets_dict_get_default (mixKind X.prog X.w) a (kV_is ry) hd r) ⟨_,dd.mapOf,h _ _ (I.tok _) ?_⟩
  rw [l]
  exact (rel.val k).getD rd
 ·subst ey
  cases (show u = Value.ref b from ry)
  obtain ⟨z,hd,xs,rel,dd⟩:=dt_rd I.hok e
  refine call_meetsIn PySem.F.slot_dict_get dd.typeIs PySem.F.entry_dict_get (PySem.F.args_dict_get_3 _ _ _) (meetsH_dict_get_default (tupleKind (mixKind X.prog X.w)) a b hd r) ⟨tupleKind_room_in1 hu,k,xs,key_of I.hok eb,dd,h _ _ (I.tok _) ?_⟩
  rw [l]
  exact (rel.val k).getD rd
end
def tDGet1 (td ty:TE):TE:=fun σ H Q=>td σ H fun x H1=>∃ a,x = .ref a∧IsD H1 a∧ty σ H1 fun y H2=>∃ o,DGet H2 a y o∧Q (o.getD .non) H2
def tDGet2 (td ty tx:TE):TE:=fun σ H Q=>td σ H fun x H1=>∃ a,x = .ref a∧IsD H1 a∧ty σ H1 fun y H2=>tx σ H2 fun z H3=>∃ o,DGet H3 a y o∧Q (o.getD z) H3
section
variable {X:Cx} {o e f:Expr} {apos cpos:Pos} {td ty tx:TE}
theorem pe_dget1 (hu:X.A.units + 1 < cLine) (ho:PE X o td) (he:PE X e ty) (m:M1 X o "get" apos e cpos):PE X (.Call (.Attribute o "get" apos) [e] [] cpos) (tDGet1 td ty):=by
 intro pins s σ H Q I h
 refine wpAny_Call_method m.base m.few m.line PySem.F.plainAttrs_dict PySem.F.slot_dict_get PySem.F.type_dict_get (thn (ho pins s σ H _ I h) fun u s1 ⟨x,H1,I1,rx,a,ex,d,q1⟩=>?_)
 subst ex
 obtain rfl:u = Value.ref a:=rx
 obtain ⟨t1,t2,_⟩:=isD_at I1 d
 refine ⟨t1,t2,?_⟩
 rw [m.trees]
 refine Calls.callWith_builtin rfl (Calls.evalArgs_plain (Calls.spliced_cons (thn (he pins s1 σ H1 _ I1 q1) fun iv s2 ⟨y,H2,I2,ry,ov,g,q2⟩=>Calls.spliced_nil ?_)))
 exact d_get1 hu I2 g ry fun w' s3 I3 rw'=>⟨_,H2,I3,rw',q2⟩
theorem pe_dget2 (hu:X.A.units + 1 < cLine) (ho:PE X o td) (he:PE X e ty) (hf:PE X f tx) (m:M2 X o "get" apos e f cpos):PE X (.Call (.Attribute o "get" apos) [e,f] [] cpos) (tDGet2 td ty tx):=by
 intro pins s σ H Q I h
 refine wpAny_Call_method m.base m.few m.line PySem.F.plainAttrs_dict PySem.F.slot_dict_get PySem.F.type_dict_get (thn (ho pins s σ H _ I h) fun u s1 ⟨x,H1,I1,rx,a,ex,d,q1⟩=>?_)
 subst ex
 obtain rfl:u = Value.ref a:=rx
 obtain ⟨t1,t2,_⟩:=isD_at I1 d
 refine ⟨t1,t2,?_⟩
 rw [m.trees]
 refine Calls.callWith_builtin rfl (Calls.evalArgs_plain (Calls.spliced_cons (thn (he pins s1 σ H1 _ I1 q1) fun iv s2 ⟨y,H2,I2,ry,q2⟩ =>
  Calls.spliced_cons (thn (hf pins s2 σ H2 _ I2 q2) fun fv s3 ⟨z,H3,I3,rz,ov,g,q3⟩=>Calls.spliced_nil ?_))))
 exact d_get2 hu I3 g ry rz fun w' s4 I4 rw'=>⟨_,H3,I4,rw',q3⟩
end
section
variable {X:Cx} {pins:List (Addr × Obj)} {σ:St} {H:Hp} {s:Shared} {a:Addr} {kvs:List (Key × V)} {A:Around} {E:Value→Shared→Prop}
end
section
variable {X:Cx} {pins:List (Addr × Obj)} {σ:St} {H:Hp} {s:Shared} {a:Addr} {y:V} {u:Value} {A:Around} {E:Value→Shared→Prop}
end
end L2
namespace Att
open PySem PySem.W PySem.Calls PyProof.Rows
theorem ints_of_wellAll {P:Params} {h:Heap}:∀ (ns:List Int) (vs:List Value),WellAll P h vs (ns.map WData.int)→IntsAre vs ns:=by
 intro ns
 induction ns with
 | nil =>
  intro vs w
  rw [List.map_nil] at w
  cases w
  exact .nil
 | cons n ns ih =>
  intro vs w
  rw [List.map_cons] at w
  cases w with
  | cons a b =>
   cases a
   exact .cons _ _ (ih _ b)
theorem script_of {l:OpenLaw} {n:Nat} (hn:l.most = some n) {P:Params} {h:Heap} {args:List WData} {vals:List Value}
  (hpre:l.row.toRowW.claim.pre args = true) (hwl:WellAll P h vals args) :
  ∃ a vs ns,vals = [Value.ref a]∧args = [WData.list (ns.map WData.int)]∧h.get? a = some { cls:=.type "list",data:=.seq vs.toArray }∧IntsAre vs ns∧ns.length ≤ n:=by
 have hsh:WShape.hasAll [] args [.list .int] = true:=(pre_splitW hpre).1
 have hc:l.pre.holds [] { args:=args } = true:=(pre_splitW hpre).2
 obtain ⟨d,r,rfl,h1,h2⟩:=hasAllW_cons hsh
 obtain rfl:=hasAllW_nil h2
 obtain ⟨xs,rfl,h3⟩:=hasW_list h1
 obtain ⟨ns,rfl⟩:=items_int h3
 have hlen:ns.length ≤ n:=by
  unfold OpenLaw.pre at hc
  have h4:(WTm.not (.lt (.lit (.int (n:Int))) (.len (.arg 0)))).holds [] { args:=[.list (ns.map .int)] } = true:=by
   have h4:=(holds_andW hc).1
   rw [hn] at h4
   exact h4
  have h5:=condW_of h4 (w_not (w_lt w_lit (w_len_list (w_arg rfl))))
  rw [List.length_map] at h5
  refine Nat.le_of_not_lt fun q=>?_
  have q':(n:Int) < ((ns.length:Nat):Int):=by omega
  first
   | (rw [decide_eq_true q'] at h5; exact absurd h5 (by decide))
   | (simp at h5; omega)
 cases hwl with
 | cons w1 w2 =>
  cases w2
  cases w1 with
  | list ho hall=>exact ⟨_,_,ns,rfl,rfl,ho,ints_of_wellAll ns _ hall,hlen⟩
theorem post_true (l:OpenLaw) (args:List WData):l.row.toRowW.claim.post args (.bool true) args = true :=
 postW_of (r:=l.row.toRowW) (X:=(true == true))
  (show WShape.has [] (.bool true) .bool = true by first | rfl | decide | simp [WShape.has,WShape.arms,WShape.armsAll])
  (show (WTm.eq .res (.lit (.bool true))).value [] { args:=args,res:=some (.bool true),after:=args } = some (.bool (true == true)) from w_eq_bool (w_res rfl) w_lit) rfl
theorem attach_call {l:OpenLaw} {n:Nat} {q:Program} {loose:List Str} {XP:(Str→Option Value)→Heap→Prop} {YP:World→Heap→Prop} {d:DefRec}
  (hn:l.most = some n) (hdf:d.params.defaults = [])
  (call:∀ (w:World) (s₀ s₁:Shared) (mg mb:Str→Option Value) (fa:Addr) (o:Obj) (pm cd doc:Value) (a:Addr) (vs:List Value) (ns:List Int),
   Ground q loose [] XP w s₀ mg mb s₁.heap→YP w s₁.heap →
   s₁.heap.get? fa = some o→o.data = .func (docDef d.name d.params d.body d.scope pm cd doc)→s₁.heap.CodeRec cd d.name→mg d.name = some (.ref fa) →
   s₁.heap.get? a = some { cls:=.type "list",data:=.seq vs.toArray }→IntsAre vs ns→ns.length ≤ n→s₁.gens = #[] →
   codeAny (model l.prog w) callerA (.call (.ref fa) ⟨[.ref a],[]⟩) (fun r s'=>r = .ok (.ret (.bool true))∧OldK s₁.heap s'.heap∧s'.os = s₁.os∧AllBare s'.gens) s₁) :
  WalkO q loose XP YP l.row.toRowW d [] (fun f vs=>PySem.call f vs):=by
 intro w s₀ s₁ mg mb G Y fa o pm cd doc dV kV ho hd hcd hD hmg hg args vals as hpre hlay hrd hwl hlo
 obtain rfl:dV = .none:=Dflts.none hD hdf
 obtain rfl:kV = .none:=Dflts.noKw hD
 obtain ⟨a,vs,ns,rfl,rfl,hobj,hints,hlen⟩:=script_of hn hpre hwl
 refine enter_call (codeAny_mono (call w s₀ s₁ mg mb fa o pm cd doc a vs ns G Y ho (fd_plain hd) hcd hmg hobj hints hlen hg) fun r s' hq=>?_)
 obtain ⟨rfl,h2,h3,h4⟩:=hq
 exact ⟨.inl ⟨.bool true,.bool true,[],rfl,fun _=>rfl,.bool true,post_true l _,fun _=>⟨List.Pairwise.nil,fun _ hm=>(nomatch hm)⟩⟩,h2,h3,h4⟩
section
variable {prog:Program} {w:World} {A:Around} {E:Value→Shared→Prop} {s:Shared} {K:Frag}
end
end Att
namespace L2
open PySem PySem.Spec PyProof.Rows
theorem vals_ints:∀ {vs:List Value} {ns:List Int},IntsAre vs ns→Vals (ns.map V.int) vs
 | _,_,.nil=>.nil
 | _,_,.cons n t h=>.cons ⟨t,rfl⟩ (vals_ints h)
end L2
namespace L2
open PySem PySem.Spec PyProof.Rows
abbrev KOf {K:PySem.W.Frag} {h:Heap} (_:K.In h):PySem.W.Frag:=K
end L2
namespace L2
open PySem PySem.Spec PyProof.Rows
def inClass (s:Stmt) (j:Nat):Stmt:=match s with
 | .ClassDef _ _ _ body _ _ _ _ _ _ _=>body.getD j (.Pass ⟨0,0,0,0⟩)
 | _=>.Pass ⟨0,0,0,0⟩
def defArgs (s:Stmt):Arguments:=match s with
 | .FunctionDef _ a _ _ _ _ _ _ _ _=>a
 | _=>{ posonlyargs:=[],args:=[],vararg:=none,kwonlyargs:=[],kw_defaults:=[],kwarg:=none,defaults:=[] }
def defBody (s:Stmt):List Stmt:=match s with
 | .FunctionDef _ _ b _ _ _ _ _ _ _=>b
 | _=>[]
def defScope (s:Stmt):Scope:=match s with
 | .FunctionDef _ _ _ _ _ _ sc _ _ _=>sc
 | _=>{ kind:=.function,names:=[],isGenerator:=false,isCoroutine:=false }
abbrev CXm (c:Bool):CXT:=⟨fun _ _ _ _ _ _=>False,c⟩
abbrev CX0:CXT:=CXm true
abbrev E0:XK:=fun _ _ _=>False
theorem pass0 {X:Cx} {c:Bool}:Passes (CXm c) X E0:=fun _ _ _ _ _ _ _ h=>h.elim
structure Fun (K:PySem.W.Frag) (x qual:Str) (st:Stmt) (f:Addr) (fd:FuncData):Prop where
 ex:∃ (oc:Value) (od:Option Addr) (kV doc pm:Value) (an:Option Addr) (cdv ct:Value) (osl:Array (Option Value)),
  fd = PySem.W.fnOf x qual (defArgs st) (defBody st) (defScope st) .none kV doc pm an cdv ct∧K.lookup f = some ⟨oc,od,.func fd,osl⟩∧PySem.W.codeIn K cdv qual = true
 kp:PySem.W.keepIn K (.ref f) = true
section
variable {P:Program} {w:World} {K:PySem.W.Frag} {mg:Str→Option Value} {base:Heap}
theorem Fun.ok {c:Bool} {x qual:Str} {st:Stmt} {f:Addr} {fd:FuncData} {N ps:List Str} {k:Nat} {sp:Sp} (F:Fun K x qual st f fd) (S:FnScope N ps (defScope st)) (len:∀ vs H Q E,sp vs H Q E→vs.length = ps.length)
  (hbody:∀ (cdv:Value) (A:Around) (outer:List Env) (s:Shared) (H:Hp) (vs:List V) (Q:VK) (E:XK),Room k (A.deeper (envOfC qual (defScope st) s.heap.objs.size f cdv))→sp vs H Q E →
   ∃ t,PSs (cxOf (CXm c) P w K mg base N qual (defScope st) f cdv A outer s H E).nox (defBody st) t∧t { nx:=fun _ H'=>Q .non H',rt:=Q } (start N vs) H):FnOk P w K mg base (CXm c) (k + 1) f fd ps sp:=by
 obtain ⟨oc,od,kV,doc,pm,an,cdv,ct,osl,rfl,lk,hcd⟩:=F.ex
 refine fn_of lk hcd S len fun A outer s H vs Q E hr hsp=>?_
 obtain ⟨t,h,q⟩:=hbody cdv A outer s H vs Q E hr hsp
 exact ⟨t,h.nox,q⟩
theorem Fun.binds {x qual:Str} {st:Stmt} {f:Addr} {fd:FuncData} {ps:List Str} (F:Fun K x qual st f fd)
  (h:∀ (kV doc pm:Value) (an:Option Addr) (cdv ct:Value) (us:List Value),us.length = ps.length→bindArgs (PySem.W.fnOf x qual (defArgs st) (defBody st) (defScope st) .none kV doc pm an cdv ct) ⟨us,[]⟩ = pure (ps.zip us)):Binds K fd ps []:=by
 obtain ⟨oc,od,kV,doc,pm,an,cdv,ct,osl,rfl,lk,hcd⟩:=F.ex
 exact .all (h kV doc pm an cdv ct)
theorem fun_mk {x qual:Str} {st:Stmt} {f:Addr} {oc:Value} {od an:Option Addr} {osl:Array (Option Value)} {kV doc pm cdv ct:Value} (l:K.lookup f = some ⟨oc,od,.func (PySem.W.fnOf x qual (defArgs st) (defBody st) (defScope st) .none kV doc pm an cdv ct),osl⟩)
  (c:PySem.W.codeIn K cdv qual = true) (k:PySem.W.keepIn K (.ref f) = true):Fun K x qual st f (PySem.W.fnOf x qual (defArgs st) (defBody st) (defScope st) .none kV doc pm an cdv ct):=⟨⟨oc,od,kV,doc,pm,an,cdv,ct,osl,rfl,l,c⟩,k⟩
end
theorem hu_of {A:Around} {k:Nat} (hr:Room k A):A.units + 1 < cLine:=Nat.lt_of_le_of_lt (Nat.add_le_add_left (by decide:1 ≤ 64) _) hr.units
theorem small1000 {n:Nat} (h:n ≤ 1000):n < sizeLine:=Nat.lt_of_le_of_lt h (by decide)
section
variable {X:Cx}
theorem pv (i:Nat) {x:Str} {pos:Pos} (hN:X.N[i]? = some x:=by rfl) (hv:Vis X.env.scope x:=by first | exact Or.inl rfl | exact Or.inr (Or.inl rfl) | exact Or.inr (Or.inr rfl)) (hd:(x == ("__debug__":Str)) = false:=by decide)
  (hcd:(x == ("__classdict__":Str)) = false:=by decide):PE X (.Name x pos) (tVar i):=pe_var hN hv hd hcd
theorem call_lenD:CallR X (.builtin "len") (fun xs H Q=>∃ a kvs,xs = [V.ref a]∧H a = some (.dK kvs)∧Q (.int kvs.length) H):=by
 intro pins s σ H xs us Q I r h
 obtain ⟨a,kvs,rfl,ha,q⟩:=h
 obtain ⟨u,rfl,ru⟩:=vals1 r
 cases ru
 exact d_len I (.inl ha) fun t s' I'=>⟨.int kvs.length,H,I',⟨t,rfl⟩,q⟩
end
theorem iteF {A B:Prop} (h:B):if false = true then A else B:=by
 rw [if_neg Bool.false_ne_true]
 exact h
theorem iteT {A B:Prop} (h:A):if true = true then A else B:=by
 rw [if_pos rfl]
 exact h
theorem ite2 {c A B:Prop} [Decidable c] (h1:c→A) (h2:¬ c→B):if c then A else B:=by
 by_cases h:c
 ·rw [if_pos h]
  exact h1 h
 ·rw [if_neg h]
  exact h2 h
def Same (H H':Hp):Prop:=∀ b o,H b = some o→H' b = some o
theorem Same.refl (H:Hp):Same H H:=fun _ _ h=>h
theorem Same.trans {H H1 H2:Hp} (a:Same H H1) (b:Same H1 H2):Same H H2:=fun c o h=>b c o (a c o h)
theorem Same.free {H H':Hp} (e:Same H H') {l:Addr} (h:H' l = Option.none):H l = Option.none:=by
 cases q:H l with
 | none=>rfl
 | some o =>
  rw [e l o q] at h
  cases h
theorem Same.seq {K:PySem.W.Frag} {H H':Hp} {a:Addr} {xs:List V} (e:Same H H') (h:SqL K H a xs):SqL K H' a xs:=by
 rcases h with (h | ⟨o,h⟩) | h
 ·exact .inl (.inl (e _ _ h))
 ·exact .inl (.inr ⟨o,e _ _ h⟩)
 ·exact .inr h
section
variable {κ:Type} [DecidableEq κ]
theorem valV_not {kvs:List (κ × V)} {k:κ} (h:valV kvs k = none):¬ k ∈ kvs.map (·.1):=by
 intro m
 obtain ⟨p,hp,e⟩:=List.mem_map.mp m
 have q:(kvs.any fun kv=>decide (kv.1 = k)) = true:=List.any_eq_true.mpr ⟨p,hp,decide_eq_true e⟩
 rw [valV_any,h] at q
 exact absurd q (by simp)
theorem valV_in {kvs:List (κ × V)} {k:κ} {v:V} (h:valV kvs k = some v):k ∈ kvs.map (·.1):=by
 have q:(kvs.any fun kv=>decide (kv.1 = k)) = true:=by
  rw [valV_any,h]
  all_goals rfl
 obtain ⟨p,hp,e⟩:=List.any_eq_true.mp q
 exact List.mem_map.mpr ⟨p,hp,of_decide_eq_true e⟩
theorem nd_snoc:∀ {l:List κ} {k:κ},l.Nodup→¬ k ∈ l→(l ++ [k]).Nodup
 | [],k,_,_=>by simp
 | a :: r,k,h,hk=>by
  obtain ⟨h1,h2⟩:=List.nodup_cons.mp h
  show (a :: (r ++ [k])).Nodup
  refine List.nodup_cons.mpr ⟨fun m=>?_,nd_snoc h2 fun m=>hk (List.mem_cons.mpr (Or.inr m))⟩
  rcases List.mem_append.mp m with q | q
  ·exact h1 q
  ·exact hk (List.mem_cons.mpr (Or.inl (List.mem_singleton.mp q).symm))
theorem nd_putK {kvs:List (κ × V)} {k:κ} (v:V) (hn:(kvs.map (·.1)).Nodup) (h:valV kvs k = none):((putK kvs k v).map (·.1)).Nodup:=by
 rw [putK_new v h,List.map_append]
 exact nd_snoc hn (valV_not h)
end
end L2
set_option Elab.async false
set_option linter.all false
set_option maxRecDepth 100000
namespace L2
open PySem PySem.Spec PyProof.Rows
section
variable {prog:Program} {w:World} {A:Around} {R:Result→Shared→Prop} {s:Shared}
theorem compLoop_any {elt target iter:Expr} {ifs:List Expr} {scope:Scope} {pos:Pos} {it acc:Value} {env:Env} (I:Nat→Shared→Prop)
  (turn:∀ n s,I n s→wpAny (model prog w) A (pyNext it) (fun r s₁=>match r with
   | none=>R (.ok .next) s₁
   | some v=>wpAny (model prog w) A (letOwnedTupleGo target it v) (fun _ s₁'=>wpAny (model prog w) A (assign target env v) (fun _ s₂ =>
     wpAny (model prog w) A (forIn ifs true fun c r=>if r = true then do let ok ← isTrue c env (eval c env); pure (ForInStep.yield ok) else pure (ForInStep.yield r)) (fun ok s₃ =>
      if ok = true then wpAny (model prog w) A (eval elt env) (fun x s₄ =>
       wpAny (model prog w) A (call (.builtin "list.append") [acc,x]) (fun _ s₅=>∃ m,m < n∧I m s₅) (notedBy (model prog w) A env fun e s'=>R (.error e) s') s₄) (notedBy (model prog w) A env fun e s'=>R (.error e) s') s₃
      else ∃ m,m < n∧I m s₃) (notedBy (model prog w) A env fun e s'=>R (.error e) s') s₂) (notedBy (model prog w) A env fun e s'=>R (.error e) s') s₁') (notedBy (model prog w) A env fun e s'=>R (.error e) s') s₁) (notedBy (model prog w) A env fun e s'=>R (.error e) s') s)
  (n:Nat) (h:I n s) :
  codeAny (model prog w) A (.compLoop (.ListComp elt [⟨target,iter,ifs,0⟩] scope pos) 0 it acc env) R s:=by
 refine codeAny_loop rfl I (fun n s hI=>?_) n h
 show wpAny _ A ((compTurn (.ListComp elt [⟨target,iter,ifs,0⟩] scope pos) 0 it acc env).onRaise (fun x=>do noteFrame x env; theTreesLotGoes x)) _ _ s
 refine wpAny_noted ?_
 rw [compTurn_list]
 refine wpAny_bind (wpAny_standAt (wpAny_bind (wpAny_mono (turn n s hI) (fun r s₁ h₁=>?_) fun _ _ h'=>h')))
 cases r with
 | none=>exact wpAny_pure h₁
 | some v =>
  refine wpAny_bind (wpAny_mono h₁ (fun _ s₁' h₁'=>?_) fun _ _ h'=>h')
  refine wpAny_bind (wpAny_mono h₁' (fun _ s₂ h₂=>wpAny_bind (wpAny_mono h₂ (fun ok s₃ h₃=>?_) fun _ _ h'=>h')) fun _ _ h'=>h')
  cases ok with
  | false=>exact wpAny_pure ⟨rfl,h₃⟩
  | true =>
   exact wpAny_bind (wpAny_bind (wpAny_mono h₃ (fun x s₄ h₄=>wpAny_bind (wpAny_mono h₄ (fun _ s₅ h₅=>wpAny_pure (wpAny_pure ⟨rfl,h₅⟩)) fun _ _ h'=>h')) fun _ _ h'=>h'))
end
theorem lookup_relabel {env:Env}:∀ (names:List (Str × NameKind)) (x:Str),
  (names.map fun (n,k)=>if (k == NameKind.free && env.scope.kind == .function && env.kindOf n == some .cell) then (n,NameKind.cell) else (n,k)).lookup x =
   (names.lookup x).map fun k=>if (k == NameKind.free && env.scope.kind == .function && env.kindOf x == some .cell) = true then NameKind.cell else k
 | [],_=>rfl
 | (n,k) :: r,x=>by
  have ih:=lookup_relabel (env:=env) r x
  show List.lookup x ((if (k == NameKind.free && env.scope.kind == .function && env.kindOf n == some .cell) = true then (n,NameKind.cell) else (n,k)) :: _) = _
  cases hx:x == n with
  | true =>
   have e:x = n:=beq_iff_eq.mp hx
   subst e
   by_cases hc:(k == NameKind.free && env.scope.kind == .function && env.kindOf x == some .cell) = true
   ·rw [if_pos hc]; simp only [List.lookup_cons,hx,Option.map_some,hc,if_true]
   ·rw [if_neg hc]; simp only [List.lookup_cons,hx,Option.map_some]; rw [if_neg hc]
  | false =>
   by_cases hc:(k == NameKind.free && env.scope.kind == .function && env.kindOf n == some .cell) = true
   ·rw [if_pos hc]; simp only [List.lookup_cons,hx]; exact ih
   ·rw [if_neg hc]; simp only [List.lookup_cons,hx]; exact ih
theorem closureFor_ok {scope:Scope} {env:Env} (h:∀ x ∈ scope.names,x.2 = .free→∃ c,env.cells.lookup x.1 = some c) :
  ∃ cl,closureFor scope env = pure cl∧(∀ x c,cl.lookup x = some c→env.cells.lookup x = some c)∧∀ x ∈ scope.names,x.2 = .free→∃ c,cl.lookup x.1 = some c:=by
 have key:∀ (names:List (Str × NameKind)) (acc:List (Str × Addr)),(∀ x ∈ names,x.2 = NameKind.free→∃ c,env.cells.lookup x.1 = some c)→(∀ x c,acc.lookup x = some c→env.cells.lookup x = some c) →
   ∃ cl:List (Str × Addr),(forIn names acc (fun (x:Str × NameKind) (r:List (Str × Addr))=>if (x.2 == NameKind.free) = true then (do let c ← cellOf env x.1; pure (ForInStep.yield ((x.1,c) :: r)):Sem _) else pure (ForInStep.yield r))) = pure cl ∧
    (∀ x c,cl.lookup x = some c→env.cells.lookup x = some c)∧(∀ x ∈ names,x.2 = NameKind.free→∃ c,cl.lookup x.1 = some c)∧∀ x c,acc.lookup x = some c→∃ c',cl.lookup x = some c':=by
  intro names
  induction names with
  | nil=>intro acc _ ha; exact ⟨acc,rfl,ha,(fun x hx=>nomatch hx),fun x c e=>⟨c,e⟩⟩
  | cons y r ih =>
   intro acc hn ha
   obtain ⟨n,k⟩:=y
   have hr:∀ x ∈ r,x.2 = NameKind.free→∃ c,env.cells.lookup x.1 = some c:=fun x hx=>hn x (List.mem_cons_of_mem _ hx)
   by_cases hk:k = .free
   ·subst hk
    obtain ⟨c,hc⟩:=hn (n,.free) List.mem_cons_self rfl
    have hc:env.cells.lookup n = some c:=hc
    have ha':∀ x d,List.lookup x ((n,c) :: acc) = some d→env.cells.lookup x = some d:=fun x d e=>by
     rw [List.lookup_cons] at e
     cases hx:x == n with
     | true=>rw [hx] at e; cases e; rw [beq_iff_eq.mp hx]; exact hc
     | false=>rw [hx] at e; exact ha x d e
    obtain ⟨cl,e1,e2,e3,e4⟩:=ih ((n,c) :: acc) hr ha'
    have hin:∃ c',cl.lookup n = some c':=e4 n c (by rw [List.lookup_cons,beq_self_eq_true])
    refine ⟨cl,?_,e2,fun x hx hf=>?_,fun x d e=>?_⟩
    ·rw [List.forIn_cons]
     have hcell:cellOf env n = pure c:=by unfold cellOf; rw [hc]
     simp only [beq_self_eq_true,if_true,hcell]
     exact e1
    ·rcases List.mem_cons.mp hx with rfl | hx
     ·exact hin
     ·exact e3 x hx hf
    ·cases hx:x == n with
     | true=>rw [beq_iff_eq.mp hx]; exact hin
     | false=>exact e4 x d (by rw [List.lookup_cons,hx]; exact e)
   ·have hb:(k == NameKind.free) = false:=by simpa using hk
    obtain ⟨cl,e1,e2,e3,e4⟩:=ih acc hr ha
    refine ⟨cl,?_,e2,fun x hx hf=>?_,e4⟩
    ·rw [List.forIn_cons]
     simp only [hb,Bool.false_eq_true,if_false]
     exact e1
    ·rcases List.mem_cons.mp hx with rfl | hx
     ·exact absurd hf hk
     ·exact e3 x hx hf
 obtain ⟨cl,e1,e2,e3,_⟩:=key scope.names [] h (fun x c e=>nomatch e)
 refine ⟨cl,?_,e2,e3⟩
 unfold closureFor
 exact (congrArg (fun t=>t >>= fun r=>pure r) e1).trans rfl
inductive Caps (XN:List Str) (outer inner:Scope):List Str→List (Option Nat)→Prop where
 | nil:Caps XN outer inner [] []
 | own {x:Str} {N:List Str} {c:List (Option Nat)}:Caps XN outer inner N c→Caps XN outer inner (x :: N) (none :: c)
 | cap {i:Nat} {x:Str} {N:List Str} {c:List (Option Nat)}:XN[i]? = some x→outer.names.lookup x = some .cell→inner.names.lookup x = some .free→Caps XN outer inner N c→Caps XN outer inner (x :: N) (some i :: c)
theorem Caps.length {XN:List Str} {outer inner:Scope}:∀ {N:List Str} {c:List (Option Nat)},Caps XN outer inner N c→c.length = N.length
 | _,_,.nil=>rfl
 | _,_,.own h=>congrArg Nat.succ h.length
 | _,_,.cap _ _ _ h=>congrArg Nat.succ h.length
theorem Caps.get {XN:List Str} {outer inner:Scope}:∀ {N:List Str} {c:List (Option Nat)} {j i:Nat} {x:Str},Caps XN outer inner N c→c[j]? = some (some i)→N[j]? = some x →
  XN[i]? = some x∧outer.names.lookup x = some .cell∧inner.names.lookup x = some .free
 | _,_,j,_,_,.nil,e,_=>by simp at e
 | _,_,0,_,_,.own h,e,_=>by simp at e
 | _,_,j + 1,_,_,.own h,e,e'=>h.get (j:=j) (by simpa using e) (by simpa using e')
 | _,_,0,_,_,.cap a b d h,e,e'=>by simp at e e'; subst e e'; exact ⟨a,b,d⟩
 | _,_,j + 1,_,_,.cap _ _ _ h,e,e'=>h.get (j:=j) (by simpa using e) (by simpa using e')
structure CompSc (XN:List Str) (outer inner:Scope) (N:List Str) (cap:List (Option Nat)):Prop where
 kind:inner.kind = .function
 nocell:∀ y ∈ inner.names,y.2 ≠ .cell
 loc:∀ y ∈ inner.names,y.2 = .local→inner.names.lookup y.1 = some .local
 fr:∀ y ∈ inner.names,y.2 = .free→outer.names.lookup y.1 = some .cell
 caps:Caps XN outer inner N cap
 nd:N.Nodup
def capσ (cap:List (Option Nat)) (σ:St):St:=cap.map fun c=>match c with
 | none=>none
 | some i=>match σ[i]? with
  | some v=>v
  | none=>none
def Cx.comp (X:Cx) (N:List Str) (scope:Scope) (cl:List (Str × Addr)) (C:Addr) (s₀:Shared) (H₀:Hp) (ex:List Addr) (pins:List (Addr × Obj)):Cx where
 prog:=X.prog
 w:=X.w
 K:=X.K
 mg:=X.mg
 base:=X.base
 A:=X.A
 N:=N
 s₀:=s₀
 H₀:=H₀
 env:=compEnvC scope cl C X.env
 outer:=X.stack
 stack:=X.stack
 ex:=ex
 fn:=fun _=>false
 calm:=X.calm
 pn:=X.pn ++ pins
 xe:=fun _ _=>False
section
variable {X:Cx} {pins:List (Addr × Obj)} {σ:St} {H:Hp} {s:Shared}
theorem inv_comp {XN N:List Str} {outer scope:Scope} {cap:List (Option Nat)} {cl:List (Str × Addr)} {ex:List Addr} {h1:Heap} {tk:Nat} {m:Str→Option Value}
  (I:Inv X pins σ H s) (hX:X.env.scope = outer) (hN:X.N = XN) (S:CompSc XN outer scope N cap)
  (hcl1:∀ x c,cl.lookup x = some c→X.env.cells.lookup x = some c) (hcl2:∀ x ∈ scope.names,x.2 = .free→∃ c,cl.lookup x.1 = some c)
  (hex:∀ b ∈ ex,FpOk X pins H b) (hlt:∀ b ∈ ex,b < s.heap.objs.size)
  (hn:h1.Ns s.heap.objs.size m) (keep:∀ b o,s.heap.get? b = some o→h1.get? b = some o) :
  Inv (X.comp N scope cl s.heap.objs.size s H ex pins) [] (capσ cap σ) H { s with heap:=h1,toks:=tk }:=by
 subst hX hN
 have hcells:∀ x c,cl.lookup x = some c→c < s.heap.objs.size:=fun x c e=>by
  obtain ⟨v,q⟩:=I.cell x c (hcl1 x c e)
  exact q.lt
 have hrel:∀ x,(relabel scope X.env).names.lookup x = (scope.names.lookup x).map fun k=>if (k == NameKind.free && X.env.scope.kind == .function && X.env.kindOf x == some .cell) = true then NameKind.cell else k:=fun x=>lookup_relabel scope.names x
 have ok:(X.comp N scope cl s.heap.objs.size s H ex pins).Ok:=by
  refine ⟨I.ok.mod,S.kind,I.ok.glob,I.ok.blt,Nat.le_refl _,fun x y c h1 h2=>I.ok.inj x y c (hcl1 x c h1) (hcl1 y c h2),fun x hx=>?_,(fun x c h _=>nomatch h),I.ok.hd,I.ok.frames,.inl rfl,fun b hb=>⟨Nat.ne_of_lt (hlt b hb),fun x c e=>?_⟩,I.bs,Nat.le_trans I.ok.bsz I.sz,fun b o e hb=>?_,fun b hb hf=>?_,I.stack,I.stkFree⟩
  ·have hx:(relabel scope X.env).names.lookup x = some .cell ∨ (relabel scope X.env).names.lookup x = some .free:=hx
   rw [hrel x] at hx
   cases e:scope.names.lookup x with
   | none=>rw [e] at hx; simp at hx
   | some k =>
    have hm:=PySem.mem_of_lookup e
    rw [e] at hx
    by_cases hk:k = .free
    ·subst hk; exact hcl2 _ hm rfl
    ·have hb:(k == NameKind.free) = false:=by simpa using hk
     simp only [hb,Option.map_some,Bool.false_and,Bool.false_eq_true,if_false] at hx
     rcases hx with hx | hx
     ·exact absurd (Option.some.inj hx) (S.nocell _ hm)
     ·exact absurd (Option.some.inj hx) hk
  ·exact (hex b hb).2.2.2.2.1 x c (hcl1 x c e)
  ·rcases (hex b hb).2.2.2.1 with z | z
   ·exact I.ok.noex b o e z
   ·exact absurd (Nat.lt_of_lt_of_le (Heap.lt_size (I.ok.bs b o e).1) z) (Nat.lt_irrefl _)
  ·rcases List.mem_cons.mp (I.stkSub b hf) with z | z
   ·exact (hex b hb).2.1 z
   ·exact (hex b hb).2.2.1 z
 have fresh:H s.heap.objs.size = none:=I.hok.fresh (Nat.le_refl _)
 refine ⟨ok,rfl,I.bare,Un.kept keep,⟨m,hn,fun j x v e1 e2 _=>?_⟩,fun x c e=>?_,fresh,fun x c e=>I.freeC x c (hcl1 x c e),fun p hp=>?_,I.hok.kept keep,?_,I.hdh⟩
 ·have e1:N[j]? = some x:=e1
  unfold capσ at e2
  rw [List.getElem?_map] at e2
  cases ec:cap[j]? with
  | none=>rw [ec] at e2; cases e2
  | some c =>
   rw [ec] at e2
   cases c with
   | none=>cases e2
   | some i =>
    obtain ⟨a,b,d⟩:=S.caps.get ec e1
    have e3:σ[i]? = some (some v):=by
     cases es:σ[i]? with
     | none=>simp [es] at e2
     | some v'=>simp [es] at e2; rw [e2]
    obtain ⟨m0,hn0,hl0⟩:=I.loc
    obtain ⟨u,r,l⟩:=hl0 i x v a e3 (.inr (.inl b))
    refine ⟨u,r,?_⟩
    rcases l with ⟨k,_⟩ | ⟨_,c,ec',z⟩
    ·have k:X.env.scope.names.lookup x = some .local:=k
     rw [b] at k; cases k
    ·obtain ⟨c',ec2⟩:=hcl2 (x,.free) (PySem.mem_of_lookup d) rfl
     have e5:=hcl1 x c' ec2
     rw [ec'] at e5; cases e5
     refine .inr ⟨.inl ?_,c,ec2,?_⟩
     ·show (relabel scope X.env).names.lookup x = some .cell
      rw [hrel x,d]
      have k1:(X.env.scope.kind == ScopeKind.function) = true:=by rw [I.ok.kind]; rfl
      have k2:(X.env.kindOf x == some NameKind.cell) = true:=by
       show (X.env.scope.names.lookup x == some NameKind.cell) = true
       rw [b]; rfl
      rw [k1,k2]; rfl
     ·obtain ⟨o,ho,hd⟩:=z
      exact ⟨o,keep _ _ ho,hd⟩
 ·obtain ⟨v,o,ho,hd⟩:=I.cell x c (hcl1 x c e)
  exact ⟨v,o,keep _ _ ho,hd⟩
 ·have hp:p ∈ X.pn ++ pins ++ []:=hp
  rw [List.append_nil] at hp
  obtain ⟨a,b,c,d,e⟩:=I.pin p hp
  refine ⟨keep _ _ a,b,Nat.ne_of_lt (Heap.lt_size a),fun hf=>?_,e⟩
  rcases List.mem_cons.mp (I.stkSub _ hf) with z | z
  ·exact c z
  ·exact d z
 ·unfold capσ
  rw [List.length_map]
  exact S.caps.length
end
def PIfs (X:Cx) (ifs:List Expr) (t:TT):Prop :=
 ∀ (pins:List (Addr × Obj)) (s:Shared) (σ:St) (H:Hp) (Q:Bool→Hp→Prop),Inv X pins σ H s→t σ H Q →
  wpAny (model X.prog X.w) X.A (forIn ifs true fun c r=>if r = true then do let ok ← isTrue c X.env (eval c X.env); pure (ForInStep.yield ok) else pure (ForInStep.yield r)) (TP X pins σ Q) X.xe s
def tYes:TT:=fun _ H Q=>Q true H
theorem pifs_nil {X:Cx}:PIfs X [] tYes:=fun _ _ _ H _ I h=>wpAny_tests_nil ⟨H,I,h⟩
theorem pifs_one {X:Cx} {c:Expr} {t:TT} (h:PT X c t):PIfs X [c] t:=fun pins s σ H Q I q=>wpAny_tests_one (h pins s σ H Q I q)
def CompW (J:It) (g:TG) (tt:TT) (te:TE) (σ0:St) (H1:Hp) (D:Addr) (Q:VK):Prop :=
 ∃ W:Nat→Nat→List V→St→Hp→Prop,(∃ m,W 0 m [] σ0 (upd H1 D (.lst [])))∧∀ i m acc σc Hc,W i m acc σc Hc →
  (J.stop i Hc∧Q (.ref D) Hc) ∨
  (J.go i Hc∧∀ x H',J.yld i Hc x H'→g x σc H' fun σ2 H2=>tt σ2 H2 fun b H3=>if b = true then te σ2 H3 fun v H4=>H4 D = some (.lst acc)∧acc.length < sizeLine∧∃ m',m' < m∧W (i + 1) m' (acc ++ [v]) σ2 (upd H4 D (.lst (acc ++ [v])))
   else ∃ m',m' < m∧W (i + 1) m' acc σ2 H3)
def tComp (cap:List (Option Nat)) (wi:TI) (g:TG) (tt:TT) (te:TE):TE:=fun σ H Q=>wi σ H fun J H1=>∀ D,H1 D = none→CompW J g tt te (capσ cap σ) H1 D Q
section
variable {X:Cx}
theorem comp_core {elt target iter:Expr} {ifs:List Expr} {scope outer:Scope} {pos:Pos} {XN N:List Str} {cap:List (Option Nat)} {g:TG} {tt:TT} {te:TE} {cl:List (Str × Addr)}
  {pins:List (Addr × Obj)} {σ:St} {H2:Hp} {s2:Shared} {it:Addr} {fp:List Addr} {tn:Nat→Heap→Prop} {J:It} {Q:VK} {RR:Value→Addr→Result→Shared→Prop} {E:Value→Shared→Prop}
  (hX:X.env.scope = outer) (hN:X.N = XN) (S:CompSc XN outer scope N cap) (hc:J.nd = true→X.calm = true)
  (hg:∀ cl C s₀ H₀ ex pins,PG (X.comp N scope cl C s₀ H₀ ex pins) target g) (ht:∀ cl C s₀ H₀ ex pins,PIfs (X.comp N scope cl C s₀ H₀ ex pins) ifs tt) (he:∀ cl C s₀ H₀ ex pins,PE (X.comp N scope cl C s₀ H₀ ex pins) elt te)
  (hcl1:∀ x c,cl.lookup x = some c→X.env.cells.lookup x = some c) (hcl2:∀ x ∈ scope.names,x.2 = .free→∃ c,cl.lookup x.1 = some c)
  (I2:Inv X pins σ H2 s2) (T:Turn X.prog X.w X.K target J fp it tn) (st2:tn 0 s2.heap) (f2:∀ b ∈ fp,FpOk X pins H2 b)
  (hW:∀ D,H2 D = none→CompW J g tt te (capσ cap σ) H2 D Q)
  (hRR:∀ D C H' s' m,Inv X pins σ H' s'→FpOk X pins H' C→s'.heap.Ns C m→Q (.ref D) H'→RR (.ref D) C (.ok .next) s') :
  wpAny (model X.prog X.w) X.A (newList []) (fun acc s₃=>wpAny (model X.prog X.w) X.A (newFunctionEnv scope X.env.globals cl [] X.env.qual none .none (some X.env)) (fun cenv s₄ =>
   codeAny (model X.prog X.w) X.A (.compStart (.ListComp elt [⟨target,iter,ifs,0⟩] scope pos) 0 (.ref it) acc { cenv with scope:=relabel scope X.env }) (RR acc cenv.locals) s₄) E s₃) E s2:=by
 refine wpAny_newObj_type (wpAny_newFunctionEnv S.nocell (by intro y hy; simp at hy) (fun h₁ hns₁ hsb₁=>?_) S.kind)
 dsimp only at hns₁ hsb₁ ⊢
 have I3:Inv X pins σ (upd H2 s2.heap.objs.size (.lst [])) { s2 with heap:=s2.heap.push { cls:=.type "list",data:=.seq ([]:List Value).toArray } }:=I2.lnew (t':=s2.toks) .nil (Nat.zero_le _)
 have fD:H2 s2.heap.objs.size = none:=I2.hok.fresh (Nat.le_refl _)
 generalize hH2:s2.heap.push { cls:=.type "list",dict:=none,data:=.seq ([]:List Value).toArray } = G at hns₁ hsb₁ I3 ⊢
 have hG:G.objs.size = s2.heap.objs.size + 1:=by rw [← hH2,Heap.size_push]
 have fplt:∀ b ∈ fp,b < s2.heap.objs.size:=fun b hb=>by obtain ⟨o,e,_⟩:=T.obj _ _ st2 b hb; exact Heap.lt_size e
 have fpl3:∀ b ∈ fp,b < G.objs.size:=fun b hb=>by rw [hG]; exact Nat.lt_succ_of_lt (fplt b hb)
 have kG:∀ b o,s2.heap.get? b = some o→G.get? b = some o:=fun b o e=>hH2 ▸ Heap.get?_push_of_some _ e
 have f3:∀ b ∈ fp,FpOk X pins (upd H2 s2.heap.objs.size (.lst [])) b:=fun b hb=>⟨by rw [upd_ne (Nat.ne_of_lt (fplt b hb))]; exact (f2 b hb).1,(f2 b hb).2⟩
 have kh:∀ b o,G.get? b = some o→h₁.get? b = some o:=fun b o e=>hsb₁.extBut b o (Nat.ne_of_lt (Heap.lt_size e)) (Heap.get?_push_of_some _ e)
 have I4:=inv_comp (cl:=cl) (ex:=fp) (tk:=s2.toks + ([]:List (Str × Value)).length) I3 hX hN S hcl1 hcl2 f3 fpl3 hns₁ kh
 dsimp only at I4
 obtain ⟨W,⟨m0,w0⟩,turn⟩:=hW s2.heap.objs.size fD
 have st4:tn 0 h₁:=T.keep _ _ _ st2 fun b _ o e=>kh b o (kG b o e)
 have stat:∀ {H':Hp},(∀ b ∈ fp,H' b = none)→∀ b ∈ fp,FpOk (X.comp N scope cl G.objs.size { s2 with heap:=G } (upd H2 s2.heap.objs.size (.lst [])) fp pins) [] H' b:=fun hn b hb=>by
  obtain ⟨_,a1,a2,a3,a4,a5⟩:=f2 b hb
  refine ⟨hn b hb,Nat.ne_of_lt (fpl3 b hb),fun hf=>?_,.inl hb,fun x c e=>a4 x c (hcl1 x c e),fun p hp=>?_⟩
  ·rcases List.mem_cons.mp (I2.stkSub b hf) with z | z
   ·exact a1 z
   ·exact a2 z
  ·have hp:p ∈ X.pn ++ pins ++ []:=hp
   rw [List.append_nil] at hp
   exact a5 p hp
 have loop:codeAny (model X.prog X.w) X.A (.compLoop (.ListComp elt [⟨target,iter,ifs,0⟩] scope pos) 0 (.ref it) (.ref s2.heap.objs.size) (compEnvC scope cl G.objs.size X.env)) (RR (.ref s2.heap.objs.size) G.objs.size) { s2 with heap:=h₁,toks:=s2.toks + ([]:List (Str × Value)).length }:=by
  refine compLoop_any (fun n s'=>∃ i acc σ' H',Inv (X.comp N scope cl G.objs.size { s2 with heap:=G } (upd H2 s2.heap.objs.size (.lst [])) fp pins) [] σ' H' s'∧tn i s'.heap∧(∀ b ∈ fp,H' b = none)∧W i n acc σ' H') ?_ m0 ⟨0,[],_,_,I4,st4,fun b hb=>(f3 b hb).1,w0⟩
  rintro n s3 ⟨i,acc,σ3,H3,I3,st3,fr3,w3⟩
  rcases turn i n acc σ3 H3 w3 with ⟨stop,qn⟩ | ⟨go,step⟩
  ·refine thn (T.done (X.comp N scope cl G.objs.size { s2 with heap:=G } (upd H2 s2.heap.objs.size (.lst [])) fp pins) rfl rfl rfl hc i [] s3 σ3 H3 _ I3 (stat fr3) st3 stop) fun r s4 ⟨hr,I4'⟩=>?_
   subst hr
   have un:Un (frs X.stack) fp H2 H3 s2.heap s4.heap:=(Un.laid kG (Nat.le_refl _) fD).trans I4'.base
   have I5:Inv X pins σ H3 s4:=I2.call' (ch:=fp) I4'.os un I4'.hok I4'.bare fun b hb=>by
    obtain ⟨_,a1,_,a3,a4,a5⟩:=f2 b hb
    exact ⟨a3,a1,a4,a5⟩
   obtain ⟨m5,hn5,_⟩:=I4'.loc
   refine hRR s2.heap.objs.size G.objs.size H3 s4 m5 I5 ?_ hn5 qn
   exact I2.fpOk (by rw [hG]; exact Nat.le_succ _) I4'.free
  ·refine thn (T.item (X.comp N scope cl G.objs.size { s2 with heap:=G } (upd H2 s2.heap.objs.size (.lst [])) fp pins) rfl rfl rfl hc i [] s3 σ3 H3 _ I3 (stat fr3) st3 go) fun r s4 ⟨u,hr,h4⟩=>?_
   subst hr
   refine thn h4 fun _ s5 ⟨x,H5,I5,r5,y5,st5,fr5⟩=>?_
   have I5':=I5.pinned (stat fr5) (T.obj _ _ st5)
   refine wpAny_mono (hg _ _ _ _ _ _ _ s5 σ3 H5 x u _ I5' r5 (step x H5 y5)) (fun _ s6 ⟨σ6,H6,I6,q6⟩=>?_) fun _ _ f=>f.elim
   refine wpAny_mono (ht _ _ _ _ _ _ _ s6 σ6 H6 _ I6 q6) (fun ok s7 ⟨H7,I7,q7⟩=>?_) fun _ _ f=>f.elim
   have again:∀ {m:Nat} {acc':List V} {s8:Shared} {H8:Hp},Inv (X.comp N scope cl G.objs.size { s2 with heap:=G } (upd H2 s2.heap.objs.size (.lst [])) fp pins) ([] ++ pinsAt fp s5.heap) σ6 H8 s8→m < n→W (i + 1) m acc' σ6 H8 →
     ∃ m,m < n∧∃ i acc σ' H',Inv (X.comp N scope cl G.objs.size { s2 with heap:=G } (upd H2 s2.heap.objs.size (.lst [])) fp pins) [] σ' H' s8∧tn i s8.heap∧(∀ b ∈ fp,H' b = none)∧W i m acc σ' H':=fun {m acc' s8 H8} I8 hm w8=>by
    refine ⟨m,hm,i + 1,acc',σ6,H8,I8.unpinned,T.keep _ _ _ st5 fun b hb o e=>(I8.pin (b,o) (List.mem_append_right _ (List.mem_append_right _ (mem_pinsAt hb e)))).1,fun b hb=>?_,w8⟩
    obtain ⟨o,e,d⟩:=T.obj _ _ st5 b hb
    exact (I8.pin (b,o) (List.mem_append_right _ (List.mem_append_right _ (mem_pinsAt hb e)))).2.1
   cases ok with
   | false =>
    obtain ⟨m',hm,w7⟩:=q7
    exact again I7 hm w7
   | true =>
    refine wpAny_mono (he _ _ _ _ _ _ _ s7 σ6 H7 _ I7 q7) (fun y s8 ⟨v,H8,I8,r8,hD8,hz,m',hm,w8⟩=>?_) fun _ _ f=>f.elim
    refine wpAny_mono (mt_append (X:=X.comp N scope cl G.objs.size { s2 with heap:=G } (upd H2 s2.heap.objs.size (.lst [])) fp pins) _ s8 σ6 H8 (.ref s2.heap.objs.size) [v] (.ref s2.heap.objs.size) [y] (fun _ H9=>H9 = upd H8 s2.heap.objs.size (.lst (acc ++ [v]))) I8 rfl (.cons r8 .nil) ⟨_,acc,v,rfl,rfl,hD8,hz,rfl⟩) (fun _ s9 ⟨_,H9,I9,_,e9⟩=>?_) fun _ _ f=>f.elim
    subst e9
    exact again I9 hm w8
 exact codeAny_compStart_list loop (T.self _ 0 _ _ _ st4 loop)
theorem pe_comp {elt target iter:Expr} {ifs:List Expr} {scope outer:Scope} {pos:Pos} {XN N:List Str} {cap:List (Option Nat)} {wi:TI} {g:TG} {tt:TT} {te:TE}
  (S:CompSc XN outer scope N cap) (_:True = True) (hi:PI X target iter wi)
  (hg:∀ cl C s₀ H₀ ex pins,PG (X.comp N scope cl C s₀ H₀ ex pins) target g) (ht:∀ cl C s₀ H₀ ex pins,PIfs (X.comp N scope cl C s₀ H₀ ex pins) ifs tt) (he:∀ cl C s₀ H₀ ex pins,PE (X.comp N scope cl C s₀ H₀ ex pins) elt te)
  (hX:X.env.scope = outer:=by rfl) (hN:X.N = XN:=by rfl) (hs:∀ x,foldedSetIterable iter X.env x = pure x:=by intro _; rfl):PE X (.ListComp elt [⟨target,iter,ifs,0⟩] scope pos) (tComp cap wi g tt te):=by
 intro pins s σ H Q I h
 obtain ⟨cl,hclos,hcl1,hcl2⟩:=closureFor_ok (scope:=scope) (env:=X.env) fun x hx hf=>I.ok.has x.1 (.inl (by
  show X.env.scope.names.lookup x.1 = some .cell
  rw [hX]; exact S.fr x hx hf))
 rw [eval_ListComp]
 refine wpAny_comprehension_free (use:=none) rfl hs hclos S.kind S.loc ?_
 refine thn (hi pins s σ H _ I h) fun v s1 h1=>thn h1 fun itv s2 h2=>?_
 obtain ⟨it,fp,tn,J,H2,rfl,I2,T,st2,f2,hc,hW⟩:=h2
 refine comp_core (RR:=fun acc C=>compPost (model X.prog X.w) X.A X.xe none (EP X pins σ Q) acc C) hX hN S hc hg ht he hcl1 hcl2 I2 T st2 f2 hW ?_
 intro D C H' s' m I' fC hn q
 refine ⟨m,hn,fun h' hsb=>?_⟩
 obtain ⟨a0,a1,_,a3,a4,a5⟩:=fC
 exact ⟨.ref D,H',I'.turned (t':=s'.toks) (fun b o hb e=>hsb.extBut b o hb e) a0 (Ne.symm a1).symm a3 a4 a5,rfl,q⟩
end
end L2
set_option Elab.async false
set_option linter.all false
set_option maxRecDepth 100000
namespace L2
open PySem PySem.Spec PyProof.Rows
section
variable {X:Cx}
theorem boolsAre_of:∀ {bs:List Bool} {us:List Value},Vals (bs.map V.bl) us→LSm.BoolsAre us bs
 | [],_,.nil=>.nil
 | b :: bs,_,.cons r t=>by
  cases (show _ = Value.bool b from r)
  exact .cons b (boolsAre_of t)
theorem call_sumL (hc:X.calm = true):CallR X (.builtin "sum") (fun xs H Q=>∃ (p:Addr) (ns:List Int),xs = [.ref p]∧SqL X.K H p (ns.map V.int)∧Q (.int ns.sum) H):=by
 intro pins s σ H xs us Q I r h
 obtain ⟨p,ns,rfl,hq,q⟩:=h
 obtain ⟨u,rfl,rx⟩:=vals1 r
 cases rx
 obtain ⟨its,r',pl,hz⟩:=I.list hq
 have hi:IntsAre its ns:=intsAre_of r'
 obtain ⟨ys,hx⟩:=hi.allInts.items
 have hl':s.heap.IsList p (intItems ys):=hx ▸ pl.isList
 refine sum_intListG (I.ok.hd hc) hl' fun h' tk t' hk=>?_
 have e1:ns = ys.toList.map (·.1):=by
  rw [← nums_intItems,← hx]
  exact (show numsOf its.toArray.toList = ns from hi.numsOf).symm
 have e2:preSum (numAt ys) ys.size = ns.sum:=by
  rw [preSum_eq,List.take_of_length_le (by simp),e1]
 rw [e2]
 exact ⟨.int ns.sum,H,I.kept (t':=tk) hk,⟨t',rfl⟩,q⟩
theorem call_allL (hc:X.calm = true):CallR X (.builtin "all") (fun xs H Q=>∃ (p:Addr) (bs:List Bool),xs = [.ref p]∧SqL X.K H p (bs.map V.bl)∧Q (.bl (bs.all id)) H):=by
 intro pins s σ H xs us Q I r h
 obtain ⟨p,bs,rfl,hq,q⟩:=h
 obtain ⟨u,rfl,rx⟩:=vals1 r
 cases rx
 obtain ⟨vs,r',pl,hz⟩:=I.list hq
 have hb:LSm.BoolsAre vs bs:=boolsAre_of r'
 have hl:=pl.isList
 have hlt:p < s.heap.objs.size:=by obtain ⟨_,e,_⟩:=hl; exact Heap.lt_size e
 refine call_all_walk (wpAny_pyIter_list hl ?_)
 refine ⟨s.heap.objs.size,[s.heap.objs.size,p],[s.heap.objs.size],vs.toArray.size,_,_,fun i=>(bs[i]?).getD true,rfl,Walks.list (A:=X.A.in1) (I.ok.hd hc) _ p (Nat.ne_of_lt hlt) vs.toArray,
  ⟨⟨_,Heap.get?_push_size _ rfl,rfl,rfl⟩,hl.push _⟩,fun i v s' Q' E' hP hQ=>?_,fun h' tk hk=>?_⟩
 ·obtain ⟨b,e,rfl⟩:=hb.get i v (by simpa using hP)
  simp only [e,Option.getD_some] at hQ
  exact wpAny_truthy_bool hQ
 ·have e:((List.range vs.toArray.size).all fun i=>(bs[i]?).getD true) = bs.all id:=by
   rw [List.size_toArray,hb.length]; exact LSm.range_all bs
  rw [e]
  exact ⟨.bl (bs.all id),H,I.kept (t':=tk) (LSm.kept_iter hk),rfl,q⟩
theorem call_anyL (hc:X.calm = true):CallR X (.builtin "any") (fun xs H Q=>∃ (p:Addr) (bs:List Bool),xs = [.ref p]∧SqL X.K H p (bs.map V.bl)∧Q (.bl (bs.any id)) H):=by
 intro pins s σ H xs us Q I r h
 obtain ⟨p,bs,rfl,hq,q⟩:=h
 obtain ⟨u,rfl,rx⟩:=vals1 r
 cases rx
 obtain ⟨vs,r',pl,hz⟩:=I.list hq
 have hb:LSm.BoolsAre vs bs:=boolsAre_of r'
 have hl:=pl.isList
 have hlt:p < s.heap.objs.size:=by obtain ⟨_,e,_⟩:=hl; exact Heap.lt_size e
 refine call_any_walk (wpAny_pyIter_list hl ?_)
 refine ⟨s.heap.objs.size,[s.heap.objs.size,p],[s.heap.objs.size],vs.toArray.size,_,_,fun i=>(bs[i]?).getD false,rfl,Walks.list (A:=X.A.in1) (I.ok.hd hc) _ p (Nat.ne_of_lt hlt) vs.toArray,
  ⟨⟨_,Heap.get?_push_size _ rfl,rfl,rfl⟩,hl.push _⟩,fun i v s' Q' E' hP hQ=>?_,fun h' tk hk=>?_⟩
 ·obtain ⟨b,e,rfl⟩:=hb.get i v (by simpa using hP)
  simp only [e,Option.getD_some] at hQ
  exact wpAny_truthy_bool hQ
 ·have e:((List.range vs.toArray.size).any fun i=>(bs[i]?).getD false) = bs.any id:=by
   rw [List.size_toArray,hb.length]; exact LSm.range_any bs
  rw [e]
  exact ⟨.bl (bs.any id),H,I.kept (t':=tk) (LSm.kept_iter hk),rfl,q⟩
def ClsV (c:V) (cv:Value):Prop:=match c with
 | .ty n=>cv = .type n
 | .ref C=>cv = .ref C
 | _=>False
theorem call_isinst:CallR X (.builtin "isinstance") (fun xs H Q=>∃ (x c:V) (t cv:Value) (b:Bool),xs = [x,c]∧TyOf X.K H x t∧ClsV c cv∧PySem.W.kitOne X.K t cv = some b∧Q (.bl b) H):=by
 intro pins s σ H xs us Q I r h
 obtain ⟨x,c,t,cv,b,rfl,ty,rc,e,q⟩:=h
 obtain ⟨u,v,rfl,rx,rv⟩:=vals2 r
 have ev:v = cv:=by
  cases c with
  | ty n=>exact (show v = .type n from rv).trans (show cv = .type n from rc).symm
  | ref C=>exact (show v = .ref C from rv).trans (show cv = .ref C from rc).symm
  | _=>exact False.elim rc
 subst ev
 exact isinst_ok I rx ty e fun tk=>⟨.bl b,H,I.tok tk,rfl,q⟩
theorem vals_of_get:∀ {xs:List V} {us:List Value},xs.length = us.length→(∀ (i:Nat) x u,xs[i]? = some x→us[i]? = some u→RelV x u)→Vals xs us
 | [],[],_,_=>.nil
 | [],_ :: _,h,_=>by simp at h
 | _ :: _,[],h,_=>by simp at h
 | x :: xs,u :: us,h,f=>.cons (f 0 x u rfl rfl) (vals_of_get (by simpa using h) fun i y v a b=>f (i + 1) y v (by simpa using a) (by simpa using b))
theorem call_rng1:CallR X (.type "range") (fun xs H Q=>∃ j:Int,xs = [.int j]∧∀ p,H p = none→Q (.ref p) (upd H p (.rng 0 j))):=by
 intro pins s σ H xs us Q I r h
 obtain ⟨j,rfl,q⟩:=h
 obtain ⟨u,rfl,rx⟩:=vals1 r
 obtain ⟨t,rfl⟩:=rx
 refine call_range_1 ?_
 refine ⟨.ref s.heap.objs.size,upd H s.heap.objs.size (.rng 0 j),?_,rfl,q _ (I.hok.fresh (Nat.le_refl _))⟩
 refine I.laid (fun b o e=>Heap.get?_push_of_some _ e) (Nat.le_refl _) ?_
 exact ⟨_,_,_,Heap.get?_push_size _ rfl⟩
inductive EqD (K:PySem.W.Frag) (H:Hp):Nat→V→V→Bool→Prop where
 | flat {n:Nat} {x y:V} (fx:flatV x = true) (fy:flatV y = true):EqD K H n x y (eqV x y)
 | same {n:Nat} {a:Addr}:EqD K H n (.ref a) (.ref a) true
 | lst {n:Nat} {l b:Addr} {xs ys:List V} {e:Nat→Bool} (ne:l ≠ b) (hl:SqL K H l xs) (hb:SqL K H b ys) (hz:xs.length = ys.length)
   (he:∀ (i:Nat) x y,xs[i]? = some x→ys[i]? = some y→EqD K H n x y (e i)):EqD K H (n + 1) (.ref l) (.ref b) ((List.range xs.length).all e)
 | len {n:Nat} {l b:Addr} {xs ys:List V} (ne:l ≠ b) (hl:SqL K H l xs) (hb:SqL K H b ys) (hz:xs.length ≠ ys.length):EqD K H (n + 1) (.ref l) (.ref b) false
 | tup {n:Nat} {l b:Addr} {xs ys:List V} {e:Nat→Bool} (ne:l ≠ b) (hl:SqT K H l xs) (hb:SqT K H b ys)
   (he:∀ (i:Nat) x y,xs[i]? = some x→ys[i]? = some y→EqD K H n x y (e i)):EqD K H (n + 1) (.ref l) (.ref b) ((List.range (min xs.length ys.length)).all e && xs.length == ys.length)
theorem Vals.at {xs:List V} {us:List Value} (r:Vals xs us) {i:Nat} (h:i < us.toArray.size):∃ x,xs[i]? = some x∧RelV x us.toArray[i]:=by
 have hl:xs.length = us.length:=r.length
 have hi:i < us.length:=by simpa using h
 obtain ⟨u,e,q⟩:=r.get (i:=i) (x:=xs[i]'(by omega)) (List.getElem?_eq_getElem (by omega))
 refine ⟨_,List.getElem?_eq_getElem (by omega),?_⟩
 rw [List.getElem?_eq_getElem hi] at e
 cases e
 simpa using q
theorem eqD_at {pins:List (Addr × Obj)} {σ:St} {H:Hp} {s:Shared} (I:Inv X pins σ H s) {n:Nat} {x y:V} {b:Bool} (h:EqD X.K H n x y b) :
  ∀ (A:Around) (u v:Value),A.units + n < cLine→RelV x u→RelV y v→SeqAt.EqAt A s u v b:=by
 induction h with
 | flat fx fy=>intro A u v _ rx ry; exact eqAt_V rx ry fx fy
 | same =>
  intro A u v _ rx ry
  cases rx; cases ry
  exact SeqAt.EqAt.same _
 | lst ne hl hb hz he ih =>
  intro A u v hu rx ry
  cases rx; cases ry
  obtain ⟨i1,r1,p1,z1⟩:=I.list hl
  obtain ⟨i2,r2,p2,z2⟩:=I.list hb
  have l1:=r1.length
  have l2:=r2.length
  have hs:i1.toArray.size = i2.toArray.size:=by simp only [List.size_toArray]; omega
  refine SeqAt.EqAt.of_refs ne ?_
  have z1':i1.toArray.size = _:=List.size_toArray.trans l1.symm
  rw [← z1']
  refine SeqAt.RcAt.lists p1.isList p2.isList hs (by omega) fun j h1 h2=>?_
  obtain ⟨x,ex,qx⟩:=r1.at h1
  obtain ⟨y,ey,qy⟩:=r2.at h2
  exact ih j x y ex ey A.in1 _ _ (by show A.units + 1 + _ < cLine; omega) qx qy
 | len ne hl hb hz =>
  intro A u v hu rx ry
  cases rx; cases ry
  obtain ⟨i1,r1,p1,z1⟩:=I.list hl
  obtain ⟨i2,r2,p2,z2⟩:=I.list hb
  have l1:=r1.length
  have l2:=r2.length
  refine SeqAt.EqAt.of_refs ne (SeqAt.RcAt.lists_lengths p1.isList p2.isList ?_ (by omega))
  simp only [List.size_toArray,bne_iff_ne]; omega
 | tup ne hl hb he ih =>
  intro A u v hu rx ry
  cases rx; cases ry
  obtain ⟨i1,r1,p1,z1⟩:=I.tuple hl
  obtain ⟨i2,r2,p2,z2⟩:=I.tuple hb
  have l1:=r1.length
  have l2:=r2.length
  refine SeqAt.EqAt.of_refs ne ?_
  have z1':i1.toArray.size = _:=List.size_toArray.trans l1.symm
  have z2':i2.toArray.size = _:=List.size_toArray.trans l2.symm
  rw [← z1',← z2']
  refine SeqAt.RcAt.tuples p1 p2 (by omega) fun j h1 h2=>?_
  obtain ⟨x,ex,qx⟩:=r1.at h1
  obtain ⟨y,ey,qy⟩:=r2.at h2
  exact ih j x y ex ey A.in1 _ _ (by show A.units + 1 + _ < cLine; omega) qx qy
def rEqL (K:PySem.W.Frag) (neg:Bool):R2:=fun x y H Q=>∃ (l b:Addr) (xs ys:List V),x = .ref l∧y = .ref b∧SqL K H l xs∧SqL K H b ys ∧
 ((xs.length ≠ ys.length∧Q (.bl neg) H) ∨ (xs.length = ys.length∧∃ e:Nat→Bool,(∀ (i:Nat) x y,xs[i]? = some x→ys[i]? = some y→EqD K H 8 x y (e i))∧Q (.bl (if neg then !(List.range xs.length).all e else (List.range xs.length).all e)) H))
theorem op_eqL (hu:X.A.units + 64 < cLine):OpR X (compareOp .Eq) (rEqL X.K false):=by
 intro pins s σ H x y v u Q I rx ry h
 obtain ⟨l,b,xs,ys,rfl,rfl,hl,hb,h⟩:=h
 cases rx; cases ry
 obtain ⟨i1,r1,p1,z1⟩:=I.list hl
 obtain ⟨i2,r2,p2,z2⟩:=I.list hb
 have l1:=r1.length
 have l2:=r2.length
 rcases h with ⟨hz,q⟩ | ⟨hz,e,he,q⟩
 ·refine SeqAt.eq_list_lengthsAt p1.isList p2.isList ?_ (by omega) ⟨.bl false,H,I,rfl,q⟩
  simp only [List.size_toArray,bne_iff_ne]; omega
 ·have hs:i1.toArray.size = i2.toArray.size:=by simp only [List.size_toArray]; omega
  refine SeqAt.eq_listAt p1.isList p2.isList hs (by omega) (e:=e) (fun j h1 h2=>?_) ⟨.bl _,H,I,rfl,?_⟩
  ·obtain ⟨x,ex,qx⟩:=r1.at h1
   obtain ⟨y,ey,qy⟩:=r2.at h2
   exact eqD_at I (he j x y ex ey) X.A.in1 _ _ (by show X.A.units + 1 + _ < cLine; omega) qx qy
  ·rw [show i1.toArray.size = xs.length from by simp only [List.size_toArray]; exact l1.symm]
   exact q
theorem op_neL (hu:X.A.units + 64 < cLine):OpR X (compareOp .NotEq) (rEqL X.K true):=by
 intro pins s σ H x y v u Q I rx ry h
 obtain ⟨l,b,xs,ys,rfl,rfl,hl,hb,h⟩:=h
 cases rx; cases ry
 obtain ⟨i1,r1,p1,z1⟩:=I.list hl
 obtain ⟨i2,r2,p2,z2⟩:=I.list hb
 have l1:=r1.length
 have l2:=r2.length
 rcases h with ⟨hz,q⟩ | ⟨hz,e,he,q⟩
 ·refine SeqAt.RcNeAt.lists_lengths p1.isList p2.isList ?_ (by omega) _ _ _ _ ⟨.bl true,H,I,rfl,q⟩
  simp only [List.size_toArray,bne_iff_ne]; omega
 ·have hs:i1.toArray.size = i2.toArray.size:=by simp only [List.size_toArray]; omega
  refine SeqAt.RcNeAt.lists p1.isList p2.isList hs (by omega) (e:=e) (fun j h1 h2=>?_) _ _ _ _ ⟨.bl _,H,I,rfl,?_⟩
  ·obtain ⟨x,ex,qx⟩:=r1.at h1
   obtain ⟨y,ey,qy⟩:=r2.at h2
   exact eqD_at I (he j x y ex ey) X.A.in1 _ _ (by show X.A.units + 1 + _ < cLine; omega) qx qy
  ·rw [show i1.toArray.size = xs.length from by simp only [List.size_toArray]; exact l1.symm]
   exact q
theorem range_all_ints:∀ (ns ms:List Int),ns.length = ms.length→((List.range ns.length).all fun i=>decide (ns[i]? = ms[i]?)) = decide (ns = ms):=by
 intro ns ms hz
 rw [Bool.eq_iff_iff,List.all_eq_true,decide_eq_true_eq]
 constructor
 ·intro h
  refine List.ext_getElem? fun i=>?_
  by_cases hi:i < ns.length
  ·exact of_decide_eq_true (h i (List.mem_range.mpr hi))
  ·rw [List.getElem?_eq_none (by omega),List.getElem?_eq_none (by omega)]
 ·intro h i _
  rw [h]; simp
theorem eqInts {K:PySem.W.Frag} {H:Hp} {n:Nat} {ns ms:List Int} {i:Nat} {x y:V} (ex:(ns.map V.int)[i]? = some x) (ey:(ms.map V.int)[i]? = some y):EqD K H n x y (decide (ns[i]? = ms[i]?)):=by
 rw [List.getElem?_map] at ex ey
 cases ea:ns[i]? with
 | none=>rw [ea] at ex; cases ex
 | some a =>
  cases eb:ms[i]? with
  | none=>rw [eb] at ey; cases ey
  | some b =>
   rw [ea] at ex; rw [eb] at ey
   cases ex; cases ey
   have:decide (some a = some b) = eqV (.int a) (.int b):=by
    show _ = (a == b)
    rw [Bool.eq_iff_iff]; simp
   rw [this]
   exact .flat rfl rfl
def rEqI (K:PySem.W.Frag) (neg:Bool):R2:=fun x y H Q=>∃ (l b:Addr) (ns ms:List Int),x = .ref l∧y = .ref b∧SqL K H l (ns.map V.int)∧SqL K H b (ms.map V.int)∧Q (.bl (if neg then !decide (ns = ms) else decide (ns = ms))) H
theorem rEqI.to {K:PySem.W.Frag} {neg:Bool} {x y:V} {H:Hp} {Q:VK} (h:rEqI K neg x y H Q):rEqL K neg x y H Q:=by
 obtain ⟨l,b,ns,ms,rfl,rfl,hl,hb,q⟩:=h
 refine ⟨l,b,_,_,rfl,rfl,hl,hb,?_⟩
 by_cases hz:ns.length = ms.length
 ·refine .inr ⟨by simpa using hz,fun i=>decide (ns[i]? = ms[i]?),fun i x y ex ey=>eqInts ex ey,?_⟩
  rw [List.length_map,range_all_ints ns ms hz]
  exact q
 ·refine .inl ⟨by simpa using hz,?_⟩
  have:decide (ns = ms) = false:=decide_eq_false fun z=>hz (by rw [z])
  rw [this] at q
  cases neg <;> exact q
theorem op_eqI (hu:X.A.units + 64 < cLine):OpR X (compareOp .Eq) (rEqI X.K false):=fun pins s σ H x y v u Q I rx ry h=>op_eqL hu pins s σ H x y v u Q I rx ry h.to
theorem op_neI (hu:X.A.units + 64 < cLine):OpR X (compareOp .NotEq) (rEqI X.K true):=fun pins s σ H x y v u Q I rx ry h=>op_neL hu pins s σ H x y v u Q I rx ry h.to
theorem range_allT (n:Nat):((List.range n).all fun _=>true) = true:=by rw [List.all_eq_true]; exact fun _ _=>rfl
end
end L2
set_option Elab.async false
set_option linter.all false
set_option maxRecDepth 100000
namespace L2
open PySem PySem.Spec PyProof.Rows
def ExcObjC (cls a0:Value) (dd:Option Addr) (tb:Value) (cs:Value × Value):Obj:={ cls:=cls,dict:=dd,data:=.fields #[a0,tb,cs.1,.none,cs.2,.none],slots:=#[] }
abbrev cs0:Value × Value:=(.none,.bool false)
abbrev ExcObj (cls a0:Value) (dd:Option Addr) (tb:Value):Obj:=ExcObjC cls a0 dd tb cs0
def FlyX (B:Heap) (l:List Env) (x:Addr) (cls a0:Value) (dd:Option Addr) (cs:Value × Value) (fl:Value) (h:Heap):Prop :=
 B.StaysIn h∧B.get? x = none∧h.FunFrames B l∧∃ T oT ts,h.get? x = some (ExcObjC cls a0 dd (.ref T) cs)∧B.get? T = none∧T ≠ x∧h.get? T = some oT∧oT.data = .fields ts∧ts[3]? = some fl
section
variable {M:Model} {A:Around} {EE:Value→Shared→Prop} {s:Shared} {B:Heap} {env:Env} {outer l:List Env} {L x:Addr} {cls a0 tb fl:Value} {dd:Option Addr} {cs:Value × Value} {Q:Unit→Shared→Prop}
theorem FlyX.pop (h:FlyX B (env :: l) x cls a0 dd cs fl s.heap):FlyX B l x cls a0 dd cs fl s.heap:=⟨h.1,h.2.1,h.2.2.1.2.2,h.2.2.2⟩
theorem entry_x {top:Value} {had:Bool} (hfr:A.frames = some (env :: outer)) (hl:s.heap.FunFrames B (env :: outer)) (hf:env.frame = some L) (hx:s.heap.get? x = some (ExcObjC cls a0 dd tb cs)) (hk:B.StaysIn s.heap) (hn:B.get? x = none)
  (k:∀ h',FlyX B (env :: outer) x cls a0 dd cs (rawInt L) h'→s.heap.UpToSlots h'→Q () { s with heap:=h' }) :
  wpAny M A (do let a ← frameOf env; let pl ← entryPlaceOf L had; let b ← EntryCells.newEntry top a .none (rawInt L) .none pl; setField (.ref x) 1 b) Q EE s:=by
 have nx:x ∉ (env :: outer).filterMap (·.frame):=fun hm=>by
  obtain ⟨_,o,ho,hnf⟩:=hl.mem hm
  rw [hx] at ho; cases ho; exact hnf _ rfl
 refine wpAny_bind (wpAny_frameOf_fun hfr hl hf fun g1 sl1=>wpAny_bind (wpAny_entryPlaceOf fun pl hpl=>?_))
 unfold EntryCells.newEntry newFields
 refine wpAny_bind (wpAny_newObj_type ?_ (hpl.sizeOk5 _ _ _ _ _))
 have x1:g1.get? x = some (ExcObjC cls a0 dd tb cs):=(sl1.2.1 x nx).trans hx
 have k1:B.StaysIn g1:=fun b o e=>(sl1.2.1 b fun hm=>by rw [(hl.mem hm).1] at e; cases e).trans (hk b o e)
 have hts:([top,.ref L,.none,rawInt L,.none] ++ (if pl.isEmpty then List.replicate 6 Value.none else pl)).toArray[3]? = some (rawInt L):=by
  first | (simp; done) | (rcases hpl with rfl | ⟨_,_,_,_,_,_,_,rfl⟩ <;> simp)
 generalize hnew:([top,.ref L,.none,rawInt L,.none] ++ (if pl.isEmpty then List.replicate 6 Value.none else pl)).toArray = ts at hts ⊢
 have x2:(g1.push { cls:=.type "traceback",dict:=none,data:=.fields ts }).get? x = some (ExcObjC cls a0 dd tb cs):=Heap.get?_push_of_some _ x1
 have Tx:g1.objs.size ≠ x:=Nat.ne_of_gt (Heap.lt_size x1)
 have x3:((g1.push { cls:=.type "traceback",dict:=none,data:=.fields ts }).update x (Obj.mapFields (·.setIfInBounds 1 (Value.ref g1.objs.size)))).get? x = some (ExcObjC cls a0 dd (.ref g1.objs.size) cs):=Heap.get?_update_self _ x2 rfl
 have other:∀ b o,b ≠ x→(g1.push { cls:=.type "traceback",dict:=none,data:=.fields ts }).get? b = some o→((g1.push { cls:=.type "traceback",dict:=none,data:=.fields ts }).update x (Obj.mapFields (·.setIfInBounds 1 (Value.ref g1.objs.size)))).get? b = some o:=fun b o hb e=>by
  rw [Heap.get?_update_other _ _ (Ne.symm hb)]; exact e
 have norec:∀ b o,s.heap.get? b = some o→(∀ vs,o.data ≠ .fields vs)→b ≠ x:=fun b o e hnf z=>by
  rw [z,hx] at e; cases e; exact hnf _ rfl
 have up:∀ b o,s.heap.get? b = some o→(∀ vs,o.data ≠ .fields vs)→∃ sl,((g1.push { cls:=.type "traceback",dict:=none,data:=.fields ts }).update x (Obj.mapFields (·.setIfInBounds 1 (Value.ref g1.objs.size)))).get? b = some { o with slots:=sl }:=fun b o e hnf=>by
  obtain ⟨sl,e1⟩:=sl1.2.2 b o e
  exact ⟨sl,other b _ (norec b o e hnf) (Heap.get?_push_of_some _ e1)⟩
 refine wpAny_setField x2 rfl (by show 1 < 6; decide) (k _ ⟨fun b o e=>other b o (fun z=>by rw [z,hn] at e; cases e) (Heap.get?_push_of_some _ (k1 b o e)),hn,hl.of_keeps fun b o e hnf=>?_,g1.objs.size,_,ts,x3,k1.fresh,Tx,other _ _ Tx (Heap.get?_push_size _ rfl),rfl,hts⟩ up)
 obtain ⟨sl,e1⟩:=up b o e hnf
 exact ⟨_,e1,rfl⟩
theorem note_x (hfr:A.frames = some (env :: outer)) (hf:env.frame = some L) (hx:FlyX B (env :: outer) x cls a0 dd cs .none s.heap)
  (k:∀ h',FlyX B (env :: outer) x cls a0 dd cs (rawInt L) h'→s.heap.UpToSlots h'→Q () { s with heap:=h' }):wpAny M A (noteFrame (.ref x) env) Q EE s:=by
 obtain ⟨hk,hn,hl,T,oT,ts,hx,hnT,hTx,hT,hdT,h3⟩:=hx
 unfold noteFrame
 simp only [hf]
 refine wpAny_bind (wpAny_field hx rfl (x:=.ref T) rfl ?_)
 rw [if_pos (show (Value.ref T != Value.none) = true from by simp)]
 refine wpAny_bind (wpAny_field hT hdT h3 ?_)
 rw [if_neg (show ¬ ((Value.none == rawInt L) = true) from by simp [rawInt])]
 refine wpAny_bind (wpAny_setField hT hdT (Array.getElem?_eq_some_iff.mp h3).1 ?_)
 have oth:∀ b,b ≠ T→(s.heap.update T (Obj.mapFields (·.setIfInBounds 3 Value.none))).get? b = s.heap.get? b:=fun b hb=>Heap.get?_update_other _ _ (Ne.symm hb)
 have norec:∀ b o,s.heap.get? b = some o→(∀ vs,o.data ≠ .fields vs)→b ≠ T:=fun b o e hnf z=>by
  rw [z,hT] at e; cases e; exact hnf ts hdT
 refine entry_x (s:={ s with heap:=s.heap.update T (Obj.mapFields (·.setIfInBounds 3 Value.none)) }) hfr (hl.of_keeps fun b o e hnf=>⟨o,(oth b (norec b o e hnf)).trans e,rfl⟩) hf ((oth x (Ne.symm hTx)).trans hx)
  (fun b o e=>(oth b fun z=>by rw [z,hnT] at e; cases e).trans (hk b o e)) hn fun h' fx up=>k h' fx fun b o e hnf=>up b o ((oth b (norec b o e hnf)).trans e) hnf
theorem note_x0 (hfr:A.frames = some (env :: outer)) (hf:env.frame = some L) (hl:s.heap.FunFrames B (env :: outer)) (hx:s.heap.get? x = some (ExcObjC cls a0 dd .none cs)) (hk:B.StaysIn s.heap) (hn:B.get? x = none)
  (k:∀ h',FlyX B (env :: outer) x cls a0 dd cs (rawInt L) h'→s.heap.UpToSlots h'→Q () { s with heap:=h' }):wpAny M A (noteFrame (.ref x) env) Q EE s:=by
 unfold noteFrame
 simp only [hf]
 refine wpAny_bind (wpAny_field hx rfl (x:=.none) rfl ?_)
 rw [if_neg (by decide)]
 exact entry_x hfr hl hf hx hk hn k
theorem land_x (hx:FlyX B l x cls a0 dd cs fl s.heap) (k:∀ h',FlyX B l x cls a0 dd cs .none h'→s.heap.UpToSlots h'→Q () { s with heap:=h' }):wpAny M A (setFlight (.ref x) none) Q EE s:=by
 obtain ⟨hk,hn,hl,T,oT,ts,hx,hnT,hTx,hT,hdT,h3⟩:=hx
 have sz:3 < ts.size:=(Array.getElem?_eq_some_iff.mp h3).1
 have oth:∀ b,b ≠ T→(s.heap.update T (Obj.mapFields (·.setIfInBounds 3 ((none:Option Addr).elim Value.none fun f=>rawInt f)))).get? b = s.heap.get? b:=fun b hb=>Heap.get?_update_other _ _ (Ne.symm hb)
 have norec:∀ b o,s.heap.get? b = some o→(∀ vs,o.data ≠ .fields vs)→b ≠ T:=fun b o e hnf z=>by
  rw [z,hT] at e; cases e; exact hnf ts hdT
 unfold setFlight
 refine wpAny_bind (wpAny_field hx rfl (x:=.ref T) rfl ?_)
 rw [if_pos (show (Value.ref T != Value.none) = true from by simp)]
 refine wpAny_setField hT hdT sz (k _ ⟨fun b o e=>(oth b fun z=>by rw [z,hnT] at e; cases e).trans (hk b o e),hn,hl.of_keeps fun b o e hnf=>⟨o,(oth b (norec b o e hnf)).trans e,rfl⟩,T,_,_,(oth x (Ne.symm hTx)).trans hx,hnT,hTx,Heap.get?_update_self _ hT (Obj.isFreed_of_fields (Obj.data_mapFields hdT _)),Obj.data_mapFields hdT _,by simp [sz]⟩
  fun b o e hnf=>⟨o.slots,(oth b (norec b o e hnf)).trans e⟩)
theorem leave_x (hfr:A.frames = some (env :: outer)) (hf:env.frame = some L) (hx:FlyX B (env :: outer) x cls a0 dd cs .none s.heap)
  (k:∀ h',FlyX B outer x cls a0 dd cs .none h'→s.heap.UpToSlots h'→Q () { s with heap:=h' }):wpAny M A (leaving env (.ref x)) Q EE s:=by
 unfold leaving
 refine wpAny_bind (note_x hfr hf hx fun h1 f1 u1=>land_x (s:={ s with heap:=h1 }) f1 fun h2 f2 u2=>k h2 (FlyX.pop (s:={ s with heap:=h2 }) f2) (u1.trans u2))
theorem leave_x0 (hfr:A.frames = some (env :: outer)) (hf:env.frame = some L) (hl:s.heap.FunFrames B (env :: outer)) (hx:s.heap.get? x = some (ExcObjC cls a0 dd .none cs)) (hk:B.StaysIn s.heap) (hn:B.get? x = none)
  (k:∀ h',FlyX B outer x cls a0 dd cs .none h'→s.heap.UpToSlots h'→Q () { s with heap:=h' }):wpAny M A (leaving env (.ref x)) Q EE s:=by
 unfold leaving
 refine wpAny_bind (note_x0 hfr hf hl hx hk hn fun h1 f1 u1=>land_x (s:={ s with heap:=h1 }) f1 fun h2 f2 u2=>k h2 (FlyX.pop (s:={ s with heap:=h2 }) f2) (u1.trans u2))
end
def CxB (bx:Bool) (H:Hp) (cx:Value):Prop:=cx = .none ∨ (bx = true∧CxOk H cx)
theorem CxB.ok {bx:Bool} {H:Hp} {cx:Value} (h:CxB bx H cx):CxOk H cx:=h.elim .inl (·.2)
theorem CxB.frzs {bx:Bool} {H H':Hp} {cx:Value} (x:CxB bx H cx) (f:∀ b o u,H b = some (.frz o u)→H' b = some (.frz o u)):CxB bx H' cx:=x.elim .inl fun z=>.inr ⟨z.1,z.2.frzs f⟩
def Fly (bx:Bool) (P:Program) (w:World) (g:Heap) (l:List Env) (H:Hp) (x:Addr) (cls:Value) (dd:Option Addr) (h:Heap):Prop :=
 ∃ (B:Heap) (a0:Value) (cs:Value × Value),FlyX B l x cls a0 dd cs .none h∧CxB bx H cs.1∧HOk P w H B∧∀ b o,g.get? b = some o→b ∉ frs l→∃ ob,B.get? b = some ob
def CXq (bx:Bool) (P:Program) (w:World):CXT:=⟨fun outer H s E e s'=>∃ x cls dd H',e = .ref x∧s'.os = s.os∧AllBare s'.gens∧Un (frs outer) [] H H' s.heap s'.heap∧HOk P w H' s'.heap∧Fly bx P w s.heap outer H' x cls dd s'.heap∧E cls dd H',true⟩
abbrev CXr (P:Program) (w:World):CXT:=CXq false P w
section
variable {bx:Bool} {P:Program} {w:World} {K:PySem.W.Frag} {mg:Str→Option Value} {base:Heap} {N:List Str} {qual:Str} {scope:Scope} {f:Addr} {cd:Value} {A:Around} {outer:List Env} {s₀:Shared} {H₀:Hp} {E:XK}
variable {pins:List (Addr × Obj)} {σ:St} {H:Hp} {s:Shared}
theorem leave_fin {B h' bb:Heap} {x:Addr} {cls a0:Value} {dd:Option Addr} {cs:Value × Value} (hos:s.os = s₀.os) (hbr:AllBare s.gens) (base:Un (frs outer) [] H₀ H s₀.heap s.heap) (funs:s₀.heap.FunFrames bb outer) (frf:∀ b ∈ frs outer,H₀ b = none)
  (st:B.StaysIn s.heap) (fl:FlyX B outer x cls a0 dd cs .none h') (hcx:CxB bx H cs.1) (hB:HOk P w H B) (cov:∀ b o,s₀.heap.get? b = some o→b ∉ frs outer→∃ ob,B.get? b = some ob) (up:∀ b o,b ∈ frs outer→s.heap.get? b = some o→(∀ vs,o.data ≠ .fields vs)→∃ sl,h'.get? b = some { o with slots:=sl }) (q:E cls dd H) {t':Nat} :
  CXq bx P w outer H₀ s₀ E (.ref x) { s with heap:=h',toks:=t' }:=by
 have same:∀ b o,s₀.heap.get? b = some o→b ∉ frs outer→∀ o',s.heap.get? b = some o'→h'.get? b = some o':=fun b o e hb o' e'=>by
  obtain ⟨ob,eb⟩:=cov b o e hb
  have:=st b ob eb
  rw [e'] at this; cases this
  exact fl.1 b _ eb
 refine ⟨x,cls,dd,H,rfl,hos,hbr,⟨fun b o e n hb hx=>?_,fun b o e n hb hx=>?_,base.free,fun b o e hx=>?_,base.tups,base.frzs,base.tbls⟩,hB.kept fl.1,⟨B,a0,cs,fl,hcx,hB,cov⟩,q⟩
 ·exact same b o e hb o (base.keep b o e n hb hx)
 ·obtain ⟨sl,e1⟩:=base.slot b o e n hb hx
  obtain ⟨_,o2,e2,hnf⟩:=funs.mem hb
  rw [e] at e2; cases e2
  obtain ⟨sl',e3⟩:=up b _ hb e1 hnf
  exact ⟨sl',e3⟩
 ·obtain ⟨o1,e1⟩:=base.there b o e hx
  by_cases hb:b ∈ frs outer
  ·obtain ⟨_,o2,e2,hnf⟩:=funs.mem hb
   rw [e] at e2; cases e2
   by_cases n:H₀ b = none
   ·obtain ⟨sl,e3⟩:=base.slot b o e n hb hx
    obtain ⟨sl',e4⟩:=up b _ hb e3 hnf
    exact ⟨_,e4⟩
   ·exact absurd (frf b hb) n
  ·exact ⟨o1,same b o e hb o1 e1⟩
theorem pass_fly {b0:Bool} (hb0:b0 = true→bx = true:=by first | exact id | exact fun z=>nomatch z | exact fun _=>rfl):Passes (CXq b0 P w) (cxOf (CXq bx P w) P w K mg base N qual scope f cd A outer s₀ H₀ E) E:=by
 intro pins σ H s e s' I h
 obtain ⟨x,cls,dd,H',rfl,os,bare,un,hok,⟨B,a0,cs,fl,hcx,hB,cov⟩,q⟩:=h
 have I':Inv (cxOf (CXq bx P w) P w K mg base N qual scope f cd A outer s₀ H₀ E) pins σ H' s':=I.call' (ch:=[]) os un hok bare (fun b z=>absurd z (by simp))
 have cov0:∀ b o,s₀.heap.get? b = some o→b ∉ frs outer→∃ ob,B.get? b = some ob:=fun b o e hb=>by
  obtain ⟨o1,e1⟩:=I.base.there b o e (by intro z; cases z)
  refine cov b o1 e1 fun hm=>?_
  rcases List.mem_cons.mp (I.stkSub b hm) with z | z
  ·exact absurd (Nat.lt_of_lt_of_le (Heap.lt_size e) I.ok.above) (by rw [z]; exact Nat.lt_irrefl _)
  ·exact hb z
 refine leave_x (L:=s₀.heap.objs.size) I.ok.frames rfl fl fun h' fl' up=>?_
 exact leave_fin I'.os I'.bare I'.base I'.ok.funs I'.ok.frf fl.1 fl' (hcx.elim .inl fun z=>.inr ⟨hb0 z.1,z.2⟩) hB cov0 (fun b o _ e n=>up b o e n) q
end
section
variable {X:Cx} {x:Str} {C:Addr} {E:XK} {e₀:Expr} {rest:List Expr} {ta:TA} {np cpos pos:Pos} {Bn B newId inN nid initId:String} {bmN bmB:List Value}
end
theorem Fun.okR {bx:Bool} {P:Program} {w:World} {K:PySem.W.Frag} {mg:Str→Option Value} {base:Heap} {x qual:Str} {st:Stmt} {f:Addr} {fd:FuncData} {N ps:List Str} {k:Nat} {sp:Sp} (F:Fun K x qual st f fd) (S:FnScope N ps (defScope st)) (len:∀ vs H Q E,sp vs H Q E→vs.length = ps.length)
  (hbody:∀ (cdv:Value) (A:Around) (outer:List Env) (s:Shared) (H:Hp) (vs:List V) (Q:VK) (E:XK),Room k (A.deeper (envOfC qual (defScope st) s.heap.objs.size f cdv))→sp vs H Q E →
   ∃ t,PSs (cxOf (CXq bx P w) P w K mg base N qual (defScope st) f cdv A outer s H E) (defBody st) t∧t { nx:=fun _ H'=>Q .non H',rt:=Q } (start N vs) H):FnOk P w K mg base (CXq bx P w) (k + 1) f fd ps sp:=by
 obtain ⟨oc,od,kV,doc,pm,an,cdv,ct,osl,rfl,l,c⟩:=F.ex
 exact fn_of l c S len fun A outer s H vs Q E hr h=>hbody cdv A outer s H vs Q E hr h
end L2
set_option Elab.async false
set_option linter.all false
set_option maxRecDepth 100000
namespace L2
open PySem PySem.Spec PyProof.Rows
theorem take_fm {outs:Nat→Option V} (i:Nat):(List.range (i + 1)).filterMap outs = (List.range i).filterMap outs ++ (match outs i with | some v=>[v] | none=>[]):=by
 rw [List.range_succ,List.filterMap_append]
 cases h:outs i <;> simp [h]
theorem comp_by {J:It} {n:Nat} {item:Nat→V} {outs:Nat→Option V} {g:TG} {tt:TT} {te:TE} {H1:Hp} {σ0:St} {D:Addr} {Q:VK} (SG:St→Prop)
  (hD:H1 D = none) (hn:n < sizeLine)
  (go:∀ i Hc,i < n→Same H1 Hc→J.go i Hc) (yld:∀ i Hc x H',i < n→Same H1 Hc→J.yld i Hc x H'→H' = Hc∧x = item i) (stop:∀ Hc,Same H1 Hc→J.stop n Hc) (s0:SG σ0)
  (step:∀ (i:Nat) (σc:St) (Hc:Hp) (Yes:V→St→Hp→Prop) (No:St→Hp→Prop),i < n→Same H1 Hc→Hc D ≠ none→SG σc →
   (∀ σ2 H4 v,SG σ2→Same Hc H4→outs i = some v→Yes v σ2 H4)→(∀ σ2 H3,SG σ2→Same Hc H3→outs i = none→No σ2 H3) →
   g (item i) σc Hc fun σ2 H2=>tt σ2 H2 fun b H3=>if b = true then te σ2 H3 fun v H4=>Yes v σ2 H4 else No σ2 H3)
  (fin:∀ Hc,Same H1 Hc→Hc D = some (.lst ((List.range n).filterMap outs))→Q (.ref D) Hc) :
  CompW J g tt te σ0 H1 D Q:=by
 have sD:∀ {Hc:Hp} {o:HO},Same H1 Hc→Same H1 (upd Hc D o):=fun {Hc o} e b u q=>by rw [upd_ne (ne_of_none q hD)]; exact e b u q
 refine ⟨fun i m acc σc Hc=>m = n - i∧i ≤ n∧acc = (List.range i).filterMap outs∧Same H1 Hc∧Hc D = some (.lst acc)∧SG σc,⟨n,rfl,Nat.zero_le _,rfl,sD (Same.refl _),upd_same,s0⟩,?_⟩
 rintro i m acc σc Hc ⟨rfl,hi,rfl,sm,hDc,sg⟩
 by_cases hlt:i < n
 ·refine .inr ⟨go i Hc hlt sm,fun x H' y=>?_⟩
  obtain ⟨rfl,rfl⟩:=yld i Hc x H' hlt sm y
  refine step i σc _ _ _ hlt sm (by rw [hDc]; simp) sg (fun σ2 H4 v s2 k e=>?_) (fun σ2 H3 s2 k e=>?_)
  ·have hl:((List.range i).filterMap outs).length ≤ i:=Nat.le_trans (List.length_filterMap_le _ _) (by simp)
   refine ⟨k _ _ hDc,Nat.lt_of_le_of_lt hl (Nat.lt_trans hlt hn),n - (i + 1),by omega,rfl,hlt,?_,sD (sm.trans k),upd_same,s2⟩
   rw [take_fm,e]
  ·refine ⟨n - (i + 1),by omega,rfl,hlt,?_,sm.trans k,?_,s2⟩
   ·rw [take_fm,e]; simp
   ·exact k _ _ hDc
 ·have e:i = n:=by omega
  subst e
  exact .inl ⟨stop Hc sm,fin Hc sm hDc⟩
theorem comp_list {K:PySem.W.Frag} {a:Addr} {xs:List V} {outs:Nat→Option V} {g:TG} {tt:TT} {te:TE} {H1:Hp} {σ0:St} {D:Addr} {Q:VK} (SG:St→Prop)
  (hD:H1 D = none) (hq:SqL K H1 a xs) (hn:xs.length < sizeLine) (s0:SG σ0)
  (step:∀ (i:Nat) (x:V) (σc:St) (Hc:Hp) (Yes:V→St→Hp→Prop) (No:St→Hp→Prop),xs[i]? = some x→Same H1 Hc→Hc D ≠ none→SG σc →
   (∀ σ2 H4 v,SG σ2→Same Hc H4→outs i = some v→Yes v σ2 H4)→(∀ σ2 H3,SG σ2→Same Hc H3→outs i = none→No σ2 H3) →
   g x σc Hc fun σ2 H2=>tt σ2 H2 fun b H3=>if b = true then te σ2 H3 fun v H4=>Yes v σ2 H4 else No σ2 H3)
  (fin:∀ Hc,Same H1 Hc→Hc D = some (.lst ((List.range xs.length).filterMap outs))→Q (.ref D) Hc) :
  CompW (Itl K a) g tt te σ0 H1 D Q:=by
 refine comp_by (J:=Itl K a) (n:=xs.length) (item:=fun i=>xs.getD i .non) SG hD hn (fun i Hc hi sm=>⟨xs,xs[i],sm.seq hq,by simp [hi]⟩) (fun i Hc x H' hi sm y=>?_) (fun Hc sm=>⟨xs,sm.seq hq,Nat.le_refl _⟩) s0 (fun i σc Hc Yes No hi sm hDc sg y n=>?_) fin
 ·obtain ⟨e,y⟩:=y
  have:=y xs (sm.seq hq)
  exact ⟨e,by simp [List.getD,this]⟩
 ·have e:xs[i]? = some (xs.getD i .non):=by simp [List.getD,hi]
  exact step i _ σc Hc Yes No e sm hDc sg y n
theorem comp_range {n:Nat} {outs:Nat→Option V} {g:TG} {tt:TT} {te:TE} {H1:Hp} {σ0:St} {D:Addr} {Q:VK} (SG:St→Prop)
  (hD:H1 D = none) (hn:n < sizeLine) (s0:SG σ0)
  (step:∀ (i:Nat) (σc:St) (Hc:Hp) (Yes:V→St→Hp→Prop) (No:St→Hp→Prop),i < n→Same H1 Hc→Hc D ≠ none→SG σc →
   (∀ σ2 H4 v,SG σ2→Same Hc H4→outs i = some v→Yes v σ2 H4)→(∀ σ2 H3,SG σ2→Same Hc H3→outs i = none→No σ2 H3) →
   g (.int (i:Nat)) σc Hc fun σ2 H2=>tt σ2 H2 fun b H3=>if b = true then te σ2 H3 fun v H4=>Yes v σ2 H4 else No σ2 H3)
  (fin:∀ Hc,Same H1 Hc→Hc D = some (.lst ((List.range n).filterMap outs))→Q (.ref D) Hc) :
  CompW (Itr 0 n) g tt te σ0 H1 D Q:=by
 refine comp_by (J:=Itr 0 n) (n:=n) (item:=fun i=>.int (i:Nat)) SG hD hn (fun i Hc hi _=>hi) (fun i Hc x H' _ _ y=>⟨y.1,by rw [y.2]; congr 1; omega⟩) (fun Hc _=>Nat.le_refl _) s0 step fin
theorem pe_ty {X:Cx} {x:Str} {T:String} {pos:Pos} (hg:Gl X x) (hm:X.mg x = none) (hv:bootBuiltins x = some (.type T)) (hn:x ≠ "__name__":=by decide) (hd:(x == ("__debug__":Str)) = false:=by decide):PE X (.Name x pos) (tC (.ty T)):=pe_bltn hg hm hv (v:=.ty T) rfl hn hd
theorem pe_cls {X:Cx} {x:Str} {C:Addr} {pos:Pos} (hg:Gl X x) (hm:X.mg x = some (.ref C)) (hd:(x == ("__debug__":Str)) = false:=by decide):PE X (.Name x pos) (tC (.ref C)):=pe_glob hg hm (v:=.ref C) rfl hd
theorem ixL {Y:Cx} {K:PySem.W.Frag} (e:Y.K = K:=by rfl):IxR Y (rIxL K):=by subst e; exact ix_list
theorem ixT {Y:Cx} {K:PySem.W.Frag} (e:Y.K = K:=by rfl):IxR Y (rIxT K):=by subst e; exact ix_tup
theorem fm_take {α:Type} (f:α→V) (xs:List α):∀ n:Nat,((List.range n).filterMap fun i=>(xs[i]?).map f) = (xs.take n).map f
 | 0=>rfl
 | n + 1=>by
  rw [List.range_succ,List.filterMap_append,fm_take f xs n,List.take_add_one,List.map_append]
  congr 1
  cases e:xs[n]? <;> simp [e]
theorem fm_map {α:Type} (f:α→V) (xs:List α):((List.range xs.length).filterMap fun i=>(xs[i]?).map f) = xs.map f:=by
 rw [fm_take,List.take_length]
theorem call_lenK {Y:Cx} {K:PySem.W.Frag} (e:Y.K = K:=by rfl):CallR Y (.builtin "len") (fun xs H Q=>∃ p ys,xs = [.ref p]∧(SqL K H p ys ∨ SqT K H p ys)∧Q (.int ys.length) H):=by subst e; exact call_len_seq
theorem op_neK {Y:Cx} {K:PySem.W.Frag} (hu:Y.A.units + 64 < cLine) (e:Y.K = K:=by rfl):OpR Y (compareOp .NotEq) (rEqI K true):=by subst e; exact op_neI hu
theorem op_eqK {Y:Cx} {K:PySem.W.Frag} (hu:Y.A.units + 64 < cLine) (e:Y.K = K:=by rfl):OpR Y (compareOp .Eq) (rEqI K false):=by subst e; exact op_eqI hu
def tPar3 (i j l:Nat) (ta:TA):TS:=fun D σ H=>ta σ H fun vs H1=>∃ v w u,vs = [v,w,u]∧D.nx (((σ.set i (some v)).set j (some w)).set l (some u)) H1
theorem ps_par3 {X:Cx} {i j l:Nat} {x y z:Str} {a b c:Expr} {ta:TA} {px py pz pt pos:Pos} {kt k2 pt2} (hc:True = True) (hN:X.N.Nodup) (hi:X.N[i]? = some x) (hj:X.N[j]? = some y) (hl:X.N[l]? = some z) (hij:i ≠ j) (hil:i ≠ l) (hjl:j ≠ l)
  (hx:X.env.scope.names.lookup x = some .local) (hy:X.env.scope.names.lookup y = some .local) (hz:X.env.scope.names.lookup z = some .local) (ha:PA X [a,b,c] ta)
  (hw:swappedStores [.Tuple [.Name x px,.Name y py,.Name z pz] kt pt] (.Tuple [a,b,c] k2 pt2) X.env = pure (some [x,y,z]))
  (hs:swapsWithSole [.Tuple [.Name x px,.Name y py,.Name z pz] kt pt] (.Tuple [a,b,c] k2 pt2) pos.line X.env = pure false:=by rfl) :
  PS X (.Assign [.Tuple [.Name x px,.Name y py,.Name z pz] kt pt] (.Tuple [a,b,c] k2 pt2) pos) (tPar3 i j l ta):=by
 intro pins s σ H D I h
 rw [exec_Assign_arm]
 refine wpAny_bind (wpAny_standAt ?_)
 rw [hs]
 refine wpAny_bind (wpAny_pure ?_)
 rw [if_neg (by decide)]
 refine wpAny_bind (Tuple_ (thn (ha _ pins s σ H _ I h) fun us s1 ⟨vs,H1,I1,r1,q1⟩=>?_))
 obtain ⟨v,w,u,rfl,q1⟩:=q1
 obtain ⟨u1,u2,u3,rfl,rv,rw',ru⟩:∃ u1 u2 u3,us = [u1,u2,u3]∧RelV v u1∧RelV w u2∧RelV u u3:=by
  cases r1 with
  | cons p q =>
   cases q with
   | cons p' q' =>
    cases q' with
    | cons p'' q''=>cases q''; exact ⟨_,_,_,rfl,p,p',p''⟩
 refine wpAny_newObj_type ?_ (by show 3 ≤ sizeLine; decide)
 have I2:Inv X pins σ H1 { s1 with heap:=s1.heap.push { cls:=.type "tuple",data:=.seq [u1,u2,u3].toArray } }:=I1.kept (t':=s1.toks) fun b o e=>Heap.get?_push_of_some _ e
 rw [hw]
 refine wpAny_bind (wpAny_pure ?_)
 show wpAny (model X.prog X.w) X.A (do rule "assign.swapped-stores"; let items ← unpackItems (.ref s1.heap.objs.size) 3 none; assignInOrder [fun v=>bindName X.env z v,fun v=>bindName X.env y v,fun v=>bindName X.env x v] items.reverse; pure Flow.next) _ _ _
 refine wpAny_bind (wpAny_rule (wpAny_bind (unpackItemsH (items:=#[u1,u2,u3]) I2.hdS (IsTup.new s1.heap _) fun h' hx'=>?_)))
 have I3:=I2.kept (h':=h') (t':=s1.toks) fun b o e=>hx' b o (Nat.ne_of_lt (Heap.lt_size e)) e
 show wpAny _ _ (assignInOrder [fun v=>bindName X.env z v,fun v=>bindName X.env y v,fun v=>bindName X.env x v] [u3,u2,u1] >>= fun _=>pure Flow.next) _ _ _
 refine wpAny_bind (assignInOrder_cons (wpAny_bindName (store_ok I3 hN hl (.inl hz) ru (fun s2 I4=>?_) (.inr hz))))
 refine assignInOrder_cons (wpAny_bindName (store_ok I4 hN hj (.inl hy) rw' (fun s3 I5=>?_) (.inr hy)))
 refine assignInOrder_cons (wpAny_bindName (store_ok I5 hN hi (.inl hx) rv (fun s4 I6=>assignInOrder_nil (wpAny_pure ?_)) (.inr hx)))
 have e:((σ.set l (some u)).set j (some w)).set i (some v) = ((σ.set i (some v)).set j (some w)).set l (some u):=by
  rw [List.set_comm _ _ (Ne.symm hjl),List.set_comm _ _ (Ne.symm hil),List.set_comm _ _ (Ne.symm hij)]
 rw [e] at I6
 exact ⟨_,H1,I6,q1⟩
end L2
set_option Elab.async false
set_option linter.all false
set_option maxRecDepth 100000
namespace L2
open PySem PySem.Spec PyProof.Rows
def tSetComp (j:Nat) (t:TE):TS:=fun D σ H=>t σ H fun v H'=>D.nx (σ.set j (some v)) H'
theorem ps_setComp {X:Cx} {elt target iter:Expr} {ifs:List Expr} {scope outer:Scope} {pos spos py:Pos} {XN N:List Str} {cap:List (Option Nat)} {wi:TI} {g:TG} {tt:TT} {te:TE} {j:Nat} {y:Str}
  (S:CompSc XN outer scope N cap) (_:True = True) (hNd:X.N.Nodup) (hj:X.N[j]? = some y) (hy:Loc X.env.scope y) (hi:PI X target iter wi)
  (hg:∀ cl C s₀ H₀ ex pins,PG (X.comp N scope cl C s₀ H₀ ex pins) target g) (ht:∀ cl C s₀ H₀ ex pins,PIfs (X.comp N scope cl C s₀ H₀ ex pins) ifs tt) (he:∀ cl C s₀ H₀ ex pins,PE (X.comp N scope cl C s₀ H₀ ex pins) elt te)
  (hsw:swapsWith (.ListComp elt [⟨target,iter,ifs,0⟩] scope pos) (some (.Name y py)) spos.line X.env = pure true:=by rfl)
  (hX:X.env.scope = outer:=by rfl) (hN:X.N = XN:=by rfl) (hs:∀ x,foldedSetIterable iter X.env x = pure x:=by intro _; rfl) (hf:X.fn y = true ∨ X.env.scope.names.lookup y = some .local:=by first | exact .inl rfl | exact .inr rfl) :
  PS X (.Assign [.Name y py] (.ListComp elt [⟨target,iter,ifs,0⟩] scope pos) spos) (tSetComp j (tComp cap wi g tt te)):=by
 intro pins s σ H D I h
 obtain ⟨cl,hclos,hcl1,hcl2⟩:=closureFor_ok (scope:=scope) (env:=X.env) fun x hx hf=>I.ok.has x.1 (.inl (by
  show X.env.scope.names.lookup x.1 = some .cell
  rw [hX]; exact S.fr x hx hf))
 rw [exec_Assign_Name_used _ _ _ _ hsw]
 refine wpAny_bind (wpAny_standAt (wpAny_bind ?_))
 show wpAny _ X.A (do let _ ← comprehension (.ListComp elt [⟨target,iter,ifs,0⟩] scope pos) scope X.env _ (newList []) false (eval iter X.env) (some (assign (.Name y py) X.env))) _ _ s
 refine wpAny_bind (wpAny_mono (wpAny_comprehension_free (use:=some (assign (.Name y py) X.env)) (Q:=fun _ s'=>SP X pins D .next s') rfl hs hclos S.kind S.loc ?_) (fun _ s' hq=>wpAny_pure (wpAny_pure hq)) fun _ _ e=>e)
 refine thn (hi pins s σ H _ I h) fun v s1 h1=>thn h1 fun itv s2 h2=>?_
 obtain ⟨it,fp,tn,J,H2,rfl,I2,T,st2,f2,hc,hW⟩:=h2
 refine comp_core (RR:=fun acc C=>compPost (model X.prog X.w) X.A X.xe (some (assign (.Name y py) X.env)) (fun _ s'=>SP X pins D .next s') acc C) hX hN S hc hg ht he hcl1 hcl2 I2 T st2 f2 hW ?_
 intro Dl C H' s' m I' fC hn q
 obtain ⟨a0,a1,_,a3,a4,a5⟩:=fC
 show wpAny _ X.A (assign (.Name y py) X.env (.ref Dl)) _ _ s'
 refine wpAny_assign_Name (store_ok2 I' hNd hj hy (v:=.ref Dl) rfl (fun s3 I3 ⟨b,sb,hb⟩=>?_) hf)
 have hbC:b ≠ C:=by
  rcases hb with z | z
  ·rw [z]; exact (Ne.symm a1)
  ·exact fun e=>a4 y b z e
 refine ⟨m,hn.sameBut sb (Ne.symm hbC),fun h' hsb=>?_⟩
 exact ⟨_,H',I3.turned (t':=s3.toks) (fun c o hb e=>hsb.extBut c o hb e) a0 a1 a3 a4 a5,q⟩
end L2
set_option Elab.async false
set_option linter.all false
set_option maxRecDepth 100000
set_option maxHeartbeats 1000000
namespace L2
open PySem PySem.Spec PyProof.Rows
theorem Paired.getL {α β:Type} {F:α→β→Prop}:∀ {l₁:List α} {l₂:List β} {i:Nat} {a:α},Paired F l₁ l₂→l₁[i]? = some a→∃ b,l₂[i]? = some b∧F a b
 | _,_,_,_,.nil,e=>by simp at e
 | _,_,0,_,.cons r _,e=>by simp at e; subst e; exact ⟨_,rfl,r⟩
 | _,_,i + 1,a,.cons _ t,e=>by
  obtain ⟨b,h1,h2⟩:=Paired.getL (i:=i) (a:=a) t (by simpa using e)
  exact ⟨b,by simpa using h1,h2⟩
theorem is_kV {P:Program} {w:World} {k:Key} {u:Value} (h:(mixKind P w).is k u = true):RelV (kV k) u:=by
 rcases keyIs_shape (k:=k) (v:=u) h with ⟨i,t,rfl,rfl⟩ | ⟨x,t,rfl,rfl⟩
 ·exact ⟨t,rfl⟩
 ·exact ⟨t,rfl⟩
section
variable {X:Cx} {pins:List (Addr × Obj)} {σ:St} {H:Hp} {s:Shared}
theorem Inv.track {t:Addr} {o:HO} (I:Inv X pins σ H s) (hn:H t = none) (h0:X.s₀.heap.objs.size ≤ t) (hL:t ≠ X.env.locals) (hc:∀ x c,X.env.cells.lookup x = some c→c ≠ t) (hp:∀ p ∈ X.pn ++ pins,p.1 ≠ t)
  (new:ObjOk X.prog X.w (upd H t o) s.heap t o):Inv X pins σ (upd H t o) s:=by
 have ne0:∀ b ob,X.s₀.heap.get? b = some ob→b ≠ t:=fun b ob e=>Nat.ne_of_lt (Nat.lt_of_lt_of_le (Heap.lt_size e) h0)
 refine ⟨I.ok,I.os,I.bare,⟨I.base.keep,I.base.slot,fun b ob e n hx=>?_,I.base.there,fun b xs e=>?_,fun b ob u e=>?_,fun b ps e=>?_⟩,I.loc,I.cell,?_,fun x c e=>?_,fun p hpm=>?_,fun b u e=>?_,I.len,I.hdh.frzs fun b ob u e=>?_⟩
 ·rw [upd_ne (ne0 b ob e)]; exact I.base.free b ob e n hx
 ·have:=I.base.tups b xs e; rw [upd_ne (ne_of_none this hn)]; exact this
 ·have:=I.base.frzs b ob u e; rw [upd_ne (ne_of_none this hn)]; exact this
 ·obtain ⟨more,e1⟩:=I.base.tbls b ps e; exact ⟨more,by rw [upd_ne (ne_of_none e1 hn)]; exact e1⟩
 ·rw [upd_ne (Ne.symm hL)]; exact I.free
 ·rw [upd_ne (hc x c e)]; exact I.freeC x c e
 ·obtain ⟨a,b,c,d,e⟩:=I.pin p hpm
  exact ⟨a,by rw [upd_ne (hp p hpm)]; exact b,c,d,e⟩
 ·by_cases hb:b = t
  ·subst hb; rw [upd_same] at e; cases e; exact new
  ·rw [upd_ne hb] at e
   exact (I.hok b u e).stay (fun _ _ _ z=>z) (fun c z=>by rw [upd_ne (ne_of_none z hn)]; exact z) fun c xs z=>by rw [upd_ne (ne_of_none z hn)]; exact z
 ·rw [upd_ne (ne_of_none e hn)]; exact e
theorem Inv.turnedL {h':Heap} {t':Nat} {its:List Addr} (I:Inv X pins σ H s) (k:∀ b o,b ∉ its→s.heap.get? b = some o→h'.get? b = some o) (hf:∀ b ∈ its,FpOk X pins H b):Inv X pins σ H { s with heap:=h',toks:=t' }:=by
 have nit:∀ b u,H b = some u→b ∉ its:=fun b u e z=>by rw [(hf b z).1] at e; cases e
 refine I.step (g':=s.gens) (d':=s.drawn) (ch:=its) (fun b hb=>?_) (fun b o _ _ hc e _=>k b o hc e) (fun b o _ _ hc e _=>⟨o.slots,k b o hc e⟩) (fun _ _ _ _ n=>n)
  (fun b o hc e=>⟨o,k b o hc e⟩) (fun _ _ e=>e) (fun _ _ _ e=>e) (fun b ps e=>⟨#[],by rw [e]; simp⟩) (fun m hm=>?_) (fun b u e=>?_) I.bare
 ·obtain ⟨_,f1,_,f3,f4,f5⟩:=hf b hb
  exact ⟨f3,f1,f4,f5⟩
 ·obtain ⟨o,es,ep,ho,r⟩:=hm
  exact ⟨o,es,ep,k _ o (fun z=>(hf _ z).2.1 rfl) ho,r⟩
 ·refine (I.hok b u e).stay (fun c v hc q=>k c v ?_ q) (fun _ q=>q) fun _ _ q=>q
  rcases hc with z | z
  ·rw [z]; exact nit b u e
  ·exact nit c _ z
variable {d:Addr} {kvs:List (Key × V)}
theorem Inv.freeze (I:Inv X pins σ H s) (e:H d = some (.dK kvs)):∃ o es ep vs,s.heap.get? d = some o∧o.data = .dict es ep∧KV kvs vs∧(d == sysModules) = false∧s.heap.DictAt (mixKind X.prog X.w) d vs ep∧Inv X pins σ (upd H d (.frz o (.dK kvs))) s:=by
 obtain ⟨z,hd,vs,r,dd⟩:=dk_of I.hok e
 obtain ⟨ep,da⟩:=dd.dictAt
 obtain ⟨o,es,ho,hx,hdt,hrest⟩:=id da
 refine ⟨o,es,ep,vs,ho,hdt,r,hd,da,?_⟩
 have nd:∀ {b:Addr} {u:HO},H b = some u→(∀ ks,u ≠ .dK ks)→b ≠ d:=fun {b u} q hu z=>by rw [z,e] at q; cases q; exact hu _ rfl
 refine I.un (h':=s.heap) (t':=s.toks) ⟨fun b o' q n _ _=>q,fun b o' q n _ _=>⟨o'.slots,q⟩,fun b o' q n _=>?_,fun b o' q _=>⟨o',q⟩,fun b xs q=>?_,fun b o' u q=>?_,fun b ps q=>⟨#[],?_⟩⟩ fun b u q=>?_
 ·rw [upd_ne (fun z=>by rw [z,e] at n; cases n)]; exact n
 ·rw [upd_ne (nd q fun ks z=>by cases z)]; exact q
 ·rw [upd_ne (nd q fun ks z=>by cases z)]; exact q
 ·rw [upd_ne (nd q fun ks z=>by cases z)]; simp [q]
 ·by_cases hb:b = d
  ·subst hb
   rw [upd_same] at q; cases q
   exact ⟨ho,(I.hok b _ e).stay (fun _ _ _ z=>z) (fun c z=>by rw [upd_ne (nd z fun ks y=>by cases y)]; exact z) fun c xs z=>by rw [upd_ne (nd z fun ks y=>by cases y)]; exact z⟩
  ·rw [upd_ne hb] at q
   exact (I.hok b u q).stay (fun _ _ _ z=>z) (fun c z=>by rw [upd_ne (nd z fun ks y=>by cases y)]; exact z) fun c xs z=>by rw [upd_ne (nd z fun ks y=>by cases y)]; exact z
theorem Inv.thaw {o:Obj} (I:Inv X pins σ H s) (e:H d = some (.frz o (.dK kvs))) (h0:∀ o u,X.H₀ d ≠ some (.frz o u)):Inv X pins σ (upd H d (.dK kvs)) s:=by
 have hk:=I.hok d _ e
 obtain ⟨hg,hdk⟩:=(show ObjOk X.prog X.w H s.heap d (.frz o (.dK kvs)) from hk)
 have nd:∀ {b:Addr} {u:HO},H b = some u→(∀ o ks,u ≠ .frz o (.dK ks))→b ≠ d:=fun {b u} q hu z=>by rw [z,e] at q; cases q; exact hu _ _ rfl
 have nn:∀ {b:Addr},H b = none→b ≠ d:=fun {b} q z=>by rw [z,e] at q; cases q
 refine ⟨I.ok,I.os,I.bare,⟨I.base.keep,I.base.slot,fun b ob q n hx=>?_,I.base.there,fun b xs q=>?_,fun b ob u q=>?_,fun b ps q=>?_⟩,I.loc,I.cell,?_,fun x c q=>?_,fun p hp=>?_,fun b u q=>?_,I.len,?_⟩
 ·have:=I.base.free b ob q n hx; rw [upd_ne (nn this)]; exact this
 ·have:=I.base.tups b xs q; rw [upd_ne (nd this fun _ _ z=>by cases z)]; exact this
 ·have:=I.base.frzs b ob u q
  rw [upd_ne (fun z=>by subst z; exact h0 _ _ q)]; exact this
 ·obtain ⟨more,e1⟩:=I.base.tbls b ps q; exact ⟨more,by rw [upd_ne (nd e1 fun _ _ z=>by cases z)]; exact e1⟩
 ·rw [upd_ne (nn I.free)]; exact I.free
 ·have:=I.freeC x c q; rw [upd_ne (nn this)]; exact this
 ·obtain ⟨a,b,c,d',e'⟩:=I.pin p hp
  exact ⟨a,by rw [upd_ne (nn b)]; exact b,c,d',e'⟩
 ·by_cases hb:b = d
  ·subst hb
   rw [upd_same] at q; cases q
   exact hdk.stay (fun _ _ _ z=>z) (fun c z=>by rw [upd_ne (nd z fun _ _ y=>by cases y)]; exact z) fun c xs z=>by rw [upd_ne (nd z fun _ _ y=>by cases y)]; exact z
  ·rw [upd_ne hb] at q
   exact (I.hok b u q).stay (fun _ _ _ z=>z) (fun c z=>by rw [upd_ne (nd z fun _ _ y=>by cases y)]; exact z) fun c xs z=>by rw [upd_ne (nd z fun _ _ y=>by cases y)]; exact z
 ·have nf:∀ x ox (v:Array Value) u,H x = some (.frz ox u)→ox.data = .fields v→x ≠ d:=fun x ox v u h2 h3 z=>by
   subst z
   rw [e] at h2; cases h2
   obtain ⟨_,_,vs,_,ob,es,ep,g1,_,g2,_⟩:=hdk
   rw [hg] at g1; cases g1
   rw [h3] at g2; cases g2
  rcases I.hdh with h | ⟨x,ox,v,u,cx,h1,h2,h3,h4,h5⟩
  ·exact .inl h
  ·refine .inr ⟨x,ox,v,u,cx,h1,by rw [upd_ne (nf _ _ _ _ h2 h3)]; exact h2,h3,h4,?_⟩
   rcases h5 with h5 | ⟨y,oy,vy,uy,y1,y2,y3,y4⟩
   ·exact .inl h5
   ·exact .inr ⟨y,oy,vy,uy,y1,by rw [upd_ne (nf _ _ _ _ y2 y3)]; exact y2,y3,y4⟩
end
def Itd (d:Addr) (o:Obj) (kvs:List (Key × V)):It :=
 ⟨fun i H=>i < kvs.length∧H d = some (.frz o (.dK kvs)),fun i H x H'=>H' = H∧∃ p,kvs[i]? = some p∧x = kV p.1,fun i H=>kvs.length ≤ i∧H d = some (.frz o (.dK kvs)),true⟩
theorem dictAt_frz {X:Cx} {pins:List (Addr × Obj)} {σ:St} {H:Hp} {s:Shared} {d:Addr} {kvs:List (Key × V)} {o:Obj} {es:Array DictEntry} {ep:Nat} (I:Inv X pins σ H s) (hf:H d = some (.frz o (.dK kvs))) (hdt:o.data = .dict es ep) :
  ∃ vs,KV kvs vs∧s.heap.DictAt (mixKind X.prog X.w) d vs ep:=by
 obtain ⟨hg,_,_,vs,r,o',es',ep',g1,g2,g3,g4⟩:=(show ObjOk X.prog X.w H s.heap d (.frz o (.dK kvs)) from I.hok d _ hf)
 rw [hg] at g1; cases g1
 rw [hdt] at g3; cases g3
 exact ⟨vs,r,o,es,hg,g2,hdt,g4⟩
theorem turn_dict {P:Program} {w:World} {K:PySem.W.Frag} {tg:Expr} {o:Obj} {es:Array DictEntry} {ep:Nat} (d it:Addr) (kvs:List (Key × V)) (hdt:o.data = .dict es ep):Turn P w K tg (Itd d o kvs) [it] it (fun i h=>h.IsKeyIter it d i kvs.length ep) where
 mem:=by simp
 obj:=fun i h st b hb=>by
  have e:b = it:=by simpa using hb
  subst e
  obtain ⟨o,e,c,d⟩:=st
  exact ⟨o,e,fun v z=>by rw [d] at z; cases z⟩
 keep:=fun i h h' st k=>st.at fun o e=>k it (by simp) o e
 item:=by
  intro X hP hw hK hc i pins s σ H E I hf st hg
  subst hP hw hK
  obtain ⟨hi,hfz⟩:=hg
  obtain ⟨vs,r,da⟩:=dictAt_frz I hfz hdt
  have hlen:kvs.length = vs.length:=Paired.length r
  obtain ⟨⟨k',u⟩,hu,hk,ru⟩:=Paired.getL (i:=i) (a:=kvs[i]) r (by simp [hi])
  obtain ⟨f0,f1,f2,f3,f4,f5⟩:=hf it (by simp)
  rw [hlen] at st
  refine wpAny_pyNext_dict_item st da hu fun key h' hkey st' sb=>?_
  have I1:Inv X pins σ H { s with heap:=h' }:=I.turned (t':=s.toks) (fun b o hb e=>(sb.2 b hb).trans e) f0 f1 f3 f4 f5
  obtain ⟨o2,e2,c2,d2⟩:=id st'
  rw [← hlen] at st'
  refine ⟨key,rfl,go_of (s:={ s with heap:=h' }) e2 c2 d2 (by decide) ⟨kV kvs[i].1,H,I1,?_,⟨rfl,kvs[i],by simp [hi],rfl⟩,st',fun b hb=>(hf b hb).1⟩⟩
  have hk:kvs[i].1 = k':=hk
  rw [hk]
  exact is_kV hkey
 done:=by
  intro X hP hw hK hc i pins s σ H E I hf st hg
  subst hP hw hK
  obtain ⟨hi,hfz⟩:=hg
  obtain ⟨vs,r,da⟩:=dictAt_frz I hfz hdt
  have hlen:kvs.length = vs.length:=Paired.length r
  obtain ⟨f0,f1,f2,f3,f4,f5⟩:=hf it (by simp)
  rw [hlen] at st
  exact wpAny_pyNext_dict_end (I.ok.hd (hc rfl)) st da (by simp; omega) fun h' eb=>⟨rfl,I.turned (t':=s.toks) (fun b o hb e=>eb b o hb e) f0 f1 f3 f4 f5⟩
 self:=fun _ _ _ _ _ st h=>wpAny_pyIter_keyiter st h
def iDict (tl:TE):TI:=fun σ H R=>tl σ H fun x H1=>∃ d kvs,x = .ref d∧H1 d = some (.dK kvs)∧∀ o,R (Itd d o kvs) (upd H1 d (.frz o (.dK kvs)))
theorem pi_dict {X:Cx} {tg l:Expr} {tl:TE} (hl:PE X l tl) (hc:X.calm = true:=by rfl):PI X tg l (iDict tl):=by
 intro pins s σ H R I h
 refine thn (hl pins s σ H _ I h) fun v s1 ⟨x,H1,I1,r1,q1⟩=>?_
 obtain ⟨d,kvs,e,hd,q⟩:=q1
 subst e
 cases (show v = .ref d from r1)
 obtain ⟨o,es,ep,vs,ho,hdt,r,hs,da,I2⟩:=I1.freeze hd
 refine wpAny_pyIter_dict hs da ?_
 have hlen:kvs.length = vs.length:=Paired.length r
 refine ⟨s1.heap.objs.size,[s1.heap.objs.size],_,_,_,rfl,I2.kept (t':=s1.toks) fun b o e=>Heap.get?_push_of_some _ e,turn_dict d _ kvs hdt,?_,fun b hb=>?_,(fun _=>hc),q o⟩
 ·rw [hlen]
  exact ⟨_,Heap.get?_push_size _ rfl,rfl,rfl⟩
 ·have e:b = s1.heap.objs.size:=by simpa using hb
  subst e
  exact I2.fpOk (Nat.le_refl _) (I2.hok.fresh (Nat.le_refl _))
def thawS (X:Cx) (D:Ends):Ends where
 nx:=fun σ H=>∃ d o kvs,H d = some (.frz o (.dK kvs))∧(∀ o u,X.H₀ d ≠ some (.frz o u))∧D.nx σ (upd H d (.dK kvs))
 bk:=fun σ H=>∃ d o kvs,H d = some (.frz o (.dK kvs))∧(∀ o u,X.H₀ d ≠ some (.frz o u))∧D.bk σ (upd H d (.dK kvs))
 ct:=fun σ H=>∃ d o kvs,H d = some (.frz o (.dK kvs))∧(∀ o u,X.H₀ d ≠ some (.frz o u))∧D.ct σ (upd H d (.dK kvs))
 rt:=fun v H=>∃ d o kvs,H d = some (.frz o (.dK kvs))∧(∀ o u,X.H₀ d ≠ some (.frz o u))∧D.rt v (upd H d (.dK kvs))
theorem ps_thaw {X:Cx} {st:Stmt} {t:TS} (h:PS X st t):PS X st (fun D σ H=>t (thawS X D) σ H):=by
 intro pins s σ H D I hw
 refine thn (h pins s σ H _ I hw) fun f s1 q=>?_
 cases f with
 | next=>obtain ⟨σ',H',I',d,o,kvs,e,h0,q⟩:=q; exact ⟨σ',_,I'.thaw e h0,q⟩
 | brk=>obtain ⟨σ',H',I',d,o,kvs,e,h0,q⟩:=q; exact ⟨σ',_,I'.thaw e h0,q⟩
 | cont=>obtain ⟨σ',H',I',d,o,kvs,e,h0,q⟩:=q; exact ⟨σ',_,I'.thaw e h0,q⟩
 | ret u=>obtain ⟨v,σ',H',I',r,d,o,kvs,e,h0,q⟩:=q; exact ⟨v,σ',_,I'.thaw e h0,r,q⟩
theorem pe_thaw {X:Cx} {ex:Expr} {t:TE} (h:PE X ex t):PE X ex (fun σ H Q=>t σ H fun v H1=>∃ d o kvs,H1 d = some (.frz o (.dK kvs))∧(∀ o u,X.H₀ d ≠ some (.frz o u))∧Q v (upd H1 d (.dK kvs))):=by
 intro pins s σ H Q I hw
 refine thn (h pins s σ H _ I hw) fun u s1 ⟨v,H',I',r,d,o,kvs,e,h0,q⟩=>?_
 exact ⟨v,_,I'.thaw e h0,r,q⟩
theorem for_dict {d:Addr} {o:Obj} {kvs:List (Key × V)} {g:TG} {tb:TS} {D:Ends} {σ:St} {H:Hp} (Pv:Nat→St→Hp→Prop) (h0:Pv 0 σ H) (hl:∀ i σ H,Pv i σ H→H d = some (.frz o (.dK kvs)))
  (hs:∀ i p σ H,kvs[i]? = some p→Pv i σ H→g (kV p.1) σ H fun σ2 H2=>tb { D with nx:=Pv (i + 1),ct:=Pv (i + 1),bk:=D.nx } σ2 H2) (hd:∀ σ H,Pv kvs.length σ H→D.nx σ H) :
  ∃ W:Nat→Nat→St→Hp→Prop,(∃ m,W 0 m σ H)∧∀ i m σ H,W i m σ H →
   ((Itd d o kvs).stop i H∧D.nx σ H) ∨ ((Itd d o kvs).go i H∧∃ N:St→Hp→Prop,(∀ σ' H',N σ' H'→∃ m',m' < m∧W (i + 1) m' σ' H')∧∀ x H',(Itd d o kvs).yld i H x H'→g x σ H' fun σ2 H2=>tb { D with nx:=N,ct:=N,bk:=D.nx } σ2 H2):=by
 refine ⟨fun i m σ H=>m = kvs.length - i∧i ≤ kvs.length∧Pv i σ H,⟨kvs.length,by simp,Nat.zero_le _,h0⟩,?_⟩
 rintro i m σ H ⟨rfl,hi,p⟩
 have q:=hl i σ H p
 by_cases hlt:i < kvs.length
 ·refine .inr ⟨⟨hlt,q⟩,Pv (i + 1),fun σ' H' p'=>⟨kvs.length - (i + 1),by omega,rfl,hlt,p'⟩,fun x H' y=>?_⟩
  obtain ⟨e,pp,y1,y2⟩:=y
  subst e y2
  exact hs i pp σ _ y1 p
 ·have e:i = kvs.length:=by omega
  subst e
  exact .inl ⟨⟨Nat.le_refl _,q⟩,hd σ H p⟩
section
variable {X:Cx} {pins:List (Addr × Obj)} {σ:St} {H:Hp} {s:Shared} {a:Addr} {kvs:List (Key × V)} {k:Key} {u r:Value} {z:V} {A:Around} {E:Value→Shared→Prop}
theorem d_setd {Q:Value→Shared→Prop} (I:Inv X pins σ H s) (e:H a = some (.dK kvs)) (ry:RelV (kV k) u) (rz:RelV z r) (hl:kvs.length < sizeLine)
  (h1:∀ v w' s',valV kvs k = some v→Inv X pins σ H s'→RelV v w'→Q w' s') (h2:∀ s',valV kvs k = none→Inv X pins σ (upd H a (.dK (putK kvs k z))) s'→Q r s') :
  wpAny (model X.prog X.w) A (call (.builtin "dict.setdefault") [.ref a,u,r]) Q E s:=by
 obtain ⟨zz,hd,vs,rel,dd⟩:=dk_of I.hok e
 have hz:vs.length ≤ sizeLine:=by rw [← rel.length]; exact zz
 have hlp:(putK kvs k z).length ≤ sizeLine:=by have:=length_putK kvs k z; omega
 refine call_meetsIn PySem.F.slot_dict_setdefault dd.typeIs PySem.F.entry_dict_setdefault (PySem.F.args_dict_setdefault_3 _ _ _) (kt_meets_setdefault (mixKind X.prog X.w) a (kV_is ry) hd r) ⟨vs,dd,hz,fun v hv=>?_,fun hn h' dd' hs=>?_⟩
 ·have rv:=rel.val k
  rw [hv] at rv
  cases q:valV kvs k with
  | none=>rw [q] at rv; exact False.elim rv
  | some y=>rw [q] at rv; exact h1 y v _ q (I.tok _) rv
 ·have rv:=rel.val k
  rw [hn] at rv
  cases q:valV kvs k with
  | some y=>rw [q] at rv; exact False.elim rv
  | none =>
   have he:∃ q,h'.get? a = some q:=let ⟨q,_,_,hq,_⟩:=dd'; ⟨q,hq⟩
   exact h2 _ q (d_write I (by rw [e]; exact True.intro) hs he (dk_new hlp hd (rel.put k rz) dd'))
end
def tDSetd (td ty tx:TE):TE:=fun σ H Q=>td σ H fun x H1=>∃ a,x = .ref a∧IsD H1 a∧ty σ H1 fun y H2=>tx σ H2 fun z H3=>∃ kvs k,H3 a = some (.dK kvs)∧y = kV k∧kvs.length < sizeLine ∧
 (∀ v,valV kvs k = some v→Q v H3)∧(valV kvs k = none→Q z (upd H3 a (.dK (putK kvs k z))))
theorem pe_dsetd {X:Cx} {o e f:Expr} {apos cpos:Pos} {td ty tx:TE} (ho:PE X o td) (he:PE X e ty) (hf:PE X f tx) (m:M2 X o "setdefault" apos e f cpos):PE X (.Call (.Attribute o "setdefault" apos) [e,f] [] cpos) (tDSetd td ty tx):=by
 intro pins s σ H Q I h
 refine wpAny_Call_method m.base m.few m.line PySem.F.plainAttrs_dict PySem.F.slot_dict_setdefault PySem.F.type_dict_setdefault (thn (ho pins s σ H _ I h) fun u s1 ⟨x,H1,I1,rx,a,ex,d,q1⟩=>?_)
 subst ex
 obtain rfl:u = Value.ref a:=rx
 obtain ⟨t1,t2,_⟩:=isD_at I1 d
 refine ⟨t1,t2,?_⟩
 rw [m.trees]
 refine Calls.callWith_builtin rfl (Calls.evalArgs_plain (Calls.spliced_cons (thn (he pins s1 σ H1 _ I1 q1) fun iv s2 ⟨y,H2,I2,ry,q2⟩ =>
  Calls.spliced_cons (thn (hf pins s2 σ H2 _ I2 q2) fun fv s3 ⟨z,H3,I3,rz,kvs,k,ea,ey,hl,q3,q4⟩=>Calls.spliced_nil ?_))))
 subst ey
 exact d_setd I3 ea ry rz hl (fun v w' s' hv I' rv=>⟨v,H3,I',rv,q3 v hv⟩) fun s' hn I'=>⟨z,_,I',rz,q4 hn⟩
def Ite (K:PySem.W.Frag) (a:Addr):It :=
 ⟨fun i H=>∃ xs x,SqL K H a xs∧xs[i]? = some x,fun i H x H'=>∃ t y,x = .ref t∧H t = none∧(∀ xs,SqL K H a xs→xs[i]? = some y)∧H' = upd H t (.tup [.int (i:Nat),y]),fun i H=>∃ xs,SqL K H a xs∧xs.length ≤ i,true⟩
theorem turn_enum {P:Program} {w:World} {K:PySem.W.Frag} {elts:List Expr} {x1} {pos:Pos} (a e it:Addr) (hei:e ≠ it):Turn P w K (.Tuple elts x1 pos) (Ite K a) [e,it] e (fun i h=>(∃ old,IsEnum h e it (i:Nat) old)∧h.IsListIter it a i) where
 mem:=by simp
 obj:=fun i h st b hb=>by
  obtain ⟨⟨old,he⟩,hit⟩:=st
  rcases List.mem_cons.mp hb with rfl | hb
  ·exact ⟨_,he,fun v z=>by
    have z':Data.fields _ = Data.cell v:=z
    cases z'⟩
  ·have e:b = it:=by simpa using hb
   subst e
   obtain ⟨o,e,c,d⟩:=hit
   exact ⟨o,e,fun v z=>by rw [d] at z; cases z⟩
 keep:=fun i h h' st k=>by
  obtain ⟨⟨old,he⟩,hit⟩:=st
  exact ⟨⟨old,k e (by simp) _ he⟩,hit.at fun o x=>k it (by simp) o x⟩
 item:=by
  intro X hP hw hK hc i pins s σ H E I hf st hg
  subst hP hw hK
  obtain ⟨⟨old,he⟩,hit⟩:=st
  obtain ⟨xs,x,hq,hx⟩:=hg
  obtain ⟨its,rv,p,hz⟩:=I.list hq
  obtain ⟨u,hu,ru⟩:=rv.get hx
  have ae:a ≠ e:=fun z=>by
   obtain ⟨o,ho,hc,_⟩:=p.isList
   rw [z,he] at ho; cases ho; injection hc with hc; exact absurd hc (by decide)
  have ai:a ≠ it:=fun z=>by
   obtain ⟨o,ho,hc,_⟩:=p.isList
   obtain ⟨o2,ho2,hc2,_⟩:=hit
   rw [z,ho2] at ho; cases ho; rw [hc2] at hc; injection hc with hc; exact absurd hc (by decide)
  refine wpAny_pyNext_enum_item he hit p.isList (x:=u) (by simpa using hu) hei fun h' ho hit' hT hsz hk=>?_
  refine ⟨_,rfl,wpAny_letOwnedTupleGo_enum (s:={ s with heap:=h',toks:=s.toks + 1 }) ho fun h2 he2 hs2=>?_⟩
  have hn:H s.heap.objs.size = none:=I.hok.fresh (Nat.le_refl _)
  have te:s.heap.objs.size ≠ e:=Nat.ne_of_gt (Heap.lt_size he)
  have I1:Inv X pins σ H { s with heap:=h2,toks:=s.toks + 1 }:=I.turnedL (its:=[e,it]) (fun b o hb e'=>(hs2.2 b fun z=>hb (by simp [z])).trans (hk b o (fun z=>hb (by simp [z])) (fun z=>hb (by simp [z])) e')) hf
  have fp:=I.fpOk (pins:=pins) (b:=s.heap.objs.size) (Nat.le_refl _) hn
  have I2:Inv X pins σ (upd H s.heap.objs.size (.tup [.int (i:Nat),x])) { s with heap:=h2,toks:=s.toks + 1 } :=
   I1.track hn I.sz fp.2.1 fp.2.2.2.2.1 fp.2.2.2.2.2 ⟨by show 2 ≤ sizeLine; decide,[.int (i:Nat) s.toks,u],.cons ⟨_,rfl⟩ (.cons ru .nil),⟨_,(hs2.2 _ te).trans hT,rfl,_,rfl⟩⟩
  refine ⟨.ref s.heap.objs.size,_,I2,rfl,⟨s.heap.objs.size,x,rfl,hn,fun ys hy=>by rw [I.list_inj hy hq]; exact hx,rfl⟩,⟨⟨_,he2⟩,hit'.at fun o y=>(hs2.2 it hei.symm).trans y⟩,fun b hb=>?_⟩
  rw [upd_ne (fun z=>?_)]; · exact (hf b hb).1
  subst z
  rcases List.mem_cons.mp hb with z | z
  ·exact te z
  ·have z:s.heap.objs.size = it:=by simpa using z
   obtain ⟨o2,ho2,_⟩:=hit
   exact absurd (Heap.lt_size ho2) (by rw [← z]; exact Nat.lt_irrefl _)
 done:=by
  intro X hP hw hK hc i pins s σ H E I hf st hg
  subst hP hw hK
  obtain ⟨⟨old,he⟩,hit⟩:=st
  obtain ⟨xs,hq,hx⟩:=hg
  obtain ⟨its,rv,p,hz⟩:=I.list hq
  have hl:=rv.length
  exact wpAny_pyNext_enum_end (I.ok.hd (hc rfl)) he hit p.isList (by simp; omega) fun h' eb=>⟨rfl,I.turnedL (t':=s.toks) (its:=[e,it]) (fun b o hb e'=>eb b o (fun z=>hb (by simp [z])) e') hf⟩
 self:=fun _ _ _ _ _ st h=>let ⟨⟨_,he⟩,_⟩:=st; wpAny_pyIter_enum he h
def iEnum (K:PySem.W.Frag) (ta:TA):TI:=fun σ H R=>ta σ H fun vs H1=>∃ a,vs = [.ref a]∧(∃ xs,SqL K H1 a xs)∧R (Ite K a) H1
theorem pi_enum {X:Cx} {elts:List Expr} {x1} {tpos:Pos} {a:Expr} {ta:TA} {p pos:Pos} (hg:Gl X "enumerate") (hm:X.mg "enumerate" = none) (ha:PA X [a] ta) (hs:starEach [a] X.env = [(false,eval a X.env)]:=by rfl) (hc:X.calm = true:=by rfl):PI X (.Tuple elts x1 tpos) (.Call (.Name "enumerate" p) [a] [] pos) (iEnum X.K ta):=by
 intro pins s σ H R I h
 refine Call_ (ld_blt I hg hm boot_enumerate (PyProof.Rows.callWith_type1 (thn (ha pos pins s σ H _ I h) fun us s1 ⟨vs,H1,I1,r1,q1⟩=>?_) hs rfl))
 obtain ⟨a,rfl,⟨xs,hq⟩,q⟩:=q1
 obtain ⟨u,rfl,rx⟩:=vals1 r1
 cases (show u = .ref a from rx)
 obtain ⟨its,rv,pl,hz⟩:=I1.list hq
 refine call_enumerate_list pl.isList fun h' he hit hsz hk=>?_
 have I2:Inv X pins σ H1 { s1 with heap:=h' }:=I1.kept (t':=s1.toks) hk
 refine wpAny_pyIter_enum (s:={ s1 with heap:=h' }) he ?_
 refine ⟨s1.heap.objs.size + 1,[s1.heap.objs.size + 1,s1.heap.objs.size],_,_,H1,rfl,I2,turn_enum a (s1.heap.objs.size + 1) s1.heap.objs.size (Nat.succ_ne_self _),⟨⟨_,he⟩,hit⟩,fun b hb=>?_,(fun _=>hc),q⟩
 have hb':s1.heap.objs.size ≤ b:=by
  rcases List.mem_cons.mp hb with z | z
  ·rw [z]; exact Nat.le_succ _
  ·have z:b = s1.heap.objs.size:=by simpa using z
   rw [z]; exact Nat.le_refl _
 exact I1.fpOk hb' (I1.hok.fresh hb')
theorem for_enum {K:PySem.W.Frag} {a:Addr} {xs:List V} {g:TG} {tb:TS} {D:Ends} {σ:St} {H:Hp} (Pv:Nat→St→Hp→Prop) (h0:Pv 0 σ H) (hl:∀ i σ H,i ≤ xs.length→Pv i σ H→SqL K H a xs)
  (hs:∀ i x t σ H,xs[i]? = some x→Pv i σ H→H t = none→g (.ref t) σ (upd H t (.tup [.int (i:Nat),x])) fun σ2 H2=>tb { D with nx:=Pv (i + 1),ct:=Pv (i + 1),bk:=D.nx } σ2 H2) (hd:∀ σ H,Pv xs.length σ H→D.nx σ H) :
  ∃ W:Nat→Nat→St→Hp→Prop,(∃ m,W 0 m σ H)∧∀ i m σ H,W i m σ H →
   ((Ite K a).stop i H∧D.nx σ H) ∨ ((Ite K a).go i H∧∃ N:St→Hp→Prop,(∀ σ' H',N σ' H'→∃ m',m' < m∧W (i + 1) m' σ' H')∧∀ x H',(Ite K a).yld i H x H'→g x σ H' fun σ2 H2=>tb { D with nx:=N,ct:=N,bk:=D.nx } σ2 H2):=by
 refine ⟨fun i m σ H=>m = xs.length - i∧i ≤ xs.length∧Pv i σ H,⟨xs.length,by simp,Nat.zero_le _,h0⟩,?_⟩
 rintro i m σ H ⟨rfl,hi,p⟩
 have q:=hl i σ H hi p
 by_cases hlt:i < xs.length
 ·refine .inr ⟨⟨xs,xs[i],q,by simp [hlt]⟩,Pv (i + 1),fun σ' H' p'=>⟨xs.length - (i + 1),by omega,rfl,hlt,p'⟩,fun x H' y=>?_⟩
  obtain ⟨t,y,e1,e2,e3,e4⟩:=y
  subst e1 e4
  exact hs i y t σ H (e3 xs q) p e2
 ·have e:i = xs.length:=by omega
  subst e
  exact .inl ⟨⟨xs,q,Nat.le_refl _⟩,hd σ H p⟩
theorem comp_enum {K:PySem.W.Frag} {a:Addr} {xs:List V} {outs:Nat→Option V} {g:TG} {tt:TT} {te:TE} {H1:Hp} {σ0:St} {D:Addr} {Q:VK} (SG:St→Prop)
  (hD:H1 D = none) (hq:SqL K H1 a xs) (hn:xs.length < sizeLine) (s0:SG σ0)
  (step:∀ (i:Nat) (x:V) (t:Addr) (σc:St) (Hc:Hp) (Yes:V→St→Hp→Prop) (No:St→Hp→Prop),xs[i]? = some x→Same H1 Hc→Hc D ≠ none→Hc t = some (.tup [.int (i:Nat),x])→SG σc →
   (∀ σ2 H4 v,SG σ2→Same Hc H4→outs i = some v→Yes v σ2 H4)→(∀ σ2 H3,SG σ2→Same Hc H3→outs i = none→No σ2 H3) →
   g (.ref t) σc Hc fun σ2 H2=>tt σ2 H2 fun b H3=>if b = true then te σ2 H3 fun v H4=>Yes v σ2 H4 else No σ2 H3)
  (fin:∀ Hc,Same H1 Hc→Hc D = some (.lst ((List.range xs.length).filterMap outs))→Q (.ref D) Hc) :
  CompW (Ite K a) g tt te σ0 H1 D Q:=by
 have sD:∀ {Hc:Hp} {o:HO},Same H1 Hc→Same H1 (upd Hc D o):=fun {Hc o} e b u q=>by rw [upd_ne (ne_of_none q hD)]; exact e b u q
 refine ⟨fun i m acc σc Hc=>m = xs.length - i∧i ≤ xs.length∧acc = (List.range i).filterMap outs∧Same H1 Hc∧Hc D = some (.lst acc)∧SG σc,⟨xs.length,rfl,Nat.zero_le _,rfl,sD (Same.refl _),upd_same,s0⟩,?_⟩
 rintro i m acc σc Hc ⟨rfl,hi,rfl,sm,hDc,sg⟩
 by_cases hlt:i < xs.length
 ·refine .inr ⟨⟨xs,xs[i],sm.seq hq,by simp [hlt]⟩,fun x H' y=>?_⟩
  obtain ⟨t,y,e1,e2,e3,e4⟩:=y
  subst e1 e4
  have st:Same Hc (upd Hc t (.tup [.int (i:Nat),y])):=fun b o e=>by rw [upd_ne (ne_of_none e e2)]; exact e
  have hD2:=st _ _ hDc
  refine step i y t σc _ _ _ (e3 xs (sm.seq hq)) (sm.trans st) (by rw [hD2]; simp) upd_same sg (fun σ2 H4 v s2 k e=>?_) (fun σ2 H3 s2 k e=>?_)
  ·have hl:((List.range i).filterMap outs).length ≤ i:=Nat.le_trans (List.length_filterMap_le _ _) (by simp)
   refine ⟨k _ _ hD2,Nat.lt_of_le_of_lt hl (Nat.lt_trans hlt hn),xs.length - (i + 1),by omega,rfl,hlt,?_,sD ((sm.trans st).trans k),upd_same,s2⟩
   rw [take_fm,e]
  ·refine ⟨xs.length - (i + 1),by omega,rfl,hlt,?_,(sm.trans st).trans k,k _ _ hD2,s2⟩
   rw [take_fm,e]; simp
 ·have e:i = xs.length:=by omega
  subst e
  exact .inl ⟨⟨xs,sm.seq hq,Nat.le_refl _⟩,fin Hc sm hDc⟩
end L2
set_option Elab.async false
set_option linter.all false
set_option maxRecDepth 100000
set_option maxHeartbeats 1000000
namespace L2
open PySem PySem.Spec PyProof.Rows
open PySem.W (kla_obj kla_fn CodeHd tabObj envX)
def codeφ (c:Addr) (q:Str):Heap→Prop:=fun h=>h.CodeRec (.ref c) q
def lamφ (q:Addr) (o:Obj):Heap→Prop:=fun h=>h.get? q = some o
theorem codeAmong_more {pos pos':Pos} {c cv:Value}:∀ (l:List Value),TriplesOk l→codeAmong pos' (l ++ [rawInt pos.line,rawInt pos.col,c]) = some cv→codeAmong pos' l = some cv ∨ cv = c:=by
 intro l h hc
 fun_induction TriplesOk l with
 | case1 =>
  right
  simp only [List.nil_append,rawInt,codeAmong] at hc
  split at hc
  ·exact (Option.some.inj hc).symm
  ·cases hc
 | case2 a t b u x rest ih =>
  simp only [List.cons_append,codeAmong] at hc ⊢
  split at hc
  ·rename_i q; left; rw [if_pos q]; exact hc
  ·rename_i q; rw [if_neg q]; exact ih h hc
 | case3 l h1 h2=>exact h.elim
def LamTab (H:Hp) (P:Addr) (q:Str):Prop:=∃ ps:Array Value,H P = some (.tbl ps)∧TriplesOk ps.toList∧∀ pos cv,codeAmong pos ps.toList = some cv→∃ c,cv = .ref c∧H c = some (.ext (codeφ c q))
def nt:HO→Bool
 | .tbl _=>false
 | _=>true
structure SameN (H H':Hp):Prop where
 at_:∀ b o,nt o = true→H b = some o→H' b = some o
 tb:∀ b,H' b = Option.none→H b = Option.none
instance {H H':Hp}:CoeFun (SameN H H') (fun _=>∀ b o,nt o = true→H b = some o→H' b = some o):=⟨SameN.at_⟩
theorem Same.n {H H':Hp} (s:Same H H'):SameN H H':=⟨fun b o _ e=>s b o e,fun b h=>s.free h⟩
theorem SameN.refl (H:Hp):SameN H H:=⟨fun _ _ _ h=>h,fun _ h=>h⟩
theorem SameN.trans {H H1 H2:Hp} (a:SameN H H1) (b:SameN H1 H2):SameN H H2:=⟨fun c o n h=>b c o n (a c o n h),fun c h=>a.tb c (b.tb c h)⟩
theorem SameN.seq {K:PySem.W.Frag} {H H':Hp} {a:Addr} {xs:List V} (e:SameN H H') (h:SqL K H a xs):SqL K H' a xs:=by
 rcases h with (h | ⟨o,h⟩) | h
 ·exact .inl (.inl (e _ _ rfl h))
 ·exact .inl (.inr ⟨o,e _ _ rfl h⟩)
 ·exact .inr h
theorem LamTab.same {H H':Hp} {P:Addr} {q:Str} (l:LamTab H P q) (s:Same H H'):LamTab H' P q:=by
 obtain ⟨ps,h1,h2,h3⟩:=l
 exact ⟨ps,s _ _ h1,h2,fun pos cv e=>let ⟨c,e1,e2⟩:=h3 pos cv e; ⟨c,e1,s _ _ e2⟩⟩
structure LamAt (X:Cx) (H:Hp) (q:Addr) (params:Arguments) (body:Expr) (scope:Scope) (qual:Str):Prop where
 ex:∃ (cl:List (Str × Addr)) (c:Addr) (pm ctv:Value),H q = some (.ext (lamφ q (kla_obj "<lambda>" qual params body scope cl pm c ctv)))∧H c = some (.ext (codeφ c qual)) ∧
  (∀ x c,cl.lookup x = some c→X.env.cells.lookup x = some c)∧∀ x ∈ scope.names,x.2 = .free→∃ c,cl.lookup x.1 = some c
section
variable {X:Cx}
def tLam (X:Cx) (P:Addr) (params:Arguments) (body:Expr) (scope:Scope):TE:=fun σ H Q=>LamTab H P (X.env.qual ++ "<lambda>")∧∀ q H1,H q = none→SameN H H1→LamTab H1 P (X.env.qual ++ "<lambda>")→LamAt X H1 q params body scope (X.env.qual ++ "<lambda>")→Q (.ref q) H1
theorem pe_lam {params:Arguments} {body:Expr} {scope:Scope} {pos:Pos} {c P:Addr} (hcode:X.env.code = .ref c) (C:CodeHd X.base c P) (B:X.base.BuiltinsAt X.mg P) (hfree:∀ x ∈ scope.names,x.2 = .free→X.env.scope.names.lookup x.1 = some .cell)
  (hdef:defaultsOf params X.env = ([],[]):=by rfl):PE X (.Lambda params body scope pos) (tLam X P params body scope):=by
 intro pins s σ H Q I h
 obtain ⟨⟨ps,hP,ht,hcs⟩,k⟩:=h
 obtain ⟨cl,hclos,hcl1,hcl2⟩:=closureFor_ok (scope:=scope) (env:=X.env) fun x hx hf=>I.ok.has x.1 (.inl (hfree x hx hf))
 have gP:s.heap.get? P = some (tabObj ps):=(show ObjOk X.prog X.w H s.heap P (.tbl ps) from I.hok P _ hP)
 have hgs:s.heap.Ns mainGlobals X.mg:=I.ok.mod.glob.keeps I.bk
 have hgP:mainGlobals ≠ P:=fun q=>by
  obtain ⟨o,es,ep,e,hd,_⟩:=hgs
  rw [q,gP] at e; cases e; cases hd
 have hB:s.heap.BuiltinsAt X.mg P:=by
  obtain ⟨bm,o,b1,b2,b3,b4,b5,b6⟩:=B
  exact ⟨bm,o,b1,b2,b3,b4,I.bk _ _ b5,b6⟩
 have nP:∀ {b:Addr} {u:HO},H b = some u→nt u = true→b ≠ P:=fun {b u} q hu z=>by rw [z,hP] at q; cases q; cases hu
 refine PySem.W.kla_eval hdef ?_
 cases hf:codeAmong pos ps.toList with
 | some cv =>
  obtain ⟨c',rfl,hc'⟩:=hcs pos cv hf
  refine PySem.W.kla_makeFunctionHit (mg:=X.mg) hclos I.ok.glob hgs hcode (C.keeps I.bk) gP ht hf hB fun ctv h' tk hk hsz=>?_
  have fq:H h'.objs.size = none:=I.hok.fresh hsz
  have I1:Inv X pins σ H { s with heap:=h',toks:=tk }:=I.kept hk
  have gq:=Heap.get?_push_size h' (o:=kla_obj "<lambda>" (X.env.qual ++ "<lambda>") params body scope cl ((X.mg "__name__").getD .none) c' ctv) rfl
  have I2:Inv X pins σ (upd H h'.objs.size (.ext (lamφ h'.objs.size (kla_obj "<lambda>" (X.env.qual ++ "<lambda>") params body scope cl ((X.mg "__name__").getD .none) c' ctv)))) { s with heap:=h'.push (kla_obj "<lambda>" (X.env.qual ++ "<lambda>") params body scope cl ((X.mg "__name__").getD .none) c' ctv),toks:=tk } :=
   I1.laid (t':=tk) (fun b o e=>Heap.get?_push_of_some _ e) (Nat.le_refl _) ⟨gq,⟨_,gq⟩,fun h1 h2 e k=>k _ e⟩
  have sm:Same H (upd H h'.objs.size (.ext (lamφ h'.objs.size (kla_obj "<lambda>" (X.env.qual ++ "<lambda>") params body scope cl ((X.mg "__name__").getD .none) c' ctv)))):=fun b o e=>by rw [upd_ne (ne_of_none e fq)]; exact e
  exact ⟨.ref h'.objs.size,_,I2,rfl,k _ _ fq sm.n (LamTab.same ⟨ps,hP,ht,hcs⟩ sm) ⟨cl,c',_,_,upd_same,sm _ _ hc',hcl1,hcl2⟩⟩
 | none =>
  refine PySem.W.kla_makeFunction (mg:=X.mg) hclos I.ok.glob hgs hcode (C.keeps I.bk) gP ht hf hgP hB fun c' ctv h' tk hx hge hlt hrec htb=>?_
  have fc:H c' = none:=I.hok.fresh hge
  have fq:H h'.objs.size = none:=I.hok.fresh (Nat.le_of_lt (Nat.lt_of_le_of_lt hge hlt))
  have ncq:c' ≠ h'.objs.size:=Nat.ne_of_lt hlt
  have npc:P ≠ c':=ne_of_none hP fc
  have npq:P ≠ h'.objs.size:=ne_of_none hP fq
  generalize ho:kla_obj "<lambda>" (X.env.qual ++ "<lambda>") params body scope cl ((X.mg "__name__").getD .none) c' ctv = ob
  generalize hps:ps ++ #[rawInt pos.line,rawInt pos.col,.ref c'] = ps2 at htb
  have gq:=Heap.get?_push_size h' (o:=ob) (by rw [← ho]; rfl)
  have keep:∀ b o,b ≠ P→s.heap.get? b = some o→(h'.push ob).get? b = some o:=fun b o hb e=>Heap.get?_push_of_some _ (hx b o hb e)
  have eP:(upd (upd (upd H P (.tbl ps2)) c' (.ext (codeφ c' (X.env.qual ++ "<lambda>")))) h'.objs.size (.ext (lamφ h'.objs.size ob))) P = some (.tbl ps2):=by rw [upd_ne npq,upd_ne npc,upd_same]
  have ec:(upd (upd (upd H P (.tbl ps2)) c' (.ext (codeφ c' (X.env.qual ++ "<lambda>")))) h'.objs.size (.ext (lamφ h'.objs.size ob))) c' = some (.ext (codeφ c' (X.env.qual ++ "<lambda>"))):=by rw [upd_ne ncq,upd_same]
  have eq:(upd (upd (upd H P (.tbl ps2)) c' (.ext (codeφ c' (X.env.qual ++ "<lambda>")))) h'.objs.size (.ext (lamφ h'.objs.size ob))) h'.objs.size = some (.ext (lamφ h'.objs.size ob)):=upd_same
  have eo:∀ b,b ≠ P→b ≠ c'→b ≠ h'.objs.size→(upd (upd (upd H P (.tbl ps2)) c' (.ext (codeφ c' (X.env.qual ++ "<lambda>")))) h'.objs.size (.ext (lamφ h'.objs.size ob))) b = H b:=fun b h1 h2 h3=>by rw [upd_ne h3,upd_ne h2,upd_ne h1]
  generalize (upd (upd (upd H P (.tbl ps2)) c' (.ext (codeφ c' (X.env.qual ++ "<lambda>")))) h'.objs.size (.ext (lamφ h'.objs.size ob))) = H1 at eP ec eq eo
  have sm:SameN H H1:=by
   refine ⟨fun b o n e=>by rw [eo b (nP e n) (ne_of_none e fc) (ne_of_none e fq)]; exact e,fun b hb=>?_⟩
   by_cases h1:b = P
   ·rw [h1,eP] at hb; cases hb
   ·by_cases h2:b = c'
    ·rw [h2]; exact fc
    ·by_cases h3:b = h'.objs.size
     ·rw [h3]; exact fq
     ·rw [eo b h1 h2 h3] at hb; exact hb
  have un:Un X.fs [] H H1 s.heap (h'.push ob):=by
   refine ⟨fun b o q n _ _=>keep b o (fun z=>by rw [z,hP] at n; cases n) q,fun b o q n _ _=>⟨o.slots,keep b o (fun z=>by rw [z,hP] at n; cases n) q⟩,fun b o q n _=>?_,fun b o q _=>?_,fun b xs q=>sm _ _ rfl q,fun b o u q=>sm _ _ rfl q,fun b qs q=>?_⟩
   ·rw [eo b (fun z=>by rw [z,hP] at n; cases n) (Nat.ne_of_lt (Nat.lt_of_lt_of_le (Heap.lt_size q) hge)) (Nat.ne_of_lt (Nat.lt_of_lt_of_le (Heap.lt_size q) (Nat.le_of_lt (Nat.lt_of_le_of_lt hge hlt))))]; exact n
   ·by_cases hb:b = P
    ·exact ⟨_,hb ▸ Heap.get?_push_of_some _ htb⟩
    ·exact ⟨o,keep b o hb q⟩
   ·by_cases hb:b = P
    ·subst hb
     rw [hP] at q; cases q
     exact ⟨#[rawInt pos.line,rawInt pos.col,.ref c'],by rw [eP,hps]⟩
    ·exact ⟨#[],by rw [eo b hb (ne_of_none q fc) (ne_of_none q fq),q]; simp⟩
  have hok:HOk X.prog X.w H1 (h'.push ob):=fun b u q=>by
   by_cases hb:b = P
   ·subst hb
    rw [eP] at q; cases q
    exact Heap.get?_push_of_some _ htb
   ·by_cases hb2:b = c'
    ·subst hb2
     rw [ec] at q; cases q
     have hrec':(h'.push ob).CodeRec (.ref b) (X.env.qual ++ "<lambda>"):=hrec.push _
     obtain ⟨c2,oc,vs,t,e2,hoc,r⟩:=id hrec'
     cases e2
     exact ⟨hrec',⟨oc,hoc⟩,fun h1 h2 ⟨c3,oc3,vs3,t3,e3,g3,r3⟩ kk=>by cases e3; exact ⟨_,oc3,vs3,t3,rfl,kk _ g3,r3⟩⟩
    ·by_cases hb3:b = h'.objs.size
     ·subst hb3
      rw [eq] at q; cases q
      exact ⟨gq,⟨_,gq⟩,fun h1 h2 e kk=>kk _ e⟩
     ·rw [eo b hb hb2 hb3] at q
      refine (I.hok b u q).stay (fun x v hx' e=>keep x v ?_ e) (fun x z=>sm _ _ rfl z) fun x xs z=>sm _ _ rfl z
      rcases hx' with z | z
      ·rw [z]; exact hb
      ·exact nP z rfl
  have I2:Inv X pins σ H1 { s with heap:=h'.push ob,toks:=tk }:=I.un un hok
  refine ⟨.ref h'.objs.size,H1,I2,rfl,k _ _ fq sm ⟨ps2,eP,?_,fun pos' cv e=>?_⟩ ⟨cl,c',_,_,by rw [eq,← ho],ec,hcl1,hcl2⟩⟩
  ·rw [← hps]
   simpa using TriplesOk_snoc pos.line pos.col (.ref c') ps.toList ht
  ·rw [← hps] at e
   rcases codeAmong_more (pos:=pos) (c:=.ref c') ps.toList ht (by simpa using e) with e | rfl
   ·obtain ⟨c2,e1,e2⟩:=hcs pos' cv e
    exact ⟨c2,e1,sm _ _ rfl e2⟩
   ·exact ⟨c',rfl,ec⟩
def Cx.lam (X:Cx) (N:List Str) (scope:Scope) (qual:Str) (cl:List (Str × Addr)) (L q c:Addr) (s₀:Shared) (H₀:Hp) (pins:List (Addr × Obj)):Cx where
 prog:=X.prog
 w:=X.w
 K:=X.K
 mg:=X.mg
 base:=X.base
 A:=X.A.in1.in1.deeper (envX qual scope L q (.ref c) cl)
 N:=N
 s₀:=s₀
 H₀:=H₀
 env:=envX qual scope L q (.ref c) cl
 outer:=X.stack
 stack:=envX qual scope L q (.ref c) cl :: X.stack
 ex:=[]
 fn:=fun _=>false
 calm:=X.calm
 pn:=X.pn ++ pins
 xe:=fun _ _=>False
structure LamSc (XN:List Str) (outer inner:Scope) (x:Str) (N:List Str) (cap:List (Option Nat)):Prop where
 kind:inner.kind = .function
 co:inner.isCoroutine = false
 gen:inner.isGenerator = false
 nocell:∀ y ∈ inner.names,y.2 ≠ .cell
 loc:inner.names.lookup x = some .local
 caps:Caps XN outer inner N cap
 nd:(x :: N).Nodup
 all:∀ c ∈ cap,c ≠ none
theorem inv_lam {XN N:List Str} {outer scope:Scope} {cap:List (Option Nat)} {x qual:Str} {cl:List (Str × Addr)} {q c:Addr} {pins:List (Addr × Obj)} {σ:St} {H:Hp} {s:Shared} {h1:Heap} {tk:Nat} {u:Value} {v:V}
  (I:Inv X pins σ H s) (hX:X.env.scope = outer) (hN:X.N = XN) (S:LamSc XN outer scope x N cap) (rv:RelV v u)
  (hcl1:∀ x c,cl.lookup x = some c→X.env.cells.lookup x = some c) (hcl2:∀ x ∈ scope.names,x.2 = .free→∃ c,cl.lookup x.1 = some c)
  (hn:h1.Ns s.heap.objs.size (fun y=>([(x,u)]:List (Str × Value)).reverse.lookup y)) (keep:∀ b o,s.heap.get? b = some o→h1.get? b = some o) :
  Inv (X.lam (x :: N) scope qual cl s.heap.objs.size q c s H pins) [] (some v :: capσ cap σ) H { s with heap:=h1,toks:=tk }:=by
 subst hX hN
 have noA:∀ b:Addr,b ∉ (X.lam (x :: N) scope qual cl s.heap.objs.size q c s H pins).ex:=fun b z=>absurd (show b ∈ ([]:List Addr) from z) (by simp)
 refine ⟨⟨I.ok.mod,S.kind,rfl,rfl,Nat.le_refl _,fun y z c h1 h2=>I.ok.inj y z c (hcl1 y c h1) (hcl1 z c h2),fun y hy=>?_,(fun y c h _=>nomatch h),I.ok.hd,Around.frames_deeper (A:=X.A.in1.in1) I.ok.frames,.inr ⟨rfl,rfl⟩,fun b z=>absurd z (noA b),I.bs,Nat.le_trans I.ok.bsz I.sz,fun b _ _=>noA b,fun b z=>absurd z (noA b),I.stack,I.stkFree⟩,
  rfl,I.bare,Un.kept keep,⟨_,hn,fun j y w e1 e2 _=>?_⟩,fun y c e=>?_,I.hok.fresh (Nat.le_refl _),fun y c e=>I.freeC y c (hcl1 y c e),fun p hp=>?_,I.hok.kept keep,?_,I.hdh⟩
 ·have hy:scope.names.lookup y = some .cell ∨ scope.names.lookup y = some .free:=hy
  rcases hy with hy | hy
  ·exact absurd rfl (S.nocell _ (PySem.mem_of_lookup hy))
  ·exact hcl2 _ (PySem.mem_of_lookup hy) rfl
 ·cases j with
  | zero =>
   have e1:x = y:=by simpa [Cx.lam] using e1
   subst e1
   have e2:v = w:=by simpa using e2
   subst e2
   refine ⟨u,rv,.inl ⟨S.loc,?_⟩⟩
   simp
  | succ j =>
   have e1:N[j]? = some y:=by simpa [Cx.lam] using e1
   have e2:(capσ cap σ)[j]? = some (some w):=by simpa using e2
   unfold capσ at e2
   rw [List.getElem?_map] at e2
   cases ec:cap[j]? with
   | none=>rw [ec] at e2; cases e2
   | some cc =>
    rw [ec] at e2
    cases cc with
    | none=>cases e2
    | some i =>
     obtain ⟨a,b,d⟩:=S.caps.get ec e1
     have e3:σ[i]? = some (some w):=by
      cases es:σ[i]? with
      | none=>simp [es] at e2
      | some v'=>simp [es] at e2; rw [e2]
     obtain ⟨m0,hn0,hl0⟩:=I.loc
     obtain ⟨u',r,l⟩:=hl0 i y w a e3 (.inr (.inl b))
     refine ⟨u',r,?_⟩
     rcases l with ⟨k,_⟩ | ⟨_,c2,ec',z⟩
     ·have k:X.env.scope.names.lookup y = some .local:=k
      rw [b] at k; cases k
     ·obtain ⟨c',ec2⟩:=hcl2 (y,.free) (PySem.mem_of_lookup d) rfl
      have e5:=hcl1 y c' ec2
      rw [ec'] at e5; cases e5
      refine .inr ⟨.inr d,c2,ec2,?_⟩
      obtain ⟨o,ho,hd⟩:=z
      exact ⟨o,keep _ _ ho,hd⟩
 ·obtain ⟨v,o,ho,hd⟩:=I.cell y c (hcl1 y c e)
  exact ⟨v,o,keep _ _ ho,hd⟩
 ·have hp:p ∈ X.pn ++ pins ++ []:=hp
  rw [List.append_nil] at hp
  obtain ⟨a,b,c,d,e⟩:=I.pin p hp
  refine ⟨keep _ _ a,b,Nat.ne_of_lt (Heap.lt_size a),fun hf=>?_,e⟩
  rcases List.mem_cons.mp (I.stkSub _ hf) with z | z
  ·exact c z
  ·exact d z
 ·show (some v :: capσ cap σ).length = (x :: N).length
  unfold capσ
  rw [List.length_cons,List.length_map,S.caps.length]; rfl
theorem lam_call {XN N:List Str} {outer scope:Scope} {cap:List (Option Nat)} {x qual:Str} {q:Addr} {params:Arguments} {body:Expr} {pins:List (Addr × Obj)} {σ:St} {H:Hp} {s:Shared} {u:Value} {v:V} {te:TE} {Q:V→Prop}
  (I:Inv X pins σ H s) (hX:X.env.scope = outer) (hN:X.N = XN) (S:LamSc XN outer scope x N cap) (L:LamAt X H q params body scope qual) (hroom:X.A.depth < recursionLimit) (rv:RelV v u)
  (hb:∀ cl L' c s₀ H₀ pins,PE (X.lam (x :: N) scope qual cl L' q c s₀ H₀ pins) body te) (hbind:∀ cl pm c ctv,bindArgs (kla_fn "<lambda>" qual params body scope cl pm (.ref c) ctv) ⟨[u],[]⟩ = pure [(x,u)])
  (h:te (some v :: capσ cap σ) H fun r H'=>H' = H∧Q r) :
  wpAny (model X.prog X.w) X.A.in1.in1 (call (.ref q) [u]) (fun r s'=>∃ y,RelV y r∧Q y∧Inv X pins σ H s') (fun _ _=>False) s:=by
 obtain ⟨cl,c,pm,ctv,hq,hc,hcl1,hcl2⟩:=L.ex
 have gq:s.heap.get? q = some (kla_obj "<lambda>" qual params body scope cl pm c ctv):=(show ObjOk X.prog X.w H s.heap q (.ext _) from I.hok q _ hq).1
 have gc:s.heap.CodeRec (.ref c) qual:=(show ObjOk X.prog X.w H s.heap c (.ext _) from I.hok c _ hc).1
 refine wpAny_call (PySem.W.kla_callFunE hroom gq rfl S.co S.gen rfl gc ?_)
 rw [hbind]
 refine wpAny_pure (wpAny_newFunctionEnv S.nocell (fun y hy=>?_) (fun h₁ hns hsb=>⟨I.nolimit.fresh _ hsb,?_⟩) S.kind)
 ·have:y = (x,u):=by simpa using hy
  subst this; exact S.loc
 show codeAny _ _ (.expr body (envX qual scope s.heap.objs.size q (.ref c) cl)) _ _
 have hk₁:∀ b o,s.heap.get? b = some o→h₁.get? b = some o:=fun b o e=>hsb.extBut b o (Nat.ne_of_lt (Heap.lt_size e)) (Heap.get?_push_of_some _ e)
 have I1:=inv_lam (q:=q) (c:=c) (qual:=qual) (tk:=s.toks + ([(x,u)]:List (Str × Value)).length) I hX hN S rv hcl1 hcl2 hns hk₁
 refine PySem.W.kla_codeExpr (wpAny_mono (hb cl s.heap.objs.size c s H pins [] _ _ H _ I1 h) (fun r s' ⟨y,H',I',ry,e,qy⟩=>?_) fun _ _ z=>False.elim z)
 subst e
 exact ⟨y,ry,qy,I.call' (ch:=[]) I'.os I'.base I'.hok I'.bare (fun b z=>absurd z (by simp))⟩
end
end L2
set_option Elab.async false
set_option linter.all false
set_option maxRecDepth 100000
set_option maxHeartbeats 1000000
namespace L2
open PySem PyProof.Rows
def gallopP:Bool→Keyed→Array Keyed→Nat→Nat→Nat→StateT SortSt Sem (Option Nat):=sortPriv% PySem.Builtin.gallop
def mergeLoP:Array Keyed→Array Keyed→StateT SortSt Sem (Array Keyed):=sortPriv% PySem.Builtin.mergeLo
def mergeHiP:Array Keyed→Array Keyed→StateT SortSt Sem (Array Keyed):=sortPriv% PySem.Builtin.mergeHi
section
variable {prog:Program} {w:World} {A:Around} {E:Value→Shared→Prop} {s:Shared}
def IntK (p:Keyed):Prop:=∃ n t,p.1 = .int n t
def IntA (a:Array Keyed):Prop:=∀ i (h:i < a.size),IntK a[i]
theorem wpS_ltM {st:SortSt} {p q:Keyed} {Q:Option Bool→SortSt→Prop} (hk:kindOf st = oneType') (hp:IntK p) (hq:IntK q) (h:∀ b,Q (some b) st) :
  wpS (model prog w) A E s (lt' p q) Q st:=by
 obtain ⟨n,t,hp⟩:=hp
 obtain ⟨m,u,hq⟩:=hq
 rw [lt'_eq]
 refine wpS_bind (wpS_get ?_)
 rw [hk,keyLt'_oneType,hp,hq]
 refine wpS_bind (wpS_lift (wpAny_attempt (oneLt_int ⟨rfl,?_⟩)))
 exact wpS_pure (h _)
theorem wpS_elemM {st:SortSt} {arr:Array Keyed} {i:Nat} {Q:Keyed→SortSt→Prop} (hi:i < arr.size) (h:Q arr[i] st):wpS (model prog w) A E s (elem' arr i) Q st:=by
 rw [elem'_eq,getElem?_pos arr i hi]
 exact wpS_pure h
theorem wpS_beyond {st:SortSt} {left:Bool} {key:Keyed} {arr:Array Keyed} {i:Nat} {Q:Option Bool→SortSt→Prop} (hk:kindOf st = oneType') (hkey:IntK key) (hA:IntA arr) (hi:i < arr.size) (h:∀ b,Q (some b) st) :
  wpS (model prog w) A E s (elem' arr i >>= fun x=>if left = true then lt' x key else lt' key x >>= fun r=>pure (Option.map (fun x=>!x) r)) Q st:=by
 refine wpS_bind (wpS_elemM hi ?_)
 cases left with
 | true=>exact wpS_ltM hk (hA i hi) hkey h
 | false=>exact wpS_bind (wpS_ltM hk hkey (hA i hi) fun b=>wpS_pure (h _))
theorem wpS_gallop {st:SortSt} {left:Bool} {key:Keyed} {arr:Array Keyed} {base n hint:Nat} {Q:Option Nat→SortSt→Prop} (hk:kindOf st = oneType') (hkey:IntK key) (hA:IntA arr) (hb:base + n ≤ arr.size) (hh:hint < n) (h:∀ k,k ≤ n→Q (some k) st) :
  wpS (model prog w) A E s (gallopP left key arr base n hint) Q st:=by
 unfold gallopP
 have last:∀ lo hi,hi ≤ n→∀ (f:Nat→Option (Option Nat) × Nat × Nat→StateT SortSt Sem (ForInStep (Option (Option Nat) × Nat × Nat))) (g:Option (Option Nat) × Nat × Nat→StateT SortSt Sem (Option Nat)),
   (∀ x lo hi (R:ForInStep (Option (Option Nat) × Nat × Nat)→SortSt→Prop),hi ≤ n→(∀ lo' hi',hi' ≤ n→R (.done (none,lo',hi')) st∧R (.yield (none,lo',hi')) st)→wpS (model prog w) A E s (f x (none,lo,hi)) R st)→(∀ lo hi,g (none,lo,hi) = pure (some hi)) →
   wpS (model prog w) A E s (forIn [0:n] (none,lo,hi) f >>= g) Q st:=by
  intro lo hi hhi f g hf hg
  refine wpS_bind (wpS_mono (wpS_forRange (I:=fun _ c st'=>st' = st∧∃ lo hi,c = (none,lo,hi)∧hi ≤ n) (Q:=fun c st'=>st' = st∧∃ lo hi,c = (none,lo,hi)∧hi ≤ n) ?_ (fun _ _ z=>z) ⟨rfl,lo,hi,rfl,hhi⟩) ?_)
  ·rintro x c st' _ _ ⟨rfl,lo,hi,rfl,hhi⟩
   exact hf x lo hi _ hhi fun lo' hi' z=>⟨⟨rfl,lo',hi',rfl,z⟩,⟨rfl,lo',hi',rfl,z⟩⟩
  ·rintro c st' ⟨rfl,lo,hi,rfl,hhi⟩
   rw [hg]
   exact wpS_pure (h _ hhi)
 have bin:∀ lo hi (R:ForInStep (Option (Option Nat) × Nat × Nat)→SortSt→Prop),hi ≤ n→(∀ lo' hi',hi' ≤ n→R (.done (none,lo',hi')) st∧R (.yield (none,lo',hi')) st) →
   wpS (model prog w) A E s (if lo ≥ hi then pure (ForInStep.done (none,lo,hi)) else (elem' arr (base + (lo + (hi - lo) / 2)) >>= fun x=>if left = true then lt' x key else lt' key x >>= fun r=>pure (Option.map (fun x=>!x) r)) >>= fun x=>match x with
    | some more=>if more = true then pure (ForInStep.yield (none,lo + (hi - lo) / 2 + 1,hi)) else pure (ForInStep.yield (none,lo,lo + (hi - lo) / 2))
    | x=>pure (ForInStep.done (some none,lo,hi))) R st:=by
  intro lo hi R hhi hR
  by_cases hge:lo ≥ hi
  ·rw [if_pos hge]; exact wpS_pure (hR _ _ hhi).1
  ·rw [if_neg hge]
   refine wpS_bind (wpS_beyond hk hkey hA (by omega) fun b=>?_)
   cases b with
   | true=>exact wpS_pure (hR _ _ hhi).2
   | false=>exact wpS_pure (hR _ _ (by omega)).2
 refine wpS_bind (wpS_beyond hk hkey hA (show base + hint < arr.size by omega) fun b=>?_)
 cases b with
 | true =>
  refine wpS_bind (wpS_mono (wpS_forRange (I:=fun _ c st'=>st' = st∧∃ l o,c = (none,l,o)) (Q:=fun c st'=>st' = st∧∃ l o,c = (none,l,o)) ?_ (fun _ _ z=>z) ⟨rfl,0,1,rfl⟩) ?_)
  ·rintro x c st' _ _ ⟨rfl,l,o,rfl⟩
   show wpS _ _ _ _ (if o ≥ n - hint then _ else _) _ _
   by_cases hge:o ≥ n - hint
   ·rw [if_pos hge]; exact wpS_pure ⟨rfl,l,o,rfl⟩
   ·rw [if_neg hge]
    refine wpS_bind (wpS_beyond hk hkey hA (show base + (hint + o) < arr.size by omega) fun b=>?_)
    cases b with
    | true=>exact wpS_pure ⟨rfl,_,_,rfl⟩
    | false=>exact wpS_pure ⟨rfl,_,_,rfl⟩
  ·rintro c st' ⟨rfl,l,o,rfl⟩
   exact last _ _ (show hint + min o (n - hint) ≤ n by omega) _ _ (fun x lo hi R=>bin lo hi R) fun _ _=>rfl
 | false =>
  refine wpS_bind (wpS_mono (wpS_forRange (I:=fun _ c st'=>st' = st∧∃ l o,c = (none,l,o)) (Q:=fun c st'=>st' = st∧∃ l o,c = (none,l,o)) ?_ (fun _ _ z=>z) ⟨rfl,0,1,rfl⟩) ?_)
  ·rintro x c st' _ _ ⟨rfl,l,o,rfl⟩
   show wpS _ _ _ _ (if o ≥ hint + 1 then _ else _) _ _
   by_cases hge:o ≥ hint + 1
   ·rw [if_pos hge]; exact wpS_pure ⟨rfl,l,o,rfl⟩
   ·rw [if_neg hge]
    refine wpS_bind (wpS_beyond hk hkey hA (show base + (hint - o) < arr.size by omega) fun b=>?_)
    cases b with
    | true=>exact wpS_pure ⟨rfl,_,_,rfl⟩
    | false=>exact wpS_pure ⟨rfl,_,_,rfl⟩
  ·rintro c st' ⟨rfl,l,o,rfl⟩
   exact last _ _ (show hint - l ≤ n by omega) _ _ (fun x lo hi R=>bin lo hi R) fun _ _=>rfl
abbrev setG (st:SortSt) (g:Nat):SortSt:=SortSt.mk' (kindOf st) (arrOf st) (pendingOf st) g (failedOf st)
structure MLo (a b out:Array Keyed) (ia ib:Nat):Prop where
 la:ia + 1 < a.size
 lb:ib < b.size
 pm:out.toList.Perm (a.toList.take ia ++ b.toList.take ib)
theorem merged {a b out:Array Keyed} {ia ib:Nat} (pm:out.toList.Perm (a.toList.take ia ++ b.toList.take ib)):(out ++ a.extract ia ++ b.extract ib).Perm (a ++ b)∧(out ++ b.extract ib ++ a.extract ia).Perm (a ++ b):=by
 have e1:(a.extract ia).toList = a.toList.drop ia:=by simp; exact List.take_of_length_le (by simp)
 have e2:(b.extract ib).toList = b.toList.drop ib:=by simp; exact List.take_of_length_le (by simp)
 have key:(out.toList ++ (a.toList.drop ia ++ b.toList.drop ib)).Perm (a.toList ++ b.toList):=by
  refine (pm.append_right _).trans ?_
  have h1:(a.toList.take ia ++ a.toList.drop ia) = a.toList:=List.take_append_drop _ _
  have h2:(b.toList.take ib ++ b.toList.drop ib) = b.toList:=List.take_append_drop _ _
  have:(a.toList.take ia ++ b.toList.take ib ++ (a.toList.drop ia ++ b.toList.drop ib)).Perm (a.toList.take ia ++ a.toList.drop ia ++ (b.toList.take ib ++ b.toList.drop ib)):=by
   simp only [List.append_assoc]
   refine List.Perm.append_left _ ?_
   rw [← List.append_assoc,← List.append_assoc]
   exact List.Perm.append_right _ List.perm_append_comm
  rwa [h1,h2] at this
 constructor
 ·rw [Array.perm_iff_toList_perm,Array.toList_append,Array.toList_append,Array.toList_append,e1,e2,List.append_assoc]
  exact key
 ·rw [Array.perm_iff_toList_perm,Array.toList_append,Array.toList_append,Array.toList_append,e1,e2,List.append_assoc]
  exact (List.Perm.append_left _ List.perm_append_comm).trans key
theorem pm_a {a b out:Array Keyed} {ia ib k:Nat} (h:ia + k ≤ a.size) (pm:out.toList.Perm (a.toList.take ia ++ b.toList.take ib)):(out ++ a.extract ia (ia + k)).toList.Perm (a.toList.take (ia + k) ++ b.toList.take ib):=by
 have e1:(a.extract ia (ia + k)).toList = (a.toList.drop ia).take k:=by simp
 rw [Array.toList_append,e1,List.take_add]
 refine (pm.append_right _).trans ?_
 rw [List.append_assoc,List.append_assoc]
 exact List.Perm.append_left _ List.perm_append_comm
theorem pm_b {a b out:Array Keyed} {ia ib k:Nat} (h:ib + k ≤ b.size) (pm:out.toList.Perm (a.toList.take ia ++ b.toList.take ib)):(out ++ b.extract ib (ib + k)).toList.Perm (a.toList.take ia ++ b.toList.take (ib + k)):=by
 have e1:(b.extract ib (ib + k)).toList = (b.toList.drop ib).take k:=by simp
 rw [Array.toList_append,e1,List.take_add,← List.append_assoc]
 exact pm.append_right _
theorem pm_a1 {a b out:Array Keyed} {ia ib:Nat} (h:ia < a.size) (pm:out.toList.Perm (a.toList.take ia ++ b.toList.take ib)):(out.push a[ia]).toList.Perm (a.toList.take (ia + 1) ++ b.toList.take ib):=by
 have:=pm_a (k:=1) (by omega) pm
 have e:a.extract ia (ia + 1) = #[a[ia]]:=by
  apply Array.ext'
  simp
  rw [List.drop_eq_getElem_cons (by simpa using h)]; simp
 rw [e] at this
 rwa [Array.push_eq_append]
theorem pm_b1 {a b out:Array Keyed} {ia ib:Nat} (h:ib < b.size) (pm:out.toList.Perm (a.toList.take ia ++ b.toList.take ib)):(out.push b[ib]).toList.Perm (a.toList.take ia ++ b.toList.take (ib + 1)):=by
 have:=pm_b (k:=1) (by omega) pm
 have e:b.extract ib (ib + 1) = #[b[ib]]:=by
  apply Array.ext'
  simp
  rw [List.drop_eq_getElem_cons (by simpa using h)]; simp
 rw [e] at this
 rwa [Array.push_eq_append]
def LoOut (a b:Array Keyed) {β:Type} (c:Option (Array Keyed) × β):Prop:=∃ o,c.1 = some o∧o.Perm (a ++ b)
theorem wpS_setG {st:SortSt} {g:Nat} {Q:Unit→SortSt→Prop} (h:Q () (setG st g)):wpS (model prog w) A E s ((sortPriv% PySem.Builtin.setMinGallop:Nat→StateT SortSt Sem Unit) g) Q st:=by
 exact wpS_modify h
theorem wpS_mergeLo {st:SortSt} {a b:Array Keyed} {Q:Array Keyed→SortSt→Prop} (hk:kindOf st = oneType') (ha:IntA a) (hb:IntA b) (ha0:0 < a.size) (hb0:0 < b.size) (h:∀ g o,o.Perm (a ++ b)→Q o (setG st g)) :
  wpS (model prog w) A E s (mergeLoP a b) Q st:=by
 unfold mergeLoP
 refine wpS_bind (wpS_lift (wpAny_rule ⟨rfl,?_⟩))
 refine wpS_bind (wpS_elemM hb0 ?_)
 have pm0:(#[b[0]]:Array Keyed).toList.Perm (a.toList.take 0 ++ b.toList.take 1):=pm_b1 (out:=#[]) hb0 (by simp)
 show wpS _ _ _ _ (if (1 == b.size) = true then _ else _) _ _
 by_cases h1:1 = b.size
 ·rw [if_pos (by simpa using h1)]
  exact wpS_pure (h (gallopOf st) _ (merged pm0).1)
 rw [if_neg (by simpa using h1)]
 by_cases h2:0 + 1 = a.size
 ·rw [if_pos (by simpa using h2)]
  exact wpS_pure (h (gallopOf st) _ (merged pm0).2)
 rw [if_neg (by simpa using h2)]
 refine wpS_bind (wpS_get ?_)
 refine wpS_bind (wpS_mono (wpS_forRange (I:=fun x c st'=>(∃ g,st' = setG st g)∧∃ out ia ib mg,c = (none,out,ia,ib,mg)∧MLo a b out ia ib∧x ≤ ia + ib) (Q:=fun c st'=>(∃ g,st' = setG st g)∧LoOut a b c) ?step ?fin
  ⟨⟨gallopOf st,rfl⟩,_,0,1,_,rfl,⟨by omega,by omega,pm0⟩,by omega⟩) ?post)
 case fin =>
  rintro c st' ⟨_,out,ia,ib,mg,rfl,hM,hx⟩
  have:=hM.la
  have:=hM.lb
  omega
 case post =>
  rintro c st' ⟨⟨g,rfl⟩,o,ho,hp⟩
  obtain ⟨r,c⟩:=c
  obtain rfl:r = some o:=ho
  exact wpS_pure (h g o hp)
 case step =>
  rintro x c st' _ hx ⟨⟨g,rfl⟩,out,ia,ib,mg,rfl,hM,hxi⟩
  refine wpS_bind (wpS_mono (wpS_forRange (I:=fun y c st'=>st' = setG st g∧∃ out ia' ib' ac bc,c = (none,out,ia',ib',ac,bc)∧MLo a b out ia' ib'∧ia + ib + y ≤ ia' + ib') (Q:=fun c st'=>st' = setG st g∧(LoOut a b c ∨ ∃ out ia' ib' ac bc,c = (none,out,ia',ib',ac,bc)∧MLo a b out ia' ib'∧ia + ib + 1 ≤ ia' + ib')) ?step1 ?fin1
   ⟨rfl,_,ia,ib,_,_,rfl,hM,by omega⟩) ?post1)
  case fin1 =>
   rintro c st' ⟨_,out,ia,ib,_,_,rfl,hM,hx⟩
   have:=hM.la
   have:=hM.lb
   omega
  case step1 =>
   rintro y c st' _ hy ⟨rfl,out,ia',ib',ac,bc,rfl,hM,hxi⟩
   have hla:=hM.la
   have hlb:=hM.lb
   refine wpS_bind (wpS_elemM hlb (wpS_bind (wpS_elemM (show ia' < a.size by omega) (wpS_bind (wpS_ltM hk (hb _ _) (ha _ _) fun r=>?_)))))
   cases r with
   | true =>
    refine wpS_bind (wpS_elemM hlb ?_)
    have pm:=pm_b1 hlb hM.pm
    show wpS _ _ _ _ (if (ib' + 1 == b.size) = true then _ else _) _ _
    by_cases h3:ib' + 1 = b.size
    ·rw [if_pos (by simpa using h3)]
     exact wpS_pure ⟨rfl,.inl ⟨_,rfl,(merged pm).1⟩⟩
    rw [if_neg (by simpa using h3)]
    by_cases h4:bc + 1 ≥ mg
    ·rw [if_pos h4]
     exact wpS_pure ⟨rfl,.inr ⟨_,ia',ib' + 1,_,_,rfl,⟨hla,by omega,pm⟩,by omega⟩⟩
    ·rw [if_neg h4]
     exact wpS_pure ⟨rfl,_,ia',ib' + 1,_,_,rfl,⟨hla,by omega,pm⟩,by omega⟩
   | false =>
    refine wpS_bind (wpS_elemM (show ia' < a.size by omega) ?_)
    have pm:=pm_a1 (show ia' < a.size by omega) hM.pm
    show wpS _ _ _ _ (if (ia' + 1 + 1 == a.size) = true then _ else _) _ _
    by_cases h3:ia' + 1 + 1 = a.size
    ·rw [if_pos (by simpa using h3)]
     exact wpS_pure ⟨rfl,.inl ⟨_,rfl,(merged pm).2⟩⟩
    rw [if_neg (by simpa using h3)]
    by_cases h4:ac + 1 ≥ mg
    ·rw [if_pos h4]
     exact wpS_pure ⟨rfl,.inr ⟨_,ia' + 1,ib',_,_,rfl,⟨by omega,hlb,pm⟩,by omega⟩⟩
    ·rw [if_neg h4]
     exact wpS_pure ⟨rfl,_,ia' + 1,ib',_,_,rfl,⟨by omega,hlb,pm⟩,by omega⟩
  case post1 =>
   rintro c st' ⟨rfl,(⟨o,ho,hp⟩ | ⟨out,ia',ib',ac,bc,rfl,hM,hxi'⟩)⟩
   ·obtain ⟨r,c⟩:=c
    obtain rfl:r = some o:=ho
    exact wpS_pure ⟨⟨g,rfl⟩,o,rfl,hp⟩
   refine wpS_bind (wpS_lift (wpAny_rule ⟨rfl,?_⟩))
   refine wpS_bind (wpS_mono (wpS_forRange (I:=fun y c st'=>(∃ g,st' = setG st g)∧∃ out ja jb mg ac bc,c = (none,out,ja,jb,mg,ac,bc)∧MLo a b out ja jb∧ia' + ib' + y ≤ ja + jb) (Q:=fun c st'=>(∃ g,st' = setG st g)∧(LoOut a b c ∨ ∃ out ja jb mg ac bc,c = (none,out,ja,jb,mg,ac,bc)∧MLo a b out ja jb∧ia' + ib' ≤ ja + jb)) ?step2 ?fin2
    ⟨⟨g,rfl⟩,_,ia',ib',_,_,_,rfl,hM,by omega⟩) ?post2)
   case fin2 =>
    rintro c st' ⟨_,out,ia,ib,_,_,_,rfl,hM,hx⟩
    have:=hM.la
    have:=hM.lb
    omega
   case post2 =>
    rintro c st' ⟨⟨g2,rfl⟩,(⟨o,ho,hp⟩ | ⟨out,ja,jb,mg2,ac,bc,rfl,hM,hxi2⟩)⟩
    ·obtain ⟨r,c⟩:=c
     obtain rfl:r = some o:=ho
     exact wpS_pure ⟨⟨g2,rfl⟩,o,rfl,hp⟩
    ·exact wpS_bind (wpS_setG (wpS_pure ⟨⟨_,rfl⟩,_,ja,jb,_,rfl,hM,by omega⟩))
   case step2 =>
    rintro y c st' _ hy ⟨⟨g2,rfl⟩,out,ja,jb,mg2,ac,bc,rfl,hM,hxi2⟩
    show wpS _ _ _ _ (if mg2 > 1 then _ else _) _ _
    have hla:=hM.la
    have hlb:=hM.lb
    split
    all_goals
     refine wpS_bind (wpS_setG ?_)
     refine wpS_bind (wpS_elemM hlb ?_)
     refine wpS_bind (wpS_gallop hk (hb _ _) ha (show ja + (a.size - ja) ≤ a.size by omega) (show 0 < a.size - ja by omega) fun k hkn=>?_)
     have hkn:k ≤ a.size - ja:=hkn
     show wpS _ _ _ _ (if k > 0 then _ else _) _ _
     by_cases hk0:k > 0
     ·rw [if_pos hk0]
      have pm:=pm_a (show ja + k ≤ a.size by omega) hM.pm
      show wpS _ _ _ _ (if (ja + k + 1 == a.size) = true then _ else _) _ _
      by_cases h5:ja + k + 1 = a.size
      ·rw [if_pos (by simpa using h5)]
       exact wpS_pure ⟨⟨_,rfl⟩,.inl ⟨_,rfl,(merged pm).2⟩⟩
      rw [if_neg (by simpa using h5)]
      by_cases h6:ja + k = a.size
      ·rw [if_pos (by simpa using h6)]
       exact wpS_pure ⟨⟨_,rfl⟩,.inl ⟨_,rfl,(merged pm).1⟩⟩
      rw [if_neg (by simpa using h6)]
      refine wpS_bind (wpS_elemM hlb ?_)
      have pm:=pm_b1 hlb pm
      show wpS _ _ _ _ (if (jb + 1 == b.size) = true then _ else _) _ _
      by_cases h7:jb + 1 = b.size
      ·rw [if_pos (by simpa using h7)]
       exact wpS_pure ⟨⟨_,rfl⟩,.inl ⟨_,rfl,(merged pm).1⟩⟩
      rw [if_neg (by simpa using h7)]
      refine wpS_bind (wpS_elemM (show ja + k < a.size by omega) ?_)
      refine wpS_bind (wpS_gallop hk (ha _ _) hb (show jb + 1 + (b.size - (jb + 1)) ≤ b.size by omega) (show 0 < b.size - (jb + 1) by omega) fun k2 hkn2=>?_)
      have hkn2:k2 ≤ b.size - (jb + 1):=hkn2
      show wpS _ _ _ _ (if k2 > 0 then _ else _) _ _
      by_cases hk2:k2 > 0
      ·rw [if_pos hk2]
       have pm:=pm_b (show jb + 1 + k2 ≤ b.size by omega) pm
       show wpS _ _ _ _ (if (jb + 1 + k2 == b.size) = true then _ else _) _ _
       by_cases h8:jb + 1 + k2 = b.size
       ·rw [if_pos (by simpa using h8)]
        exact wpS_pure ⟨⟨_,rfl⟩,.inl ⟨_,rfl,(merged pm).1⟩⟩
       rw [if_neg (by simpa using h8)]
       refine wpS_bind (wpS_elemM (show ja + k < a.size by omega) ?_)
       have pm:=pm_a1 (show ja + k < a.size by omega) pm
       show wpS _ _ _ _ (if (ja + k + 1 + 1 == a.size) = true then _ else _) _ _
       by_cases h9:ja + k + 1 + 1 = a.size
       ·rw [if_pos (by simpa using h9)]
        exact wpS_pure ⟨⟨_,rfl⟩,.inl ⟨_,rfl,(merged pm).2⟩⟩
       rw [if_neg (by simpa using h9)]
       split
       ·exact wpS_pure ⟨⟨_,rfl⟩,.inr ⟨_,ja + k + 1,jb + 1 + k2,_,_,_,rfl,⟨by omega,by omega,pm⟩,by omega⟩⟩
       ·exact wpS_pure ⟨⟨_,rfl⟩,_,ja + k + 1,jb + 1 + k2,_,_,_,rfl,⟨by omega,by omega,pm⟩,by omega⟩
      ·rw [if_neg hk2]
       refine wpS_bind (wpS_elemM (show ja + k < a.size by omega) ?_)
       have pm:=pm_a1 (show ja + k < a.size by omega) pm
       show wpS _ _ _ _ (if (ja + k + 1 + 1 == a.size) = true then _ else _) _ _
       by_cases h9:ja + k + 1 + 1 = a.size
       ·rw [if_pos (by simpa using h9)]
        exact wpS_pure ⟨⟨_,rfl⟩,.inl ⟨_,rfl,(merged pm).2⟩⟩
       rw [if_neg (by simpa using h9)]
       split
       ·exact wpS_pure ⟨⟨_,rfl⟩,.inr ⟨_,ja + k + 1,jb + 1,_,_,_,rfl,⟨by omega,by omega,pm⟩,by omega⟩⟩
       ·exact wpS_pure ⟨⟨_,rfl⟩,_,ja + k + 1,jb + 1,_,_,_,rfl,⟨by omega,by omega,pm⟩,by omega⟩
     ·rw [if_neg hk0]
      have pm:=hM.pm
      refine wpS_bind (wpS_elemM hlb ?_)
      have pm:=pm_b1 hlb pm
      show wpS _ _ _ _ (if (jb + 1 == b.size) = true then _ else _) _ _
      by_cases h7:jb + 1 = b.size
      ·rw [if_pos (by simpa using h7)]
       exact wpS_pure ⟨⟨_,rfl⟩,.inl ⟨_,rfl,(merged pm).1⟩⟩
      rw [if_neg (by simpa using h7)]
      refine wpS_bind (wpS_elemM (show ja < a.size by omega) ?_)
      refine wpS_bind (wpS_gallop hk (ha _ _) hb (show jb + 1 + (b.size - (jb + 1)) ≤ b.size by omega) (show 0 < b.size - (jb + 1) by omega) fun k2 hkn2=>?_)
      have hkn2:k2 ≤ b.size - (jb + 1):=hkn2
      show wpS _ _ _ _ (if k2 > 0 then _ else _) _ _
      by_cases hk2:k2 > 0
      ·rw [if_pos hk2]
       have pm:=pm_b (show jb + 1 + k2 ≤ b.size by omega) pm
       show wpS _ _ _ _ (if (jb + 1 + k2 == b.size) = true then _ else _) _ _
       by_cases h8:jb + 1 + k2 = b.size
       ·rw [if_pos (by simpa using h8)]
        exact wpS_pure ⟨⟨_,rfl⟩,.inl ⟨_,rfl,(merged pm).1⟩⟩
       rw [if_neg (by simpa using h8)]
       refine wpS_bind (wpS_elemM (show ja < a.size by omega) ?_)
       have pm:=pm_a1 (show ja < a.size by omega) pm
       show wpS _ _ _ _ (if (ja + 1 + 1 == a.size) = true then _ else _) _ _
       by_cases h9:ja + 1 + 1 = a.size
       ·rw [if_pos (by simpa using h9)]
        exact wpS_pure ⟨⟨_,rfl⟩,.inl ⟨_,rfl,(merged pm).2⟩⟩
       rw [if_neg (by simpa using h9)]
       split
       ·exact wpS_pure ⟨⟨_,rfl⟩,.inr ⟨_,ja + 1,jb + 1 + k2,_,_,_,rfl,⟨by omega,by omega,pm⟩,by omega⟩⟩
       ·exact wpS_pure ⟨⟨_,rfl⟩,_,ja + 1,jb + 1 + k2,_,_,_,rfl,⟨by omega,by omega,pm⟩,by omega⟩
      ·rw [if_neg hk2]
       refine wpS_bind (wpS_elemM (show ja < a.size by omega) ?_)
       have pm:=pm_a1 (show ja < a.size by omega) pm
       show wpS _ _ _ _ (if (ja + 1 + 1 == a.size) = true then _ else _) _ _
       by_cases h9:ja + 1 + 1 = a.size
       ·rw [if_pos (by simpa using h9)]
        exact wpS_pure ⟨⟨_,rfl⟩,.inl ⟨_,rfl,(merged pm).2⟩⟩
       rw [if_neg (by simpa using h9)]
       split
       ·exact wpS_pure ⟨⟨_,rfl⟩,.inr ⟨_,ja + 1,jb + 1,_,_,_,rfl,⟨by omega,by omega,pm⟩,by omega⟩⟩
       ·exact wpS_pure ⟨⟨_,rfl⟩,_,ja + 1,jb + 1,_,_,_,rfl,⟨by omega,by omega,pm⟩,by omega⟩
structure MHi (a b out:Array Keyed) (na nb:Nat):Prop where
 la:0 < na
 ua:na ≤ a.size
 lb:1 < nb
 ub:nb ≤ b.size
 pm:out.toList.Perm (a.toList.drop na ++ b.toList.drop nb)
theorem mergedH {a b out:Array Keyed} {na nb:Nat} (ha:na ≤ a.size) (hb:nb ≤ b.size) (pm:out.toList.Perm (a.toList.drop na ++ b.toList.drop nb)):(a.extract 0 na ++ b.extract 0 nb ++ out.reverse).Perm (a ++ b)∧(b.extract 0 nb ++ a.extract 0 na ++ out.reverse).Perm (a ++ b):=by
 have e1:(a.extract 0 na).toList = a.toList.take na:=by simp
 have e2:(b.extract 0 nb).toList = b.toList.take nb:=by simp
 have key:(a.toList.take na ++ b.toList.take nb ++ out.toList.reverse).Perm (a.toList ++ b.toList):=by
  refine (List.Perm.append_left _ ((List.reverse_perm _).trans pm)).trans ?_
  have h1:(a.toList.take na ++ a.toList.drop na) = a.toList:=List.take_append_drop _ _
  have h2:(b.toList.take nb ++ b.toList.drop nb) = b.toList:=List.take_append_drop _ _
  have:(a.toList.take na ++ b.toList.take nb ++ (a.toList.drop na ++ b.toList.drop nb)).Perm (a.toList.take na ++ a.toList.drop na ++ (b.toList.take nb ++ b.toList.drop nb)):=by
   simp only [List.append_assoc]
   refine List.Perm.append_left _ ?_
   rw [← List.append_assoc,← List.append_assoc]
   exact List.Perm.append_right _ List.perm_append_comm
  rwa [h1,h2] at this
 constructor
 ·rw [Array.perm_iff_toList_perm,Array.toList_append,Array.toList_append,Array.toList_append,Array.toList_reverse,e1,e2]
  exact key
 ·rw [Array.perm_iff_toList_perm,Array.toList_append,Array.toList_append,Array.toList_append,Array.toList_reverse,e1,e2]
  exact (List.Perm.append_right _ List.perm_append_comm).trans key
theorem drop_split {l:List Keyed} {i j:Nat} (h:i ≤ j):l.drop i = (l.drop i).take (j - i) ++ l.drop j:=by
 have:=List.take_append_drop (j - i) (l.drop i)
 rw [List.drop_drop,show i + (j - i) = j by omega] at this
 exact this.symm
theorem qm_a {a b out:Array Keyed} {na nb k:Nat} (h:k ≤ na) (hn:na ≤ a.size) (pm:out.toList.Perm (a.toList.drop na ++ b.toList.drop nb)):(out ++ (a.extract k na).reverse).toList.Perm (a.toList.drop k ++ b.toList.drop nb):=by
 have e1:(a.extract k na).toList = (a.toList.drop k).take (na - k):=by simp
 rw [Array.toList_append,Array.toList_reverse,e1]
 have hs:=drop_split (l:=a.toList) h
 generalize (a.toList.drop k).take (na - k) = X at hs ⊢
 rw [hs]
 refine (pm.append_right _).trans (List.perm_append_comm.trans ?_)
 rw [List.append_assoc]
 exact List.Perm.append_right _ (List.reverse_perm _)
theorem qm_b {a b out:Array Keyed} {na nb k:Nat} (h:k ≤ nb) (hn:nb ≤ b.size) (pm:out.toList.Perm (a.toList.drop na ++ b.toList.drop nb)):(out ++ (b.extract k nb).reverse).toList.Perm (a.toList.drop na ++ b.toList.drop k):=by
 have e1:(b.extract k nb).toList = (b.toList.drop k).take (nb - k):=by simp
 rw [Array.toList_append,Array.toList_reverse,e1]
 have hs:=drop_split (l:=b.toList) h
 generalize (b.toList.drop k).take (nb - k) = X at hs ⊢
 rw [hs]
 refine (pm.append_right _).trans ?_
 rw [List.append_assoc]
 refine List.Perm.append_left _ (List.perm_append_comm.trans ?_)
 exact List.Perm.append_right _ (List.reverse_perm _)
theorem qm_a1 {a b out:Array Keyed} {na nb k:Nat} (h:k < a.size) (hn:k + 1 = na) (pm:out.toList.Perm (a.toList.drop na ++ b.toList.drop nb)):(out.push a[k]).toList.Perm (a.toList.drop k ++ b.toList.drop nb):=by
 have:=qm_a (k:=k) (by omega) (by omega) pm
 have e:(a.extract k na).reverse = #[a[k]]:=by
  subst hn
  apply Array.ext'
  simp
  rw [List.drop_eq_getElem_cons (by simpa using h)]; simp
 rw [e] at this
 rwa [Array.push_eq_append]
theorem qm_b1 {a b out:Array Keyed} {na nb k:Nat} (h:k < b.size) (hn:k + 1 = nb) (pm:out.toList.Perm (a.toList.drop na ++ b.toList.drop nb)):(out.push b[k]).toList.Perm (a.toList.drop na ++ b.toList.drop k):=by
 have:=qm_b (k:=k) (by omega) (by omega) pm
 have e:(b.extract k nb).reverse = #[b[k]]:=by
  subst hn
  apply Array.ext'
  simp
  rw [List.drop_eq_getElem_cons (by simpa using h)]; simp
 rw [e] at this
 rwa [Array.push_eq_append]
theorem wpS_mergeHi {st:SortSt} {a b:Array Keyed} {Q:Array Keyed→SortSt→Prop} (hk:kindOf st = oneType') (ha:IntA a) (hb:IntA b) (ha0:0 < a.size) (hb0:0 < b.size) (h:∀ g o,o.Perm (a ++ b)→Q o (setG st g)) :
  wpS (model prog w) A E s (mergeHiP a b) Q st:=by
 unfold mergeHiP
 refine wpS_bind (wpS_lift (wpAny_rule ⟨rfl,?_⟩))
 refine wpS_bind (wpS_elemM (show a.size - 1 < a.size by omega) ?_)
 have pm0:(#[a[a.size - 1]]:Array Keyed).toList.Perm (a.toList.drop (a.size - 1) ++ b.toList.drop b.size):=qm_a1 (out:=#[]) (na:=a.size) (nb:=b.size) (by omega) (by omega) (by simp)
 show wpS _ _ _ _ (if (a.size - 1 == 0) = true then _ else _) _ _
 by_cases h1:a.size - 1 = 0
 ·rw [if_pos (by simpa using h1)]
  exact wpS_pure (h (gallopOf st) _ (mergedH (by omega) (by omega) pm0).1)
 rw [if_neg (by simpa using h1)]
 by_cases h2:b.size = 1
 ·rw [if_pos (by simpa using h2)]
  exact wpS_pure (h (gallopOf st) _ (mergedH (by omega) (by omega) pm0).2)
 rw [if_neg (by simpa using h2)]
 refine wpS_bind (wpS_get ?_)
 refine wpS_bind (wpS_mono (wpS_forRange (I:=fun x c st'=>(∃ g,st' = setG st g)∧∃ out na nb mg,c = (none,na,nb,out,mg)∧MHi a b out na nb∧x + na + nb ≤ a.size + b.size) (Q:=fun c st'=>(∃ g,st' = setG st g)∧LoOut a b c) ?step ?fin
  ⟨⟨gallopOf st,rfl⟩,_,a.size - 1,b.size,_,rfl,⟨by omega,by omega,by omega,by omega,pm0⟩,show 0 + (a.size - 1) + b.size ≤ a.size + b.size by omega⟩) ?post)
 case fin =>
  rintro c st' ⟨_,out,ia,ib,mg,rfl,hM,hx⟩
  have:=hM.la
  have:=hM.lb
  omega
 case post =>
  rintro c st' ⟨⟨g,rfl⟩,o,ho,hp⟩
  obtain ⟨r,c⟩:=c
  obtain rfl:r = some o:=ho
  exact wpS_pure (h g o hp)
 case step =>
  rintro x c st' _ hx ⟨⟨g,rfl⟩,out,ia,ib,mg,rfl,hM,hxi⟩
  refine wpS_bind (wpS_mono (wpS_forRange (I:=fun y c st'=>st' = setG st g∧∃ out ia' ib' ac bc,c = (none,ia',ib',out,ac,bc)∧MHi a b out ia' ib'∧y + ia' + ib' ≤ ia + ib) (Q:=fun c st'=>st' = setG st g∧(LoOut a b c ∨ ∃ out ia' ib' ac bc,c = (none,ia',ib',out,ac,bc)∧MHi a b out ia' ib'∧1 + ia' + ib' ≤ ia + ib)) ?step1 ?fin1
   ⟨rfl,_,ia,ib,_,_,rfl,hM,show 0 + ia + ib ≤ ia + ib by omega⟩) ?post1)
  case fin1 =>
   rintro c st' ⟨_,out,ia,ib,_,_,rfl,hM,hx⟩
   have:=hM.la
   have:=hM.lb
   omega
  case step1 =>
   rintro y c st' _ hy ⟨rfl,out,ia',ib',ac,bc,rfl,hM,hxi⟩
   have hla:=hM.la
   have hlb:=hM.lb
   have hua:=hM.ua
   have hub:=hM.ub
   refine wpS_bind (wpS_elemM (show ib' - 1 < b.size by omega) (wpS_bind (wpS_elemM (show ia' - 1 < a.size by omega) (wpS_bind (wpS_ltM hk (hb _ _) (ha _ _) fun r=>?_)))))
   cases r with
   | true =>
    refine wpS_bind (wpS_elemM (show ia' - 1 < a.size by omega) ?_)
    have pm:=qm_a1 (show ia' - 1 < a.size by omega) (show ia' - 1 + 1 = ia' by omega) hM.pm
    show wpS _ _ _ _ (if (ia' - 1 == 0) = true then _ else _) _ _
    by_cases h3:ia' - 1 = 0
    ·rw [if_pos (by simpa using h3)]
     exact wpS_pure ⟨rfl,.inl ⟨_,rfl,(mergedH (by omega) (by omega) pm).1⟩⟩
    rw [if_neg (by simpa using h3)]
    by_cases h4:ac + 1 ≥ mg
    ·rw [if_pos h4]
     exact wpS_pure ⟨rfl,.inr ⟨_,ia' - 1,ib',_,_,rfl,⟨by omega,by omega,hlb,hub,pm⟩,by omega⟩⟩
    ·rw [if_neg h4]
     exact wpS_pure ⟨rfl,_,ia' - 1,ib',_,_,rfl,⟨by omega,by omega,hlb,hub,pm⟩,by omega⟩
   | false =>
    refine wpS_bind (wpS_elemM (show ib' - 1 < b.size by omega) ?_)
    have pm:=qm_b1 (show ib' - 1 < b.size by omega) (show ib' - 1 + 1 = ib' by omega) hM.pm
    show wpS _ _ _ _ (if (ib' - 1 == 1) = true then _ else _) _ _
    by_cases h3:ib' - 1 = 1
    ·rw [if_pos (by simpa using h3)]
     exact wpS_pure ⟨rfl,.inl ⟨_,rfl,(mergedH (by omega) (by omega) pm).2⟩⟩
    rw [if_neg (by simpa using h3)]
    by_cases h4:bc + 1 ≥ mg
    ·rw [if_pos h4]
     exact wpS_pure ⟨rfl,.inr ⟨_,ia',ib' - 1,_,_,rfl,⟨hla,hua,by omega,by omega,pm⟩,by omega⟩⟩
    ·rw [if_neg h4]
     exact wpS_pure ⟨rfl,_,ia',ib' - 1,_,_,rfl,⟨hla,hua,by omega,by omega,pm⟩,by omega⟩
  case post1 =>
   rintro c st' ⟨rfl,(⟨o,ho,hp⟩ | ⟨out,ia',ib',ac,bc,rfl,hM,hxi'⟩)⟩
   ·obtain ⟨r,c⟩:=c
    obtain rfl:r = some o:=ho
    exact wpS_pure ⟨⟨g,rfl⟩,o,rfl,hp⟩
   refine wpS_bind (wpS_lift (wpAny_rule ⟨rfl,?_⟩))
   refine wpS_bind (wpS_mono (wpS_forRange (I:=fun y c st'=>(∃ g,st' = setG st g)∧∃ out ja jb mg ac bc,c = (none,ja,jb,out,mg,ac,bc)∧MHi a b out ja jb∧y + ja + jb ≤ ia' + ib') (Q:=fun c st'=>(∃ g,st' = setG st g)∧(LoOut a b c ∨ ∃ out ja jb mg ac bc,c = (none,ja,jb,out,mg,ac,bc)∧MHi a b out ja jb∧ja + jb ≤ ia' + ib')) ?step2 ?fin2
    ⟨⟨g,rfl⟩,_,ia',ib',_,_,_,rfl,hM,show 0 + ia' + ib' ≤ ia' + ib' by omega⟩) ?post2)
   case fin2 =>
    rintro c st' ⟨_,out,ia,ib,_,_,_,rfl,hM,hx⟩
    have:=hM.la
    have:=hM.lb
    omega
   case post2 =>
    rintro c st' ⟨⟨g2,rfl⟩,(⟨o,ho,hp⟩ | ⟨out,ja,jb,mg2,ac,bc,rfl,hM,hxi2⟩)⟩
    ·obtain ⟨r,c⟩:=c
     obtain rfl:r = some o:=ho
     exact wpS_pure ⟨⟨g2,rfl⟩,o,rfl,hp⟩
    ·exact wpS_bind (wpS_setG (wpS_pure ⟨⟨_,rfl⟩,_,ja,jb,_,rfl,hM,by omega⟩))
   case step2 =>
    rintro y c st' _ hy ⟨⟨g2,rfl⟩,out,ja,jb,mg2,ac,bc,rfl,hM,hxi2⟩
    show wpS _ _ _ _ (if mg2 > 1 then _ else _) _ _
    have hla:=hM.la
    have hlb:=hM.lb
    have hua:=hM.ua
    have hub:=hM.ub
    split
    all_goals
     refine wpS_bind (wpS_setG ?_)
     refine wpS_bind (wpS_elemM (show jb - 1 < b.size by omega) ?_)
     refine wpS_bind (wpS_gallop hk (hb _ _) ha (show 0 + ja ≤ a.size by omega) (show ja - 1 < ja by omega) fun k hkn=>?_)
     have hkn:k ≤ ja:=hkn
     show wpS _ _ _ _ (if ja - k > 0 then _ else _) _ _
     by_cases hk0:ja - k > 0
     ·rw [if_pos hk0]
      have pm:=qm_a (show k ≤ ja by omega) (show ja ≤ a.size by omega) hM.pm
      show wpS _ _ _ _ (if (k == 0) = true then _ else _) _ _
      by_cases h6:k = 0
      ·rw [if_pos (by simpa using h6)]
       exact wpS_pure ⟨⟨_,rfl⟩,.inl ⟨_,rfl,(mergedH (by omega) (by omega) pm).1⟩⟩
      rw [if_neg (by simpa using h6)]
      refine wpS_bind (wpS_elemM (show jb - 1 < b.size by omega) ?_)
      have pm:=qm_b1 (show jb - 1 < b.size by omega) (show jb - 1 + 1 = jb by omega) pm
      show wpS _ _ _ _ (if (jb - 1 == 1) = true then _ else _) _ _
      by_cases h7:jb - 1 = 1
      ·rw [if_pos (by simpa using h7)]
       exact wpS_pure ⟨⟨_,rfl⟩,.inl ⟨_,rfl,(mergedH (by omega) (by omega) pm).2⟩⟩
      rw [if_neg (by simpa using h7)]
      refine wpS_bind (wpS_elemM (show k - 1 < a.size by omega) ?_)
      refine wpS_bind (wpS_gallop hk (ha _ _) hb (show 0 + (jb - 1) ≤ b.size by omega) (show jb - 1 - 1 < jb - 1 by omega) fun k2 hkn2=>?_)
      have hkn2:k2 ≤ jb - 1:=hkn2
      show wpS _ _ _ _ (if jb - 1 - k2 > 0 then _ else _) _ _
      by_cases hk2:jb - 1 - k2 > 0
      ·rw [if_pos hk2]
       have pm:=qm_b (show k2 ≤ jb - 1 by omega) (show jb - 1 ≤ b.size by omega) pm
       show wpS _ _ _ _ (if (k2 == 1) = true then _ else _) _ _
       by_cases h8:k2 = 1
       ·rw [if_pos (by simpa using h8)]
        exact wpS_pure ⟨⟨_,rfl⟩,.inl ⟨_,rfl,(mergedH (by omega) (by omega) pm).2⟩⟩
       rw [if_neg (by simpa using h8)]
       by_cases h10:k2 = 0
       ·rw [if_pos (by simpa using h10)]
        exact wpS_pure ⟨⟨_,rfl⟩,.inl ⟨_,rfl,(mergedH (by omega) (by omega) pm).1⟩⟩
       rw [if_neg (by simpa using h10)]
       refine wpS_bind (wpS_elemM (show k - 1 < a.size by omega) ?_)
       have pm:=qm_a1 (show k - 1 < a.size by omega) (show k - 1 + 1 = k by omega) pm
       show wpS _ _ _ _ (if (k - 1 == 0) = true then _ else _) _ _
       by_cases h9:k - 1 = 0
       ·rw [if_pos (by simpa using h9)]
        exact wpS_pure ⟨⟨_,rfl⟩,.inl ⟨_,rfl,(mergedH (by omega) (by omega) pm).1⟩⟩
       rw [if_neg (by simpa using h9)]
       split
       ·exact wpS_pure ⟨⟨_,rfl⟩,.inr ⟨_,k - 1,k2,_,_,_,rfl,⟨by omega,by omega,by omega,by omega,pm⟩,by omega⟩⟩
       ·exact wpS_pure ⟨⟨_,rfl⟩,_,k - 1,k2,_,_,_,rfl,⟨by omega,by omega,by omega,by omega,pm⟩,by omega⟩
      ·rw [if_neg hk2]
       refine wpS_bind (wpS_elemM (show k - 1 < a.size by omega) ?_)
       have pm:=qm_a1 (show k - 1 < a.size by omega) (show k - 1 + 1 = k by omega) pm
       show wpS _ _ _ _ (if (k - 1 == 0) = true then _ else _) _ _
       by_cases h9:k - 1 = 0
       ·rw [if_pos (by simpa using h9)]
        exact wpS_pure ⟨⟨_,rfl⟩,.inl ⟨_,rfl,(mergedH (by omega) (by omega) pm).1⟩⟩
       rw [if_neg (by simpa using h9)]
       split
       ·exact wpS_pure ⟨⟨_,rfl⟩,.inr ⟨_,k - 1,jb - 1,_,_,_,rfl,⟨by omega,by omega,by omega,by omega,pm⟩,by omega⟩⟩
       ·exact wpS_pure ⟨⟨_,rfl⟩,_,k - 1,jb - 1,_,_,_,rfl,⟨by omega,by omega,by omega,by omega,pm⟩,by omega⟩
     ·rw [if_neg hk0]
      have pm:=hM.pm
      refine wpS_bind (wpS_elemM (show jb - 1 < b.size by omega) ?_)
      have pm:=qm_b1 (show jb - 1 < b.size by omega) (show jb - 1 + 1 = jb by omega) pm
      show wpS _ _ _ _ (if (jb - 1 == 1) = true then _ else _) _ _
      by_cases h7:jb - 1 = 1
      ·rw [if_pos (by simpa using h7)]
       exact wpS_pure ⟨⟨_,rfl⟩,.inl ⟨_,rfl,(mergedH (by omega) (by omega) pm).2⟩⟩
      rw [if_neg (by simpa using h7)]
      refine wpS_bind (wpS_elemM (show ja - 1 < a.size by omega) ?_)
      refine wpS_bind (wpS_gallop hk (ha _ _) hb (show 0 + (jb - 1) ≤ b.size by omega) (show jb - 1 - 1 < jb - 1 by omega) fun k2 hkn2=>?_)
      have hkn2:k2 ≤ jb - 1:=hkn2
      show wpS _ _ _ _ (if jb - 1 - k2 > 0 then _ else _) _ _
      by_cases hk2:jb - 1 - k2 > 0
      ·rw [if_pos hk2]
       have pm:=qm_b (show k2 ≤ jb - 1 by omega) (show jb - 1 ≤ b.size by omega) pm
       show wpS _ _ _ _ (if (k2 == 1) = true then _ else _) _ _
       by_cases h8:k2 = 1
       ·rw [if_pos (by simpa using h8)]
        exact wpS_pure ⟨⟨_,rfl⟩,.inl ⟨_,rfl,(mergedH (by omega) (by omega) pm).2⟩⟩
       rw [if_neg (by simpa using h8)]
       by_cases h10:k2 = 0
       ·rw [if_pos (by simpa using h10)]
        exact wpS_pure ⟨⟨_,rfl⟩,.inl ⟨_,rfl,(mergedH (by omega) (by omega) pm).1⟩⟩
       rw [if_neg (by simpa using h10)]
       refine wpS_bind (wpS_elemM (show ja - 1 < a.size by omega) ?_)
       have pm:=qm_a1 (show ja - 1 < a.size by omega) (show ja - 1 + 1 = ja by omega) pm
       show wpS _ _ _ _ (if (ja - 1 == 0) = true then _ else _) _ _
       by_cases h9:ja - 1 = 0
       ·rw [if_pos (by simpa using h9)]
        exact wpS_pure ⟨⟨_,rfl⟩,.inl ⟨_,rfl,(mergedH (by omega) (by omega) pm).1⟩⟩
       rw [if_neg (by simpa using h9)]
       split
       ·exact wpS_pure ⟨⟨_,rfl⟩,.inr ⟨_,ja - 1,k2,_,_,_,rfl,⟨by omega,by omega,by omega,by omega,pm⟩,by omega⟩⟩
       ·exact wpS_pure ⟨⟨_,rfl⟩,_,ja - 1,k2,_,_,_,rfl,⟨by omega,by omega,by omega,by omega,pm⟩,by omega⟩
      ·rw [if_neg hk2]
       refine wpS_bind (wpS_elemM (show ja - 1 < a.size by omega) ?_)
       have pm:=qm_a1 (show ja - 1 < a.size by omega) (show ja - 1 + 1 = ja by omega) pm
       show wpS _ _ _ _ (if (ja - 1 == 0) = true then _ else _) _ _
       by_cases h9:ja - 1 = 0
       ·rw [if_pos (by simpa using h9)]
        exact wpS_pure ⟨⟨_,rfl⟩,.inl ⟨_,rfl,(mergedH (by omega) (by omega) pm).1⟩⟩
       rw [if_neg (by simpa using h9)]
       split
       ·exact wpS_pure ⟨⟨_,rfl⟩,.inr ⟨_,ja - 1,jb - 1,_,_,_,rfl,⟨by omega,by omega,by omega,by omega,pm⟩,by omega⟩⟩
       ·exact wpS_pure ⟨⟨_,rfl⟩,_,ja - 1,jb - 1,_,_,_,rfl,⟨by omega,by omega,by omega,by omega,pm⟩,by omega⟩
theorem wpS_set {σ:Type} {M:Model} {st st':σ} {Q:PUnit→σ→Prop} (h:Q ⟨⟩ st'):wpS M A E s (set st':StateT σ Sem PUnit) Q st:=by
 unfold wpS; rw [StateT.run_set]; exact wpAny_pure ⟨rfl,h⟩
theorem put_over:∀ (L:List Keyed) (k at_:Nat) (a:Array Keyed),at_ + k + L.length ≤ a.size →
  ((L.zipIdx k).foldl (fun a x=>match x with | (p,j)=>a.setIfInBounds (at_ + j) p) a).toList = a.toList.take (at_ + k) ++ L ++ a.toList.drop (at_ + k + L.length)
 | [],k,at_,a,h=>by simp
 | x :: L,k,at_,a,h=>by
  rw [List.zipIdx_cons,List.foldl_cons]
  have h':at_ + (k + 1) + L.length ≤ (a.setIfInBounds (at_ + k) x).size:=by
   rw [Array.size_setIfInBounds]
   have:(x :: L).length = L.length + 1:=rfl
   omega
  refine (put_over L (k + 1) at_ _ h').trans ?_
  have hl:(x :: L).length = L.length + 1:=rfl
  have hi:at_ + k < a.toList.length:=by rw [Array.length_toList]; omega
  rw [Array.toList_setIfInBounds]
  have e1:(a.toList.set (at_ + k) x).take (at_ + (k + 1)) = a.toList.take (at_ + k) ++ [x]:=by
   rw [show at_ + (k + 1) = at_ + k + 1 by omega,List.take_add_one,List.getElem?_set_self hi,List.take_set_of_le (Nat.le_refl _)]; rfl
  have e2:(a.toList.set (at_ + k) x).drop (at_ + (k + 1) + L.length) = a.toList.drop (at_ + k + (x :: L).length):=by
   rw [List.drop_set_of_lt (by omega)]; congr 1; omega
  rw [e1,e2]
  simp
theorem put_perm {L:List Keyed} {at_ to:Nat} {a:Array Keyed} (h1:at_ ≤ to) (h2:to ≤ a.size) (hp:L.Perm ((a.toList.drop at_).take (to - at_))) :
  ((L.zipIdx).foldl (fun a x=>match x with | (p,j)=>a.setIfInBounds (at_ + j) p) a).Perm a:=by
 have hl:L.length = to - at_:=by rw [hp.length_eq,List.length_take,List.length_drop,Array.length_toList]; omega
 rw [Array.perm_iff_toList_perm,put_over L 0 at_ a (by omega)]
 have e:a.toList = a.toList.take at_ ++ ((a.toList.drop at_).take (to - at_) ++ a.toList.drop to):=by
  rw [← drop_split h1,List.take_append_drop]
 rw [Nat.add_zero,show at_ + L.length = to by omega,List.append_assoc]
 refine List.Perm.trans ?_ (List.Perm.of_eq e.symm)
 exact List.Perm.append_left _ (List.Perm.append_right _ hp)
def ISt (a0:Array Keyed) (p:Array (Nat × Nat × Nat)) (st:SortSt):Prop:=(arrOf st).Perm a0∧kindOf st = oneType'∧failedOf st = none∧pendingOf st = p
theorem IntA.perm {a b:Array Keyed} (h:IntA b) (p:a.Perm b):IntA a:=fun i hi=>by
 have hm:a[i] ∈ b.toList:=(Array.perm_iff_toList_perm.mp p).mem_iff.mp (by simp)
 obtain ⟨j,hj,e⟩:=List.getElem_of_mem hm
 rw [← e]
 simpa using h j (by simpa using hj)
theorem IntA.ext {a:Array Keyed} (h:IntA a) (i j:Nat):IntA (a.extract i j):=fun k hk=>by
 rw [Array.getElem_extract]
 exact h _ _
theorem wpS_mergeAt {st:SortSt} {a0:Array Keyed} {n1 n2 pw z:Nat} {Q:Bool→SortSt→Prop} (hA:IntA a0) (hI:ISt a0 #[(0,n1,pw),(n1,n2,z)] st) (h1:0 < n1) (h2:0 < n2) (hn:n1 + n2 ≤ a0.size) (h:∀ st',ISt a0 #[(0,n1 + n2,pw)] st'→Q true st') :
  wpS (model prog w) A E s (mergeAt' 0) Q st:=by
 obtain ⟨hp,hk,hf,hpd⟩:=hI
 unfold mergeAt'
 refine wpS_bind (wpS_get ?_)
 have e0:(pendingOf st)[0]? = some (0,n1,pw):=by rw [hpd]; rfl
 have e1:(pendingOf st)[0 + 1]? = some (n1,n2,z):=by rw [hpd]; rfl
 have hsz:(arrOf st).size = a0.size:=hp.size_eq
 have hA1:IntA (arrOf st):=hA.perm hp
 have epd:((pendingOf st).setIfInBounds 0 (0,n1 + n2,pw)).eraseIdxIfInBounds (0 + 1) = #[(0,n1 + n2,pw)]:=by
  rw [hpd]; apply Array.ext'; simp [Array.eraseIdxIfInBounds]
 rw [e0,e1]
 show wpS _ _ _ _ (set (SortSt.mk' (kindOf st) (arrOf st) (((pendingOf st).setIfInBounds 0 (0,n1 + n2,pw)).eraseIdxIfInBounds (0 + 1)) (gallopOf st) (failedOf st)) >>= _) _ _
 rw [epd]
 refine wpS_bind (wpS_set ?_)
 have hk1:kindOf (SortSt.mk' (kindOf st) (arrOf st) #[(0,n1 + n2,pw)] (gallopOf st) (failedOf st)) = oneType':=hk
 have hI1:ISt a0 #[(0,n1 + n2,pw)] (SortSt.mk' (kindOf st) (arrOf st) #[(0,n1 + n2,pw)] (gallopOf st) (failedOf st)):=⟨hp,hk,hf,rfl⟩
 refine wpS_bind (wpS_elemM (show n1 < (arrOf st).size by omega) ?_)
 refine wpS_bind (wpS_gallop hk1 (hA1 _ _) hA1 (show 0 + n1 ≤ (arrOf st).size by omega) h1 fun k hkn=>?_)
 show wpS _ _ _ _ (if (n1 - k == 0) = true then _ else _) _ _
 by_cases h3:n1 - k = 0
 ·rw [if_pos (by simpa using h3)]
  exact wpS_pure (h _ hI1)
 rw [if_neg (by simpa using h3)]
 refine wpS_bind (wpS_elemM (show 0 + k + (n1 - k) - 1 < (arrOf st).size by omega) ?_)
 refine wpS_bind (wpS_gallop hk1 (hA1 _ _) hA1 (show n1 + n2 ≤ (arrOf st).size by omega) (show n2 - 1 < n2 by omega) fun m hmn=>?_)
 show wpS _ _ _ _ (if (m == 0) = true then _ else _) _ _
 by_cases h4:m = 0
 ·rw [if_pos (by simpa using h4)]
  exact wpS_pure (h _ hI1)
 rw [if_neg (by simpa using h4)]
 have sx:((arrOf st).extract (0 + k) n1).size = n1 - k:=by rw [Array.size_extract]; omega
 have sy:((arrOf st).extract n1 (n1 + m)).size = m:=by rw [Array.size_extract]; omega
 have fin:∀ g (o:Array Keyed),o.Perm ((arrOf st).extract (0 + k) n1 ++ (arrOf st).extract n1 (n1 + m))→ISt a0 #[(0,n1 + n2,pw)] (SortSt.mk' (kindOf st) (o.toList.zipIdx.foldl (fun a x=>match x with | (p,j)=>a.setIfInBounds (0 + k + j) p) (arrOf st)) #[(0,n1 + n2,pw)] g (failedOf st)):=by
  intro g o ho
  refine ⟨(put_perm (L:=o.toList) (at_:=0 + k) (to:=n1 + m) (by omega) (by omega) ?_).trans hp,hk,hf,rfl⟩
  refine (Array.perm_iff_toList_perm.mp ho).trans (List.Perm.of_eq ?_)
  rw [Array.toList_append]
  have x1:((arrOf st).extract (0 + k) n1).toList = ((arrOf st).toList.drop (0 + k)).take (n1 - (0 + k)):=by simp
  have x2:((arrOf st).extract n1 (n1 + m)).toList = ((arrOf st).toList.drop n1).take m:=by simp
  rw [x1,x2,show n1 + m - (0 + k) = (n1 - (0 + k)) + m by omega,List.take_add,List.drop_drop,show 0 + k + (n1 - (0 + k)) = n1 by omega]
 show wpS _ _ _ _ (if n1 - k ≤ m then _ else _) _ _
 split
 ·refine wpS_bind (wpS_mergeLo hk1 (hA1.ext _ _) (hA1.ext _ _) (by rw [sx]; omega) (by rw [sy]; omega) fun g o ho=>?_)
  refine wpS_bind (wpS_modify (wpS_bind (wpS_get (wpS_pure ?_))))
  have:=h _ (fin g o ho)
  rw [show true = (failedOf st).isNone by rw [hf]; rfl] at this
  exact this
 ·refine wpS_bind (wpS_mergeHi hk1 (hA1.ext _ _) (hA1.ext _ _) (by rw [sx]; omega) (by rw [sy]; omega) fun g o ho=>?_)
  refine wpS_bind (wpS_modify (wpS_bind (wpS_get (wpS_pure ?_))))
  have:=h _ (fin g o ho)
  rw [show true = (failedOf st).isNone by rw [hf]; rfl] at this
  exact this
theorem wpS_ltAtM {st:SortSt} {a0:Array Keyed} {p:Array (Nat × Nat × Nat)} {i j:Nat} {Q:Option Bool→SortSt→Prop} (hA:IntA a0) (hI:ISt a0 p st) (hi:i < a0.size) (hj:j < a0.size) (h:∀ b,Q (some b) st) :
  wpS (model prog w) A E s (ltAt' i j) Q st:=by
 obtain ⟨hp,hk,hf,hpd⟩:=hI
 have hsz:(arrOf st).size = a0.size:=hp.size_eq
 have hA1:IntA (arrOf st):=hA.perm hp
 rw [ltAt'_eq]
 refine wpS_bind (wpS_get ?_)
 exact wpS_bind (wpS_elemM (show i < (arrOf st).size by omega) (wpS_bind (wpS_elemM (show j < (arrOf st).size by omega) (wpS_ltM hk (hA1 _ _) (hA1 _ _) h))))
theorem ISt.arr {st:SortSt} {a0 xs:Array Keyed} {p:Array (Nat × Nat × Nat)} (hI:ISt a0 p st) (h:xs.Perm (arrOf st)):ISt a0 p (setArr st xs):=⟨h.trans hI.1,hI.2.1,hI.2.2.1,hI.2.2.2⟩
theorem wpS_revM {st:SortSt} {a0:Array Keyed} {p:Array (Nat × Nat × Nat)} {i j:Nat} {Q:Unit→SortSt→Prop} (hI:ISt a0 p st) (h:∀ st',ISt a0 p st'→Q () st') :
  wpS (model prog w) A E s (reverseSlice' i j) Q st:=by
 rw [reverseSlice'_eq]; exact wpS_modify (h _ (hI.arr (mirror_perm _ _ _ _)))
theorem wpS_countRunM {st:SortSt} {a0:Array Keyed} {p:Array (Nat × Nat × Nat)} {lo nrem:Nat} {Q:Option Nat→SortSt→Prop} (hA:IntA a0) (hI:ISt a0 p st) (hn:lo + nrem ≤ a0.size) (h1:1 ≤ nrem) (h:∀ m st',ISt a0 p st'→1 ≤ m→m ≤ nrem→Q (some m) st') :
  wpS (model prog w) A E s (countRun' lo nrem) Q st:=by
 unfold countRun'
 refine wpS_bind (wpS_mono (wpS_forRange (I:=fun x c st'=>st' = st∧c = (none,x)) (Q:=fun c st'=>st' = st∧∃ x,1 ≤ x∧x ≤ nrem∧c = (none,x)) ?step ?fin ⟨rfl,rfl⟩) ?post)
 case fin =>
  rintro c st' ⟨rfl,rfl⟩
  exact ⟨rfl,_,by omega,by omega,rfl⟩
 case step =>
  rintro x c st' hx1 hx2 ⟨rfl,rfl⟩
  refine wpS_bind (wpS_ltAtM hA hI (show lo + x < a0.size by omega) (show lo + x - 1 < a0.size by omega) fun b=>?_)
  cases b with
  | true=>exact wpS_pure ⟨rfl,x,hx1,by omega,rfl⟩
  | false=>exact wpS_pure ⟨rfl,rfl⟩
 case post =>
  rintro c st' ⟨rfl,n,hn1,hn2,rfl⟩
  show wpS _ _ _ _ (if (n == nrem) = true then _ else _) _ _
  by_cases h2:n = nrem
  ·rw [if_pos (by simpa using h2)]
   exact wpS_pure (h _ _ hI hn1 hn2)
  rw [if_neg (by simpa using h2)]
  show wpS _ _ _ _ (if n > 1 then _ else _) _ _
  split
  ·refine wpS_bind (wpS_ltAtM hA hI (show lo < a0.size by omega) (show lo + n - 1 < a0.size by omega) fun b=>?_)
   cases b with
   | true=>exact wpS_pure (h _ _ hI hn1 hn2)
   | false =>
    refine wpS_bind (wpS_revM hI fun st2 hI2=>?_)
    have hI:=hI2
    refine wpS_bind (wpS_lift (wpAny_rule ⟨rfl,?_⟩))
    refine wpS_bind (wpS_mono (wpS_forRange (a:=n + 1) (b:=nrem) (I:=fun x c st'=>ISt a0 p st'∧∃ q,c = (none,x,q)) (Q:=fun c st'=>ISt a0 p st'∧∃ m q,n + 1 ≤ m∧m ≤ nrem∧c = (none,m,q)) ?_ ?_ ⟨hI,0,rfl⟩) ?_)
    ·rintro x c st3 hx1 hx2 ⟨hI3,q,rfl⟩
     refine wpS_bind (wpS_ltAtM hA hI3 (show lo + x < a0.size by omega) (show lo + x - 1 < a0.size by omega) fun b=>?_)
     cases b with
     | true =>
      show wpS _ _ _ _ (if q > 0 then _ else _) _ _
      split
      ·exact wpS_bind (wpS_revM hI3 fun st4 hI4=>wpS_pure ⟨hI4,0,rfl⟩)
      ·exact wpS_pure ⟨hI3,0,rfl⟩
     | false =>
      refine wpS_bind (wpS_ltAtM hA hI3 (show lo + x - 1 < a0.size by omega) (show lo + x < a0.size by omega) fun b=>?_)
      cases b with
      | true=>exact wpS_pure ⟨hI3,x,q,by omega,by omega,rfl⟩
      | false=>exact wpS_pure ⟨hI3,q + 1,rfl⟩
    ·rintro c st3 ⟨hI3,q,rfl⟩
     exact ⟨hI3,_,q,by omega,by omega,rfl⟩
    ·rintro c st3 ⟨hI3,m,q,hm1,hm2,rfl⟩
     have asc:∀ st4,ISt a0 p st4→∀ (f:Nat→Option (Option Nat) × Nat→StateT SortSt Sem (ForInStep (Option (Option Nat) × Nat))) (g:Option (Option Nat) × Nat→StateT SortSt Sem (Option Nat)),
       (∀ x (R:ForInStep (Option (Option Nat) × Nat)→SortSt→Prop),m ≤ x→x < nrem→R (.done (none,x)) st4→R (.yield (none,x + 1)) st4→wpS (model prog w) A E s (f x (none,x)) R st4)→(∀ x,g (none,x) = pure (some x)) →
       wpS (model prog w) A E s (forIn [m:nrem] (none,m) f >>= g) Q st4:=by
      intro st4 hI4 f g hf hg
      refine wpS_bind (wpS_mono (wpS_forRange (a:=m) (b:=nrem) (I:=fun x c st'=>st' = st4∧c = (none,x)) (Q:=fun c st'=>st' = st4∧∃ x,1 ≤ x∧x ≤ nrem∧c = (none,x)) ?_ ?_ ⟨rfl,rfl⟩) ?_)
      ·rintro x c st5 hx1 hx2 ⟨rfl,rfl⟩
       exact hf x _ hx1 hx2 ⟨rfl,x,by omega,by omega,rfl⟩ ⟨rfl,rfl⟩
      ·rintro c st5 ⟨rfl,rfl⟩
       exact ⟨rfl,_,by omega,by omega,rfl⟩
      ·rintro c st5 ⟨rfl,x,hx1,hx2,rfl⟩
       rw [hg]
       exact wpS_pure (h _ _ hI4 hx1 hx2)
     show wpS _ _ _ _ (if q > 0 then _ else _) _ _
     split
     ·refine wpS_bind (wpS_revM hI3 fun st4 hI4=>wpS_bind (wpS_revM hI4 fun st5 hI5=>?_))
      refine asc st5 hI5 _ _ (fun x R hx1 hx2 r1 r2=>?_) fun _=>rfl
      refine wpS_bind (wpS_ltAtM hA hI5 (show lo + x < a0.size by omega) (show lo + x - 1 < a0.size by omega) fun b=>?_)
      cases b with
      | true=>exact wpS_pure r1
      | false=>exact wpS_pure r2
     ·refine wpS_bind (wpS_revM hI3 fun st5 hI5=>?_)
      refine asc st5 hI5 _ _ (fun x R hx1 hx2 r1 r2=>?_) fun _=>rfl
      refine wpS_bind (wpS_ltAtM hA hI5 (show lo + x < a0.size by omega) (show lo + x - 1 < a0.size by omega) fun b=>?_)
      cases b with
      | true=>exact wpS_pure r1
      | false=>exact wpS_pure r2
  ·skip
   refine wpS_bind (wpS_lift (wpAny_rule ⟨rfl,?_⟩))
   refine wpS_bind (wpS_mono (wpS_forRange (a:=n + 1) (b:=nrem) (I:=fun x c st'=>ISt a0 p st'∧∃ q,c = (none,x,q)) (Q:=fun c st'=>ISt a0 p st'∧∃ m q,n + 1 ≤ m∧m ≤ nrem∧c = (none,m,q)) ?_ ?_ ⟨hI,0,rfl⟩) ?_)
   ·rintro x c st3 hx1 hx2 ⟨hI3,q,rfl⟩
    refine wpS_bind (wpS_ltAtM hA hI3 (show lo + x < a0.size by omega) (show lo + x - 1 < a0.size by omega) fun b=>?_)
    cases b with
    | true =>
     show wpS _ _ _ _ (if q > 0 then _ else _) _ _
     split
     ·exact wpS_bind (wpS_revM hI3 fun st4 hI4=>wpS_pure ⟨hI4,0,rfl⟩)
     ·exact wpS_pure ⟨hI3,0,rfl⟩
    | false =>
     refine wpS_bind (wpS_ltAtM hA hI3 (show lo + x - 1 < a0.size by omega) (show lo + x < a0.size by omega) fun b=>?_)
     cases b with
     | true=>exact wpS_pure ⟨hI3,x,q,by omega,by omega,rfl⟩
     | false=>exact wpS_pure ⟨hI3,q + 1,rfl⟩
   ·rintro c st3 ⟨hI3,q,rfl⟩
    exact ⟨hI3,_,q,by omega,by omega,rfl⟩
   ·rintro c st3 ⟨hI3,m,q,hm1,hm2,rfl⟩
    have asc:∀ st4,ISt a0 p st4→∀ (f:Nat→Option (Option Nat) × Nat→StateT SortSt Sem (ForInStep (Option (Option Nat) × Nat))) (g:Option (Option Nat) × Nat→StateT SortSt Sem (Option Nat)),
      (∀ x (R:ForInStep (Option (Option Nat) × Nat)→SortSt→Prop),m ≤ x→x < nrem→R (.done (none,x)) st4→R (.yield (none,x + 1)) st4→wpS (model prog w) A E s (f x (none,x)) R st4)→(∀ x,g (none,x) = pure (some x)) →
      wpS (model prog w) A E s (forIn [m:nrem] (none,m) f >>= g) Q st4:=by
     intro st4 hI4 f g hf hg
     refine wpS_bind (wpS_mono (wpS_forRange (a:=m) (b:=nrem) (I:=fun x c st'=>st' = st4∧c = (none,x)) (Q:=fun c st'=>st' = st4∧∃ x,1 ≤ x∧x ≤ nrem∧c = (none,x)) ?_ ?_ ⟨rfl,rfl⟩) ?_)
     ·rintro x c st5 hx1 hx2 ⟨rfl,rfl⟩
      exact hf x _ hx1 hx2 ⟨rfl,x,by omega,by omega,rfl⟩ ⟨rfl,rfl⟩
     ·rintro c st5 ⟨rfl,rfl⟩
      exact ⟨rfl,_,by omega,by omega,rfl⟩
     ·rintro c st5 ⟨rfl,x,hx1,hx2,rfl⟩
      rw [hg]
      exact wpS_pure (h _ _ hI4 hx1 hx2)
    show wpS _ _ _ _ (if q > 0 then _ else _) _ _
    split
    ·refine wpS_bind (wpS_revM hI3 fun st4 hI4=>wpS_bind (wpS_revM hI4 fun st5 hI5=>?_))
     refine asc st5 hI5 _ _ (fun x R hx1 hx2 r1 r2=>?_) fun _=>rfl
     refine wpS_bind (wpS_ltAtM hA hI5 (show lo + x < a0.size by omega) (show lo + x - 1 < a0.size by omega) fun b=>?_)
     cases b with
     | true=>exact wpS_pure r1
     | false=>exact wpS_pure r2
    ·refine wpS_bind (wpS_revM hI3 fun st5 hI5=>?_)
     refine asc st5 hI5 _ _ (fun x R hx1 hx2 r1 r2=>?_) fun _=>rfl
     refine wpS_bind (wpS_ltAtM hA hI5 (show lo + x < a0.size by omega) (show lo + x - 1 < a0.size by omega) fun b=>?_)
     cases b with
     | true=>exact wpS_pure r1
     | false=>exact wpS_pure r2
theorem wpS_binM {st:SortSt} {a0:Array Keyed} {p:Array (Nat × Nat × Nat)} {lo n ok:Nat} {Q:Bool→SortSt→Prop} (hA:IntA a0) (hI:ISt a0 p st) (hn:lo + n ≤ a0.size) (h:∀ st',ISt a0 p st'→Q true st') :
  wpS (model prog w) A E s (binarySort' lo n ok) Q st:=by
 unfold binarySort'
 refine wpS_bind (wpS_mono (wpS_forRange (I:=fun _ c st'=>c = (none,())∧ISt a0 p st') (Q:=fun c st'=>c = (none,())∧ISt a0 p st') ?_ (fun _ _ z=>z) ⟨rfl,hI⟩) ?_)
 ·rintro k c st' hk1 hk2 ⟨rfl,hI'⟩
  refine wpS_bind (wpS_mono (wpS_forRange (I:=fun x c st''=>st'' = st'∧∃ l r,c = (none,l,r)∧l ≤ k∧r ≤ k) (Q:=fun c st''=>st'' = st'∧∃ l r,c = (none,l,r)) ?_ (fun _ _ ⟨z,l,r,e,_⟩=>⟨z,l,r,e⟩) ⟨rfl,0,k,rfl,by omega,by omega⟩) ?_)
  ·rintro x c st'' _ _ ⟨rfl,l,r,rfl,hl,hr⟩
   show wpS _ _ _ _ (if l ≥ r then _ else _) _ _
   split
   ·exact wpS_pure ⟨rfl,l,r,rfl⟩
   ·refine wpS_bind (wpS_ltAtM hA hI' (show lo + k < a0.size by omega) (show lo + (l + r) / 2 < a0.size by omega) fun b=>?_)
    cases b with
    | true=>exact wpS_pure ⟨rfl,l,(l + r) / 2,rfl,by omega,by omega⟩
    | false=>exact wpS_pure ⟨rfl,(l + r) / 2 + 1,r,rfl,by omega,by omega⟩
  ·rintro c st'' ⟨rfl,l,r,rfl⟩
   show wpS _ _ _ _ (moveDown' (lo + k) (lo + l) >>= _) _ _
   rw [moveDown'_eq]
   exact wpS_bind (wpS_modify (wpS_pure ⟨rfl,hI'.arr (bubble_perm _ _ _)⟩))
 ·rintro c st' ⟨rfl,hI'⟩
  exact wpS_pure (h _ hI')
theorem minRun_two {n:Nat} (h1:64 ≤ n) (h2:n < 128):minRun' n n 0 = n / 2 + n % 2:=by
 obtain ⟨f,hf⟩:∃ f,n = f + 2:=⟨n - 2,by omega⟩
 have:minRun' (f + 2) n 0 = n / 2 + n % 2:=by
  rw [minRun'_succ,if_neg (by omega),minRun'_succ,if_pos (by omega)]
  have:max 0 (n % 2) = n % 2:=by omega
  rw [this]
 rwa [← hf] at this
def TwoR (a0:Array Keyed) (st:SortSt):Prop:=∃ n1 n2 pw,0 < n1∧0 < n2∧n1 + n2 = a0.size∧ISt a0 #[(0,n1,pw),(n1,n2,0)] st
def OneR (a0:Array Keyed) (st:SortSt):Prop:=∃ pw,ISt a0 #[(0,a0.size,pw)] st
theorem wpS_sortRunsM {st:SortSt} {a0:Array Keyed} {Q:Unit→SortSt→Prop} (hA:IntA a0) (hI:ISt a0 #[] st) (h64:64 ≤ a0.size) (h128:a0.size < 128) (h:∀ st',(arrOf st').Perm a0→failedOf st' = none→Q () st') :
  wpS (model prog w) A E s sortRuns' Q st:=by
 rw [sortRuns'_eq]
 refine wpS_bind (wpS_get ?_)
 dsimp only
 have hsz:(arrOf st).size = a0.size:=hI.1.size_eq
 simp only [hsz,minRun_two h64 h128]
 generalize hM:a0.size / 2 + a0.size % 2 = M
 refine wpS_bind (wpS_mono (wpS_forRange
  (I:=fun x c st'=>(x = 0∧c = (none,0)∧ISt a0 #[] st') ∨ (x = 1∧∃ n1,c = (none,n1)∧0 < n1∧n1 < a0.size∧M ≤ n1∧ISt a0 #[(0,n1,0)] st') ∨ (1 ≤ x∧c = (none,a0.size)∧(TwoR a0 st' ∨ OneR a0 st')))
  (Q:=fun c st'=>c = (none,a0.size)∧(TwoR a0 st' ∨ OneR a0 st')) ?step ?fin (.inl ⟨rfl,rfl,hI⟩)) ?post)
 case fin =>
  rintro c st' (⟨hx,_,_⟩ | ⟨hx,_⟩ | ⟨_,hc,hD⟩)
  ·omega
  ·omega
  ·exact ⟨hc,hD⟩
 case step =>
  rintro x c st' _ hx (⟨rfl,rfl,hB'⟩ | ⟨rfl,n1,rfl,hn1,hn1s,hMn,hB'⟩ | ⟨hx1,rfl,hD⟩)
  ·dsimp only
   rw [if_neg (by omega)]
   simp only [Nat.sub_zero,Nat.zero_add]
   refine wpS_bind (wpS_countRunM hA hB' (by omega) (by omega) fun m st2 hB2 hm1 hm2=>?_)
   dsimp only
   have done:∀ st3 n,0 < n→n ≤ a0.size→M ≤ n→ISt a0 #[] st3→ISt a0 #[(0,n,0)] (setPending st3 ((pendingOf st3).push (0,n,0))):=fun st3 n _ _ _ hI3=>⟨hI3.1,hI3.2.1,hI3.2.2.1,by show (pendingOf st3).push _ = _; rw [hI3.2.2.2]; rfl⟩
   by_cases hlt:m < M
   ·rw [if_pos hlt]
    refine wpS_bind (wpS_lift (wpAny_rule ⟨rfl,?_⟩))
    refine wpS_bind (wpS_binM hA hB2 (by omega) fun st3 hB3=>?_)
    simp only [Bool.not_true,Bool.false_eq_true,if_false]
    refine wpS_bind (wpS_get ?_)
    have hb:(pendingOf st3).back? = none:=by rw [hB3.2.2.2]; rfl
    rw [hb]
    dsimp only
    rw [show min a0.size M = M by omega]
    exact wpS_bind (wpS_modify (wpS_pure (.inr (.inl ⟨trivial,M,rfl,by omega,by omega,by omega,done _ _ (by omega) (by omega) (by omega) hB3⟩))))
   ·rw [if_neg hlt]
    refine wpS_bind (wpS_get ?_)
    have hb:(pendingOf st2).back? = none:=by rw [hB2.2.2.2]; rfl
    rw [hb]
    dsimp only
    have hd:=done st2 m (by omega) (by omega) (by omega) hB2
    by_cases e:m = a0.size
    ·subst e
     exact wpS_bind (wpS_modify (wpS_pure (.inr (.inr ⟨Nat.le_refl _,rfl,.inr ⟨0,hd⟩⟩))))
    ·exact wpS_bind (wpS_modify (wpS_pure (.inr (.inl ⟨trivial,m,rfl,by omega,by omega,by omega,hd⟩))))
  ·dsimp only
   rw [if_neg (by omega)]
   refine wpS_bind (wpS_countRunM hA hB' (by omega) (by omega) fun m st2 hB2 hm1 hm2=>?_)
   dsimp only
   have hlen:∀ n,n ≤ a0.size - n1→¬ n < M→n = a0.size - n1:=fun n _ _=>by omega
   by_cases hlt:m < M
   ·rw [if_pos hlt]
    refine wpS_bind (wpS_lift (wpAny_rule ⟨rfl,?_⟩))
    refine wpS_bind (wpS_binM hA hB2 (by omega) fun st3 hB3=>?_)
    simp only [Bool.not_true,Bool.false_eq_true,if_false]
    have hb:(pendingOf st3).back? = some (0,n1,0):=by rw [hB3.2.2.2]; rfl
    refine wpS_bind (wpS_get ?_)
    rw [hb]
    dsimp only
    refine wpS_bind (wpS_mono (wpS_forRange (I:=fun _ c st''=>st'' = st3∧c = (none,())) (Q:=fun c st''=>st'' = st3∧c = (none,())) ?_ (fun _ _ hh=>hh) ⟨rfl,rfl⟩) ?_)
    ·rintro x c st'' _ _ ⟨rfl,rfl⟩
     refine wpS_bind (wpS_get ?_)
     rw [if_neg (by rw [hB3.2.2.2]; show ¬ (1 > 1); omega)]
     exact wpS_pure ⟨rfl,rfl⟩
    ·rintro c st'' ⟨rfl,rfl⟩
     dsimp only
     refine wpS_bind (wpS_modify (wpS_bind (wpS_modify (wpS_pure (.inr (.inr ⟨by omega,by rw [show n1 + min (a0.size - n1) M = a0.size by omega],.inl ⟨n1,min (a0.size - n1) M,power' a0.size (2 * 0 + n1) (2 * 0 + n1 + n1 + min (a0.size - n1) M) a0.size,hn1,by omega,by omega,hB3.1,hB3.2.1,hB3.2.2.1,?_⟩⟩))))))
     show ((pendingOf st'').modify ((pendingOf st'').size - 1) _).push (n1,min (a0.size - n1) M,0) = _
     rw [hB3.2.2.2]
     rfl
   ·rw [if_neg hlt]
    have hb:(pendingOf st2).back? = some (0,n1,0):=by rw [hB2.2.2.2]; rfl
    refine wpS_bind (wpS_get ?_)
    rw [hb]
    dsimp only
    refine wpS_bind (wpS_mono (wpS_forRange (I:=fun _ c st''=>st'' = st2∧c = (none,())) (Q:=fun c st''=>st'' = st2∧c = (none,())) ?_ (fun _ _ hh=>hh) ⟨rfl,rfl⟩) ?_)
    ·rintro x c st'' _ _ ⟨rfl,rfl⟩
     refine wpS_bind (wpS_get ?_)
     rw [if_neg (by rw [hB2.2.2.2]; show ¬ (1 > 1); omega)]
     exact wpS_pure ⟨rfl,rfl⟩
    ·rintro c st'' ⟨rfl,rfl⟩
     dsimp only
     refine wpS_bind (wpS_modify (wpS_bind (wpS_modify (wpS_pure (.inr (.inr ⟨by omega,by rw [show n1 + m = a0.size by omega],.inl ⟨n1,m,power' a0.size (2 * 0 + n1) (2 * 0 + n1 + n1 + m) a0.size,hn1,by omega,by omega,hB2.1,hB2.2.1,hB2.2.2.1,?_⟩⟩))))))
     show ((pendingOf st'').modify ((pendingOf st'').size - 1) _).push (n1,m,0) = _
     rw [hB2.2.2.2]
     rfl
  ·dsimp only
   rw [if_pos (Nat.le_refl _)]
   exact wpS_pure ⟨rfl,hD⟩
 case post =>
  rintro c st' ⟨rfl,hD⟩
  dsimp only
  refine wpS_bind (wpS_mono (wpS_forRange (I:=fun x c st''=>c = (none,())∧((x = 0∧TwoR a0 st'') ∨ OneR a0 st'')) (Q:=fun c st''=>c = (none,())∧OneR a0 st'') ?_ ?_ ⟨rfl,hD.imp (fun z=>⟨rfl,z⟩) id⟩) ?_)
  ·rintro x c st'' _ _ ⟨rfl,(⟨rfl,n1,n2,pw,h1,h2,hn,hT⟩ | ⟨pw,hO⟩)⟩
   ·refine wpS_bind (wpS_get ?_)
    rw [if_neg (by rw [hT.2.2.2]; show ¬ (2 ≤ 1); omega)]
    have hs2:(pendingOf st'').size = 2:=by rw [hT.2.2.2]; rfl
    simp only [hs2]
    refine wpS_bind (wpS_mergeAt hA hT h1 h2 (by omega) fun st3 h3=>?_)
    rw [hn] at h3
    exact wpS_pure ⟨rfl,.inr ⟨pw,h3⟩⟩
   ·refine wpS_bind (wpS_get ?_)
    rw [if_pos (by rw [hO.2.2.2]; show 1 ≤ 1; omega)]
    exact wpS_pure ⟨rfl,pw,hO⟩
  ·rintro c st'' ⟨hc,(⟨hx,_⟩ | hO)⟩
   ·omega
   ·exact ⟨hc,hO⟩
  ·rintro c st'' ⟨rfl,pw,hO⟩
   exact wpS_pure (h _ hO.1 hO.2.2.1)
end
end L2
set_option Elab.async false
set_option linter.all false
set_option maxRecDepth 100000
set_option maxHeartbeats 2000000
namespace L2
open PySem PySem.Spec PyProof.Rows
open PySem.W (kla_obj kla_fn CodeHd tabObj envX)
section
variable {prog:Program} {w:World} {A:Around} {E:Value→Shared→Prop} {s:Shared}
theorem srt_tail {st:SortSt} {kS a:Addr} {b:Bool} {keys:Array Value} {e e1:Nat} {P:PySem.Fin→Shared→Prop} (hk:s.heap.get? kS = some (seqObj "list" keys e)) (ha:s.heap.get? a = some (seqObj "list" #[] e1)) (hka:kS ≠ a)
  (hz:keys.size ≤ 1000) (hz2:(arrOf st).size ≤ 1000) (hfl:failedOf st = none)
  (h:∀ h' c,(∀ x o,x ≠ kS→x ≠ a→s.heap.get? x = some o→h'.get? x = some o)→h'.get? a = some (seqObj "list" (if b then ((arrOf st).map (·.2)).reverse else (arrOf st).map (·.2)) c)→P (.done (.ret .none)) { s with heap:=h' }) :
  wpAny (model prog w) A (ksk_tail a b e1 (.ref kS) st) P E s:=by
 have hout:(if b then ((arrOf st).map (·.2)).reverse else (arrOf st).map (·.2)).size ≤ 1000:=by
  cases b with
  | false=>simp only [Bool.false_eq_true,if_false,Array.size_map]; exact hz2
  | true=>simp only [if_true,Array.size_reverse,Array.size_map]; exact hz2
 have s1:=Heap.SameBut.update s.heap kS (Obj.mapSeq fun _=>(#[]:Array Value))
 have na1:(s.heap.update kS (Obj.mapSeq fun _=>(#[]:Array Value))).get? a = some (seqObj "list" #[] e1):=(s1.2 a hka.symm).trans ha
 have s2:=Heap.SameBut.update (s.heap.update kS (Obj.mapSeq fun _=>(#[]:Array Value))) a (Obj.mapSeq fun _=>if b then ((arrOf st).map (·.2)).reverse else (arrOf st).map (·.2))
 have key:∀ out:Array Value,∃ c2,((s.heap.update kS (Obj.mapSeq fun _=>(#[]:Array Value))).update a (Obj.mapSeq fun _=>out)).get? a = some (seqObj "list" out c2):=fun out=>⟨_,get?_update_seq na1 fun _=>out⟩
 obtain ⟨c2,hc2⟩:=key (if b then ((arrOf st).map (·.2)).reverse else (arrOf st).map (·.2))
 unfold ksk_tail
 try dsimp only
 refine wpAny_bind (listUpdate_at hk rfl ?_ (by rw [sizeLine_eq]; omega) (Nat.zero_le _))
 refine wpAny_bind (wpAny_letGo ?_)
 refine wpAny_bind (seqEpoch_at na1 rfl ?_)
 refine wpAny_bind (listUpdate_at na1 rfl ?_ (Nat.zero_le _) (Nat.le_trans hout (by rw [sizeLine_eq]; omega)))
 rw [hfl]
 simp only [bne_self_eq_false,Bool.false_eq_true,if_false]
 exact wpAny_pure (h _ c2 (fun x o h1 h2 q=>(s2.2 x h2).trans ((s1.2 x h1).trans q)) hc2)
theorem srt_end {kS a:Addr} {b:Bool} {keys:Array Value} {vs:List Value} {kz:List Int} {e e1:Nat} {P:PySem.Fin→Shared→Prop} (hk0:s.heap.get? kS = some (seqObj "list" keys e)) (ha0:s.heap.get? a = some (seqObj "list" #[] e1)) (hka:kS ≠ a)
  (hk:IntsAre keys.toList kz) (hlen:kz.length = vs.length) (h64:vs.length < 128)
  (h:∀ h' out c,(∀ x o,x ≠ kS→x ≠ a→s.heap.get? x = some o→h'.get? x = some o)→h'.get? a = some (seqObj "list" out c)→out.toList.Perm vs→P (.done (.ret .none)) { s with heap:=h' }) :
  wpAny (model prog w) A (ksk_end a b vs.toArray e1 (.ref kS) keys) P E s:=by
 have hsz:keys.size = vs.length:=by
  have h1:=hk.length
  rw [Array.length_toList] at h1
  omega
 have hzs:(keys.zip vs.toArray).size = vs.length:=by rw [Array.size_zip,hsz,List.size_toArray,Nat.min_self]
 have step:∀ t:Sem PySem.Fin,wpAny (model prog w) A t P E s→wpAny (model prog w) A (if b = true then (do let _ ← rule "list.sort.reverse"; t) else t) P E s:=by
  intro t ht
  split
  ·exact wpAny_bind (wpAny_rule ht)
  ·exact ht
 have hstart:(if b = true then (keys.zip vs.toArray).reverse else keys.zip vs.toArray).Perm (keys.zip vs.toArray):=by
  cases b with
  | false=>exact Array.Perm.refl _
  | true=>exact Array.perm_iff_toList_perm.mpr (by rw [if_pos rfl,Array.toList_reverse]; exact List.reverse_perm _)
 have hzl:((keys.zip vs.toArray).map (·.2)).toList = vs:=by
  rw [Array.toList_map,Array.toList_zip]
  exact List.map_snd_zip (by show vs.toArray.size ≤ keys.size; rw [hsz,List.size_toArray]; exact Nat.le_refl _)
 have fin:∀ (st:SortSt),(arrOf st).Perm (keys.zip vs.toArray)→failedOf st = none→wpAny (model prog w) A (ksk_tail a b e1 (.ref kS) st) P E s:=fun st hp hf =>
  srt_tail hk0 ha0 hka (by omega) (by rw [hp.size_eq,hzs]; omega) hf fun h' c kp ha'=>h h' _ c kp ha' (by
   have p1:((arrOf st).map (·.2)).toList.Perm vs:=by
    have:=(Array.perm_iff_toList_perm.mp hp).map Prod.snd
    rw [← Array.toList_map,← Array.toList_map,hzl] at this
    exact this
   cases b with
   | false=>exact p1
   | true=>rw [if_pos rfl,Array.toList_reverse]; exact (List.reverse_perm _).trans p1)
 unfold ksk_end
 try dsimp only
 refine step _ ?_
 by_cases h2:vs.toArray.size < 2
 ·rw [if_pos h2,if_pos h2]
  refine wpAny_bind (wpAny_pure ?_)
  rw [StateT.run_pure]
  refine wpAny_bind (wpAny_pure ?_)
  try dsimp only
  exact fin (SortSt.mk' general' (if b = true then (keys.zip vs.toArray).reverse else keys.zip vs.toArray) #[] 7 none) hstart rfl
 ·rw [if_neg h2,if_neg h2]
  rw [List.size_toArray] at h2
  rw [ksk_kind hk (by rw [hsz]; omega)]
  refine wpAny_bind (wpAny_pure ?_)
  refine wpAny_bind (wpAny_mono (show wpS (model prog w) A E s sortRuns' (fun _ st'=>(arrOf st').Perm (keys.zip vs.toArray)∧failedOf st' = none) (SortSt.mk' oneType' (if b = true then (keys.zip vs.toArray).reverse else keys.zip vs.toArray) #[] 7 none) from ?_) ?_ fun _ _ e=>e)
  ·have hi:=ksk_intKeys (vs:=vs) hk
   by_cases h3:vs.length < 64
   ·exact wpS_sortRuns (a₀:=keys.zip vs.toArray) hi ⟨hstart,rfl,rfl,rfl⟩ (by rw [hzs]; omega) (by rw [hzs]; exact h3) fun st' a1 a2 a3=>⟨a1,a2⟩
   ·exact wpS_sortRunsM (a0:=keys.zip vs.toArray) (fun i hi'=>hi _ (by rw [← Array.getElem_toList]; exact List.getElem_mem _)) ⟨hstart,rfl,rfl,rfl⟩ (by rw [hzs]; omega) (by rw [hzs]; exact h64) fun st' a1 a2=>⟨a1,a2⟩
  rintro ⟨⟨⟩,st'⟩ s' ⟨rfl,hp,hf⟩
  try dsimp only
  exact fin st' hp hf
end
section
variable {X:Cx} {pins:List (Addr × Obj)} {σ:St} {H:Hp} {s:Shared} {A:Around} {E:Value→Shared→Prop}
theorem Inv.repin {pl pl':List (Addr × Obj)} {k:Addr} {h':Heap} {t':Nat} (I:Inv X (pins ++ pl) σ H s) (f:FpOk X pins H k) (keep:∀ b o,b ≠ k→s.heap.get? b = some o→h'.get? b = some o)
  (hp:∀ p ∈ pl',h'.get? p.1 = some p.2∧FpOk X pins H p.1∧∀ v,p.2.data ≠ .cell v):Inv X (pins ++ pl') σ H { s with heap:=h',toks:=t' }:=by
 have I1:Inv X pins σ H { s with heap:=h',toks:=t' }:=I.unpinned.turned keep f.1 f.2.1 f.2.2.2.1 f.2.2.2.2.1 f.2.2.2.2.2
 refine I1.pins_of fun p hpm=>?_
 rcases List.mem_append.mp hpm with z | z
 ·exact I1.pin p (List.mem_append_right _ z)
 ·obtain ⟨a,b,c⟩:=hp p z
  exact ⟨a,b.1,b.2.1,b.2.2.1,c⟩
theorem srt_rest {f:Value} {b:Bool} {vs:List Value} {kS a:Addr} {e1:Nat} {P:PySem.Fin→Shared→Prop} (I:Inv X (pins ++ [(kS,seqObj "list" #[] 0),(a,seqObj "list" #[] e1)]) σ H s) (hka:kS ≠ a) (fk:FpOk X pins H kS) (fa:FpOk X pins H a) (h64:vs.length < 128)
  (turn:∀ v ∈ vs,∀ (pl:List (Addr × Obj)) (s':Shared),Inv X (pins ++ pl) σ H s'→wpAny (model X.prog X.w) A (call f [v]) (fun r s''=>(∃ k t,r = .int k t)∧Inv X (pins ++ pl) σ H s'') (fun _ _=>False) s')
  (h:∀ s' out c,Inv X (pins ++ [(a,seqObj "list" out c)]) σ H s'→out.toList.Perm vs→P (.done (.ret .none)) s') :
  wpAny (model X.prog X.w) A (ksk_rest a f b vs.toArray e1 (.ref kS)) P E s:=by
 unfold ksk_rest
 refine wpAny_bind (wpAny_rule ?_)
 first
  | rw [List.forIn_toArray]
  | (rw [← Array.forIn_toList]; simp only [List.toList_toArray])
  | rw [← Array.forIn_toList]
 refine wpAny_bind (ksk_fold (fun i s'=>∃ kA e kz,Inv X (pins ++ [(kS,seqObj "list" kA e),(a,seqObj "list" #[] e1)]) σ H s'∧IntsAre kA.toList kz∧kz.length = i) vs 0 s
  ⟨#[],0,[],I,by simpa using IntsAre.nil,rfl⟩ ?step ?done)
 case step =>
  rintro j x s' hx ⟨kA,e,kz,I',hk,hl⟩
  simp only [Nat.zero_add] at hl ⊢
  have hj:j < vs.length:=(List.getElem?_eq_some_iff.mp hx).1
  have hz:kA.size ≤ vs.length:=by
   have h1:=hk.length
   rw [Array.length_toList] at h1
   omega
  refine wpAny_bind (wpAny_attempt (wpAny_mono (turn x (List.mem_of_getElem? hx) _ s' I') (fun v s'' he=>?_) fun _ _ hF=>hF.elim))
  obtain ⟨⟨k,t2,rfl⟩,I2⟩:=he
  try dsimp only
  have nk:=(I2.pin (kS,seqObj "list" kA e) (List.mem_append_right _ (List.mem_append_right _ (.head _)))).1
  have na:=(I2.pin (a,seqObj "list" #[] e1) (List.mem_append_right _ (List.mem_append_right _ (.tail _ (.head _))))).1
  have s1:=Heap.SameBut.update s''.heap kS (Obj.mapSeq (·.push (.int k t2)))
  obtain ⟨c2,hc2⟩:∃ c2,(s''.heap.update kS (Obj.mapSeq (·.push (.int k t2)))).get? kS = some (seqObj "list" (kA.push (.int k t2)) c2):=⟨_,get?_update_seq nk (·.push (.int k t2))⟩
  have ea:(kA.push (Value.int k t2)).toList = kA.toList ++ [Value.int k t2]:=by simp
  refine wpAny_bind (listUpdate_at nk rfl ?_ (by rw [sizeLine_eq]; omega) (Nat.le_trans (Nat.le_of_eq (Array.size_push ..)) (by rw [sizeLine_eq]; omega)))
  refine wpAny_pure ⟨rfl,kA.push (.int k t2),c2,kz ++ [k],I2.repin (t':=s''.toks) fk (fun b o hb q=>(s1.2 b hb).trans q) (fun p hp=>?_),by rw [ea]; exact ksk_snoc hk,by rw [List.length_append,hl]; rfl⟩
  rcases List.mem_cons.mp hp with rfl | hp
  ·exact ⟨hc2,fk,fun v z=>by cases z⟩
  ·have:p = (a,seqObj "list" #[] e1):=by simpa using hp
   subst this
   exact ⟨(s1.2 a hka.symm).trans na,fa,fun v z=>by cases z⟩
 case done =>
  rintro s' ⟨kA,e,kz,I',hk,hl⟩
  have nk:=(I'.pin (kS,seqObj "list" kA e) (List.mem_append_right _ (List.mem_append_right _ (.head _)))).1
  have na:=(I'.pin (a,seqObj "list" #[] e1) (List.mem_append_right _ (List.mem_append_right _ (.tail _ (.head _))))).1
  try dsimp only
  refine wpAny_bind (listItems_at nk rfl ?_)
  refine srt_end nk na hka hk (by omega) h64 fun h' out c kp ha' hp=>?_
  have I1:Inv X pins σ H { s' with heap:=h' }:=I'.unpinned.turnedL (t':=s'.toks) (its:=[kS,a]) (fun x o hx q=>kp x o (fun z=>hx (by simp [z])) (fun z=>hx (by simp [z])) q) fun x hx=>by
   rcases List.mem_cons.mp hx with rfl | hx
   ·exact fk
   ·have:x = a:=by simpa using hx
    subst this; exact fa
  refine h _ out c (I1.pins_of fun p hpm=>?_) hp
  rcases List.mem_append.mp hpm with z | z
  ·exact I1.pin p (List.mem_append_right _ z)
  ·have:p = (a,seqObj "list" out c):=by simpa using z
   subst this
   exact ⟨ha',fa.1,fa.2.1,fa.2.2.1,fun v z=>by cases z⟩
theorem sorted_key {l:Addr} {ns:List Int} {f:Value} {b:Bool} {kw:List (Str × Value)} {Q:Value→Shared→Prop} (I:Inv X pins σ H s) (hq:SqL X.K H l (ns.map V.int)) (h64:ns.length < 128)
  (ha1:argsOk "sorted" ⟨[.ref l],kw⟩) (ha2:∀ x,argsOk "list.sort" ⟨[.ref x],kw⟩) (ht:∀ x,Builtin.«list.sort» ⟨[.ref x],kw⟩ = ksk_tree x f b)
  (turn:∀ n t,n ∈ ns→∀ (pl:List (Addr × Obj)) (s':Shared),Inv X (pins ++ pl) σ H s'→wpAny (model X.prog X.w) X.A.in1.in1 (call f [.int n t]) (fun r s''=>(∃ k t,r = .int k t)∧Inv X (pins ++ pl) σ H s'') (fun _ _=>False) s')
  (h:∀ (D:Addr) (ms:List Int) s',ms.Perm ns→H D = none→Inv X pins σ (upd H D (.lst (ms.map V.int))) s'→Q (.ref D) s') :
  wpAny (model X.prog X.w) X.A (call (.builtin "sorted") [.ref l] kw) Q E s:=by
 obtain ⟨vs,r',pl0,hz⟩:=I.list hq
 have hi:IntsAre vs ns:=intsAre_of r'
 have hl:=pl0.isList
 have hlen:=hi.length
 refine call_function_entry_kw kind_sorted plain_sorted entry_sorted ha1 ?_
 unfold Builtin.«sorted»
 refine wpAny_bind (m:=checkCount "sorted" 1 1 _) (wpAny_pure ?_)
 refine wpAny_bind (collect_list hl ?_ (by rw [sizeLine_eq]; omega))
 refine wpAny_bind (wpAny_newList ?_ (by rw [sizeLine_eq]; omega))
 have hsz:((s.heap.push (seqObj "list" #[] 0)).update s.heap.objs.size (Obj.mapSeq (· ++ vs.toArray))).objs.size = s.heap.objs.size + 1:=by
  rw [Heap.size_update,size_push']
 have hoL:(((s.heap.push (seqObj "list" #[] 0)).update s.heap.objs.size (Obj.mapSeq (· ++ vs.toArray))).push (seqObj "list" vs.toArray 0)).get? (s.heap.objs.size + 1) = some (seqObj "list" vs.toArray 0):=by
  rw [← hsz]; exact Heap.get?_push_size _ rfl
 have keep:∀ b o,s.heap.get? b = some o→(((s.heap.push (seqObj "list" #[] 0)).update s.heap.objs.size (Obj.mapSeq (· ++ vs.toArray))).push (seqObj "list" vs.toArray 0)).get? b = some o:=fun b o q=>by
  have hlt:b < s.heap.objs.size:=Heap.lt_size q
  rw [Heap.get?_push_ne _ _ _ (by rw [hsz]; exact Nat.ne_of_lt (Nat.lt_succ_of_lt hlt)),Heap.get?_update_ne _ _ _ _ (Nat.ne_of_lt hlt),Heap.get?_push_ne _ _ _ (Nat.ne_of_lt hlt)]
  exact q
 have hsz2:(((s.heap.push (seqObj "list" #[] 0)).update s.heap.objs.size (Obj.mapSeq (· ++ vs.toArray))).push (seqObj "list" vs.toArray 0)).objs.size = s.heap.objs.size + 2:=by rw [size_push',hsz]
 show wpAny _ _ _ _ _ { s with heap:=((s.heap.push (seqObj "list" #[] 0)).update s.heap.objs.size (Obj.mapSeq (· ++ vs.toArray))).push (seqObj "list" vs.toArray 0) }
 rw [hsz]
 generalize ((s.heap.push (seqObj "list" #[] 0)).update s.heap.objs.size (Obj.mapSeq (· ++ vs.toArray))).push (seqObj "list" vs.toArray 0) = G at hoL keep hsz2 ⊢
 refine wpAny_bind (wpAny_holding (wpAny_call_entry_kw slot_list_sort ⟨_,hoL,rfl⟩ entry_list_sort ?body (ha2 _)))
 case body =>
  have ht':=ht (s.heap.objs.size + 1)
  show wpAny (model X.prog X.w) X.A.in1.in1 (Builtin.«list.sort» ⟨[.ref (s.heap.objs.size + 1)],kw⟩) _ _ _
  rw [ht']
  have s1:=Heap.SameBut.update G (s.heap.objs.size + 1) (Obj.mapSeq fun _=>(#[]:Array Value))
  obtain ⟨e1,ho1⟩:∃ e1,(G.update (s.heap.objs.size + 1) (Obj.mapSeq fun _=>(#[]:Array Value))).get? (s.heap.objs.size + 1) = some (seqObj "list" #[] e1):=⟨_,get?_update_seq hoL fun _=>#[]⟩
  unfold ksk_tree
  refine wpAny_bind (listItems_at hoL rfl ?_)
  refine wpAny_bind (listUpdate_at hoL rfl ?_ (by rw [List.size_toArray,sizeLine_eq]; omega) (Nat.zero_le _))
  refine wpAny_bind (seqEpoch_at ho1 rfl ?_)
  refine wpAny_bind (wpAny_newTuple ?_ (by show vs.length ≤ _; rw [sizeLine_eq]; omega))
  refine wpAny_bind (wpAny_newList ?_ (Nat.zero_le _))
  refine wpAny_holding ?_
  have hkS:((G.update (s.heap.objs.size + 1) (Obj.mapSeq fun _=>(#[]:Array Value))).push (seqObj "tuple" vs.toArray 0)).objs.size = s.heap.objs.size + 3:=by rw [size_push',Heap.size_update,hsz2]
  have keep2:∀ b o,s.heap.get? b = some o→(((G.update (s.heap.objs.size + 1) (Obj.mapSeq fun _=>(#[]:Array Value))).push (seqObj "tuple" vs.toArray 0)).push (seqObj "list" #[] 0)).get? b = some o:=fun b o q =>
   Heap.get?_push_of_some _ (Heap.get?_push_of_some _ ((s1.2 b (Nat.ne_of_lt (Nat.lt_succ_of_lt (Heap.lt_size q)))).trans (keep b o q)))
  have g1:(((G.update (s.heap.objs.size + 1) (Obj.mapSeq fun _=>(#[]:Array Value))).push (seqObj "tuple" vs.toArray 0)).push (seqObj "list" #[] 0)).get? (s.heap.objs.size + 3) = some (seqObj "list" #[] 0):=by
   rw [← hkS]; exact Heap.get?_push_size _ rfl
  have g2:(((G.update (s.heap.objs.size + 1) (Obj.mapSeq fun _=>(#[]:Array Value))).push (seqObj "tuple" vs.toArray 0)).push (seqObj "list" #[] 0)).get? (s.heap.objs.size + 1) = some (seqObj "list" #[] e1) :=
   Heap.get?_push_of_some _ (Heap.get?_push_of_some _ ho1)
  have fa:FpOk X pins H (s.heap.objs.size + 1):=I.fpOk (Nat.le_succ _) (I.hok.fresh (Nat.le_succ _))
  have fk:FpOk X pins H (s.heap.objs.size + 3):=I.fpOk (by omega) (I.hok.fresh (by omega))
  have e3:(Value.ref ((G.update (s.heap.objs.size + 1) (Obj.mapSeq fun _=>(#[]:Array Value))).push (seqObj "tuple" vs.toArray 0)).objs.size) = Value.ref (s.heap.objs.size + 3):=by rw [hkS]
  show wpAny _ _ (ksk_rest (s.heap.objs.size + 1) f b vs.toArray e1 (Value.ref ((G.update (s.heap.objs.size + 1) (Obj.mapSeq fun _=>(#[]:Array Value))).push (seqObj "tuple" vs.toArray 0)).objs.size)) _ _ _
  rw [e3]
  have I1:Inv X pins σ H { s with heap:=((G.update (s.heap.objs.size + 1) (Obj.mapSeq fun _=>(#[]:Array Value))).push (seqObj "tuple" vs.toArray 0)).push (seqObj "list" #[] 0) }:=I.kept (t':=s.toks) keep2
  have I2:Inv X (pins ++ [(s.heap.objs.size + 3,seqObj "list" #[] 0),(s.heap.objs.size + 1,seqObj "list" #[] e1)]) σ H { s with heap:=((G.update (s.heap.objs.size + 1) (Obj.mapSeq fun _=>(#[]:Array Value))).push (seqObj "tuple" vs.toArray 0)).push (seqObj "list" #[] 0) }:=I1.pins_of fun p hpm=>by
   rcases List.mem_append.mp hpm with z | z
   ·exact I1.pin p (List.mem_append_right _ z)
   ·rcases List.mem_cons.mp z with rfl | z
    ·exact ⟨g1,fk.1,fk.2.1,fk.2.2.1,fun v z=>by cases z⟩
    ·have:p = (s.heap.objs.size + 1,seqObj "list" #[] e1):=by simpa using z
     subst this
     exact ⟨g2,fa.1,fa.2.1,fa.2.2.1,fun v z=>by cases z⟩
  refine srt_rest I2 (show s.heap.objs.size + 3 ≠ s.heap.objs.size + 1 by omega) fk fa (by omega) (fun v hv pl s' I'=>?_) fun s' out c I' hp=>⟨_,rfl,?_⟩
  ·obtain ⟨n,t,rfl,hn⟩:∃ n t,v = .int n t∧n ∈ ns:=by
    obtain ⟨i,hiv,e⟩:=List.mem_iff_getElem.mp hv
    obtain ⟨t,ht2⟩:=hi.get i (ns[i]'(by omega)) (by simp)
    rw [List.getElem?_eq_getElem hiv,e] at ht2
    exact ⟨_,t,Option.some.inj ht2,List.getElem_mem _⟩
   exact turn n t hn pl s' I'
  ·have hI:IntsAre out.toList (out.toList.map numOf):=intsAre_map _ fun v hv=>hi.all v (hp.mem_iff.mp hv)
   have hms:(out.toList.map numOf).Perm ns:=by
    have:=hp.map numOf
    rwa [hi.nums] at this
   have ga:=(I'.pin (s.heap.objs.size + 1,seqObj "list" out c) (List.mem_append_right _ (List.mem_append_right _ (.head _)))).1
   have I3:Inv X pins σ (upd H (s.heap.objs.size + 1) (.lst ((out.toList.map numOf).map V.int))) s' :=
    I'.unpinned.track fa.1 (by have:=I.sz; omega) fa.2.1 fa.2.2.2.2.1 fa.2.2.2.2.2 ⟨by rw [List.length_map,List.length_map]; have:=hp.length_eq; rw [sizeLine_eq]; omega,out.toList,c,vals_ints hI,by simpa using ga⟩
   exact wpAny_pure ⟨_,rfl,h _ _ s' hms fa.1 I3⟩
end
section
variable {X:Cx}
def tSortK (X:Cx) (cap:List (Option Nat)) (te:TE) (params:Arguments) (body:Expr) (scope:Scope) (qual:Str) (ta tk:TA) (more:List V):TE:=fun σ H Q=>ta σ H fun vs H1=>tk σ H1 fun zs H2=>∃ (l:Addr) (ns:List Int) (q:Addr),vs = [.ref l]∧zs = .ref q :: more∧SqL X.K H2 l (ns.map V.int)∧ns.length < 128∧LamAt X H2 q params body scope qual ∧
 (∀ n ∈ ns,te (some (.int n) :: capσ cap σ) H2 fun r H'=>H' = H2∧∃ k,r = .int k)∧∀ (D:Addr) (ms:List Int),ms.Perm ns→H2 D = none→Q (.ref D) (upd H2 D (.lst (ms.map V.int)))
theorem sort_core {XN N:List Str} {outer scope:Scope} {cap:List (Option Nat)} {x qual:Str} {params:Arguments} {body:Expr} {te:TE} {pins:List (Addr × Obj)} {σ:St} {H:Hp} {s:Shared} {l q:Addr} {ns:List Int} {b:Bool} {kw:List (Str × Value)} {Q:VK}
  (S:LamSc XN outer scope x N cap) (hX:X.env.scope = outer) (hN:X.N = XN) (hroom:X.A.depth < recursionLimit) (hb:∀ q cl L' c s₀ H₀ pins,PE (X.lam (x :: N) scope qual cl L' q c s₀ H₀ pins) body te)
  (hbind:∀ u cl pm c ctv,bindArgs (kla_fn "<lambda>" qual params body scope cl pm (.ref c) ctv) ⟨[u],[]⟩ = pure [(x,u)]) (I:Inv X pins σ H s) (hq:SqL X.K H l (ns.map V.int)) (h64:ns.length < 128) (L:LamAt X H q params body scope qual)
  (ha1:argsOk "sorted" ⟨[.ref l],kw⟩) (ha2:∀ x,argsOk "list.sort" ⟨[.ref x],kw⟩) (ht:∀ x,Builtin.«list.sort» ⟨[.ref x],kw⟩ = ksk_tree x (.ref q) b)
  (ht2:∀ n ∈ ns,te (some (.int n) :: capσ cap σ) H fun r H'=>H' = H∧∃ k,r = .int k) (h:∀ (D:Addr) (ms:List Int),ms.Perm ns→H D = none→Q (.ref D) (upd H D (.lst (ms.map V.int)))) :
  wpAny (model X.prog X.w) X.A (call (.builtin "sorted") [.ref l] kw) (EP X pins σ Q) X.xe s:=by
 refine sorted_key I hq h64 ha1 ha2 ht (fun n t hn pl s' I'=>?_) fun D ms s' hp hD I'=>⟨.ref D,_,I',rfl,h D ms hp hD⟩
 refine wpAny_mono (lam_call (v:=.int n) I' hX hN S L hroom ⟨t,rfl⟩ (hb q) (hbind _) (ht2 n hn)) (fun r s'' ⟨y,ry,⟨k,hk⟩,I2⟩=>?_) fun _ _ z=>z
 subst hk
 obtain ⟨t2,rfl⟩:=(show ∃ t2,r = Value.int k t2 from ry)
 exact ⟨⟨k,t2,rfl⟩,I2⟩
def lamOf:List Keyword→Option (Arguments × Expr × Scope)
 | ⟨_,.Lambda a b s _,_⟩ :: _=>some (a,b,s)
 | _=>none
theorem pe_sort1 {XN N:List Str} {outer scope:Scope} {cap:List (Option Nat)} {x:Str} {params:Arguments} {body:Expr} {te:TE} {e:Expr} {ta tk:TA} {p pos:Pos} {kws:List Keyword} (_:lamOf kws = some (params,body,scope))
  (S:LamSc XN outer scope x N cap) (hroom:X.A.depth < recursionLimit) (hb:∀ q cl L' c s₀ H₀ pins,PE (X.lam (x :: N) scope (X.env.qual ++ "<lambda>") cl L' q c s₀ H₀ pins) body te)
  (hbind:∀ u cl pm c ctv,bindArgs (kla_fn "<lambda>" (X.env.qual ++ "<lambda>") params body scope cl pm (.ref c) ctv) ⟨[u],[]⟩ = pure [(x,u)]) (hg:Gl X "sorted") (hm:X.mg "sorted" = none) (ha:PA X [e] ta) (hk:PK X kws tk)
  (hks:(backToKw pos (keywordEach kws X.env)).filterMap (·.1) = [Str.ofString "key"]:=by rfl) (hX:X.env.scope = outer:=by rfl) (hN:X.N = XN:=by rfl)
  (he:backTo pos (starEach [e] X.env) = (false,eval e X.env) :: backTo pos (starEach [] X.env):=by rfl) (hplain:(backTo pos (starEach [e] X.env)).any (·.1) = false:=by rfl)
  (hall:(backToKw pos (keywordEach kws X.env)).all (·.1.isSome) = true:=by rfl) (hkw:(backToKw pos (keywordEach kws X.env)).any (·.1.isNone) = false:=by rfl) :
  PE X (.Call (.Name "sorted" p) [e] kws pos) (tSortK X cap te params body scope (X.env.qual ++ "<lambda>") ta tk []):=by
 intro pins s σ H Q I h
 refine wpAny_Call_Name_kw (ld_blt I hg hm boot_sorted (PyProof.Rows.callWith_kw (thn (ha pos pins s σ H _ I h) fun us s1 ⟨vs,H1,I1,r1,q1⟩=>thn (hk pos pins s1 σ H1 _ I1 q1) fun ws s2 ⟨zs,H2,I2,rz,l,ns,q,e1,e2,hq,h64,L,ht2,hD⟩=>?_) he hplain hall hkw))
 subst e1 e2
 obtain ⟨u,rfl,ru⟩:=vals1 r1
 cases (show u = .ref l from ru)
 obtain ⟨z,rfl,rzz⟩:=vals1 rz
 cases (show z = .ref q from rzz)
 rw [hks]
 exact sort_core (b:=false) S hX hN hroom hb hbind I2 hq h64 L (ksk_s1 _ _) (fun x=>ksk_l1 _ _) (fun x=>ksk_t1 q x) ht2 hD
theorem pe_sort2 {XN N:List Str} {outer scope:Scope} {cap:List (Option Nat)} {x:Str} {params:Arguments} {body:Expr} {te:TE} {e:Expr} {ta tk:TA} {p pos:Pos} {kws:List Keyword} (_:lamOf kws = some (params,body,scope))
  (S:LamSc XN outer scope x N cap) (hroom:X.A.depth < recursionLimit) (hb:∀ q cl L' c s₀ H₀ pins,PE (X.lam (x :: N) scope (X.env.qual ++ "<lambda>") cl L' q c s₀ H₀ pins) body te)
  (hbind:∀ u cl pm c ctv,bindArgs (kla_fn "<lambda>" (X.env.qual ++ "<lambda>") params body scope cl pm (.ref c) ctv) ⟨[u],[]⟩ = pure [(x,u)]) (hg:Gl X "sorted") (hm:X.mg "sorted" = none) (ha:PA X [e] ta) (hk:PK X kws tk)
  (hks:(backToKw pos (keywordEach kws X.env)).filterMap (·.1) = [Str.ofString "key",Str.ofString "reverse"]:=by rfl) (hX:X.env.scope = outer:=by rfl) (hN:X.N = XN:=by rfl)
  (he:backTo pos (starEach [e] X.env) = (false,eval e X.env) :: backTo pos (starEach [] X.env):=by rfl) (hplain:(backTo pos (starEach [e] X.env)).any (·.1) = false:=by rfl)
  (hall:(backToKw pos (keywordEach kws X.env)).all (·.1.isSome) = true:=by rfl) (hkw:(backToKw pos (keywordEach kws X.env)).any (·.1.isNone) = false:=by rfl) :
  PE X (.Call (.Name "sorted" p) [e] kws pos) (tSortK X cap te params body scope (X.env.qual ++ "<lambda>") ta tk [.bl true]):=by
 intro pins s σ H Q I h
 refine wpAny_Call_Name_kw (ld_blt I hg hm boot_sorted (PyProof.Rows.callWith_kw (thn (ha pos pins s σ H _ I h) fun us s1 ⟨vs,H1,I1,r1,q1⟩=>thn (hk pos pins s1 σ H1 _ I1 q1) fun ws s2 ⟨zs,H2,I2,rz,l,ns,q,e1,e2,hq,h64,L,ht2,hD⟩=>?_) he hplain hall hkw))
 subst e1 e2
 obtain ⟨u,rfl,ru⟩:=vals1 r1
 cases (show u = .ref l from ru)
 obtain ⟨z,y,rfl,rzz,ry⟩:=vals2 rz
 cases (show z = .ref q from rzz)
 cases (show y = .bool true from ry)
 rw [hks]
 exact sort_core (b:=true) S hX hN hroom hb hbind I2 hq h64 L (ksk_s2 _ _ _) (fun x=>ksk_l2 _ _ _) (fun x=>ksk_t2 q x true) ht2 hD
end
end L2
set_option Elab.async false
set_option linter.all false
set_option maxRecDepth 100000
namespace L2
open PySem PySem.Spec PyProof.Rows
open PySem.W (InstAt findIn specialIn takesIn mroIn clsIn findObj looks_find looks_findIn looks_mroIn KitX kitOne)
structure ExcLook (K:PySem.W.Frag) (C:Addr):Prop where
 cls:∃ cd,clsIn K C = some cd
 ga:findIn K (.ref C) "__getattribute__" = some (some (.builtin "BaseException.__getattribute__"))
 gr:findIn K (.ref C) "__getattr__" = some none
 cl:findIn K (.ref C) "__class__" = some (some (.builtin "object.__class__"))
 get:specialIn K (.builtin "object.__class__") "__get__" = some (some (.builtin "getset_descriptor.__get__"))
 tk:takesIn K (.builtin "object.__class__") = some true
 mro:mroIn K C (.type "object") = some true
 bexc:mroIn K C (.type "BaseException") = some true
section
variable {prog:Program} {w:World} {A:Around} {E:Value→Shared→Prop} {s:Shared} {K:PySem.W.Frag} {x C:Addr} {ox:Obj} {odo:Option Obj}
theorem exc_find (O:ExcLook K C):findObj K C odo "__class__" = some (.bind (.builtin "getset_descriptor.__get__") (.builtin "object.__class__")):=by
 obtain ⟨cd,hc⟩:=O.cls
 unfold findObj
 rw [hc,Option.bind_some,O.cl,Option.bind_some]
 simp [O.get,O.tk]
theorem exc_check {M:Model} {nm:Value} {Q:Unit→Shared→Prop} (X:K.In s.heap) (I:InstAt s.heap x ox C odo) (O:ExcLook K C) (hq:Q () s):wpAny M A (checkBuiltinCall "BaseException.__getattribute__" ⟨[.ref x,nm],[]⟩) Q E s:=by
 obtain ⟨hh,g,d,t,os⟩:=s
 have L0:=I.type (M:=M)
 have L4:=looks_mroIn (M:=M) X O.bexc
 have hk:builtinKind "BaseException.__getattribute__" = some .slot:=by decide +kernel
 have hsplit:splitId "BaseException.__getattribute__" = some ("BaseException","__getattribute__"):=by decide +kernel
 have LI:PySem.W.Looks M hh (isInstance (.ref x) (.type "BaseException")) true:=L0.andThen L4
 have hargs:=PySem.F.args_bexc_ga (.ref x) nm
 simp only [checkBuiltinCall,hk,hsplit]
 refine wpAny_bind (LI.at ?_)
 repeat (first | assumption | wp_step)
theorem exc_class {Q:Option Value→Shared→Prop} (X:K.In s.heap) (I:InstAt s.heap x ox C odo) (O:ExcLook K C) (h:Q (some (.ref C)) { s with toks:=s.toks + 1 }):wpAny (model prog w) A (getAttr? (.ref x) "__class__") Q E s:=by
 obtain ⟨hh,g,d,t,os⟩:=s
 have L0:=I.type (M:=model prog w)
 have L1:=looks_findIn (M:=model prog w) X O.ga
 have L2:=looks_findIn (M:=model prog w) X O.gr
 have L3:=looks_find (M:=model prog w) X I (exc_find (odo:=odo) O)
 have L4:=looks_mroIn (M:=model prog w) X O.bexc
 unfold getAttr? getAttrBy? getAttrBy
 refine wpAny_bind (wpAny_mkText (wpAny_bind (wpAny_attempt (wpAny_holding (wpAny_bind (L0.at (wpAny_bind (L1.at ?_))))))))
 have hne:(onTheHeap (Value.ref C) && Value.builtin "BaseException.__getattribute__" == Value.builtin "object.__getattribute__") = false:=by
  rw [show (Value.builtin "BaseException.__getattribute__" == Value.builtin "object.__getattribute__") = false from by decide +kernel,Bool.and_false]
 dsimp only
 rw [hne]
 show wpAny _ _ (getAttrByItsOwn _ _ _ _ _ _) _ _ _
 unfold getAttrByItsOwn
 refine wpAny_bind ?_
 show wpAny _ _ (typeLookup (.ref C) "__getattr__") _ _ _
 refine L2.at (wpAny_bind (wpAny_attempt (wpAny_holding ?_)))
 unfold callGetattribute boundAndCalled
 rw [if_neg (by simp)]
 refine wpAny_bind (wpAny_of_eq (PySem.F.attr_ValueError.ga.bind (.ref x)) ?_)
 refine wpAny_call (codeAny_call_builtin PySem.F.attr_ValueError.ga.plain PySem.F.entry_bexc_ga ?_)
 have fin:wpAny (model prog w) A.in1 (Builtin.«object.__getattribute__» ⟨[.ref x,.str "__class__" t],[]⟩) (fun f s'=>match f with | .done (.ret v)=>wpAny (model prog w) A (handedOut v) (fun v s''=>Q (some v) s'') (fun _ _=>False) s' | _=>False) (fun _ _=>False) ⟨hh,g,d,t + 1,os⟩:=by
  unfold Builtin.«object.__getattribute__»
  refine wpAny_bind (wpAny_pure (wpAny_bind (wpAny_pure (wpAny_bind (L0.at (wpAny_bind (L3.at ?_)))))))
  show wpAny _ _ (holding [Value.builtin "object.__class__"] (call (.builtin "getset_descriptor.__get__") [.builtin "object.__class__",.ref x,.ref C]) >>= fun v=>ret v) _ _ _
  refine wpAny_bind (wpAny_holding (wpAny_call (PySem.W.class_get (s:=⟨hh,g,d,t + 1,os⟩) (ox:=ox) (od:=odo) X I O.mro ?_)))
  exact wpAny_pure (PySem.W.handed_on rfl h)
 refine exc_check X I O (wpAny_mono fin (fun f s' z=>?_) fun _ _ z=>z.elim)
 rcases f with (_ | _ | _ | _) | _ <;> first | exact z.elim | skip
 exact wpAny_mono z (fun v s'' hv=>wpAny_pure hv) fun _ _ z=>z.elim
end
end L2
set_option Elab.async false
set_option linter.all false
set_option maxRecDepth 100000
set_option maxHeartbeats 1000000
namespace L2
open PySem PySem.Spec PyProof.Rows
open PySem.W (InstAt findIn specialIn takesIn mroIn clsIn findObj looks_find looks_findIn looks_mroIn KitX kitOne Looks)
abbrev lineV:List Value:=[.type "ValueError",.type "Exception",.type "BaseException",.type "object"]
section
variable {prog:Program} {w:World} {A:Around} {E:Value→Shared→Prop} {h:Heap} {g:Array GenState} {d:Drawn} {t:Nat} {os:OsState} {C N f:Addr} {nm q:Str} {bs bm:List Value} {hdct:Bool} {sn:List Str} {sub:List Value} {ab:Bool} {col:Option Bool} {dd:Option Addr} {k0 k1 k2 k3 k5:Option Value} {rest:List Value}
theorem exc_tcall (T:OwnTail h lineV bm) {Q:Fin→Shared→Prop}
  (hC:h.get? C = some (excClassObj nm q C N bs bm hdct sn sub ab col dd k0 k1 k2 k3 k5 "ValueError.__new__"))
  (hi:Looks (model prog w) h (typeLookup (.ref C) "__init__") (some (.ref f))) (hb:∀ self,Looks (model prog w) h (bindSpecial (.ref f) self) (.ref f,[self])) (hrest:rest.length ≤ sizeLine)
  (hq:codeAny (model prog w) A (.call (.ref f) ⟨.ref (h.objs.size + 1) :: rest,[]⟩) (fun r s'=>match r with | .ok (.ret v)=>v = .none∧Q (.done (.ret (.ref (h.objs.size + 1)))) s' | .ok _=>False | .error e=>E e s')
   ⟨(h.push { cls:=.type "tuple",data:=.seq rest.toArray }).push { cls:=.ref C,data:=.fields #[.ref h.objs.size,.none,.none,.none,.bool false,.none] },g,d,t,os⟩) :
  wpAny (model prog w) A (Builtin.«type.__call__» ⟨.ref C :: rest,[]⟩) Q E ⟨h,g,d,t,os⟩:=by
 have F:=PySem.F.excBase_ValueError
 have hBn:lineV.contains (.type "ValueError") = true:=by decide +kernel
 repeat (first | with_reducible refine wpAny_loadPart_at hC ?_ | with_reducible refine wpAny_madeBy_exc hC ?_ | wp_step)
 refine codeAny_call_builtin_code (Code.quiet_builtin _ F.quiet) (wpAny_check_new_subU F hBn T hC ?_)
 refine codeAny_exc_new_subU F hBn F T hC ?_ hrest
 show wpAny _ _ _ _ _ _
 have kp:∀ b o,h.get? b = some o→((h.push { cls:=.type "tuple",data:=.seq rest.toArray }).push { cls:=.ref C,data:=.fields #[.ref h.objs.size,.none,.none,.none,.bool false,.none] }).get? b = some o:=fun b o e=>Heap.get?_push_of_some _ (Heap.get?_push_of_some _ e)
 have hC₁:=kp _ _ hC
 have hget:((h.push { cls:=.type "tuple",data:=.seq rest.toArray }).push
   { cls:=.ref C,data:=.fields #[.ref h.objs.size,.none,.none,.none,.bool false,.none] }).get? (h.objs.size + 1) = some
   { cls:=.ref C,data:=.fields #[.ref h.objs.size,.none,.none,.none,.bool false,.none] }:=by heap_get
 have hcC:(Value.ref C :: bm).contains (.ref C) = true:=by simp
 have i1:=hi.keeps kp
 have b1:=(hb (.ref (h.objs.size + 1))).keeps kp
 unfold isInstance
 repeat (first | with_reducible refine wpAny_loadPart_at hget ?_ | (with_reducible refine wpAny_isSubtype_exc hC₁ ?_; rw [hcC]) | wp_step)
 show wpAny _ _ (typeLookup (.ref C) _) _ _ _
 refine i1.here ?_
 refine wpAny_holding (wpAny_bind (b1.here ?_))
 refine wpAny_bind (wpAny_call (codeAny_mono hq fun r s' z=>?_))
 rcases r with e | (v | _ | _ | _) <;> first | exact z | exact z.elim | skip
 obtain ⟨rfl,z⟩:=z
 obtain ⟨hh',g',d',t',os'⟩:=s'
 wp_walk
 exact z
end
section
variable {prog:Program} {w:World} {A:Around} {R:Result→Shared→Prop} {h:Heap} {g:Array GenState} {d:Drawn} {t:Nat} {os:OsState} {C N f:Addr} {nm q:Str} {bs tl:List Value} {hdct:Bool} {sn:List Str} {sub:List Value} {ab:Bool} {col:Option Bool} {dd:Option Addr} {k0 k1 k2 k3 k5:Option Value} {vs:List Value}
theorem exc_make (hC:h.get? C = some (excClassObj nm q C N bs tl hdct sn sub ab col dd k0 k1 k2 k3 k5 "ValueError.__new__")) (T:OwnTail h lineV tl)
  (hi:Looks (model prog w) h (typeLookup (.ref C) "__init__") (some (.ref f))) (hb:∀ self,Looks (model prog w) h (bindSpecial (.ref f) self) (.ref f,[self])) (hrest:vs.length ≤ sizeLine)
  (hq:codeAny (model prog w) (A.under (.builtin "type.__call__" ⟨.ref C :: vs,[]⟩)) (.call (.ref f) ⟨.ref (h.objs.size + 1) :: vs,[]⟩) (PySem.W.InitBack (h.objs.size + 1) R)
   ⟨(h.push { cls:=.type "tuple",data:=.seq vs.toArray }).push { cls:=.ref C,data:=.fields #[.ref h.objs.size,.none,.none,.none,.bool false,.none] },g,d,t,os⟩) :
  codeAny (model prog w) A (.call (.ref C) ⟨vs,[]⟩) R ⟨h,g,d,t,os⟩:=by
 have f1:=tc_lookup
 have f2:=tc_bind (.ref C)
 have hT:(⟨h,g,d,t,os⟩:Shared).TypeIs (.ref C) "type":=⟨_,hC,rfl⟩
 refine codeAny_of_tree ?_
 show wpAny _ _ (callAny (.ref C) _) _ _ _
 repeat (any_goals (first | assumption | with_reducible refine wpAny_loadPart_at hC ?_ | wp_step))
 refine ⟨rfl,?_⟩
 refine codeAny_call_builtin_at (Code.quiet_builtin _ (by decide +kernel)) entry_typeCall (wpAny_check_type_call_sub hC (exc_tcall T hC hi hb hrest ?_))
 refine codeAny_mono hq fun r s' z=>?_
 rcases r with e | (v | _ | _ | _) <;> exact z
end
structure ExcI (K:PySem.W.Frag) (C f:Addr):Prop where
 ex:∃ (tl:List Value) (N:Addr) (nm q:Str) (bs:List Value) (sn:List Str) (sub:List Value) (ab:Bool) (col:Option Bool) (dd:Option Addr) (k0 k1 k2 k3 k5:Option Value),
  K.lookup C = some (excClassObj nm q C N bs tl true sn sub ab col dd k0 k1 k2 k3 k5 "ValueError.__new__")∧(∀ h:Heap,K.In h→OwnTail h lineV tl)∧∀ self,refuseLoop self "__setattr__" tl = pure ()
 init:findIn K (.ref C) "__init__" = some (some (.ref f))
 fn:PySem.W.isFn K (.ref f) = true
 kp:PySem.W.keepIn K (.ref C) = true
 sa:findIn K (.ref C) "__setattr__" = some (some (.builtin "object.__setattr__"))
 mo:mroIn K C (.type "object") = some true
def exφC (e C:Addr) (dd:Option Addr) (cs:Value × Value):Heap→Prop:=fun h=>∃ a0,h.get? e = some (ExcObjC (.ref C) (.ref a0) dd .none cs)
abbrev exφ (e C:Addr) (dd:Option Addr):Heap→Prop:=exφC e C dd cs0
theorem exφ_ok {P:Program} {w:World} {H:Hp} {h:Heap} {e C:Addr} {a0:Addr} {dd:Option Addr} {cs:Value × Value} (g:h.get? e = some (ExcObjC (.ref C) (.ref a0) dd .none cs)):ObjOk P w H h e (.ext (exφC e C dd cs)):=⟨⟨a0,g⟩,⟨_,g⟩,fun h1 h2 ⟨a,q⟩ k=>⟨a,k _ q⟩⟩
section
variable {prog:Program} {w:World} {A:Around} {E:Value→Shared→Prop} {s:Shared} {K:PySem.W.Frag} {x C f:Addr} {name:Str} {v a0:Value}
theorem set_x {Q:Unit→Shared→Prop} (X:K.In s.heap) (O:ExcI K C f) (n:NoAttr K C name) (hx:s.heap.get? x = some (ExcObj (.ref C) a0 none .none))
  (h:∀ h',h'.get? x = some (ExcObj (.ref C) a0 (some s.heap.objs.size) .none)→h'.Ns1 s.heap.objs.size (fun y=>if y = name then some v else none)→(∀ b o,b ≠ x→s.heap.get? b = some o→h'.get? b = some o)→Q () { s with heap:=h',toks:=s.toks + 2 }) :
  wpAny (model prog w) A (setAttr (.ref x) name v) Q E s:=by
 have I:InstAt s.heap x (ExcObj (.ref C) a0 none .none) C none:=⟨hx,rfl,rfl,trivial⟩
 obtain ⟨tl,N,nm,q,bs,sn,sub,ab,col,dd,k0,k1,k2,k3,k5,hC,T,hrf⟩:=O.ex
 refine PySem.W.set_plain X I O.sa ?_
 have SF:=PySem.F.store_object
 have hc:clsIn K C = some { name:=nm,bases:=bs,mro:=.ref C :: tl,ns:=N,qualname:=q,hasDict:=true,slotNames:=sn,subclasses:=sub,abstract:=ab,collection:=col }:=by unfold PySem.W.clsIn; rw [hC]
 have sub':Looks (model prog w) s.heap (isInstance (.ref x) (.type "object")) true:=I.type.andThen (looks_mroIn X O.mo)
 refine codeAny_call_builtin SF.slot.plain SF.entry (@PySem.W.check_slot (model prog w) _ _ { s with toks:=s.toks + 1 } "object.__setattr__" "object" "__setattr__" (.ref x) [.str name s.toks,v] [] _ SF.kind SF.split sub' (SF.args (.ref x) (.str name s.toks) v) ?_)
 have hm:Looks (model prog w) s.heap (mroOf (.ref C)) (.ref C :: tl):=(PySem.W.looks_clsIn X hc).andThen .now
 have L3:Looks (model prog w) s.heap (Builtin.ObjectAttr.storeTaker? none) none:=.now
 rw [PySem.W.osa_eq,refuse_eq]
 refine wpAny_bind (wpAny_bind (Looks.here (s:={ s with toks:=s.toks + 1 }) I.type (wpAny_bind (Looks.here (s:={ s with toks:=s.toks + 1 }) hm ?_))))
 rw [refuseLoop_ref,hrf]
 refine wpAny_pure (wpAny_bind (Looks.here (s:={ s with toks:=s.toks + 1 }) I.type (wpAny_bind (Looks.here (s:={ s with toks:=s.toks + 1 }) (looks_findIn X n) (wpAny_bind (Looks.here (s:={ s with toks:=s.toks + 1 }) L3 ?_))))))
 dsimp only
 refine wpAny_bind (wpAny_pure (wpAny_bind (wpAny_bind (wpAny_loadPart hx (wpAny_bind (Looks.here (s:={ s with toks:=s.toks + 1 }) (PySem.W.looks_clsIn X hc) ?_))))))
 dsimp only
 have hxs:x ≠ s.heap.objs.size:=Nat.ne_of_lt (Heap.lt_size hx)
 have hx₁:(s.heap.push { cls:=.type "dict",data:=.dict #[] }).get? x = some (ExcObj (.ref C) a0 none .none):=Heap.get?_push_of_some _ hx
 refine wpAny_bind (wpAny_alloc' (wpAny_bind (wpAny_update' hx₁ (wpAny_pure ?_))))
 have hx₂:((s.heap.push { cls:=.type "dict",data:=.dict #[] }).update x fun o=>{ cls:=o.cls,dict:=some s.heap.objs.size,data:=o.data,slots:=o.slots }).get? x = some (ExcObj (.ref C) a0 (some s.heap.objs.size) .none):=Heap.get?_update_self _ hx₁ rfl
 have hgd:((s.heap.push { cls:=.type "dict",data:=.dict #[] }).update x fun o=>{ cls:=o.cls,dict:=some s.heap.objs.size,data:=o.data,slots:=o.slots }).get? s.heap.objs.size
   = some { cls:=.type "dict",data:=.dict #[] }:=(Heap.get?_update_ne _ _ _ _ hxs.symm).trans (Heap.get?_push_at rfl rfl)
 have hnd:((s.heap.push { cls:=.type "dict",data:=.dict #[] }).update x fun o=>{ cls:=o.cls,dict:=some s.heap.objs.size,data:=o.data,slots:=o.slots }).Ns s.heap.objs.size (fun _=>none) :=
  ⟨_,#[],_,hgd,rfl,fun e he=>absurd he (by simp),fun _=>rfl⟩
 have hkp:∀ b o,b ≠ x→s.heap.get? b = some o→((s.heap.push { cls:=.type "dict",data:=.dict #[] }).update x fun o=>{ cls:=o.cls,dict:=some s.heap.objs.size,data:=o.data,slots:=o.slots }).get? b = some o:=fun b o hb e =>
  (Heap.get?_update_ne _ _ _ _ hb).trans (Heap.get?_push_of_some _ e)
 show wpAny _ _ (Builtin.ObjectAttr.storeInDict s.heap.objs.size (.str name s.toks) name v) _ _ _
 unfold Builtin.ObjectAttr.storeInDict Builtin.ObjectAttr.newKeyGuard
 refine wpAny_bind (wpAny_pure (wpAny_bind (wpAny_nsSet1 (Heap.Ns1.of_empty hnd) fun h' hn' hs=>?_)))
 obtain ⟨oD,esD,epD,hoD,hdD,hcD⟩:=hn'.count (Within.cons name v Within.nil)
 refine wpAny_bind (wpAny_lookBehind hoD (by rw [hdD]; exact pastItsLine_dict (Nat.le_trans hcD (by rw [List.length_cons,List.length_nil,sizeLine_eq]; omega))) ?_)
 refine wpAny_pure ?_
 exact h h' ((hs.2 x hxs).trans hx₂) hn' fun b o hb e=>(hs.2 b (Nat.ne_of_lt (Heap.lt_size e))).trans (hkp b o hb e)
end
def unt (H:Hp) (e:Addr):Hp:=fun b=>if b = e then none else H b
theorem unt_ne {H:Hp} {e b:Addr} (h:b ≠ e):unt H e b = H b:=by unfold unt; rw [if_neg h]
theorem unt_same {H:Hp} {e:Addr}:unt H e e = none:=by unfold unt; rw [if_pos rfl]
section
variable {X:Cx} {pins:List (Addr × Obj)} {σ:St} {H:Hp} {s:Shared} {e C f C0:Addr} {name:Str} {A:Around} {E:Value→Shared→Prop} {dd:Option Addr}
theorem exφ_at {cs:Value × Value} (I:Inv X pins σ H s) (he:H e = some (.ext (exφC e C dd cs))):∃ a0,s.heap.get? e = some (ExcObjC (.ref C) (.ref a0) dd .none cs):=(show ObjOk X.prog X.w H s.heap e (.ext (exφC e C dd cs)) from I.hok e _ he).1
theorem Inv.unt {φ:Heap→Prop} (I:Inv X pins σ H s) (he:H e = some (.ext φ)) (h0:∀ u,X.H₀ e = some u→∃ φ,u = .ext φ):Inv X pins σ (unt H e) s:=by
 have n:∀ b u,H b = some u→(∀ φ,u ≠ .ext φ)→L2.unt H e b = some u:=fun b u q hu=>by
  rw [unt_ne (fun z=>by subst z; rw [he] at q; cases q; exact hu _ rfl)]; exact q
 refine ⟨I.ok,I.os,I.bare,⟨I.base.keep,I.base.slot,fun b o q m hx=>?_,I.base.there,fun b xs q=>n _ _ (I.base.tups b xs q) (fun _ z=>nomatch z),fun b o u q=>n _ _ (I.base.frzs b o u q) (fun _ z=>nomatch z),fun b ps q=>?_⟩,I.loc,I.cell,?_,fun x c q=>?_,fun p hp=>?_,fun b o q=>?_,I.len,I.hdh.frzs fun b o u q=>n _ _ q (fun _ z=>nomatch z)⟩
 ·have:=I.base.free b o q m hx
  unfold L2.unt; split
  ·rfl
  ·exact this
 ·obtain ⟨more,q1⟩:=I.base.tbls b ps q
  exact ⟨more,n _ _ q1 (fun _ z=>nomatch z)⟩
 ·have:=I.free
  unfold L2.unt; split
  ·rfl
  ·exact this
 ·have:=I.freeC x c q
  unfold L2.unt; split
  ·rfl
  ·exact this
 ·obtain ⟨a,b,c⟩:=I.pin p hp
  refine ⟨a,?_,c⟩
  unfold L2.unt; split
  ·rfl
  ·exact b
 ·by_cases hb:b = e
  ·subst hb; rw [unt_same] at q; cases q
  ·rw [unt_ne hb] at q
   exact (I.hok b o q).stay (fun _ _ _ z=>z) (fun c z=>n _ _ z (fun _ y=>nomatch y)) fun c xs z=>n _ _ z (fun _ y=>nomatch y)
theorem setattr_x {y:V} {u:Value} {Q:Unit→Shared→Prop} (I:Inv X pins σ H s) (he:H e = some (.ext (exφ e C none))) (O:ExcI X.K C f) (n:NoAttr X.K C name) (ry:RelV y u)
  (h:∀ dx s',H dx = none→Inv X pins σ (upd (upd H dx (.xd [(name,y)])) e (.ext (exφ e C (some dx)))) s'→Q () s'):wpAny (model X.prog X.w) A (setAttr (.ref e) name u) Q E s:=by
 obtain ⟨a0,hx⟩:=exφ_at I he
 refine set_x I.kIn O n hx fun h' g1 g2 kp=>h s.heap.objs.size _ (I.hok.fresh (Nat.le_refl _)) ?_
 have old:(h'.update e fun _=>ExcObj (.ref C) (.ref a0) none .none).get? e = some (ExcObj (.ref C) (.ref a0) none .none):=Heap.get?_update_self _ g1 rfl
 have oth:∀ b,b ≠ e→(h'.update e fun _=>ExcObj (.ref C) (.ref a0) none .none).get? b = h'.get? b:=fun b hb=>Heap.get?_update_other _ _ (Ne.symm hb)
 have nes:s.heap.objs.size ≠ e:=Nat.ne_of_gt (Heap.lt_size hx)
 have I1:Inv X pins σ (upd H s.heap.objs.size (.xd [(name,y)])) { s with heap:=h'.update e fun _=>ExcObj (.ref C) (.ref a0) none .none,toks:=s.toks + 2 }:=by
  refine I.laid (t':=s.toks + 2) (fun b o q=>?_) (Nat.le_refl _) ?_
  ·by_cases hb:b = e
   ·subst hb; rw [hx] at q; cases q; exact old
   ·rw [oth b hb]; exact kp b o hb q
  ·obtain ⟨oD,es,ep,q1,q2⟩:=g2
   refine ⟨_,⟨oD,es,ep,(oth _ nes).trans q1,q2⟩,fun g=>?_⟩
   show RelO (List.lookup g [(name,y)]) (if g = name then some u else none)
   by_cases hg:g = name
   ·subst hg; rw [if_pos rfl]; simp; exact ry
   ·rw [if_neg hg]
    have:(g == name) = false:=by simpa using hg
    simp [List.lookup,this]; exact trivial
 have he1:(upd H s.heap.objs.size (.xd [(name,y)])) e = some (.ext (exφ e C none)):=by rw [upd_ne nes.symm]; exact he
 exact I1.write (x:=e) (e:=e) (h':=h') (t':=s.toks + 2) (by rw [he1]; exact True.intro) (.inl rfl) (fun b o hb q=>by rw [oth b hb] at q; exact q) ⟨_,g1⟩ (exφ_ok g1)
end
section
variable {X:Cx} {k:Nat} {e C f C0:Addr} {fd:FuncData} {ps:List Str} {sp:Sp} {x m:Str} {name:Str} {o value:Expr} {ta tv:TE} {pos pos' p apos:Pos} {e₀:Expr} {es:List Expr} {t:TA}
def sXFld (K:PySem.W.Frag) (ta tv:TE) (f:Str):TS:=fun D σ H=>tv σ H fun y H1=>ta σ H1 fun x H2=>∃ e C g,x = .ref e∧H2 e = some (.ext (exφ e C none))∧ExcI K C g∧NoAttr K C f ∧
 ∀ dx,H2 dx = none→D.nx σ (upd (upd H2 dx (.xd [(f,y)])) e (.ext (exφ e C (some dx))))
theorem ps_xfld (ha:PE X o ta) (hv:PE X value tv) (hs:swapsWith value (some (.Attribute o name pos')) pos.line X.env = pure false):PS X (.Assign [.Attribute o name pos'] value pos) (sXFld X.K ta tv name):=by
 intro pins s σ H D I h
 refine plainObj_wpAny_Assign_Attribute (thn (hv pins s σ H _ I h) fun u s1 ⟨y,H1,I1,ry,q⟩=>thn (ha pins s1 σ H1 _ I1 q) fun ov s2 ⟨x,H2,I2,rx,a,C,g,ex,ea,O,n,q2⟩=>?_) hs
 subst ex
 obtain rfl:ov = Value.ref a:=rx
 exact setattr_x I2 ea O n ry fun dx s3 hd I3=>⟨σ,_,I3,q2 dx hd⟩
structure BaseI (K:PySem.W.Frag) (C0:Addr):Prop where
 ga:specialIn K (.ref C0) "__getattribute__" = some (some (.builtin "type.__getattribute__"))
 rd:PySem.W.readsIn K C0 (.type "type") = true
 fi:PySem.W.findCls K (.ref C0) (.type "type") "__init__" = some (.val (.builtin "ValueError.__init__"))
theorem call_excInit:CallR X (.builtin "ValueError.__init__") (fun xs H Q=>∃ (e C g:Addr) (rest:List V),xs = .ref e :: rest∧H e = some (.ext (exφ e C none))∧ExcI X.K C g∧rest.length ≤ sizeLine∧Q .non H):=by
 intro pins s σ H xs us Q I r h
 obtain ⟨e,C,g,rest,rfl,he,O,hz,q⟩:=h
 cases r with
 | cons r1 r2 =>
  rename_i u us
  obtain rfl:u = Value.ref e:=r1
  obtain ⟨a0,hx⟩:=exφ_at I he
  obtain ⟨tl,N,nm,qn,bs,sn,sub,ab,col,dd,k0,k1,k2,k3,k5,hC,T,hrf⟩:=O.ex
  have F:=PySem.F.excBase_ValueError
  have hCs:=I.kIn _ _ hC
  have Ts:=T _ I.kIn
  have hzu:us.length ≤ sizeLine:=by rw [← Vals.length r2]; exact hz
  have fin:∀ t' h',(∀ b o,b ≠ e→s.heap.get? b = some o→h'.get? b = some o)→(∃ a1,h'.get? e = some (ExcObj (.ref C) (.ref a1) none .none))→EP X pins σ Q Value.none { s with heap:=h',toks:=t' }:=fun t' h' kp ⟨a1,g1⟩=>by
   have I1:Inv X pins σ (upd H e (.ext (exφ e C none))) { s with heap:=h',toks:=t' }:=I.write (x:=e) (e:=e) (by rw [he]; exact True.intro) (.inl rfl) kp ⟨_,g1⟩ (exφ_ok g1)
   have eH:upd H e (.ext (exφ e C none)) = H:=by
    funext b; unfold upd; split
    ·rename_i z; rw [z,he]
    ·rfl
   rw [eH] at I1
   exact ⟨.non,H,I1,rfl,q⟩
  obtain ⟨h0,g0,d0,t0,os0⟩:=s
  refine wpAny_call (codeAny_call_builtin F.init.plain F.initEntry (wpAny_check_init_subU F Ts hCs hx rfl ?_))
  wp_walk
  have hxp:(h0.push { cls:=Value.type "tuple",data:=Data.seq us.toArray }).get? e = some (ExcObj (.ref C) (.ref a0) none .none):=Heap.get?_push_of_some _ hx
  exact fin t0 _ (fun b o hb q=>(Heap.get?_update_other _ _ (Ne.symm hb)).trans (Heap.get?_push_of_some _ q)) ⟨h0.objs.size,Heap.get?_update_self _ hxp rfl⟩
theorem pe_baseInit {pl:Sem Bool} (hg:Gl X x) (hm:X.mg x = some (.ref C0)) (B:BaseI X.K C0) (ha:PA X (e₀ :: es) t) (hdb:(x == ("__debug__":Str)) = false:=by decide)
  (hst:starEach (e₀ :: es) X.env = (false,eval e₀ X.env) :: starEach es X.env:=by rfl) (hpl:(backTo pos (starEach es X.env)).any (·.1) = false:=by rfl)
  (ht:eval (.Call (.Attribute (.Name x p) "__init__" apos) (e₀ :: es) [] pos) X.env = (do
   let ov ← eval (.Name x p) X.env
   standAt apos.atName
   let (f,first) ← holding [ov] (getMethod ov "__init__" pl)
   callWith pos f first (backTo pos (starEach (e₀ :: es) X.env)) (backToKw pos (keywordEach [] X.env))):=by rfl) :
  PE X (.Call (.Attribute (.Name x p) "__init__" apos) (e₀ :: es) [] pos) (tCB (fun xs H Q=>∃ (e C g:Addr) (rest:List V),xs = .ref e :: rest∧H e = some (.ext (exφ e C none))∧ExcI X.K C g∧rest.length ≤ sizeLine∧Q .non H) t):=by
 intro pins s σ H Q I h
 refine PySem.W.methodCall_KW (pl:=pl) (ld_glob I hg hm ?_ hdb) ht
 refine PySem.W.method_cls I.kIn B.ga (PySem.W.cls_value I.kIn B.rd B.fi rfl ?_)
 exact PyProof.Rows.callWith_builtin1 (thn (ha pos pins _ σ H _ (I.tok _) h) fun us s1 ⟨vs,H1,I1,r1,q1⟩=>call_excInit pins s1 σ H1 vs us Q I1 r1 q1) hst hpl
def tMakeX (K:PySem.W.Frag) (C:Addr) (sp:Sp) (E:XK) (t:TA):TE:=fun σ H Q=>t σ H fun vs H1=>vs.length ≤ sizeLine∧∀ e,H1 e = none→sp (.ref e :: vs) (upd H1 e (.ext (exφ e C none))) (fun v H2=>v = .non∧Q (.ref e) H2) E
theorem Inv.madeX {pins:List (Addr × Obj)} {σ:St} {H:Hp} {s:Shared} {us:List Value} (I:Inv X pins σ H s):Inv X pins σ (upd H (s.heap.objs.size + 1) (.ext (exφ (s.heap.objs.size + 1) C none)))
  { s with heap:=(s.heap.push { cls:=.type "tuple",data:=.seq us.toArray }).push { cls:=.ref C,data:=.fields #[.ref s.heap.objs.size,.none,.none,.none,.bool false,.none] } }:=by
 have I1:Inv X pins σ H { s with heap:=s.heap.push { cls:=.type "tuple",data:=.seq us.toArray } }:=I.kept (t':=s.toks) fun b o q=>Heap.get?_push_of_some _ q
 have e2:((s.heap.push { cls:=.type "tuple",data:=.seq us.toArray }).push { cls:=.ref C,data:=.fields #[.ref s.heap.objs.size,.none,.none,.none,.bool false,.none] }).get? (s.heap.objs.size + 1) = some (ExcObj (.ref C) (.ref s.heap.objs.size) none .none):=by
  have:=Heap.get?_push_size (s.heap.push { cls:=.type "tuple",data:=.seq us.toArray }) (o:={ cls:=.ref C,data:=.fields #[.ref s.heap.objs.size,.none,.none,.none,.bool false,.none] }) rfl
  rwa [Heap.size_push] at this
 exact I1.laid (a:=s.heap.objs.size + 1) (t':=s.toks) (fun b o q=>Heap.get?_push_of_some _ q) (Nat.le_of_eq (Heap.size_push _ _)) (exφ_ok e2)
theorem pe_makeX {CX:CXT} {E:XK} (O:ExcI X.K C f) (F:FnOk X.prog X.w X.K X.mg X.base CX k f fd ps sp) (hr:Room (k + 1) X.A) (hg:Gl X x) (hm:X.mg x = some (.ref C)) (hb:Binds X.K fd ps []) (hx:Passes CX X E)
  (ha:PA X (e₀ :: es) t) (hdb:(x == ("__debug__":Str)) = false:=by decide) (he:starEach (e₀ :: es) X.env = (false,eval e₀ X.env) :: starEach es X.env:=by rfl) (hpl:(backTo pos (starEach es X.env)).any (·.1) = false:=by rfl) (hcc:CX.calm = true→X.calm = true:=by first | exact fun _=>rfl | exact fun z=>nomatch z) :
  PE X (.Call (.Name x p) (e₀ :: es) [] pos) (tMakeX X.K C sp E t):=by
 intro pins s σ H Q I h
 refine wpAny_Call_Name_kw (ld_glob I hg hm ?_ hdb)
 refine PySem.W.callWith_K (h₀:=X.base) I.ok.mod.kin O.kp (thn (ha pos pins s σ H _ I h) fun us s1 ⟨vs,H1,I1,r,hz,q⟩=>⟨I1.kIn,?_⟩) he hpl
 obtain ⟨tl,N,nm,qn,bs,sn,sub,ab,col,dd,k0,k1,k2,k3,k5,hC,T,hrf⟩:=O.ex
 have hq:=q (s1.heap.objs.size + 1) (I1.hok.fresh (Nat.le_succ _))
 have I2:=Inv.madeX (C:=C) (us:=us) I1
 have r2:Vals (V.ref (s1.heap.objs.size + 1) :: vs) (Value.ref (s1.heap.objs.size + 1) :: us):=.cons rfl r
 have hl:(Value.ref (s1.heap.objs.size + 1) :: us ++ []).length = ps.length:=by
  rw [List.append_nil]
  have e:=r2.length
  rw [F.len _ _ _ _ hq] at e
  exact e.symm
 have hbd:=hb _ (Value.ref (s1.heap.objs.size + 1) :: us) I2.kIn hl
 rw [List.append_nil] at hbd
 refine wpAny_call ?_
 have fin:=F.run _ X.stack _ _ ⟨Value.ref (s1.heap.objs.size + 1) :: us,[]⟩ (Value.ref (s1.heap.objs.size + 1) :: us) _ _ E (hr.make C us []) (fun z=>I.ok.hd (hcc z)) (I2.env0.make C us []) hbd r2 hq
 have L1:=looks_findIn (M:=model X.prog X.w) I1.kIn O.init
 have L2:=fun self=>PySem.W.bind_fn (M:=model X.prog X.w) I1.kIn (f:=f) self (beq_iff_eq.mp O.fn)
 refine exc_make (I1.kIn _ _ hC) (T _ I1.kIn) L1 L2 (by show us.length ≤ sizeLine; rw [← r.length]; exact hz) (codeAny_mono fin fun r s' hq'=>?_)
 cases r with
 | error e=>exact hx pins σ _ _ e s' I2 hq'
 | ok fl =>
  cases fl with
  | ret u =>
   obtain ⟨v,H',I3,rv,ev,q3⟩:=I2.after hq'
   subst ev
   exact ⟨rv,⟨V.ref (s1.heap.objs.size + 1),H',I3,rfl,q3⟩⟩
  | next=>exact False.elim hq'
  | brk=>exact False.elim hq'
  | cont=>exact False.elim hq'
end
section
variable {M:Model} {A:Around} {E:Value→Shared→Prop} {env:Env} {nm q:Str} {C N:Addr} {bs bm:List Value} {hdct:Bool} {sn:List Str} {sub:List Value} {ab:Bool} {col:Option Bool} {dd:Option Addr} {k0 k1 k2 k3 k5:Option Value} {newId:String}
theorem raise_x {s:Shared} {x:Sem Value} {Q:Flow→Shared→Prop} (hbase:bm.contains (.type "BaseException") = true) (hh:A.handled = none)
  (h:wpAny M A x (fun v s₁=>∃ e a0 d,v = .ref e∧s₁.heap.get? C = some (excClassObj nm q C N bs bm hdct sn sub ab col dd k0 k1 k2 k3 k5 newId)∧s₁.heap.get? e = some (ExcObj (.ref C) a0 d .none)∧E (.ref e) s₁) E s) :
  wpAny M A (raiseStmt env (some x) none) Q E s:=by
 have hcB:(Value.ref C :: bm).contains (.type "BaseException") = true:=by rw [List.contains_cons,hbase,Bool.or_true]
 unfold raiseStmt
 refine wpAny_bind (wpAny_mono h (fun v s₁ h₁=>?_) fun _ _ x=>x)
 obtain ⟨e,t,d0,rfl,hC,he,hE⟩:=h₁
 obtain ⟨hp,g,d,tk,os⟩:=s₁
 delta ExcObj ExcObjC at he
 repeat (first | with_reducible refine wpAny_loadPart_at he ?_ | with_reducible refine wpAny_loadPart_at hC ?_ | (with_reducible refine wpAny_isSubtype_exc hC ?_; rw [hcB]) | wp_step)
 exact wpAny_raiseNew_none hh hE
end
def RaiseX (X:Cx) (E:XK):Prop:=∀ (pins:List (Addr × Obj)) (σ:St) (H:Hp) (s:Shared) (e C:Addr) (dd:Option Addr),Inv X pins σ H s→H e = some (.ext (exφ e C dd))→X.H₀ e = none→E (.ref C) dd (unt H e)→X.xe (.ref e) s
section
variable {X:Cx} {E:XK} {call:Expr} {te:TE} {pos:Pos} {x:Str} {p cpos:Pos} {args:List Expr}
theorem ps_raiseX {C f:Addr} (O:ExcI X.K C f) (hr:RaiseX X E) (hc:X.calm = true) (he:PE X (.Call (.Name x p) args [] cpos) te) :
  PS X (.Raise (some (.Call (.Name x p) args [] cpos)) none pos) (fun D σ H=>te σ H fun v H1=>∃ e dd,v = .ref e∧H1 e = some (.ext (exφ e C dd))∧X.H₀ e = none∧E (.ref C) dd (unt H1 e)):=by
 intro pins s σ H D I h
 obtain ⟨tl,N,nm,qn,bs,sn,sub,ab,col,dd,k0,k1,k2,k3,k5,hC,T,hrf⟩:=O.ex
 rw [arm_exec_Raise]
 have F:=PySem.F.excBase_ValueError
 have hb:tl.contains (.type "BaseException") = true:=(T _ I.kIn).hasType F.hasBase
 have key:∀ {y:Sem Value},y = (eval (.Call (.Name x p) args [] cpos) X.env >>= fun v=>standAt pos >>= fun _=>pure v) ∨ y = eval (.Call (.Name x p) args [] cpos) X.env→wpAny (model X.prog X.w) X.A y (fun v s₁=>∃ e a0 d,v = .ref e∧s₁.heap.get? C = some (excClassObj nm qn C N bs tl true sn sub ab col dd k0 k1 k2 k3 k5 "ValueError.__new__")∧s₁.heap.get? e = some (ExcObj (.ref C) a0 d .none)∧X.xe (.ref e) s₁) X.xe s:=by
  have base:=thn (Q':=fun v s₁=>∃ e a0 d,v = .ref e∧s₁.heap.get? C = some (excClassObj nm qn C N bs tl true sn sub ab col dd k0 k1 k2 k3 k5 "ValueError.__new__")∧s₁.heap.get? e = some (ExcObj (.ref C) a0 d .none)∧X.xe (.ref e) s₁) (he pins s σ H _ I h) fun u s1 ⟨v,H1,I1,rv,e,dd',ev,hx,h0,q⟩=>by
   subst ev
   obtain rfl:u = Value.ref e:=rv
   obtain ⟨a0,g⟩:=exφ_at I1 hx
   exact ⟨e,_,_,rfl,I1.kIn _ _ hC,g,hr pins σ H1 s1 e C dd' I1 hx h0 q⟩
  rintro y (rfl | rfl)
  ·exact wpAny_bind (wpAny_mono base (fun v s3 h3=>wpAny_bind (wpAny_standAt (wpAny_pure h3))) fun _ _ z=>z)
  ·exact base
 first
  | exact wpAny_bind (wpAny_standAt (raise_x hb (I.ok.hd hc) (key (.inl rfl))))
  | exact wpAny_bind (wpAny_standAt (raise_x hb (I.ok.hd hc) (key (.inr rfl))))
end
section
variable {bx:Bool} {P:Program} {w:World} {K:PySem.W.Frag} {mg:Str→Option Value} {base:Heap} {N:List Str} {qual:Str} {scope:Scope} {f:Addr} {cd:Value} {A:Around} {outer:List Env} {s₀:Shared} {H₀:Hp} {E:XK}
theorem raiseX_ok:RaiseX (cxOf (CXq bx P w) P w K mg base N qual scope f cd A outer s₀ H₀ E) E:=by
 intro pins σ H s x C dd I hx h0 q
 have I':=I.unt hx (fun u z=>by rw [h0] at z; cases z)
 obtain ⟨a0,gx⟩:=exφ_at I hx
 have nfr:x ∉ frs (envOfC qual scope s₀.heap.objs.size f cd :: outer):=fun hm=>by
  have:=I.stkFree x hm
  rw [hx] at this; cases this
 have hin:∀ env ∈ (envOfC qual scope s₀.heap.objs.size f cd :: outer),∀ a,env.frame = some a→a ∈ x :: frs (envOfC qual scope s₀.heap.objs.size f cd :: outer):=fun env he a ha=>List.mem_cons_of_mem _ (List.mem_filterMap.mpr ⟨env,he,ha⟩)
 have hB:HOk P w (unt H x) (PySem.W.hideAll s.heap (x :: frs (envOfC qual scope s₀.heap.objs.size f cd :: outer))):=fun a o e=>(I'.hok a o e).stay (fun b u hb eb=>PySem.W.hideAll_get _ eb fun hm=>by
   rcases List.mem_cons.mp hm with z | z
   ·subst z
    rcases hb with y | y
    ·subst y; rw [unt_same] at e; cases e
    ·rw [unt_same] at y; cases y
   ·have n:=I'.stkFree b z
    rcases hb with y | y
    ·rw [y,e] at n; cases n
    ·rw [y] at n; cases n) (fun _ z=>z) fun _ _ z=>z
 have cov0:∀ b o,s₀.heap.get? b = some o→b ∉ frs outer→∃ ob,(PySem.W.hideAll s.heap (x :: frs (envOfC qual scope s₀.heap.objs.size f cd :: outer))).get? b = some ob:=fun b o e hb=>by
  obtain ⟨o1,e1⟩:=I.base.there b o e (by intro z; cases z)
  refine ⟨o1,PySem.W.hideAll_get _ e1 fun hm=>?_⟩
  rcases List.mem_cons.mp hm with z | hm
  ·subst z
   have:=I.base.free b o e h0 (by intro z; cases z)
   rw [hx] at this; cases this
  ·rcases List.mem_cons.mp (I.stkSub b hm) with z | z
   ·exact absurd (Nat.lt_of_lt_of_le (Heap.lt_size e) I.ok.above) (by rw [z]; exact Nat.lt_irrefl _)
   ·exact hb z
 have fresh:(PySem.W.hideAll s.heap (x :: frs (envOfC qual scope s₀.heap.objs.size f cd :: outer))).get? x = none:=PySem.W.hideAll_none _ (by simp)
 refine leave_x0 (L:=s₀.heap.objs.size) (B:=PySem.W.hideAll s.heap (x :: frs (envOfC qual scope s₀.heap.objs.size f cd :: outer))) I.ok.frames rfl (PySem.W.funFrames_hide I.stack hin) gx (fun b o e=>PySem.W.of_hideAll _ e) fresh fun h2 fl up=>?_
 exact leave_fin I'.os I'.bare I'.base I'.ok.funs I'.ok.frf (fun b o e=>PySem.W.of_hideAll _ e) fl (.inl rfl) hB cov0 (fun b o _ e n=>up b o e n) q
end
end L2
set_option Elab.async false
set_option linter.all false
set_option maxRecDepth 100000
namespace L2
open PySem PySem.Spec PyProof.Rows
open PySem.W (InstAt KitX kitOne findIn looks_findIn looks_find)
def excφ (x C:Addr) (dd:Option Addr):Heap→Prop:=fun h=>∃ a0 tb cs,h.get? x = some (ExcObjC (.ref C) a0 dd tb cs)
def Held (bx:Bool) (H:Hp) (x C:Addr) (dd:Option Addr):Prop:=∃ a0 tb cs,H x = some (.frz (ExcObjC (.ref C) a0 dd tb cs) (.ext (excφ x C dd)))∧CxB bx H cs.1
section
variable {prog:Program} {w:World} {A:Around} {E:Value→Shared→Prop} {s:Shared} {K:PySem.W.Frag} {x C:Addr} {ox:Obj} {od:Obj} {name:Str} {v:Value}
theorem exc_attr {expr:Bool} {Q:Value→Shared→Prop} (X:K.In s.heap) (I:InstAt s.heap x ox C (some od)) (O:ExcLook K C) (hh:PySem.W.hasDictIn K C = true) (n:findIn K (.ref C) name = some none) (hl:PySem.W.lookIn name od = some (some v)) (hv:PySem.W.handedIn v = true)
  (h:Q v { s with toks:=s.toks + 1 }):wpAny (model prog w) A (getAttr (.ref x) name expr) Q E s:=by
 obtain ⟨hp,g,d,t,os⟩:=s
 have L0:=I.type (M:=model prog w)
 have L1:=looks_findIn (M:=model prog w) X O.ga
 have L2:=PySem.W.looks_hook (M:=model prog w) (mc:=.ref C) X (r:=none) (by rw [if_pos (show onTheHeap (Value.ref C) = true from rfl)]; exact O.gr)
 have L3:=looks_find (M:=model prog w) X I (PySem.W.findObj_own hh n rfl hl)
 refine wpAny_bind (wpAny_mkText (wpAny_holding (wpAny_bind (L0.at (wpAny_bind (L1.at ?_))))))
 dsimp only
 rw [show (onTheHeap (Value.ref C) && Value.builtin "BaseException.__getattribute__" == Value.builtin "object.__getattribute__") = false from by rw [show (Value.builtin "BaseException.__getattribute__" == Value.builtin "object.__getattribute__") = false from by decide +kernel,Bool.and_false],if_neg (by decide)]
 refine wpAny_bind (L2.at (wpAny_bind (wpAny_attempt (wpAny_holding ?_))))
 unfold callGetattribute
 rw [show (expr && onTheHeap (Value.builtin "BaseException.__getattribute__")) = false from Bool.and_false _,if_neg (by decide)]
 unfold boundAndCalled
 refine wpAny_bind (wpAny_of_eq (PySem.F.attr_ValueError.ga.bind (.ref x)) ?_)
 refine wpAny_call (codeAny_call_builtin PySem.F.attr_ValueError.ga.plain PySem.F.entry_bexc_ga ?_)
 have fin:wpAny (model prog w) A.in1 (Builtin.«object.__getattribute__» ⟨[.ref x,.str name t],[]⟩) (fun f s'=>match f with | .done (.ret v)=>wpAny (model prog w) A (handedOut v) Q E s' | _=>False) (fun _ _=>False) ⟨hp,g,d,t + 1,os⟩:=by
  unfold Builtin.«object.__getattribute__»
  refine wpAny_bind (wpAny_pure (wpAny_bind (wpAny_pure (wpAny_bind (L0.at (wpAny_bind (L3.at ?_)))))))
  exact wpAny_pure (PySem.W.handed_on hv h)
 refine exc_check X I O (wpAny_mono fin (fun f s' z=>?_) fun _ _ z=>z.elim)
 rcases f with (_ | _ | _ | _) | _ <;> first | exact z.elim | exact z
end
section
variable {X:Cx} {o:Expr} {name:Str} {ta:TE} {pos:Pos}
def tXFld (K:PySem.W.Frag) (ta:TE) (f:Str):TE:=fun σ H Q=>ta σ H fun v H1=>∃ x C dx fs y,v = .ref x∧(∃ bx,Held bx H1 x C (some dx))∧H1 dx = some (.xd fs)∧fs.lookup f = some y∧ExcLook K C∧PySem.W.hasDictIn K C = true∧NoAttr K C f∧Q y H1
theorem pe_xfld (he:PE X o ta) (hb:attributeBase o name X.env (eval o X.env) = eval o X.env):PE X (.Attribute o name pos) (tXFld X.K ta name):=by
 intro pins s σ H Q I h
 refine attr_of hb (thn (he pins s σ H _ I h) fun u s1 ⟨v,H1,I1,rv,x,C,dx,fs,y,ev,⟨bx,a0,tb,cs,hx,_⟩,hd,l,O,hh,n,q⟩=>?_)
 subst ev
 obtain rfl:u = Value.ref x:=rv
 have gx:s1.heap.get? x = some (ExcObjC (.ref C) a0 (some dx) tb cs):=(show ObjOk X.prog X.w H1 s1.heap x (.frz _ _) from I1.hok x _ hx).1
 obtain ⟨mA,ns,r⟩:=(show ObjOk X.prog X.w H1 s1.heap dx (.xd fs) from I1.hok dx _ hd)
 obtain ⟨od,ho,hl⟩:=lookIn_ns ns
 obtain ⟨uu,hu,ru⟩:=RelO.some_of (v:=y) (o:=mA name) (by rw [← l]; exact r name)
 exact exc_attr I1.kIn ⟨gx,rfl,rfl,ho⟩ O hh n (by rw [hl,hu]) (handed_of ru) ⟨y,H1,I1.tok _,ru,q⟩
end
def Cx.handE (X:Cx) (x:Addr) (R:Value→Shared→Prop):Cx:={ X with A:=X.A.mark (some (.ref x)),calm:=false,xe:=R }
abbrev Cx.hand (X:Cx) (x:Addr):Cx:=X.handE x fun _ _=>False
section
variable {X:Cx} {pins:List (Addr × Obj)} {σ:St} {H:Hp} {s:Shared}
theorem Inv.hand {R:Value→Shared→Prop} {C:Addr} {dd:Option Addr} (I:Inv X pins σ H s) {x:Addr} {bx:Bool} (hx:Held bx H x C dd):Inv (X.handE x R) pins σ H s :=
 ⟨⟨I.ok.mod,I.ok.kind,I.ok.glob,I.ok.blt,I.ok.above,I.ok.inj,I.ok.has,I.ok.cab,(fun z=>nomatch z),I.ok.frames,I.ok.stk,I.ok.exf,I.ok.bs,I.ok.bsz,I.ok.noex,I.ok.exfs,I.ok.funs,I.ok.frf⟩,I.os,I.bare,I.base,I.loc,I.cell,I.free,I.freeC,I.pin,I.hok,I.len,let ⟨_,_,_,e,c⟩:=hx; .inr ⟨x,_,_,_,_,rfl,e,rfl,rfl,c.ok⟩⟩
theorem Inv.unhand {R:Value→Shared→Prop} {x:Addr} (I:Inv (X.handE x R) pins σ H s) (hd:X.calm = true→X.A.handled = none) (hh:HdH X.A H):Inv X pins σ H s :=
 ⟨⟨I.ok.mod,I.ok.kind,I.ok.glob,I.ok.blt,I.ok.above,I.ok.inj,I.ok.has,I.ok.cab,hd,I.ok.frames,I.ok.stk,I.ok.exf,I.ok.bs,I.ok.bsz,I.ok.noex,I.ok.exfs,I.ok.funs,I.ok.frf⟩,I.os,I.bare,I.base,I.loc,I.cell,I.free,I.freeC,I.pin,I.hok,I.len,hh⟩
theorem Inv.gone {h':Heap} {m':Str→Option Value} {t':Nat} (I:Inv X pins σ H s) (hn:h'.Ns X.env.locals m') (sb:Heap.SameBut X.env.locals s.heap h'):Inv X pins (σ.map fun _=>none) H { s with heap:=h',toks:=t' }:=by
 have k:∀ b o,b ≠ X.env.locals→s.heap.get? b = some o→h'.get? b = some o:=fun b o hb e=>sb.extBut b o hb e
 have ne:∀ b o,X.s₀.heap.get? b = some o→b ≠ X.env.locals:=fun b o e=>Nat.ne_of_lt (Nat.lt_of_lt_of_le (Heap.lt_size e) I.ok.above)
 refine ⟨I.ok,I.os,I.bare,⟨fun b o e n hb hx=>k b o (ne b o e) (I.base.keep b o e n hb hx),fun b o e n hb hx=>?_,I.base.free,fun b o e hx=>?_,I.base.tups,I.base.frzs,I.base.tbls⟩,⟨m',hn,fun i x v _ e2 _=>?_⟩,fun x c e=>?_,I.free,I.freeC,fun p hp=>?_,fun b o e=>?_,by rw [List.length_map]; exact I.len,I.hdh⟩
 ·obtain ⟨sl,e1⟩:=I.base.slot b o e n hb hx
  exact ⟨sl,k b _ (ne b o e) e1⟩
 ·obtain ⟨o1,e1⟩:=I.base.there b o e hx
  exact ⟨o1,k b _ (ne b o e) e1⟩
 ·rw [List.getElem?_map] at e2
  cases es:σ[i]? with
  | none=>rw [es] at e2; cases e2
  | some v'=>rw [es] at e2; cases e2
 ·obtain ⟨v,o,ho,hd⟩:=I.cell x c e
  exact ⟨v,o,k _ _ (I.cne x c e) ho,hd⟩
 ·obtain ⟨a,b,c,d,e⟩:=I.pin p hp
  exact ⟨k _ _ c a,b,c,d,e⟩
 ·refine (I.hok b o e).stay (fun c u hc q=>k c u (fun z=>?_) q) (fun _ q=>q) fun _ _ q=>q
  have hf:=I.free
  rw [← z] at hf
  rcases hc with w | w
  ·rw [w,e] at hf; cases hf
  ·rw [w] at hf; cases hf
theorem ObjOk.there {P:Program} {w:World} {h:Heap} {a:Addr} {o:HO} (x:ObjOk P w H h a o):∃ ob,h.get? a = some ob:=by
 cases o with
 | lst xs=>obtain ⟨_,_,_,_,e⟩:=x; exact ⟨_,e⟩
 | tup xs=>obtain ⟨_,_,_,o,e,_⟩:=x; exact ⟨_,e⟩
 | dK kvs=>obtain ⟨_,_,_,_,o,_,_,e,_⟩:=x; exact ⟨_,e⟩
 | dT kvs=>obtain ⟨_,_,_,_,o,_,_,e,_⟩:=x; exact ⟨_,e⟩
 | set S n=>obtain ⟨o,_,_,_,e,_⟩:=x; exact ⟨_,e⟩
 | ins C dx fs=>obtain ⟨_,_,_,e,_⟩:=x; exact ⟨_,e⟩
 | own y=>exact x
 | xd fs=>obtain ⟨_,⟨_,_,_,e,_⟩,_⟩:=x; exact ⟨_,e⟩
 | rng lo hi=>obtain ⟨_,_,_,e⟩:=x; exact ⟨_,e⟩
 | frz ob u=>obtain ⟨e,_⟩:=x; exact ⟨_,e⟩
 | tbl ps=>exact ⟨_,x⟩
 | met f y=>exact ⟨_,x⟩
 | ext φ=>exact x.2.1
end
def PEX (bx:Bool) (X:Cx) (e:Expr) (t:St→Hp→VK→XK→Prop):Prop :=
 ∀ (pins:List (Addr × Obj)) (s:Shared) (σ:St) (H:Hp) (Q:VK) (E:XK),Inv X pins σ H s→t σ H Q E →
  wpAny (model X.prog X.w) X.A (eval e X.env) (EP X pins σ Q) (fun v s'=>∃ Hc sc,Inv X pins σ Hc sc∧CXq bx X.prog X.w X.stack Hc sc E v s') s
section
variable {bx:Bool} {X:Cx} {k:Nat} {f C C0:Addr} {fd:FuncData} {ps:List Str} {sp:Sp} {x n cx:Str} {p pos p1 np hpos:Pos} {e:Expr} {es:List Expr} {t:TA}
theorem pex_call (F:FnOk X.prog X.w X.K X.mg X.base (CXq bx X.prog X.w) k f fd ps sp) (hr:Room k X.A) (hg:Gl X x) (hm:X.mg x = some (.ref f)) (hk:PySem.W.keepIn X.K (.ref f) = true) (hb:Binds X.K fd ps [])
  (ha:PA X.nox (e :: es) t) (hcalm:X.calm = true:=by rfl) (hdb:(x == ("__debug__":Str)) = false:=by decide) (he:starEach (e :: es) X.env = (false,eval e X.env) :: starEach es X.env:=by rfl) (hpl:(backTo pos (starEach es X.env)).any (·.1) = false:=by rfl) :
  PEX bx X (.Call (.Name x p) (e :: es) [] pos) (fun σ H Q E=>t σ H fun vs H1=>sp vs H1 Q E):=by
 intro pins s σ H Q E I h
 refine wpAny_Call_Name_kw (ld_glob I hg hm ?_ hdb)
 refine PySem.W.callWith_K (h₀:=X.base) I.ok.mod.kin hk (wpAny_mono (ha pos pins s σ H _ (I.wish _) h) (fun us s1 ⟨vs,H1,I1,r,q⟩=>⟨I1.kIn,?_⟩) fun _ _ z=>z.elim) he hpl
 have I1:Inv X pins σ H1 s1:=I1.unwish
 have hl:us.length = ps.length:=by rw [← r.length]; exact F.len _ _ _ _ q
 have hbd:=hb s1 us I1.kIn (by rw [List.append_nil]; exact hl)
 rw [List.append_nil] at hbd
 refine wpAny_call (codeAny_mono (F.run X.A X.stack s1 H1 ⟨us,[]⟩ us vs Q E hr (fun _=>I1.ok.hd hcalm) I1.env0 hbd r q) fun r' s' hq=>?_)
 cases r' with
 | error e=>exact ⟨H1,s1,I1,hq⟩
 | ok fl =>
  cases fl with
  | ret u=>exact I1.after hq
  | next=>exact False.elim hq
  | brk=>exact False.elim hq
  | cont=>exact False.elim hq
structure ExcM (K:PySem.W.Frag) (C C0:Addr):Prop where
 c:∃ (tl:List Value) (N:Addr) (nm q:Str) (bs:List Value) (hdct:Bool) (sn:List Str) (sub:List Value) (ab:Bool) (col:Option Bool) (dd:Option Addr) (k0 k1 k2 k3 k5:Option Value) (newId:String),
  K.lookup C = some (excClassObj nm q C N bs tl hdct sn sub ab col dd k0 k1 k2 k3 k5 newId)∧(Value.ref C :: tl).contains (.ref C0) = true
 c0:∃ (tl:List Value) (N:Addr) (nm q:Str) (bs:List Value) (hdct:Bool) (sn:List Str) (sub:List Value) (ab:Bool) (col:Option Bool) (dd:Option Addr) (k0 k1 k2 k3 k5:Option Value) (newId:String),
  K.lookup C0 = some (excClassObj nm q C0 N bs tl hdct sn sub ab col dd k0 k1 k2 k3 k5 newId)∧tl.contains (.type "BaseException") = true
theorem exc_matches {M:Model} {A:Around} {E:Value→Shared→Prop} {K:PySem.W.Frag} {s:Shared} {y:Addr} {oe:Obj} {Q:Bool→Shared→Prop} (Z:ExcM K C C0) (KX:K.In s.heap) (he:s.heap.get? y = some oe) (hc:oe.cls = .ref C) (hq:Q true s):wpAny M A (excMatches (.ref y) (.ref C0)) Q E s:=by
 obtain ⟨tl,N,nm,q,bs,hdct,sn,sub,ab,col,dd,k0,k1,k2,k3,k5,newId,hC,hin⟩:=Z.c
 obtain ⟨tl',N',nm',q',bs',hdct',sn',sub',ab',col',dd',k0',k1',k2',k3',k5',newId',hC0,hb0⟩:=Z.c0
 obtain ⟨h,g,d,t,os⟩:=s
 have gC:=KX _ _ hC
 have gC0:=KX _ _ hC0
 have hcB:(Value.ref C0 :: tl').contains (.type "BaseException") = true:=by rw [List.contains_cons,hb0,Bool.or_true]
 have fT:=tc_notTuple
 unfold excMatches
 repeat (first | (with_reducible refine wpAny_loadPart_at he ?_; rw [hc]) | with_reducible refine wpAny_loadPart_at gC0 ?_ | (with_reducible refine wpAny_isSubtype_exc gC0 ?_; rw [hcB]) | (with_reducible refine wpAny_isSubtype_exc gC ?_; rw [hin]) | wp_step)
 exact hq
theorem un_land {fs:List Addr} {Hc H':Hp} {g h h2 B:Heap} (un:Un fs [] Hc H' g h) (st:B.StaysIn h) (st2:B.StaysIn h2) (cov:∀ b o,g.get? b = some o→b ∉ fs→∃ ob,B.get? b = some ob) (up:h.UpToSlots h2)
  (fr:∀ b ∈ fs,∃ o,g.get? b = some o∧∀ vs,o.data ≠ .fields vs) (ff:∀ b ∈ fs,Hc b = none):Un fs [] Hc H' g h2:=by
 have same:∀ b o,g.get? b = some o→b ∉ fs→∀ o',h.get? b = some o'→h2.get? b = some o':=fun b o e hb o' e'=>by
  obtain ⟨ob,eb⟩:=cov b o e hb
  have:=st b ob eb
  rw [e'] at this; cases this
  exact st2 b _ eb
 have slot:∀ b o,g.get? b = some o→b ∈ fs→∃ sl,h2.get? b = some { o with slots:=sl }:=fun b o e hb=>by
  obtain ⟨sl,e1⟩:=un.slot b o e (ff b hb) hb (by simp)
  obtain ⟨o2,e2,hnf⟩:=fr b hb
  rw [e] at e2; cases e2
  obtain ⟨sl',e3⟩:=up b _ e1 hnf
  exact ⟨sl',e3⟩
 refine ⟨fun b o e n hb hx=>same b o e hb o (un.keep b o e n hb hx),fun b o e n hb hx=>slot b o e hb,un.free,fun b o e hx=>?_,un.tups,un.frzs,un.tbls⟩
 by_cases hb:b ∈ fs
 ·obtain ⟨sl,e1⟩:=slot b o e hb
  exact ⟨_,e1⟩
 ·obtain ⟨o1,e1⟩:=un.there b o e hx
  exact ⟨o1,same b o e hb o1 e1⟩
def tTry (bx:Bool) (i:Nat) (K:PySem.W.Frag) (C0:Addr) (tc:St→Hp→VK→XK→Prop) (tb:V→St→St) (th:Addr→TS):TS:=fun D σ H=>tc σ H (fun v H1=>D.nx (tb v σ) H1) fun cls d H1=>∃ C,cls = .ref C∧ExcM K C C0∧∀ x H2,H1 x = none→(∀ b,b ≠ x→H2 b = H1 b)→Held bx H2 x C d →
 th x { nx:=fun _ _=>False,rt:=D.rt } (σ.set i (some (.ref x))) H2
theorem lands {R:Addr→Value→Shared→Prop} {b₀:Stmt} {suite:List Stmt} {i:Nat} {th:Addr→TS} {D:Ends} {pins:List (Addr × Obj)} {σ:St} {Hc:Hp} {sc:Shared} {v:Value} {s':Shared} {rest:List ExceptHandler}
  (hN:X.N.Nodup) (hi:X.N[i]? = some n) (hl:X.env.scope.names.lookup n = some .local) (hg:Gl X cx) (hm:X.mg cx = some (.ref C0)) (hth:∀ x,PSs (X.handE x (R x)) (b₀ :: suite) (th x))
  (hR:∀ x v s6,R x v s6→AsSuiteRaised (model X.prog X.w) (X.A.mark (some (.ref x))) X.env n hpos (notedBy (model X.prog X.w) (X.A.mark (some (.ref x))) X.env fun y s'=>cameBackBy (model X.prog X.w) X.A X.env X.xe y s') v s6) (hcm:X.calm = true) (hst:X.stack = X.env :: X.outer) (hfr:X.env.frame = some X.env.locals) (hcd:(cx == ("__debug__":Str)) = false)
  (I:Inv X pins σ Hc sc) (h:CXq bx X.prog X.w X.stack Hc sc (fun cls d H1=>∃ C,cls = .ref C∧ExcM X.K C C0∧∀ x H2,H1 x = none→(∀ b,b ≠ x→H2 b = H1 b)→Held bx H2 x C d→th x { nx:=fun _ _=>False,rt:=D.rt } (σ.set i (some (.ref x))) H2) v s') :
  wpAny (model X.prog X.w) X.A (noteFrame v X.env) (fun _ s₂=>wpAny (model X.prog X.w) X.A (setFlight v none) (fun _ s₃=>wpAny (model X.prog X.w) X.A (handleBy v X.env (.ExceptHandler (some (.Name cx np)) (some n) (b₀ :: suite) hpos :: rest)) (SP X pins D) X.xe s₃) X.xe s₂) X.xe s':=by
 obtain ⟨x,cls,dd,H',rfl,os,bare,un,hok,⟨B,a0,cs,fl,hcx,hB,cov⟩,C,rfl,Z,q⟩:=h
 have frames:X.A.frames = some (X.env :: X.outer):=by rw [← hst]; exact I.ok.frames
 rw [hst] at fl
 refine note_x frames hfr fl fun h1 f1 u1=>land_x (s:={ s' with heap:=h1 }) f1 fun h2 f2 u2=>?_
 have up2:=u1.trans u2
 have fr:∀ b ∈ frs X.stack,∃ o,sc.heap.get? b = some o∧∀ vs,o.data ≠ .fields vs:=fun b hb=>(I.stack.mem hb).2
 have un2:Un (frs X.stack) [] Hc H' sc.heap h2:=un_land un fl.1 f2.1 cov up2 fr I.stkFree
 have hx0:H' x = none:=by
  cases e:H' x with
  | none=>rfl
  | some o =>
   obtain ⟨ob,e1⟩:=ObjOk.there (hB x o e)
   rw [fl.2.1] at e1; cases e1
 have cxu:∀ o,CxB bx (upd H' x o) cs.1:=fun o=>hcx.frzs fun b o' u e=>by rw [upd_ne (ne_of_none e hx0)]; exact e
 have track:∀ (hh:Heap) (flv:Value),FlyX B (X.env :: X.outer) x (.ref C) a0 dd cs flv hh→Un (frs X.stack) [] Hc H' sc.heap hh→∃ T,hh.get? x = some (ExcObjC (.ref C) a0 dd (.ref T) cs)∧Inv X pins σ (upd H' x (.frz (ExcObjC (.ref C) a0 dd (.ref T) cs) (.ext (excφ x C dd)))) { s' with heap:=hh }:=fun hh flv f3 un3=>by
  obtain ⟨T3,oT3,ts3,gx3,_,_,_,_,_⟩:=f3.2.2.2
  refine ⟨T3,gx3,?_⟩
  have nsc:∀ b o,sc.heap.get? b = some o→b ≠ x:=fun b o e z=>by
   subst z
   by_cases hb:b ∈ frs X.stack
   ·obtain ⟨o2,e2,hnf⟩:=fr b hb
    obtain ⟨sl,e3⟩:=un3.slot b o2 e2 (I.stkFree b hb) hb (by simp)
    rw [gx3] at e3
    have:=congrArg Obj.data (Option.some.inj e3)
    exact hnf _ this.symm
   ·obtain ⟨ob,e1⟩:=cov b o e hb
    rw [f3.2.1] at e1; cases e1
  have un4:Un (frs X.stack) [] Hc (upd H' x (.frz (ExcObjC (.ref C) a0 dd (.ref T3) cs) (.ext (excφ x C dd)))) sc.heap hh :=
   ⟨un3.keep,un3.slot,fun b o e n hx=>by rw [upd_ne (nsc b o e)]; exact un3.free b o e n hx,un3.there,fun b xs e=>by rw [upd_ne (ne_of_none (un3.tups b xs e) hx0)]; exact un3.tups b xs e,fun b o u e=>by rw [upd_ne (ne_of_none (un3.frzs b o u e) hx0)]; exact un3.frzs b o u e,
    fun b ps e=>by obtain ⟨more,e1⟩:=un3.tbls b ps e; exact ⟨more,by rw [upd_ne (ne_of_none e1 hx0)]; exact e1⟩⟩
  have hok4:HOk X.prog X.w (upd H' x (.frz (ExcObjC (.ref C) a0 dd (.ref T3) cs) (.ext (excφ x C dd)))) hh:=fun b o e=>by
   by_cases hb:b = x
   ·subst hb
    rw [upd_same] at e; cases e
    exact ⟨gx3,⟨_,_,_,gx3⟩,⟨_,gx3⟩,fun g1 g2 ⟨a1,tb,c1,e1⟩ k=>⟨a1,tb,c1,k _ e1⟩⟩
   ·rw [upd_ne hb] at e
    exact (hB.kept f3.1 b o e).stay (fun _ _ _ z=>z) (fun c z=>by rw [upd_ne (ne_of_none z hx0)]; exact z) fun c xs z=>by rw [upd_ne (ne_of_none z hx0)]; exact z
  exact I.call' (ch:=[]) os un4 hok4 bare (fun b z=>absurd z (by simp))
 obtain ⟨T2,gx2,I2⟩:=track h2 _ f2 un2
 refine wpAny_handleBy_cons (codeAny_handlers_test ?_) (by intro z; cases z)
 refine ld_glob (X:=X.hand x) (I2.hand (bx:=bx) ⟨a0,_,_,upd_same,cxu _⟩) hg hm ?_ hcd
 refine exc_matches Z I2.kIn gx2 rfl ?_
 refine codeAny_handlers_suite_as ?_
 refine land_x (s:={ s' with heap:=h2 }) f2 fun h3 f3 u3=>?_
 have un3:Un (frs X.stack) [] Hc H' sc.heap h3:=un_land un fl.1 f3.1 cov (up2.trans u3) fr I.stkFree
 obtain ⟨T3,gx3,I4⟩:=track h3 _ f3 un3
 have hheld:Held bx (upd H' x (.frz (ExcObjC (.ref C) a0 dd (.ref T3) cs) (.ext (excφ x C dd)))) x C dd:=⟨a0,_,_,upd_same,cxu _⟩
 refine store_ok (X:=X.handE x (R x)) (I4.hand hheld) hN hi (.inl hl) (v:=.ref x) rfl (fun s5 I5=>?_) (.inr hl)
 refine wpAny_mono (hth x pins s5 _ _ { nx:=fun _ _=>False,rt:=D.rt } I5 (q x _ hx0 (fun b hb=>upd_ne hb) hheld)) (fun fl s6 q6=>?_) fun v s6 z=>hR x v s6 z
 cases fl with
 | next=>obtain ⟨_,_,_,z⟩:=q6; exact z.elim
 | brk=>obtain ⟨_,_,_,z⟩:=q6; exact z.elim
 | cont=>obtain ⟨_,_,_,z⟩:=q6; exact z.elim
 | ret u =>
  obtain ⟨v6,σ6,H6,I6,r6,z6⟩:=q6
  have I6:Inv X pins σ6 H6 s6:=I6.unhand I.ok.hd (.inl (I.ok.hd hcm))
  obtain ⟨m6,hn6,_⟩:=I6.loc
  refine wpAny_nameGoes hl hn6 (by rw [I.ok.kind]; rfl) fun h7 m7 hn7 sb7=>?_
  exact ⟨v6,_,H6,I6.gone hn7 sb7,r6,z6⟩
theorem ps_tryS {b₀:Stmt} {suite:List Stmt} {i j:Nat} {y:Str} {py:Pos} {th:Addr→TS} {call:Expr} {tc:St→Hp→VK→XK→Prop} (hcall:PEX bx X call tc)
  (hN:X.N.Nodup) (hj:X.N[j]? = some y) (hy:Loc X.env.scope y) (hi:X.N[i]? = some n) (hl:X.env.scope.names.lookup n = some .local) (hg:Gl X cx) (hm:X.mg cx = some (.ref C0)) (hth:∀ x,PSs (X.hand x) (b₀ :: suite) (th x)) (hcm:X.calm = true:=by rfl) (hst:X.stack = X.env :: X.outer:=by rfl) (hfr:X.env.frame = some X.env.locals:=by rfl)
  (hs:swapsWith call (some (.Name y py)) p1.line X.env = pure false:=by rfl) (hcd:(cx == ("__debug__":Str)) = false:=by decide) (hf:X.fn y = true ∨ X.env.scope.names.lookup y = some .local:=by first | exact .inl rfl | exact .inr rfl) :
  PS X (.Try [.Assign [.Name y py] call p1] [.ExceptHandler (some (.Name cx np)) (some n) (b₀ :: suite) hpos] [] [] pos) (tTry bx i X.K C0 tc (fun v σ=>σ.set j (some v)) th):=by
 intro pins s σ H D I h
 refine wpAny_Try_except (wpAny_execs_cons (wpAny_Assign_Name (wpAny_mono (hcall pins s σ H _ _ I h) (fun v s1 ⟨z,H1,I1,r1,q1⟩=>?_) fun v s1 ⟨Hc,sc,Ic,hx⟩=>lands (R:=fun _ _ _=>False) hN hi hl hg hm hth (fun _ _ _ z=>z.elim) hcm hst hfr hcd Ic hx) hs))
 exact store_ok I1 hN hj hy r1 (fun s2 I2=>wpAny_execs_nil (wpAny_execs_nil ⟨_,H1,I2,q1⟩)) hf
end
end L2
set_option Elab.async false
set_option linter.all false
set_option maxRecDepth 100000
set_option maxHeartbeats 1000000
namespace L2
open PySem PySem.Spec PyProof.Rows
section
variable {X:Cx}
theorem place_some (lo hi i:Int):(Builtin.Range.rangePlace? lo hi 1 i).isSome = (decide (lo ≤ i) && decide (i < hi)):=by
 unfold Builtin.Range.rangePlace?
 simp only [show (1:Int) > 0 from by decide,if_true,Int.emod_one,beq_self_eq_true,Bool.and_true]
 cases decide (lo ≤ i) <;> cases decide (i < hi) <;> rfl
theorem op_in_rng:OpR X (compareOp .In) (fun x y H Q=>∃ (i lo hi:Int) (r:Addr),x = .int i∧y = .ref r∧H r = some (.rng lo hi)∧Q (.bl (decide (lo ≤ i) && decide (i < hi))) H):=by
 intro pins s σ H x y v u Q I rx ry h
 obtain ⟨i,lo,hi,r,rfl,rfl,hr,q⟩:=h
 obtain ⟨t,rfl⟩:=rx
 obtain rfl:u = Value.ref r:=ry
 obtain ⟨t1,t2,t3,g⟩:=(show ObjOk X.prog X.w H s.heap r (.rng lo hi) from I.hok r _ hr)
 have hT:s.TypeIs (.ref r) "range":=⟨_,g,rfl⟩
 show wpAny _ _ (do return Value.bool (← contains (.ref r) (.int i t))) _ _ s
 refine wpAny_bind ?_
 unfold contains
 try with_reducible refine wpAny_holding ?_
 refine wpAny_bind (wpAny_specialOf hT PySem.F.slot_range_contains.lookup ?_)
 show wpAny _ _ (if (some (Value.builtin "range.__contains__") == some Value.none) = true then _ else _) _ _ s
 rw [if_neg (by rw [beq_builtin_none]; exact Bool.false_ne_true)]
 refine wpAny_bind (wpAny_callSpecialUnlessNone?_slot (name:=Str.ofString "__contains__") hT PySem.F.slot_range_contains
  (wpAny_call_entry PySem.F.slot_range_contains hT PySem.F.entry_range_contains ?_ (PySem.F.args_range_contains_2 _ _)))
 show wpAny _ _ (Builtin.Range.rangeFields (.ref r) >>= fun p=>ret (.bool (Builtin.Range.rangePlace? p.1 p.2.1 p.2.2 i).isSome)) _ _ s
 unfold Builtin.Range.rangeFields
 have ai:∀ (k:Int) (t:Tok),asInt? (.int k t) = pure (some k):=fun k t=>by rfl
 refine wpAny_bind (wpAny_bind (wpAny_field g rfl (x:=.int lo t1) rfl ?_))
 rw [ai]
 refine wpAny_bind (wpAny_pure (wpAny_bind (wpAny_field g rfl (x:=.int hi t2) rfl ?_)))
 rw [ai]
 refine wpAny_bind (wpAny_pure (wpAny_bind (wpAny_field g rfl (x:=.int 1 t3) rfl ?_)))
 rw [ai]
 refine wpAny_bind (wpAny_pure (wpAny_pure (wpAny_pure ⟨_,rfl,?_⟩)))
 show wpAny _ _ (truthy (.bool (Builtin.Range.rangePlace? lo hi 1 i).isSome)) _ _ s
 refine wpAny_truthy_bool (wpAny_pure ?_)
 rw [place_some]
 exact ⟨.bl _,H,I,rfl,q⟩
theorem op_isB:OpR X (compareOp .Is) (fun x y H Q=>∃ b c,x = .bl b∧y = .bl c∧Q (.bl (b == c)) H):=by
 intro pins s σ H x y v u Q I rx ry h
 obtain ⟨b,c,rfl,rfl,q⟩:=h
 cases rx; cases ry
 exact PyProof.Rows.is_bool ⟨.bl (b == c),H,I,rfl,q⟩
theorem op_isnotB:OpR X (compareOp .IsNot) (fun x y H Q=>∃ b c,x = .bl b∧y = .bl c∧Q (.bl (!(b == c))) H):=by
 intro pins s σ H x y v u Q I rx ry h
 obtain ⟨b,c,rfl,rfl,q⟩:=h
 cases rx; cases ry
 have e:compareOp .IsNot (.bool b) (.bool c) = pure (Value.bool (!(b == c))):=by cases b <;> cases c <;> rfl
 rw [e]
 exact wpAny_pure ⟨.bl (!(b == c)),H,I,rfl,q⟩
end
end L2
set_option Elab.async false
set_option linter.all false
set_option maxRecDepth 100000
set_option maxHeartbeats 1000000
namespace L2
open PySem PySem.Spec PyProof.Rows
open PySem.W (CodeHd tabObj)
theorem law_callT {P:Program} {w:World} {K:PySem.W.Frag} {mg mb:Str→Option Value} {CX:CXT} {k:Nat} {fa a c Pt:Addr} {fd:FuncData} {x:Str} {sp:Sp} {s₁:Shared} {vs:List Value} {ns:List Int}
  (KX:K.In s₁.heap) (hns:s₁.heap.Ns mainGlobals mg) (hb:s₁.heap.Ns builtinsNs mb) (hbb:∀ x:Str,x ≠ "__name__"→mb x = bootBuiltins x) (hlim:s₁.heap.NoLimit) (hg:s₁.gens = #[])
  (hC:CodeHd s₁.heap c Pt) (hP:s₁.heap.get? Pt = some (tabObj #[])) (hKP:K.lookup Pt = none) (hbm:∃ bm ob,mg "__builtins__" = some (.ref bm)∧bm ≠ builtinsNs∧s₁.heap.get? bm = some ob∧ob.cls = .type "module"∧ob.dict = some builtinsNs∧ob.data = .plain)
  (ha:s₁.heap.get? a = some { cls:=.type "list",data:=.seq vs.toArray }) (hi:IntsAre vs ns) (hl:ns.length ≤ sizeLine) (hr:Room k callerA)
  (F:∀ base:Heap,K.In base→base.Ns mainGlobals mg→CodeHd base c Pt→base.BuiltinsAt mg Pt→FnOk P w K mg base CX k fa fd [x] sp) (hbind:∀ (s:Shared) (u:Value),BindsTo s fd ⟨[u],[]⟩ [(x,u)])
  (hsp:∀ H:Hp,SqL K H a (ns.map V.int)→H Pt = some (.tbl #[])→sp [.ref a] H (fun v _=>v = .bl true) fun _ _ _=>False)
  (hCX:∀ H e s',CX [] H s₁ (fun _ _ _=>False) e s'→False) :
  codeAny (model P w) callerA (.call (.ref fa) ⟨[.ref a],[]⟩) (fun r s'=>r = .ok (.ret (.bool true))∧OldK s₁.heap s'.heap∧s'.os = s₁.os∧AllBare s'.gens) s₁:=by
 have rv:=vals_ints hi
 have lenV:=hi.length
 have naP:a ≠ Pt:=fun z=>by rw [z,hP] at ha; cases ha
 have core:∀ H:Hp,H Pt = some (.tbl #[])→(∀ b,b ≠ Pt→H b = none ∨ ∃ o xs,H b = some (.frz o (.lst xs)))→SqL K H a (ns.map V.int)→HOk P w H s₁.heap→(∀ b,H b ≠ none→b = a ∨ b = Pt)→(H a ≠ none→K.lookup a = none) →
   codeAny (model P w) callerA (.call (.ref fa) ⟨[.ref a],[]⟩) (fun r s'=>r = .ok (.ret (.bool true))∧OldK s₁.heap s'.heap∧s'.os = s₁.os∧AllBare s'.gens) s₁:=by
  intro H hHP hO hS hok hA hK
  have base_of:∀ {b:Addr} {o:Obj},s₁.heap.get? b = some o→H b = none→(hidT s₁.heap H).get? b = some o:=fun e n=>hidT_get e n
  have no_of:∀ {b:Addr} {o:Obj},s₁.heap.get? b = some o→(∀ its n,o.data ≠ .seq its n)→(∀ fs,o.data ≠ .fields fs)→H b = none:=fun {b o} e d1 d2=>by
   cases q:H b with
   | none=>rfl
   | some u =>
    rcases hA b (by rw [q]; simp) with e' | e'
    ·subst e'; rw [ha] at e; cases e; exact absurd rfl (d1 _ _)
    ·subst e'; rw [hP] at e; cases e; exact absurd rfl (d2 _)
  have nsK:∀ {b:Addr} {m:Str→Option Value},s₁.heap.Ns b m→(hidT s₁.heap H).Ns b m:=fun {b m} ⟨o,es,ep,e,d,r⟩=>⟨o,es,ep,base_of e (no_of e (by rw [d]; simp) (by rw [d]; simp)),d,r⟩
  have hKb:K.In (hidT s₁.heap H):=fun b o e=>base_of (KX b o e) (by
   cases q:H b with
   | none=>rfl
   | some u =>
    rcases hA b (by rw [q]; simp) with e' | e'
    ·subst e'; rw [hK (by rw [q]; simp)] at e; cases e
    ·subst e'; rw [hKP] at e; cases e)
  have hM:Mod K mg (hidT s₁.heap H):=⟨hKb,nsK hns,⟨mb,nsK hb,hbb⟩,let ⟨mc,h1,h2⟩:=hlim; ⟨mc,nsK h1,h2⟩⟩
  have hCb:CodeHd (hidT s₁.heap H) c Pt:=by
   obtain ⟨o,vs',file,tf,flags,tg,inF,text,tt,e1,e2,r⟩:=hC
   have ncP:c ≠ Pt:=r.2.2.2.2.2.2.2
   refine ⟨o,vs',file,tf,flags,tg,inF,text,tt,base_of e1 ?_,e2,r⟩
   cases q:H c with
   | none=>rfl
   | some u =>
    rcases hA c (by rw [q]; simp) with e' | e'
    ·subst e'; rw [ha] at e1; cases e1; exact absurd (show Value.type "list" = .type "code" from e2) (by decide +kernel)
    ·exact absurd e' ncP
  have hBb:(hidT s₁.heap H).BuiltinsAt mg Pt:=by
   obtain ⟨bm,ob,b1,b2,b3,b4,b5,b6⟩:=hbm
   refine ⟨bm,ob,b1,b2,fun z=>?_,fun z=>?_,base_of b3 (no_of b3 (by rw [b6]; simp) (by rw [b6]; simp)),b4,b5,b6⟩
   ·obtain ⟨o,es,ep,e,d,_⟩:=hns
    rw [z,e] at b3; cases b3; rw [d] at b6; cases b6
   ·rw [z,hP] at b3; cases b3; cases b6
  have e0:Env0 P w K mg (hidT s₁.heap H) callerA [] s₁ H:=⟨rfl,hM,fun b o e=>of_hidT e,Nat.le_of_eq (hidT_size _ _),trivial,fun b hb=>absurd (show b ∈ ([]:List Addr) from hb) (by simp),hok,.of_eq hg,.inl rfl⟩
  refine codeAny_mono ((F _ hKb (nsK hns) hCb hBb).run callerA [] s₁ H ⟨[.ref a],[]⟩ [.ref a] [.ref a] _ _ hr (fun _=>rfl) e0 (hbind s₁ (.ref a)) (.cons rfl .nil) (hsp H hS hHP)) fun r s' h=>?_
  cases r with
  | error e=>exact (hCX H e s' h).elim
  | ok fl =>
   cases fl with
   | next=>exact False.elim h
   | brk=>exact False.elim h
   | cont=>exact False.elim h
   | ret u =>
    obtain ⟨v,H',os,bare,un,hok',r',q⟩:=h
    have q':v = .bl true:=q
    subst q'
    obtain rfl:u = Value.bool true:=r'
    obtain ⟨more,hmore⟩:=un.tbls Pt _ hHP
    have gP:s'.heap.get? Pt = some { cls:=.none,data:=.fields (#[] ++ more) }:=(show ObjOk P w H' s'.heap Pt (.tbl (#[] ++ more)) from hok' Pt _ hmore)
    have kept:∀ b o,b ≠ Pt→s₁.heap.get? b = some o→s'.heap.get? b = some o:=fun b o nb e=>by
     cases q:H b with
     | none=>exact un.keep b o e q (by intro z; exact absurd (show b ∈ ([]:List Addr) from z) (by simp)) (by simp)
     | some u =>
      rcases hO b nb with z | ⟨ob,xs,z⟩
      ·rw [q] at z; cases z
      ·have z2:=un.frzs b ob _ z
       obtain ⟨e1,_⟩:=hok b _ z
       obtain ⟨e2,_⟩:=hok' b _ z2
       rw [e] at e1; cases e1
       exact e2
    refine ⟨rfl,⟨fun b o e=>?_,fun b o e=>?_⟩,os,bare⟩
    ·by_cases nb:b = Pt
     ·subst nb
      rw [hP] at e; cases e
      exact .inr (.inl ⟨(hC.tab hP).isCodeTable,rfl,#[],more,rfl,gP⟩)
     ·exact .inl (kept b o nb e)
    ·by_cases nb:b = Pt
     ·exact ⟨_,nb ▸ gP⟩
     ·exact ⟨o,kept b o nb e⟩
 have tblOk:∀ H:Hp,ObjOk P w H s₁.heap Pt (.tbl #[]):=fun H=>hP
 cases hk:K.lookup a with
 | some o =>
  have e:=KX a o hk
  rw [ha] at e
  cases e
  refine core (fun b=>if b = Pt then some (.tbl #[]) else none) (if_pos rfl) (fun b nb=>.inl (if_neg nb)) (.inr ⟨_,vs.toArray,_,hk,rfl,rfl,rfl,by rw [List.size_toArray,lenV]; exact hl,by simpa using rv⟩) (fun b u z=>?_) (fun b z=>?_) fun z=>absurd (if_neg naP) z
  ·by_cases hb:b = Pt
   ·have z':=(if_pos hb).symm.trans z
    cases z'
    subst hb; exact tblOk _
   ·have z':=(if_neg hb).symm.trans z
    cases z'
  ·by_cases hb:b = Pt
   ·exact .inr hb
   ·exact absurd (if_neg hb) z
 | none =>
  refine core (fun b=>if b = Pt then some (.tbl #[]) else if b = a then some (.frz { cls:=.type "list",data:=.seq vs.toArray } (.lst (ns.map V.int))) else none) (if_pos rfl) (fun b nb=>?_) (.inl (.inr ⟨{ cls:=.type "list",data:=.seq vs.toArray },(if_neg naP).trans (if_pos rfl)⟩)) (fun b u z=>?_) (fun b z=>?_) fun _=>hk
  ·by_cases hb:b = a
   ·exact .inr ⟨_,_,(if_neg nb).trans (if_pos hb)⟩
   ·exact .inl ((if_neg nb).trans (if_neg hb))
  ·by_cases hbP:b = Pt
   ·have z':=(if_pos hbP).symm.trans z
    cases z'
    subst hbP; exact tblOk _
   ·by_cases hb:b = a
    ·have z':=((if_neg hbP).trans (if_pos hb)).symm.trans z
     cases z'
     subst hb
     exact ⟨ha,by rw [List.length_map]; exact hl,vs,_,rv,ha⟩
    ·have z':=((if_neg hbP).trans (if_neg hb)).symm.trans z
     cases z'
  ·by_cases hbP:b = Pt
   ·exact .inr hbP
   ·by_cases hb:b = a
    ·exact .inl hb
    ·exact absurd ((if_neg hbP).trans (if_neg hb)) z
theorem walk_tab {l:PySem.W.OpenLaw} {n k:Nat} {q:Program} {loose:List Str} {XP:(Str→Option Value)→Heap→Prop} {YP:World→Heap→Prop} {d d0:DefRec} {K:Params→PySem.W.Frag} {CX:World→CXT} {sp:World→Sp} {x x0:Str} {c Pt:Addr}
  (hn:l.most = some n) (hn2:n ≤ sizeLine) (hdf:d.params.defaults = []) (hr:Room k callerA)
  (hY:∀ (w:World) (h:Heap),YP w h→(K w.params).In h)
  (hrec:(recsOf q).find? (fun e=>e.name == x0) = some d0) (htab:∀ w:World,PySem.W.tabIn (K w.params) x0 = some (c,Pt)) (hno:∀ w:World,(K w.params).lookup Pt = none)
  (F:∀ (w:World) (mg:Str→Option Value) (fa:Addr) (h:Heap),(K w.params).In h→h.Ns mainGlobals mg→mg d.name = some (.ref fa) →
   ∃ fd:FuncData,(∀ (s:Shared) (u:Value),BindsTo s fd ⟨[u],[]⟩ [(x,u)]) ∧
    ∀ base:Heap,(K w.params).In base→base.Ns mainGlobals mg→CodeHd base c Pt→base.BuiltinsAt mg Pt→FnOk l.prog w (K w.params) mg base (CX w) k fa fd [x] (sp w))
  (hsp:∀ (w:World) (H:Hp) (a:Addr) (ns:List Int),ns.length ≤ n→SqL (K w.params) H a (ns.map V.int)→H Pt = some (.tbl #[])→sp w [.ref a] H (fun v _=>v = .bl true) fun _ _ _=>False)
  (hCX:∀ (w:World) (H:Hp) (s:Shared) (e:Value) (s':Shared),CX w [] H s (fun _ _ _=>False) e s'→False) :
  PySem.W.WalkO q loose XP YP l.row.toRowW d [] (fun f vs=>PySem.call f vs):=by
 refine Att.attach_call hn hdf fun w s₀ s₁ mg mb fa o pm cd doc a vs ns G Y ho hd hcd hmg hobj hints hlen hg=>?_
 have KX:=hY w _ Y
 obtain ⟨fd,hb,hF⟩:=F w mg fa _ KX G.T.g hmg
 obtain ⟨hC,hP⟩:=PySem.W.tab_of G.T KX hrec (htab w)
 exact law_callT KX G.T.g G.T.b G.T.builtins G.T.nolimit hg hC hP (hno w) G.T.bmain hobj hints (Nat.le_trans hlen hn2) hr hF hb (fun H hS hT=>hsp w H a ns hlen hS hT) fun H e s'=>hCX w H s₁ e s'
end L2
set_option Elab.async false
set_option linter.all false
set_option maxRecDepth 100000
namespace L2
open PySem PySem.Spec PyProof.Rows
open PySem.W (InstAt KitX kitOne findIn looks_findIn looks_find)
section
variable {M:Model} {A:Around} {EE:Value→Shared→Prop} {s:Shared} {B:Heap} {env:Env} {outer l:List Env} {L x:Addr} {cls a0 tb fl:Value} {dd:Option Addr} {cs:Value × Value} {Q:Unit→Shared→Prop}
end
section
variable {bx:Bool} {P:Program} {w:World} {K:PySem.W.Frag} {mg:Str→Option Value} {base:Heap} {N:List Str} {qual:Str} {scope:Scope} {f:Addr} {cd:Value} {A:Around} {outer:List Env} {s₀:Shared} {H₀:Hp} {E:XK}
end
end L2
set_option Elab.async false
set_option linter.all false
set_option maxRecDepth 100000
namespace L2
open PySem PySem.Spec PyProof.Rows
theorem HdS.pins {A:Around} {h:Heap} (x:HdS A h):∃ ps:List (Addr × Obj),(∀ p ∈ ps,h.get? p.1 = some p.2∧∃ v cx,p.2.data = .fields v∧v[2]? = some cx)∧∀ h':Heap,(∀ p ∈ ps,h'.get? p.1 = some p.2)→HdS A h':=by
 rcases x with x | ⟨a,h1,o,v,cx,e1,e2,e3,e4⟩
 ·exact ⟨[],by simp,fun _ _=>.inl x⟩
 ·rcases e4 with e4 | ⟨y,o',v',f1,f2,f3,f4,f5⟩
  ·refine ⟨[(a,o)],fun p hp=>?_,fun h' k=>.inr ⟨a,h1,o,v,cx,k (a,o) (by simp),e2,e3,.inl e4⟩⟩
   have:p = (a,o):=by simpa using hp
   subst this; exact ⟨e1,v,cx,e2,e3⟩
  ·refine ⟨[(a,o),(y,o')],fun p hp=>?_,fun h' k=>.inr ⟨a,h1,o,v,cx,k (a,o) (by simp),e2,e3,.inr ⟨y,o',v',f1,f2,k (y,o') (by simp),f4,f5⟩⟩⟩
   rcases List.mem_cons.mp hp with z | hp
   ·subst z; exact ⟨e1,v,cx,e2,e3⟩
   ·have:p = (y,o'):=by simpa using hp
    subst this; exact ⟨f3,v',_,f4,f5⟩
section
variable {prog:Program} {w:World} {A:Around} {EE:Value→Shared→Prop} {s:Shared}
theorem Walks.listH {ps:List (Addr × Obj)} (hh:∀ h':Heap,(∀ p ∈ ps,h'.get? p.1 = some p.2)→HdS A h') (I ax:Addr) (hne:ax ≠ I) (nI:∀ p ∈ ps,p.1 ≠ I) (items:Array Value) :
  Walks prog w A I (I :: ax :: ps.map (·.1)) [I] items.size (fun i v=>items[i]? = some v) (fun i h=>h.IsListIter I ax i∧h.IsList ax items∧∀ p ∈ ps,h.get? p.1 = some p.2) where
 sub:=fun b hb=>by simp at hb; simp [hb]
 frame:=fun _ _ _ st hk=>⟨st.1.at fun o e=>hk I (by simp) o e,st.2.1.at fun o e=>hk ax (by simp) o e,fun p hp=>hk p.1 (by simp only [List.mem_cons]; exact .inr (.inr (List.mem_map.mpr ⟨p,hp,rfl⟩))) _ (st.2.2 p hp)⟩
 item:=fun i s Q E hi st hQ=>by
  refine wpAny_pyNext_list_item st.1 st.2.1 (x:=items[i]) (by simp [hi]) fun h' hit' hs'=>?_
  exact hQ _ h' s.toks (by simp [hi]) ⟨hit',st.2.1.extBut hs'.extBut hne,fun p hp=>hs'.extBut _ _ (nI p hp) (st.2.2 p hp)⟩ fun b o hb e=>hs'.extBut b o (fun h=>hb (by simp [h])) e
 done:=fun s Q E st hQ=>list_endH (hh _ st.2.2) st.1 st.2.1 (by simp) fun h' he'=>hQ h' s.toks fun b o hb e=>he' b o (fun h=>hb (by simp [h])) e
 self:=fun _ _ _ _ st hQ=>wpAny_pyIter_listiter st.1 hQ
end
section
variable {X:Cx} {e:Expr} {te:TE} {p p2 pos pos2:Pos}
theorem call_anyH:CallR X (.builtin "any") (fun xs H Q=>∃ (p:Addr) (bs:List Bool),xs = [.ref p]∧SqL X.K H p (bs.map V.bl)∧Q (.bl (bs.any id)) H):=by
 intro pins s σ H xs us Q I r h
 obtain ⟨p,bs,rfl,hq,q⟩:=h
 obtain ⟨u,rfl,rx⟩:=vals1 r
 cases rx
 obtain ⟨vs,r',pl,hz⟩:=I.list hq
 have hb:LSm.BoolsAre vs bs:=boolsAre_of r'
 have hl:=pl.isList
 have hlt:p < s.heap.objs.size:=by obtain ⟨_,e,_⟩:=hl; exact Heap.lt_size e
 obtain ⟨ps,hps,hh⟩:=I.hdS.pins
 refine call_any_walk (wpAny_pyIter_list hl ?_)
 refine ⟨s.heap.objs.size,s.heap.objs.size :: p :: ps.map (·.1),[s.heap.objs.size],vs.toArray.size,_,_,fun i=>(bs[i]?).getD false,rfl,Walks.listH (A:=X.A.in1) hh _ p (Nat.ne_of_lt hlt) (fun p hp=>Nat.ne_of_lt (Heap.lt_size (hps p hp).1)) vs.toArray,
  ⟨⟨_,Heap.get?_push_size _ rfl,rfl,rfl⟩,hl.push _,fun p hp=>Heap.get?_push_of_some _ (hps p hp).1⟩,fun i v s' Q' E' hP hQ=>?_,fun h' tk hk=>?_⟩
 ·obtain ⟨b,e,rfl⟩:=hb.get i v (by simpa using hP)
  simp only [e,Option.getD_some] at hQ
  exact wpAny_truthy_bool hQ
 ·have e:((List.range vs.toArray.size).any fun i=>(bs[i]?).getD false) = bs.any id:=by
   rw [List.size_toArray,hb.length]; exact LSm.range_any bs
  rw [e]
  exact ⟨.bl (bs.any id),H,I.kept (t':=tk) (LSm.kept_iter hk),rfl,q⟩
theorem kitx_exc {K:PySem.W.Frag} {x C:Addr} {ox:Obj} {odo:Option Obj} (O:ExcLook K C):PySem.W.KitX K (.ref x) (.ref C) (fun h=>PySem.W.InstAt h x ox C odo) where
 ty:=fun _ _ _ I=>I.type
 it:=fun _ _ X _=>by
  obtain ⟨cdD,hcD⟩:=O.cls
  unfold PySem.W.clsIn at hcD
  split at hcD
  ·rename_i c' d' cd' sl' ho
   intro A' Q' E' s' k q
   unfold isType loadHead
   exact wpAny_bind (wpAny_loadPart (k _ _ (X _ _ ho)) (wpAny_pure q))
  ·cases hcD
 ne:=fun h tp dd its n sl X htp=>by
  obtain ⟨cdD,hcD⟩:=O.cls
  refine Bool.eq_false_iff.mpr fun q=>?_
  have e:C = tp:=Value.ref.inj (beq_iff_eq.mp q)
  subst e
  unfold PySem.W.clsIn at hcD
  split at hcD
  ·rename_i c' d' cd' sl' ho
   have z:=(X _ _ ho).symm.trans htp
   cases z
  ·cases hcD
 ca:=fun X I k=>exc_class X I O k
theorem call_isinstX:CallR X (.builtin "isinstance") (fun xs H Q=>∃ (x C dx c:Addr) (fs:List (Str × V)) (b:Bool),xs = [.ref x,.ref c]∧(∃ bx,Held bx H x C (some dx))∧H dx = some (.xd fs)∧ExcLook X.K C∧PySem.W.kitOne X.K (.ref C) (.ref c) = some b∧Q (.bl b) H):=by
 intro pins s σ H xs us Q I r h
 obtain ⟨x,C,dx,c,fs,b,rfl,⟨_,a0,tb,cs,hx,_⟩,hd,O,e,q⟩:=h
 obtain ⟨u,v,rfl,rx,rv⟩:=vals2 r
 obtain rfl:u = Value.ref x:=rx
 obtain rfl:v = Value.ref c:=rv
 have gx:s.heap.get? x = some (ExcObjC (.ref C) a0 (some dx) tb cs):=(show ObjOk X.prog X.w H s.heap x (.frz _ _) from I.hok x _ hx).1
 obtain ⟨mA,ns,_⟩:=(show ObjOk X.prog X.w H s.heap dx (.xd fs) from I.hok dx _ hd)
 obtain ⟨od,ho,hl⟩:=lookIn_ns ns
 exact PySem.W.kia_one (kitx_exc (odo:=some od) O) I.kIn ⟨gx,rfl,rfl,ho⟩ e (fun z=>nomatch z) fun tk=>⟨.bl b,H,I.tok tk,rfl,q⟩
theorem ints_items {p:Addr} {ns:List Int} {pins:List (Addr × Obj)} {σ:St} {H:Hp} {s:Shared} (I:Inv X pins σ H s) (hq:SqL X.K H p (ns.map V.int)):∃ ys:Array (Int × Tok),s.heap.IsList p (intItems ys)∧ns = ys.toList.map (·.1):=by
 obtain ⟨its,r',pl,hz⟩:=I.list hq
 have hi:IntsAre its ns:=intsAre_of r'
 obtain ⟨ys,hx⟩:=hi.allInts.items
 refine ⟨ys,hx ▸ pl.isList,?_⟩
 rw [← nums_intItems,← hx]
 exact (show numsOf its.toArray.toList = ns from hi.numsOf).symm
end
end L2
set_option Elab.async false
set_option linter.all false
set_option maxRecDepth 100000
namespace L2
open PySem PySem.Spec PyProof.Rows
section
variable {prog:Program} {w:World} {A:Around} {E:Value→Shared→Prop} {env:Env} {nm q:Str} {C N:Addr} {bs bm:List Value} {hdct:Bool} {sn:List Str} {sub:List Value} {ab:Bool} {col:Option Bool} {dd:Option Addr} {k0 k1 k2 k3 k5:Option Value} {newId:String}
end
section
variable {bx:Bool} {P:Program} {w:World} {K:PySem.W.Frag} {mg:Str→Option Value} {base:Heap} {N:List Str} {qual:Str} {scope:Scope} {f0:Addr} {cd:Value} {A:Around} {outer:List Env} {s₀:Shared} {H₀:Hp} {E:XK}
end
section
variable {bx:Bool} {P:Program} {w:World} {K:PySem.W.Frag} {mg:Str→Option Value} {base:Heap} {N:List Str} {qual:Str} {scope:Scope} {f0:Addr} {cd:Value} {A:Around} {outer:List Env} {s₀:Shared} {H₀:Hp} {E:XK}
end
end L2
set_option Elab.async false
set_option linter.all false
set_option maxRecDepth 100000
namespace L2
open PySem PySem.Spec PyProof.Rows
section
variable {bx:Bool} {X:Cx} {k i:Nat} {f:Addr} {fd:FuncData} {ps:List Str} {sp:Sp} {x:Str} {p pos:Pos} {e:Expr} {es:List Expr} {t:TA}
end
end L2
set_option Elab.async false
set_option linter.all false
set_option maxRecDepth 100000
namespace L2
open PySem PySem.Spec PyProof.Rows
theorem argBest_max (val:Nat→Int):∀ (n j:Nat),j ≤ n→val j ≤ val (argBest (fun i j=>decide (val i > val j)) n):=by
 intro n
 induction n with
 | zero =>
  intro j hj
  have e:j = 0:=by omega
  subst e
  exact Int.le_refl _
 | succ n ih =>
  intro j hj
  unfold argBest
  by_cases hd:val (n + 1) > val (argBest (fun i j=>decide (val i > val j)) n)
  ·rw [if_pos (decide_eq_true hd)]
   by_cases e:j = n + 1
   ·subst e; exact Int.le_refl _
   ·have:=ih j (by omega); omega
  ·rw [if_neg (by simpa using hd)]
   by_cases e:j = n + 1
   ·subst e; omega
   ·exact ih j (by omega)
section
variable {X:Cx}
theorem call_maxB (hc:X.calm = true):CallR X (.builtin "max") (fun xs H Q=>∃ (p:Addr) (ns:List Int),xs = [.ref p]∧SqL X.K H p (ns.map V.int)∧ns ≠ []∧∀ v,(∀ x ∈ ns,x ≤ v)→Q (.int v) H):=by
 intro pins s σ H xs us Q I r h
 obtain ⟨p,ns,rfl,hq,hne,q⟩:=h
 obtain ⟨u,rfl,rx⟩:=vals1 r
 cases rx
 obtain ⟨ys,hl,rfl⟩:=ints_items I hq
 have hpos:0 < ys.size:=Nat.pos_of_ne_zero fun z=>hne (by rw [show ys = #[] from Array.size_eq_zero_iff.mp z]; rfl)
 refine max_intList (I.ok.hd hc) hl hpos fun v h' tk hv hk=>?_
 obtain ⟨t,rfl⟩:=intItems_at hv
 refine ⟨.int _,H,I.kept (t':=tk) hk,⟨t,rfl⟩,q _ fun x hx=>?_⟩
 obtain ⟨y,hy,rfl⟩:=List.mem_map.mp hx
 obtain ⟨i,hi,rfl⟩:=List.mem_iff_getElem.mp hy
 rw [Array.length_toList] at hi
 have:=argBest_max (numAt ys) (ys.size - 1) i (by omega)
 have e:numAt ys i = (ys.toList[i]'(by simpa using hi)).1:=by simp [numAt,hi]
 rw [← e]; exact this
end
end L2
set_option Elab.async false
set_option linter.all false
namespace At
open PySem L2
def top (i:Nat):Stmt:=PySem.Challenge.pw_atmost_k04_whole_needless.main.body.getD i (.Pass ⟨0,0,0,0⟩)
abbrev m_Broken___init__:Stmt:=inClass (top 6) 0
abbrev sWhole:Stmt:=top 8
abbrev sCounted:Stmt:=top 9
abbrev sSaying:Stmt:=top 10
abbrev sHeights:Stmt:=top 11
abbrev sChain:Stmt:=top 12
abbrev sCheckS:Stmt:=top 13
abbrev sAbove:Stmt:=top 14
abbrev sKeepOne:Stmt:=top 15
abbrev sKeepAll:Stmt:=top 16
abbrev sChainSum:Stmt:=top 17
abbrev s_are_kept:Stmt:=top 19
abbrev m_Heights___init__:Stmt:=inClass (top 22) 0
abbrev m_Ring___init__:Stmt:=inClass (top 23) 0
abbrev m_Needless___init__:Stmt:=inClass (top 26) 0
abbrev m_Needless_shows:Stmt:=inClass (top 26) 1
abbrev m_Needed___init__:Stmt:=inClass (top 27) 0
abbrev m_Needed_shows:Stmt:=inClass (top 27) 1
abbrev s_finish_from:Stmt:=top 31
abbrev s_finishing_order:Stmt:=top 32
abbrev s_walking_order:Stmt:=top 33
abbrev m_Walk___init__:Stmt:=inClass (top 34) 0
abbrev m_Walk_go_along:Stmt:=inClass (top 34) 1
abbrev m_Walk_place_ahead:Stmt:=inClass (top 34) 2
abbrev m_Walk_chain_between:Stmt:=inClass (top 34) 3
abbrev m_Walk_place_on_ring:Stmt:=inClass (top 34) 4
abbrev s_least_sums:Stmt:=top 35
abbrev s_walk_from:Stmt:=top 36
abbrev s_leading_to:Stmt:=top 37
abbrev s_level:Stmt:=top 38
abbrev s_level_of_walk:Stmt:=top 39
abbrev s_moved_up:Stmt:=top 41
abbrev s_heights:Stmt:=top 42
abbrev s_needless:Stmt:=top 43
abbrev sDrawn:Stmt:=top 45
abbrev sSays:Stmt:=top 46
abbrev sLSum:Stmt:=top 47
abbrev sLKept:Stmt:=top 48
abbrev s__law_ring:Stmt:=top 49
abbrev s__law_broken:Stmt:=top 50
abbrev s__law_due:Stmt:=top 51
abbrev s__law_right:Stmt:=top 52
abbrev sLaw:Stmt:=top 53
end At
set_option Elab.async false
set_option linter.all false
set_option maxRecDepth 100000
set_option maxHeartbeats 4000000
namespace At
open PySem L2 PyProof.Rows
section
variable {P:Program} {w:World} {K:PySem.W.Frag} {mg:Str→Option Value} {base:Heap}
structure G1 (K:PySem.W.Frag) (mg:Str→Option Value):Prop where
 isi:mg "isinstance" = none
 int:mg "int" = none
 bool:mg "bool" = none
 tuple:mg "tuple" = none
 list:mg "list" = none
 len:mg "len" = none
 all:mg "all" = none
 any:mg "any" = none
 sum:mg "sum" = none
 range:mg "range" = none
 enumerate:mg "enumerate" = none
 sorted:mg "sorted" = none
 max:mg "max" = none
 min:mg "min" = none
 kii:PySem.W.kitOne K (.type "int") (.type "int") = some true
 kib:PySem.W.kitOne K (.type "int") (.type "bool") = some false
 ktt:PySem.W.kitOne K (.type "tuple") (.type "tuple") = some true
 kll:PySem.W.kitOne K (.type "list") (.type "list") = some true
 kbb:PySem.W.kitOne K (.type "bool") (.type "bool") = some true
structure Def (K:PySem.W.Frag) (mg:Str→Option Value) (x:Str) (st:Stmt) (ps:List Str) (f:Addr) (fd:FuncData):Prop where
 fn:Fun K x x st f fd
 at_:mg x = some (.ref f)
 bd:Binds K fd ps []
def tupOf (s:Say):HO:=.tup [.int s.1,.int s.2.1,.int s.2.2]
structure SaysL (H:Hp) (ps:List Addr) (ss:List Say):Prop where
 len:ps.length = ss.length
 at_:∀ (i:Nat) p s,ps[i]? = some p→ss[i]? = some s→H p = some (tupOf s)
theorem SaysL.same {H H':Hp} {ps:List Addr} {ss:List Say} (h:SaysL H ps ss) (e:Same H H'):SaysL H' ps ss:=⟨h.len,fun i p s a b=>e _ _ (h.at_ i p s a b)⟩
theorem SaysL.get {H:Hp} {ps:List Addr} {ss:List Say} (h:SaysL H ps ss) {i:Nat} {s:Say} (e:ss[i]? = some s):∃ p,ps[i]? = some p∧H p = some (tupOf s):=by
 have hi:i < ps.length:=by rw [h.len]; exact (List.getElem?_eq_some_iff.mp e).1
 exact ⟨ps[i],by simp [hi],h.at_ i _ s (by simp [hi]) e⟩
structure SaysAt (H:Hp) (a:Addr) (ss:List Say):Prop where
 ex:∃ ps,H a = some (.lst (ps.map V.ref))∧SaysL H ps ss
theorem SaysAt.same {H H':Hp} {a:Addr} {ss:List Say} (h:SaysAt H a ss) (e:Same H H'):SaysAt H' a ss:=by
 obtain ⟨ps,h1,h2⟩:=h.ex
 exact ⟨ps,e _ _ h1,h2.same e⟩
end
end At
set_option Elab.async false
set_option linter.all false
set_option maxRecDepth 100000
set_option maxHeartbeats 4000000
namespace At
open PySem L2 PyProof.Rows
section
variable {P:Program} {w:World} {K:PySem.W.Frag} {mg:Str→Option Value} {base:Heap}
structure DR (kvs:List (Key × V)) (S:Int→Option V):Prop where
 at_:∀ k:Int,valV kvs (Sum.inl k) = S k
 key:∀ p ∈ kvs,∃ k:Int,p.1 = Sum.inl k
 nd:(kvs.map (·.1)).Nodup
def putV (S:Int→Option V) (k:Int) (v:V):Int→Option V:=fun x=>if x = k then some v else S x
theorem DR.nil:DR [] (fun _=>none):=⟨fun _=>rfl,(fun p hp=>nomatch hp),List.nodup_nil⟩
theorem keys_putK {κ:Type} [DecidableEq κ] (kvs:List (κ × V)) (k:κ) (v:V) (h:valV kvs k ≠ none):(putK kvs k v).map (·.1) = kvs.map (·.1):=by
 unfold putK
 have:(kvs.any fun kv=>decide (kv.1 = k)) = true:=by
  rw [valV_any]; cases e:valV kvs k with
  | none=>exact absurd e h
  | some _=>rfl
 rw [if_pos this,List.map_map]
 refine List.map_congr_left fun p _=>?_
 show (if p.1 = k then (p.1,v) else p).1 = p.1
 split <;> rfl
theorem DR.put {kvs:List (Key × V)} {S:Int→Option V} (d:DR kvs S) (k:Int) (v:V):DR (putK kvs (Sum.inl k) v) (putV S k v):=by
 refine ⟨fun j=>?_,fun p hp=>?_,?_⟩
 ·rw [valV_put]
  unfold putV
  by_cases e:j = k
  ·subst e; rw [if_pos rfl,if_pos rfl]
  ·rw [if_neg e,if_neg (fun z=>e (Sum.inl.inj z))]; exact d.at_ j
 ·unfold putK at hp
  split at hp
  ·obtain ⟨q,hq,rfl⟩:=List.mem_map.mp hp
   obtain ⟨j,e⟩:=d.key q hq
   refine ⟨j,?_⟩
   split <;> exact e
  ·rcases List.mem_append.mp hp with hp | hp
   ·exact d.key p hp
   ·have:p = (Sum.inl k,v):=by simpa using hp
    subst this; exact ⟨k,rfl⟩
 ·by_cases h:valV kvs (Sum.inl k) = none
  ·exact nd_putK v d.nd h
  ·rw [keys_putK kvs _ v h]; exact d.nd
theorem DR.put_new {kvs:List (Key × V)} {S:Int→Option V} (d:DR kvs S) {k:Int} (v:V) (h:S k = none):(putK kvs (Sum.inl k) v).length = kvs.length + 1:=by
 rw [putK_new v (by rw [d.at_]; exact h),List.length_append]; rfl
def keyI:Key→Int
 | .inl k=>k
 | .inr _=>0
def keysI (kvs:List (Key × V)):List Int:=kvs.map fun p=>keyI p.1
theorem DR.keysNd {kvs:List (Key × V)} {S:Int→Option V} (d:DR kvs S):(keysI kvs).Nodup:=by
 have key:=d.key
 have nd:=d.nd
 clear d
 unfold keysI
 induction kvs with
 | nil=>exact List.nodup_nil
 | cons p r ih =>
  rw [List.map_cons,List.nodup_cons] at nd ⊢
  refine ⟨fun m=>nd.1 ?_,ih (fun q hq=>key q (List.mem_cons_of_mem _ hq)) nd.2⟩
  obtain ⟨q,hq,e⟩:=List.mem_map.mp m
  obtain ⟨a,ha⟩:=key p List.mem_cons_self
  obtain ⟨b,hb⟩:=key q (List.mem_cons_of_mem _ hq)
  rw [ha,hb] at e
  have e:b = a:=e
  exact List.mem_map.mpr ⟨q,hq,by rw [ha,hb,e]⟩
theorem DR.mem {kvs:List (Key × V)} {S:Int→Option V} (d:DR kvs S) {p:Key × V} (hp:p ∈ kvs):p.1 = Sum.inl (keyI p.1)∧S (keyI p.1) ≠ none:=by
 obtain ⟨k,e⟩:=d.key p hp
 rw [e]
 refine ⟨rfl,?_⟩
 show S k ≠ none
 rw [← d.at_ k]
 intro z
 exact valV_not z (List.mem_map.mpr ⟨p,hp,e⟩)
theorem DR.keysMem {kvs:List (Key × V)} {S:Int→Option V} (d:DR kvs S) {k:Int}:k ∈ keysI kvs ↔ S k ≠ none:=by
 constructor
 ·intro m
  obtain ⟨p,hp,e⟩:=List.mem_map.mp m
  rw [← e]; exact (d.mem hp).2
 ·intro h
  cases e:S k with
  | none=>exact absurd e h
  | some v =>
   rw [← d.at_ k] at e
   have:=valV_in e
   obtain ⟨p,hp,e2⟩:=List.mem_map.mp this
   exact List.mem_map.mpr ⟨p,hp,by rw [e2]; rfl⟩
theorem DR.len {kvs:List (Key × V)} {S:Int→Option V} (d:DR kvs S) {c:Nat} (h:∀ k v,S k = some v→cnt c k = true):kvs.length ≤ c:=by
 have:=nodup_bound c (keysI kvs) d.keysNd fun x hx=>by
  cases e:S x with
  | none=>exact absurd e (d.keysMem.mp hx)
  | some v=>exact cnt_iff.mp (h x v e)
 simpa [keysI] using this
def iS (S:Fn):Int→Option V:=fun k=>(S k).map V.int
theorem iS_put (S:Fn) (k v:Int):putV (iS S) k (.int v) = iS (put S k v):=by
 funext x; unfold putV iS put; split <;> rfl
def bS (E:Int→Bool):Int→Option V:=fun k=>if E k = true then some (.bl true) else none
def putB (E:Int→Bool) (k:Int):Int→Bool:=fun x=>if x = k then true else E x
theorem bS_put (E:Int→Bool) (k:Int):putV (bS E) k (.bl true) = bS (putB E k):=by
 funext x; unfold putV bS putB
 by_cases e:x = k
 ·rw [if_pos e,if_pos e]; rfl
 ·rw [if_neg e,if_neg e]
theorem DR.iput {kvs:List (Key × V)} {S:Fn} (d:DR kvs (iS S)) (k v:Int):DR (putK kvs (Sum.inl k) (.int v)) (iS (At.put S k v)):=by rw [← iS_put]; exact d.put k _
theorem DR.bput {kvs:List (Key × V)} {E:Int→Bool} (d:DR kvs (bS E)) (k:Int):DR (putK kvs (Sum.inl k) (.bl true)) (bS (putB E k)):=by rw [← bS_put]; exact d.put k _
theorem iS_some {S:Fn} {k v:Int} (h:S k = some v):iS S k = some (.int v):=by unfold iS; rw [h]; rfl
theorem iS_none {S:Fn} {k:Int}:iS S k = none ↔ S k = none:=by unfold iS; cases S k <;> simp
theorem bS_none {E:Int→Bool} {k:Int}:bS E k = none ↔ E k = false:=by unfold bS; cases E k <;> simp
theorem iS_range {S:Fn} {c:Int} (h:∀ k v,S k = some v→cnt c k = true):∀ k v,iS S k = some v→cnt c k = true:=fun k v e=>by
 cases q:S k with
 | none=>rw [iS_none.mpr q] at e; cases e
 | some x=>exact h k x q
theorem bS_range {E:Int→Bool} {c:Int} (h:∀ k,E k = true→cnt c k = true):∀ k v,bS E k = some v→cnt c k = true:=fun k v e=>by
 cases q:E k with
 | false=>rw [bS_none.mpr q] at e; cases e
 | true=>exact h k q
end
end At
set_option Elab.async false
set_option linter.all false
set_option maxRecDepth 100000
set_option maxHeartbeats 4000000
namespace At
open PySem L2 PyProof.Rows
section
variable {P:Program} {w:World} {K:PySem.W.Frag} {mg:Str→Option Value} {base:Heap}
theorem atI_of {α:Type} {xs:List α} {i:Int} {v:α} (h0:0 ≤ i) (e:xs[i.toNat]? = some v):atI xs i = some v:=by
 obtain ⟨j,rfl⟩:=Int.eq_ofNat_of_zero_le h0
 exact atI_nat (by simpa using e)
theorem get_of_cnt {α:Type} {xs:List α} {i:Int} (h:cnt xs.length i = true):∃ v,xs[i.toNat]? = some v∧0 ≤ i:=by
 obtain ⟨h0,h1⟩:=cnt_iff.mp h
 exact ⟨xs[i.toNat]'(by omega),List.getElem?_eq_getElem (by omega),h0⟩
theorem at_ints {hs:List Int} {i:Int} (h:cnt hs.length i = true):atI (hs.map V.int) i = some (.int (hs.getD i.toNat 0)):=by
 obtain ⟨v,e,h0⟩:=get_of_cnt h
 refine atI_of h0 ?_
 rw [List.getElem?_map,e,List.getD,e]; rfl
end
end At
set_option Elab.async false
set_option linter.all false
set_option maxRecDepth 100000
set_option maxHeartbeats 4000000
namespace At
open PySem L2 PyProof.Rows
section
variable {P:Program} {w:World} {K:PySem.W.Frag} {mg:Str→Option Value} {base:Heap}
theorem Fun.okC {c:Bool} {x qual:Str} {st:Stmt} {f:Addr} {fd:FuncData} {N ps:List Str} {k:Nat} {sp:Sp} (F:Fun K x qual st f fd) (S:FnScope N ps (defScope st)) (len:∀ vs H Q E,sp vs H Q E→vs.length = ps.length)
  (hbody:∀ (cdv:Value) (A:Around) (outer:List Env) (s:Shared) (H:Hp) (vs:List V) (Q:VK) (E:XK),fd.code = cdv→Room k (A.deeper (envOfC qual (defScope st) s.heap.objs.size f cdv))→sp vs H Q E →
   ∃ t,PSs (cxOf (CXm c) P w K mg base N qual (defScope st) f cdv A outer s H E).nox (defBody st) t∧t { nx:=fun _ H'=>Q .non H',rt:=Q } (start N vs) H):FnOk P w K mg base (CXm c) (k + 1) f fd ps sp:=by
 obtain ⟨oc,od,kV,doc,pm,an,cdv,ct,osl,rfl,lk,hcd⟩:=F.ex
 refine fn_of lk hcd S len fun A outer s H vs Q E hr hsp=>?_
 obtain ⟨t,h,q⟩:=hbody cdv A outer s H vs Q E rfl hr hsp
 exact ⟨t,h.nox,q⟩
theorem SaysL.sameN {H H':Hp} {ps:List Addr} {ss:List Say} (h:SaysL H ps ss) (e:SameN H H'):SaysL H' ps ss:=⟨h.len,fun i p s a b=>e _ _ rfl (h.at_ i p s a b)⟩
theorem SaysAt.sameN {H H':Hp} {a:Addr} {ss:List Say} (h:SaysAt H a ss) (e:SameN H H'):SaysAt H' a ss:=by
 obtain ⟨ps,h1,h2⟩:=h.ex
 exact ⟨ps,e _ _ rfl h1,h2.sameN e⟩
theorem Same.up {H:Hp} {a:Addr} {o:HO} (h:H a = none):Same H (upd H a o):=fun b u e=>by rw [upd_ne (ne_of_none e h)]; exact e
theorem says_at {H:Hp} {ps:List Addr} {ss:List Say} (hS:SaysL H ps ss) {k:Int} (hk:cnt ss.length k = true):∃ q,atI (ps.map V.ref) k = some (.ref q)∧H q = some (.tup [.int (sy ss k).1,.int (sy ss k).2.1,.int (sy ss k).2.2]):=by
 have es:=sy_get hk
 obtain ⟨q,eq,hq⟩:=hS.get es
 exact ⟨q,atI_of (cnt_iff.mp hk).1 (by rw [List.getElem?_map,eq]; rfl),hq⟩
end
end At
set_option Elab.async false
set_option linter.all false
set_option maxRecDepth 100000
set_option maxHeartbeats 4000000
namespace At
open PySem L2 PyProof.Rows
section
variable {P:Program} {w:World} {K:PySem.W.Frag} {mg:Str→Option Value} {base:Heap}
def lev (S:Fn) (c:Nat):List Int:=(List.range c).map fun (i:Nat)=>(S (i:Int)).getD 0
def spLevel:Sp:=fun vs H Q _=>∃ (c:Nat) (S:Addr) (ks:List (Key × V)) (Sf:Fn),vs = [.int c,.ref S]∧c ≤ 1000∧H S = some (.dK ks)∧DR ks (iS Sf)∧∀ (H':Hp) (d:Addr),Same H H'→H d = none→H' d = some (.lst ((lev Sf c).map V.int))→Q (.ref d) H'
theorem scLevel:FnScope ["count","sums"] ["count","sums"] (defScope s_level):=⟨rfl,rfl,rfl,by decide +kernel,rfl,by decide +kernel,by decide +kernel⟩
theorem ok_level {f:Addr} {fd:FuncData} (D:Def K mg "level" s_level ["count","sums"] f fd) (G:G1 K mg):FnOk P w K mg base CX0 1 f fd ["count","sums"] spLevel:=by
 refine D.fn.ok scLevel (fun vs H Q E h=>?_) (fun cdv A0 outer s H vs Q X hr h=>?_)
 ·obtain ⟨_,_,_,_,rfl,_⟩:=h; rfl
 ·obtain ⟨c,S,ks,Sf,rfl,hc,hS,rS,k⟩:=h
  have hu:=hu_of hr
  refine ⟨_,pss_one (ps_ret (pe_comp (XN:=["count","sums"]) (outer:=defScope s_level) (N:=["place","sums"]) (cap:=[none,some 1])
    (by exact ⟨rfl,by decide +kernel,by decide +kernel,by decide +kernel,.own (.cap rfl rfl rfl .nil),by decide +kernel⟩) rfl (pi_range1 (by rfl) G.range (pa_cons (pv 0) pa_nil))
    (fun _ _ _ _ _ _=>pg_name (i:=0) (show (["place","sums"]:List Str).Nodup by decide +kernel) rfl (Or.inl rfl)) (fun _ _ _ _ _ _=>pifs_nil)
    (fun _ _ _ _ _ _=>pe_dget2 hu (pv 1) (pv 0) pe_int ⟨rfl,rfl,rfl,rfl⟩))),?_⟩
  refine ⟨_,rfl,_,rfl,by omega,by omega,fun q hq=>?_⟩
  refine comp_range (n:=(c:Int).toNat) (outs:=fun (i:Nat)=>some (V.int ((Sf (i:Int)).getD 0))) (fun σ=>∃ v,σ = [v,some (.ref S)]) hq (by rw [Int.toNat_natCast]; exact small1000 hc) ⟨none,rfl⟩ (fun i σc Hc Yes No hi sm _ ⟨v,hv⟩ yes no=>?_) (fun Hc sm hD=>?_)
  ·subst hv
   refine ⟨_,rfl,S,rfl,.inl ⟨ks,.inl (sm _ _ hS)⟩,_,rfl,_,.inl ⟨ks,Sum.inl (i:Int),.inl (sm _ _ hS),rfl,rfl⟩,?_⟩
   refine yes _ _ _ ⟨_,rfl⟩ (Same.refl _) ?_
   rw [rS.at_]
   unfold iS
   cases Sf (i:Int) <;> rfl
  ·refine k Hc q sm hq ?_
   rw [hD,Int.toNat_natCast]
   unfold lev
   rw [List.map_map]
   rw [show (fun (i:Nat)=>some (V.int ((Sf (i:Int)).getD 0))) = some ∘ (V.int ∘ fun (i:Nat)=>(Sf (i:Int)).getD 0) from rfl,List.filterMap_eq_map]
end
end At
set_option Elab.async false
set_option linter.all false
set_option maxRecDepth 100000
set_option maxHeartbeats 4000000
namespace At
open PySem L2 PyProof.Rows
section
variable {P:Program} {w:World} {K:PySem.W.Frag} {mg:Str→Option Value} {base:Heap}
def mostOf (ns:List Int):Int:=[10,1000].getD (ns.sum / 4 % 2).toNat 0
def drawnAt (ns:List Int) (p:Nat):Int:=if ns = [] then 0 else ns.getD (p % ns.length) 0 / 3 % mostOf ns
def drawn (ns:List Int) (c:Nat):List Int:=(List.range c).map (drawnAt ns)
def countOf (ns:List Int):Int:=[1 + (ns.length:Int) / 2,1 + ns.sum / 8 % 4,(ns.length:Int) + 2,1 + ns.sum / 8 % ((ns.length:Int) + 1)].getD (ns.sum / 32 % 4).toNat 0
def anyOf (ns:List Int) (x h:Int):Int:=[x / 3,h].getD (ns.sum / 128 % 2).toNat 0
def moreOf (ns:List Int) (x h:Int):Int:=[(h + x / 7) % 4,(h + x / 7) % 40,(h + x / 7) % 9 - 1,anyOf ns x h / 2 % 10 ^ 60 * (1 - anyOf ns x h % 2 * 2)].getD (ns.sum % 4).toNat 0
def oneSay (ns:List Int) (x:Int):Say :=
 (x % countOf ns,x / countOf ns % countOf ns,
  if ns.sum % 4 = 3 then moreOf ns x (x / countOf ns / countOf ns)
  else (drawn ns (countOf ns).toNat).getD (x / countOf ns % countOf ns).toNat 0 - (drawn ns (countOf ns).toNat).getD (x % countOf ns).toNat 0 + moreOf ns x (x / countOf ns / countOf ns))
def saysOf (ns:List Int):List Say:=if ns.sum / 256 % 4 = 3 then (ns.map (oneSay ns)).take (ns.sum / 1024 % ((ns.length:Int) + 1)).toNat else ns.map (oneSay ns)
theorem cnt_mod {n:Nat} {x:Int} (h:0 < n):cnt (n:Int) (x % (n:Int)) = true:=by
 rw [cnt_iff]; exact ⟨Int.emod_nonneg _ (by omega),Int.emod_lt_of_pos _ (by omega)⟩
theorem countOf_bd (ns:List Int) (h:ns.length ≤ 63):1 ≤ countOf ns∧countOf ns ≤ 65:=by
 unfold countOf
 have h4:ns.sum / 32 % 4 = 0 ∨ ns.sum / 32 % 4 = 1 ∨ ns.sum / 32 % 4 = 2 ∨ ns.sum / 32 % 4 = 3:=by omega
 have hm:=Int.emod_nonneg (ns.sum / 8) (show ((ns.length:Int) + 1) ≠ 0 by omega)
 have hm':=Int.emod_lt_of_pos (ns.sum / 8) (show 0 < ((ns.length:Int) + 1) by omega)
 rcases h4 with e | e | e | e <;> rw [e]
 ·show 1 ≤ 1 + (ns.length:Int) / 2∧1 + (ns.length:Int) / 2 ≤ 65; omega
 ·show 1 ≤ 1 + ns.sum / 8 % 4∧1 + ns.sum / 8 % 4 ≤ 65; omega
 ·show 1 ≤ (ns.length:Int) + 2∧(ns.length:Int) + 2 ≤ 65; omega
 ·show 1 ≤ 1 + ns.sum / 8 % ((ns.length:Int) + 1)∧1 + ns.sum / 8 % ((ns.length:Int) + 1) ≤ 65; omega
theorem drawn_len (ns:List Int) (c:Nat):(drawn ns c).length = c:=by simp [drawn]
theorem mostOf_pos (ns:List Int):0 < mostOf ns:=by
 unfold mostOf
 have h2:ns.sum / 4 % 2 = 0 ∨ ns.sum / 4 % 2 = 1:=by omega
 rcases h2 with e | e <;> rw [e] <;> decide
end
end At
set_option Elab.async false
set_option linter.all false
set_option maxRecDepth 100000
set_option maxHeartbeats 4000000
namespace At
open PySem L2 PyProof.Rows
section
variable {P:Program} {w:World} {K:PySem.W.Frag} {mg:Str→Option Value} {base:Heap}
theorem saysOf_len (ns:List Int) (h:ns.length ≤ 63):(saysOf ns).length ≤ 63:=by
 unfold saysOf
 split
 ·rw [List.length_take,List.length_map]; omega
 ·rw [List.length_map]; omega
theorem oneSay_in (ns:List Int) (h:ns.length ≤ 63) (x:Int):inside (countOf ns) (oneSay ns x) = true:=by
 obtain ⟨h1,h2⟩:=countOf_bd ns h
 unfold inside oneSay
 rw [Bool.and_eq_true,cnt_iff,cnt_iff]
 exact ⟨⟨Int.emod_nonneg _ (by omega),Int.emod_lt_of_pos _ (by omega)⟩,⟨Int.emod_nonneg _ (by omega),Int.emod_lt_of_pos _ (by omega)⟩⟩
theorem saysOf_in (ns:List Int) (h:ns.length ≤ 63):(saysOf ns).all (inside (countOf ns)) = true:=by
 rw [List.all_eq_true]
 intro s hs
 have hm:s ∈ ns.map (oneSay ns):=by
  unfold saysOf at hs
  split at hs
  ·exact List.mem_of_mem_take hs
  ·exact hs
 obtain ⟨x,_,rfl⟩:=List.mem_map.mp hm
 exact oneSay_in ns h x
theorem walk_pot {ss:List Say} {d:Int→Int} (h:∀ s ∈ ss,d s.2.1 - d s.1 ≤ s.2.2):∀ (rs:List Int) (p q:Int),walk ss rs p = some q→d q - d p ≤ sumC ss rs
 | [],p,q,e=>by
  have e:some p = some q:=e
  cases e
  show d p - d p ≤ 0
  omega
 | k :: r,p,q,e=>by
  unfold walk at e
  cases hc:cnt ss.length k with
  | false=>rw [hc] at e; cases e
  | true =>
   rw [hc,if_pos rfl,sy_get hc] at e
   dsimp only at e
   split at e
   ·rename_i hp
    have ih:=walk_pot h r _ _ e
    have h1:=h (sy ss k) (List.mem_of_getElem? (sy_get hc))
    have e1:sumC ss (k :: r) = num ss k + sumC ss r:=by unfold sumC; rw [List.map_cons,List.sum_cons]
    rw [e1,num_sy hc]
    rw [hp] at h1
    omega
   ·cases e
end
end At
set_option Elab.async false
set_option linter.all false
set_option maxRecDepth 100000
set_option maxHeartbeats 4000000
namespace At
open PySem L2 PyProof.Rows
section
variable {P:Program} {w:World} {K:PySem.W.Frag} {mg:Str→Option Value} {base:Heap}
def crd (c:Nat) (S:Fn):Nat:=((List.range c).map fun (i:Nat)=>if (S (i:Int)).isSome = true then 1 else 0).sum
theorem ones:∀ c:Nat,((List.range c).map fun _=>1).sum = c
 | 0=>rfl
 | c + 1=>by rw [List.range_succ,List.map_append,List.sum_append,ones c]; rfl
theorem crd_le (c:Nat) (S:Fn):crd c S ≤ c:=by
 have h:crd c S ≤ ((List.range c).map fun _=>1).sum:=sum_le _ fun i _=>by split <;> omega
 have e:=ones c
 omega
theorem crd_new {c:Nat} {S:Fn} {p v:Int} (hp:cnt c p = true) (h:S p = none):crd c S + 1 ≤ crd c (put S p v):=by
 obtain ⟨h0,h1⟩:=cnt_iff.mp hp
 have:=sum_lt (f:=fun (i:Nat)=>if (S (i:Int)).isSome = true then 1 else 0) (g:=fun (i:Nat)=>if ((put S p v) (i:Int)).isSome = true then 1 else 0) (List.range c) p.toNat (List.mem_range.mpr (by omega)) (by
   have e:((p.toNat:Nat):Int) = p:=by omega
   show (if (S ((p.toNat:Nat):Int)).isSome = true then 1 else 0) < (if (put S p v ((p.toNat:Nat):Int)).isSome = true then 1 else 0)
   rw [e,h,put_same]; simp) (fun i _=>by
   show (if (S (i:Int)).isSome = true then 1 else 0) ≤ (if (put S p v (i:Int)).isSome = true then 1 else 0)
   by_cases q:(i:Int) = p
   ·rw [q,put_same,h]; simp
   ·rw [put_ne q]; exact Nat.le_refl _)
 exact this
theorem crd_old {c:Nat} {S:Fn} {p v:Int}:crd c S ≤ crd c (put S p v):=sum_le _ fun i _=>by
 by_cases q:(i:Int) = p
 ·rw [q,put_same]; split <;> simp
 ·rw [put_ne q]; exact Nat.le_refl _
structure Wk (ss:List Say) (c:Nat) (d:Int→Int) (one:Int) (S L:Fn):Prop where
 lo:∀ p v,S p = some v→d p - d one ≤ v
 up:∀ p v,S p = some v→v ≤ ((crd c S * bigNum ss:Nat):Int)
 st:S one = some 0
 l0:L one = none
 gr:∀ p v,S p = some v→p ≠ one→L p ≠ none
theorem Wk.relax {ss:List Say} {c:Nat} {d:Int→Int} {one:Int} {w:Ws} {k:Int} (pt:∀ s ∈ ss,d s.2.1 - d s.1 ≤ s.2.2) (hin:ss.all (inside c) = true) (h:Wk ss c d one w.S w.L) (hk:cnt ss.length k = true):Wk ss c d one (relax ss w k).S (relax ss w k).L:=by
 have hp:=pt (sy ss k) (List.mem_of_getElem? (sy_get hk))
 have hb:=(big_of (ss:=ss) hk).2
 have hcu:=(sy_in hin hk).2
 have main:∀ a,w.S (sy ss k).1 = some a→(∀ b,w.S (sy ss k).2.1 = some b→a + (sy ss k).2.2 < b)→Wk ss c d one (put w.S (sy ss k).2.1 (a + (sy ss k).2.2)) (put w.L (sy ss k).2.1 k):=fun a ea hlt=>by
  have la:=h.lo _ _ ea
  have ua:=h.up _ _ ea
  have ne:one ≠ (sy ss k).2.1:=fun z=>by
   have:=hlt 0 (by rw [← z]; exact h.st)
   rw [← z] at hp
   omega
  have hcard:(((crd c w.S * bigNum ss:Nat):Int)) ≤ (((crd c (put w.S (sy ss k).2.1 (a + (sy ss k).2.2)) * bigNum ss:Nat):Int)):=by
   exact Int.ofNat_le.mpr (Nat.mul_le_mul_right _ crd_old)
  refine ⟨fun p v e=>?_,fun p v e=>?_,by rw [put_ne ne]; exact h.st,by rw [put_ne ne]; exact h.l0,fun p v e np=>?_⟩
  ·by_cases q:p = (sy ss k).2.1
   ·subst q; rw [put_same] at e; cases e; omega
   ·rw [put_ne q] at e; exact h.lo p v e
  ·by_cases q:p = (sy ss k).2.1
   ·subst q; rw [put_same] at e; cases e
    cases eb:w.S (sy ss k).2.1 with
    | none =>
     have hn:=crd_new (v:=a + (sy ss k).2.2) hcu eb
     have:((crd c w.S + 1) * bigNum ss:Nat) ≤ crd c (put w.S (sy ss k).2.1 (a + (sy ss k).2.2)) * bigNum ss:=Nat.mul_le_mul_right _ hn
     rw [Nat.add_mul,Nat.one_mul] at this
     have:=Int.ofNat_le.mpr this
     omega
    | some b =>
     have h1:=hlt b eb
     have h2:=h.up _ _ eb
     omega
   ·rw [put_ne q] at e
    exact Int.le_trans (h.up p v e) hcard
  ·by_cases q:p = (sy ss k).2.1
   ·subst q; rw [put_same]; simp
   ·rw [put_ne q]; rw [put_ne q] at e; exact h.gr p v e np
 unfold At.relax
 cases ea:w.S (sy ss k).1 with
 | none=>exact h
 | some a =>
  cases eb:w.S (sy ss k).2.1 with
  | none=>exact main a ea (fun b z=>by rw [eb] at z; cases z)
  | some b =>
   simp only
   split
   ·rename_i hl
    exact main a ea (fun b' z=>by rw [eb] at z; cases z; exact hl)
   ·exact h
theorem Wk.goAll {ss:List Say} {c:Nat} {d:Int→Int} {one:Int} (pt:∀ s ∈ ss,d s.2.1 - d s.1 ≤ s.2.2) (hin:ss.all (inside c) = true):∀ (order:List Int) (w:Ws),(∀ k ∈ order,cnt ss.length k = true)→Wk ss c d one w.S w.L→Wk ss c d one (goAll ss order w).S (goAll ss order w).L
 | [],_,_,h=>h
 | k :: r,w,ho,h=>Wk.goAll pt hin r (At.relax ss w k) (fun j hj=>ho j (List.mem_cons_of_mem _ hj)) (Wk.relax pt hin h (ho k List.mem_cons_self))
theorem noring {ss:List Say} {S L:Fn} {d:Int→Int} (pt:∀ s ∈ ss,d s.2.1 - d s.1 ≤ s.2.2) (hJ:J ss S L) (hR:R ss L) (p:Int) (n:Nat):back ss L (n + 1) p ≠ some p:=fun h=>by
 obtain ⟨h1,h2,_⟩:=chainB_walk hJ (n + 1) p p h
 have h3:=walk_pot pt _ _ _ h1
 have h4:=hR p n h
 rw [h2] at h3
 omega
theorem ends_of {ss:List Say} {c:Nat} {S L:Fn} {d:Int→Int} (pt:∀ s ∈ ss,d s.2.1 - d s.1 ≤ s.2.2) (w:Wd ss c S L) (p:Int):Grd ss L p:=by
 apply Classical.byContradiction
 intro hg
 have all:∀ n,∃ x,back ss L n p = some x∧L x ≠ none:=by
  intro n
  induction n with
  | zero=>exact ⟨p,rfl,fun z=>hg ⟨0,p,rfl,z⟩⟩
  | succ n ih =>
   obtain ⟨x,h1,h2⟩:=ih
   cases e:L x with
   | none=>exact absurd e h2
   | some k =>
    have h3:=back_snoc h1 e
    exact ⟨_,h3,fun z=>hg ⟨n + 1,_,h3,z⟩⟩
 have nd:((List.range (c + 1)).map fun i=>(back ss L i p).getD 0).Nodup:=by
  rw [List.Nodup,List.pairwise_map]
  refine List.Pairwise.imp_of_mem ?_ (List.pairwise_lt_range (n:=c + 1))
  intro i j _ _ hij e
  obtain ⟨x,hx,_⟩:=all i
  obtain ⟨y,hy,_⟩:=all j
  rw [hx,hy] at e
  have e:x = y:=e
  subst e
  have:=hy
  rw [show j = i + (j - i - 1 + 1) by omega,back_add,hx] at this
  exact noring pt w.j w.r x (j - i - 1) this
 have:=nodup_bound c _ nd (fun x hx=>by
  obtain ⟨i,_,rfl⟩:=List.mem_map.mp hx
  obtain ⟨y,hy,hl⟩:=all i
  rw [hy]
  cases e:L y with
  | none=>exact absurd e hl
  | some k=>exact cnt_iff.mp (w.lr e))
 rw [List.length_map,List.length_range] at this
 omega
theorem chain_of {ss:List Say} {c:Nat} {S L:Fn} {d:Int→Int} {one p v:Int} (pt:∀ s ∈ ss,d s.2.1 - d s.1 ≤ s.2.2) (w:Wd ss c S L) (k:Wk ss c d one S L) (hp:S p = some v):∃ n,n ≤ c∧back ss L n p = some one:=by
 obtain ⟨n,q,h1,h2,h3⟩:=first_ground (ends_of pt w p)
 have hn:=ground_short (fun x k e=>w.lr e) h1 h2 h3
 obtain ⟨a,ha⟩:=back_has w.j n p q v h1 hp
 by_cases e:q = one
 ·subst e; exact ⟨n,hn,h1⟩
 ·exact absurd h2 (k.gr q a ha e)
end
end At
set_option Elab.async false
set_option linter.all false
set_option maxRecDepth 100000
set_option maxHeartbeats 4000000
namespace At
open PySem L2 PyProof.Rows
section
variable {P:Program} {w:World} {K:PySem.W.Frag} {mg:Str→Option Value} {base:Heap}
structure MDef (K:PySem.W.Frag) (C:Addr) (m qual:Str) (st:Stmt) (ps:List Str) (f:Addr) (fd:FuncData):Prop where
 fn:Fun K m qual st f fd
 me:Meth K C m f
 bd:Binds K fd ps []
structure WK (K:PySem.W.Frag) (mg:Str→Option Value) (C:Addr):Prop where
 cl:Cls K C
 n1:NoAttr K C "sayings"
 n2:NoAttr K C "sums"
 n3:NoAttr K C "last"
 at_:mg "Walk" = some (.ref C)
def wfl (A S L:Addr):List (Str × V):=[("sayings",.ref A),("sums",.ref S),("last",.ref L)]
section
variable {A S L:Addr}
theorem wfl1:(wfl A S L).lookup ("sayings":Str) = some (.ref A):=rfl
theorem wfl2:(wfl A S L).lookup ("sums":Str) = some (.ref S):=rfl
theorem wfl3:(wfl A S L).lookup ("last":Str) = some (.ref L):=rfl
theorem wfl_go:(wfl A S L).lookup ("go_along":Str) = none:=rfl
theorem wfl_ah:(wfl A S L).lookup ("place_ahead":Str) = none:=rfl
theorem wfl_cb:(wfl A S L).lookup ("chain_between":Str) = none:=rfl
theorem wfl_pr:(wfl A S L).lookup ("place_on_ring":Str) = none:=rfl
end
structure WalkAt (C:Addr) (H:Hp) (p A S L:Addr) (ks kl:List (Key × V)) (Sf Lf:Fn):Prop where
 ob:∃ dx,H p = some (.ins C dx (wfl A S L))
 hS:H S = some (.dK ks)
 rS:DR ks (iS Sf)
 hL:Rd H L (.dK kl)
 rL:DR kl (iS Lf)
 ne:S ≠ L
theorem Rd.same {H H':Hp} {a:Addr} {u:HO} (r:Rd H a u) (e:Same H H'):Rd H' a u:=by
 rcases r with r | ⟨o,r⟩
 ·exact .inl (e _ _ r)
 ·exact .inr ⟨o,e _ _ r⟩
theorem WalkAt.same {C:Addr} {H H':Hp} {p A S L:Addr} {ks kl:List (Key × V)} {Sf Lf:Fn} (h:WalkAt C H p A S L ks kl Sf Lf) (e:Same H H'):WalkAt C H' p A S L ks kl Sf Lf:=by
 obtain ⟨dx,ob⟩:=h.ob
 exact ⟨⟨dx,e _ _ ob⟩,e _ _ h.hS,h.rS,Rd.same h.hL e,h.rL,h.ne⟩
end
end At
set_option Elab.async false
set_option linter.all false
set_option maxRecDepth 100000
set_option maxHeartbeats 4000000
namespace At
open PySem L2 PyProof.Rows
section
variable {P:Program} {w:World} {K:PySem.W.Frag} {mg:Str→Option Value} {base:Heap}
structure Strt (bs:List Int) (Sf:Fn):Prop where
 to:∀ k ∈ bs,Sf k = some 0
 of_:∀ k v,Sf k = some v→v = 0∧k ∈ bs
def spWInit (C:Addr):Sp:=fun vs H Q _=>∃ (p dx A B:Addr) (bs:List Int) (c:Nat),vs = [.ref p,.ref A,.ref B]∧H p = some (.ins C dx [])∧H B = some (.lst (bs.map V.int))∧(∀ k ∈ bs,cnt c k = true)∧c ≤ 1000 ∧
 ∀ (H':Hp) (S L:Addr) (ks:List (Key × V)) (Sf:Fn),H S = none→H L = none→WalkAt C H' p A S L ks [] Sf (fun _=>none)→H' L = some (.dK [])→Strt bs Sf→(∀ b o,b ≠ p→H b = some o→H' b = some o)→Q .non H'
theorem scWInit:FnScope ["self","sayings","starts","start"] ["self","sayings","starts"] (defScope m_Walk___init__):=⟨rfl,rfl,rfl,by decide +kernel,rfl,by decide +kernel,by decide +kernel⟩
theorem ok_wInit {f C:Addr} {fd:FuncData} (F:Fun K "__init__" "Walk.__init__" m_Walk___init__ f fd) (T:WK K mg C):FnOk P w K mg base CX0 1 f fd ["self","sayings","starts"] (spWInit C):=by
 refine F.ok scWInit (fun vs H Q E h=>?_) (fun cdv A0 outer s H vs Q X hr h=>?_)
 ·obtain ⟨_,_,_,_,_,_,rfl,_⟩:=h; rfl
 ·obtain ⟨p,dx,A,B,bs,c,rfl,hp,hB,hbs,hc,k⟩:=h
  have hu:=hu_of hr
  refine ⟨_,pss_cons (ps_fld (pv 0) (pv 1) rfl) (pss_cons (ps_fld (pv 0) pe_dnewK rfl) (pss_cons (ps_fld (pv 0) pe_dnewK rfl)
   (pss_one (ps_for PassesOwn.never rfl (pi_list (pv 2)) (pg_name (i:=3) scWInit.nd rfl (Or.inl rfl)) (pss_one (ps_dput hu (pe_fld (pv 0) rfl) (pv 3) pe_int rfl)))))),?_⟩
  refine ⟨_,rfl,_,rfl,p,C,dx,[],rfl,hp,T.cl,T.n1,(by show 0 < 1000; decide),?_⟩
  intro S hS
  have pS:p ≠ S:=fun z=>by rw [← z,upd_same] at hS; cases hS
  have hS0:H S = none:=by rw [upd_ne pS.symm] at hS; exact hS
  refine ⟨_,rfl,p,C,dx,_,rfl,by rw [upd_ne pS,upd_same],T.cl,T.n2,(by show 1 < 1000; decide),?_⟩
  intro L hL
  have pL:p ≠ L:=fun z=>by rw [← z,upd_same] at hL; cases hL
  have sL:S ≠ L:=fun z=>by rw [← z,upd_ne pS.symm,upd_same] at hL; cases hL
  have hL0:H L = none:=by rw [upd_ne pL.symm,upd_ne sL.symm,upd_ne pL.symm] at hL; exact hL
  refine ⟨_,rfl,p,C,dx,_,rfl,by rw [upd_ne pL,upd_same],T.cl,T.n3,(by show 2 < 1000; decide),?_⟩
  have ef:putF "last" (V.ref L) (putF "sums" (V.ref S) (putF "sayings" (V.ref A) [])) = wfl A S L:=rfl
  rw [ef]
  have e1:∀ {o:HO},(upd (upd (upd (upd (upd H p (.ins C dx (putF "sayings" (V.ref A) []))) S (.dK [])) p (.ins C dx (putF "sums" (V.ref S) (putF "sayings" (V.ref A) [])))) L (.dK [])) p o) p = some o:=upd_same
  have e2:(upd (upd (upd (upd (upd H p (.ins C dx (putF "sayings" (V.ref A) []))) S (.dK [])) p (.ins C dx (putF "sums" (V.ref S) (putF "sayings" (V.ref A) [])))) L (.dK [])) p (.ins C dx (wfl A S L))) S = some (.dK []):=by
   rw [upd_ne pS.symm,upd_ne sL,upd_ne pS.symm,upd_same]
  have e3:(upd (upd (upd (upd (upd H p (.ins C dx (putF "sayings" (V.ref A) []))) S (.dK [])) p (.ins C dx (putF "sums" (V.ref S) (putF "sayings" (V.ref A) [])))) L (.dK [])) p (.ins C dx (wfl A S L))) L = some (.dK []):=by
   rw [upd_ne pL.symm,upd_same]
  have e4:∀ b o,b ≠ p→H b = some o→(upd (upd (upd (upd (upd H p (.ins C dx (putF "sayings" (V.ref A) []))) S (.dK [])) p (.ins C dx (putF "sums" (V.ref S) (putF "sayings" (V.ref A) [])))) L (.dK [])) p (.ins C dx (wfl A S L))) b = some o:=fun b o hb e=>by
   rw [upd_ne hb,upd_ne (ne_of_none e hL0),upd_ne hb,upd_ne (ne_of_none e hS0),upd_ne hb]; exact e
  have e1:=e1 (o:=.ins C dx (wfl A S L))
  generalize (upd (upd (upd (upd (upd H p (.ins C dx (putF "sayings" (V.ref A) []))) S (.dK [])) p (.ins C dx (putF "sums" (V.ref S) (putF "sayings" (V.ref A) [])))) L (.dK [])) p (.ins C dx (wfl A S L))) = H1 at e1 e2 e3 e4
  have pB:B ≠ p:=ne_of hB hp (by intro z; cases z)
  have BS:B ≠ S:=ne_of_none hB hS0
  have BL:B ≠ L:=ne_of_none hB hL0
  refine ⟨_,rfl,B,rfl,⟨_,SqL.of (e4 _ _ pB hB)⟩,for_list (K:=K) (a:=B) (xs:=bs.map V.int) (fun i σ H2=>∃ (ks:List (Key × V)) (Sf:Fn) (v:Option V),σ = [some (.ref p),some (.ref A),some (.ref B),v]∧H2 p = some (.ins C dx (wfl A S L))∧H2 S = some (.dK ks)∧DR ks (iS Sf)∧H2 L = some (.dK [])∧(∀ b o,b ≠ p→H b = some o→H2 b = some o)∧Strt (bs.take i) Sf)
   ⟨[],fun _=>none,none,rfl,e1,e2,DR.nil,e3,e4,⟨fun k hk=>by simp at hk,(fun k v e=>nomatch e)⟩⟩ (fun i σ H2 _ ⟨_,_,_,_,_,_,_,_,k4,_⟩=>SqL.of (k4 _ _ pB hB)) ?_ ?_⟩
  ·rintro i y σ H2 hi ⟨ks,Sf,v,rfl,h1,h2,rS,h3,h4,hst⟩
   rw [List.getElem?_map] at hi
   cases en:bs[i]? with
   | none=>rw [en] at hi; cases hi
   | some z =>
    rw [en] at hi; cases hi
    have hrg:∀ k v,Sf k = some v→cnt c k = true:=fun k v e=>hbs k (List.mem_of_mem_take (hst.of_ k v e).2)
    have lS:ks.length ≤ c:=rS.len (iS_range hrg)
    have etk:bs.take (i + 1) = bs.take i ++ [z]:=by rw [List.take_add_one,en]; rfl
    refine ⟨_,rfl,p,C,dx,_,_,rfl,h1,T.cl,T.n2,wfl2,_,rfl,S,_,rfl,DPut.k (k:=Sum.inl z) h2 (small1000 (by omega)),?_⟩
    refine ⟨_,put Sf z 0,_,rfl,by rw [upd_ne pS]; exact h1,upd_same,rS.iput z 0,by rw [upd_ne sL.symm]; exact h3,fun b o hb e=>by rw [upd_ne (ne_of_none e hS0)]; exact h4 b o hb e,?_⟩
    rw [etk]
    refine ⟨fun k hk=>?_,fun k v e=>?_⟩
    ·by_cases q:k = z
     ·subst q; exact put_same
     ·rw [put_ne q]
      rcases List.mem_append.mp hk with m | m
      ·exact hst.to k m
      ·exact absurd (by simpa using m) q
    ·by_cases q:k = z
     ·subst q; rw [put_same] at e; cases e; exact ⟨rfl,by simp⟩
     ·rw [put_ne q] at e
      obtain ⟨a,b⟩:=hst.of_ k v e
      exact ⟨a,List.mem_append_left _ b⟩
  ·rintro σ H2 ⟨ks,Sf,v,rfl,h1,h2,rS,h3,h4,hst⟩
   rw [List.length_map,List.take_length] at hst
   exact k H2 S L ks Sf hS0 hL0 ⟨⟨dx,h1⟩,h2,rS,.inl h3,DR.nil,sL⟩ h3 hst h4
end
end At
set_option Elab.async false
set_option linter.all false
set_option maxRecDepth 100000
set_option maxHeartbeats 4000000
namespace At
open PySem L2 PyProof.Rows
section
variable {P:Program} {w:World} {K:PySem.W.Frag} {mg:Str→Option Value} {base:Heap}
def spGo (C:Addr):Sp:=fun vs H Q _=>∃ (p A S L O:Addr) (ss:List Say) (c:Nat) (ks kl:List (Key × V)) (Sf Lf:Fn) (ord:List Int),vs = [.ref p,.ref O]∧WalkAt C H p A S L ks kl Sf Lf∧H L = some (.dK kl)∧SaysAt H A ss∧H O = some (.lst (ord.map V.int)) ∧
 (∀ k ∈ ord,cnt ss.length k = true)∧ss.all (inside c) = true∧c ≤ 1000∧Wd ss c Sf Lf ∧
 ∀ (H':Hp) (ks' kl':List (Key × V)),WalkAt C H' p A S L ks' kl' (goAll ss ord ⟨Sf,Lf,false⟩).S (goAll ss ord ⟨Sf,Lf,false⟩).L→H' L = some (.dK kl')→(∀ b o,b ≠ S→b ≠ L→H b = some o→H' b = some o)→Q (.bl (goAll ss ord ⟨Sf,Lf,false⟩).f) H'
theorem scGo:FnScope ["self","order","found","at","saying","reached"] ["self","order"] (defScope m_Walk_go_along):=⟨rfl,rfl,rfl,by decide +kernel,rfl,by decide +kernel,by decide +kernel⟩
theorem goAll_take {ss:List Say} {ord:List Int} {w:Ws} {i:Nat} {k:Int} (e:ord[i]? = some k):goAll ss (ord.take (i + 1)) w = relax ss (goAll ss (ord.take i) w) k:=by
 unfold goAll
 rw [List.take_add_one,e,List.foldl_append]; rfl
theorem ok_go {f C:Addr} {fd:FuncData} (F:Fun K "go_along" "Walk.go_along" m_Walk_go_along f fd) (T:WK K mg C):FnOk P w K mg base CX0 1 f fd ["self","order"] (spGo C):=by
 refine F.ok scGo (fun vs H Q E h=>?_) (fun cdv A0 outer s H vs Q X hr h=>?_)
 ·obtain ⟨_,_,_,_,_,_,_,_,_,_,_,_,rfl,_⟩:=h; rfl
 ·obtain ⟨p,A,S,L,O,ss,c,ks,kl,Sf,Lf,ord,rfl,W,hL,hA,hO,hord,hin,hc,wd,k⟩:=h
  have hu:=hu_of hr
  obtain ⟨ps,hA,hSy⟩:=hA.ex
  obtain ⟨⟨dx,ob⟩,hS,rS,_,rL,nSL⟩:=W
  have AS:A ≠ S:=ne_of hA hS (by intro z; cases z)
  have AL:A ≠ L:=ne_of hA hL (by intro z; cases z)
  have OS:O ≠ S:=ne_of hO hS (by intro z; cases z)
  have OL:O ≠ L:=ne_of hO hL (by intro z; cases z)
  have pS:p ≠ S:=ne_of ob hS (by intro z; cases z)
  have pL:p ≠ L:=ne_of ob hL (by intro z; cases z)
  refine ⟨_,pss_cons (ps_set (i:=2) scGo.nd rfl (Or.inl rfl) pe_bl)
   (pss_cons (ps_for PassesOwn.never rfl (pi_list (pv 1)) (pg_name (i:=3) scGo.nd rfl (Or.inl rfl))
    (pss_cons (ps_set (i:=4) scGo.nd rfl (Or.inl rfl) (pe_ix ix_list (pe_fld (pv 0) rfl) (pv 3) (fun _ _=>rfl)))
    (pss_one (ps_if (pt_cmp (pc_din hu (pe_ix ix_tup (pv 4) pe_int (fun _ _=>rfl)) (pe_fld (pv 0) rfl)))
     (pss_cons (ps_set (i:=5) scGo.nd rfl (Or.inl rfl) (pe_op op_add (pe_dget hu (pe_fld (pv 0) rfl) (pe_ix ix_tup (pv 4) pe_int (fun _ _=>rfl)) (fun _ _=>rfl)) (pe_ix ix_tup (pv 4) pe_int (fun _ _=>rfl))))
     (pss_one (ps_if (PW.pt (pw_or (pt_cmp (pc_dnotin hu (pe_ix ix_tup (pv 4) pe_int (fun _ _=>rfl)) (pe_fld (pv 0) rfl))) (pw_or1 (pt_cmpR op_lt (pv 5) (pe_dget hu (pe_fld (pv 0) rfl) (pe_ix ix_tup (pv 4) pe_int (fun _ _=>rfl)) (fun _ _=>rfl)) (nomark _)))))
      (pss_cons (ps_dput hu (pe_fld (pv 0) rfl) (pe_ix ix_tup (pv 4) pe_int (fun _ _=>rfl)) (pv 5) rfl)
      (pss_cons (ps_dput hu (pe_fld (pv 0) rfl) (pe_ix ix_tup (pv 4) pe_int (fun _ _=>rfl)) (pv 3) rfl)
      (pss_one (ps_set (i:=2) scGo.nd rfl (Or.inl rfl) pe_bl)))) pss_nil)))
     pss_nil))))
   (pss_one (ps_ret (pv 2)))),?_⟩
  refine ⟨_,rfl,O,rfl,⟨_,SqL.of hO⟩,for_list (K:=K) (a:=O) (xs:=ord.map V.int) (fun i σ H2=>∃ (ks2 kl2:List (Key × V)) (v3 v4 v5:Option V) (W2:Ws),W2 = goAll ss (ord.take i) ⟨Sf,Lf,false⟩∧σ = [some (.ref p),some (.ref O),some (.bl W2.f),v3,v4,v5]∧H2 S = some (.dK ks2)∧DR ks2 (iS W2.S)∧H2 L = some (.dK kl2)∧DR kl2 (iS W2.L) ∧
    (∀ b o,b ≠ S→b ≠ L→H b = some o→H2 b = some o))
   ⟨ks,kl,none,none,none,_,rfl,rfl,hS,rS,hL,rL,fun b o _ _ e=>e⟩ (fun i σ H2 _ ⟨_,_,_,_,_,_,_,_,_,_,_,_,kp⟩=>SqL.of (kp _ _ OS OL hO)) ?_ ?_⟩
  ·rintro i y σ H2 hi ⟨ks2,kl2,v3,v4,v5,W2,hW,rfl,hS2,rS2,hL2,rL2,kp⟩
   rw [List.getElem?_map] at hi
   cases en:ord[i]? with
   | none=>rw [en] at hi; cases hi
   | some z =>
    rw [en] at hi; cases hi
    have hz:cnt ss.length z = true:=hord z (List.mem_of_getElem? en)
    have pass:=goAll_pass hin ⟨Sf,Lf,false⟩ wd (ord.take i) fun k hk=>hord k (List.mem_of_mem_take hk)
    rw [← hW] at pass
    have wd2:=pass.wd
    have lS:ks2.length ≤ c:=rS2.len (iS_range wd2.rg)
    have lL:kl2.length ≤ c:=rL2.len (iS_range fun k v e=>wd2.lr e)
    have enx:=goAll_take (ss:=ss) (w:=⟨Sf,Lf,false⟩) en
    rw [← hW] at enx
    rw [enx]
    obtain ⟨q,eq,hq⟩:=says_at hSy hz
    have qS:q ≠ S:=ne_of hq hS (by intro z; cases z)
    have qL:q ≠ L:=ne_of hq hL (by intro z; cases z)
    have hq2:=kp _ _ qS qL hq
    have ob2:=kp _ _ pS pL ob
    have hA2:=kp _ _ AS AL hA
    clear pass
    refine ⟨_,rfl,p,C,dx,_,_,rfl,ob2,T.cl,T.n1,wfl1,_,rfl,A,_,_,_,rfl,rfl,SqL.of hA2,eq,?_⟩
    refine ⟨_,rfl,q,_,_,_,rfl,rfl,SqT.of hq2,rfl,_,rfl,p,C,dx,_,_,rfl,ob2,T.cl,T.n2,wfl2,S,_,rfl,DGet.k (k:=Sum.inl (sy ss z).1) hS2,_,rfl,?_⟩
    rw [rS2.at_]
    cases ea:W2.S (sy ss z).1 with
    | none =>
     rw [iS_none.mpr ea]
     refine iteF ?_
     exact ⟨ks2,kl2,_,_,_,_,(by unfold relax; rw [ea]),rfl,hS2,rS2,hL2,rL2,kp⟩
    | some a =>
     rw [iS_some ea]
     refine iteT ⟨_,rfl,p,C,dx,_,_,rfl,ob2,T.cl,T.n2,wfl2,_,rfl,q,_,_,_,rfl,rfl,SqT.of hq2,rfl,S,_,rfl,.inl ⟨ks2,Sum.inl (sy ss z).1,.inl hS2,rfl,by rw [rS2.at_,iS_some ea]⟩,_,rfl,q,_,_,_,rfl,rfl,SqT.of hq2,rfl,_,_,rfl,rfl,?_⟩
     have upd2:∀ (W3:Ws),W3 = ⟨put W2.S (sy ss z).2.1 (a + (sy ss z).2.2),put W2.L (sy ss z).2.1 z,true⟩→∃ (ks3 kl3:List (Key × V)) (v3 v4 v5:Option V) (W2:Ws),W2 = W3∧([some (.ref p),some (.ref O),some (.bl true),some (.int z),some (.ref q),some (.int (a + (sy ss z).2.2))]:L2.St) = [some (.ref p),some (.ref O),some (.bl W2.f),v3,v4,v5] ∧
       (upd (upd H2 S (.dK (putK ks2 (Sum.inl (sy ss z).2.1) (.int (a + (sy ss z).2.2))))) L (.dK (putK kl2 (Sum.inl (sy ss z).2.1) (.int z)))) S = some (.dK ks3)∧DR ks3 (iS W2.S)∧(upd (upd H2 S (.dK (putK ks2 (Sum.inl (sy ss z).2.1) (.int (a + (sy ss z).2.2))))) L (.dK (putK kl2 (Sum.inl (sy ss z).2.1) (.int z)))) L = some (.dK kl3)∧DR kl3 (iS W2.L) ∧
       (∀ b o,b ≠ S→b ≠ L→H b = some o→(upd (upd H2 S (.dK (putK ks2 (Sum.inl (sy ss z).2.1) (.int (a + (sy ss z).2.2))))) L (.dK (putK kl2 (Sum.inl (sy ss z).2.1) (.int z)))) b = some o):=fun W3 e3=>by
      subst e3
      exact ⟨_,_,_,_,_,_,rfl,rfl,by rw [upd_ne nSL,upd_same],rS2.iput _ _,upd_same,rL2.iput _ _,fun b o h1 h2 e=>by rw [upd_ne h2,upd_ne h1]; exact kp b o h1 h2 e⟩
     refine ⟨_,rfl,q,_,_,_,rfl,rfl,SqT.of hq2,rfl,_,rfl,p,C,dx,_,_,rfl,ob2,T.cl,T.n2,wfl2,S,_,rfl,DGet.k (k:=Sum.inl (sy ss z).2.1) hS2,_,rfl,?_⟩
     rw [rS2.at_]
     cases eb:W2.S (sy ss z).2.1 with
     | none =>
      rw [iS_none.mpr eb]
      refine ⟨_,rfl,_,rfl,p,C,dx,_,_,rfl,ob2,T.cl,T.n2,wfl2,_,rfl,q,_,_,_,rfl,rfl,SqT.of hq2,rfl,S,_,rfl,DPut.k (k:=Sum.inl (sy ss z).2.1) hS2 (small1000 (by omega)),?_⟩
      refine ⟨_,rfl,_,rfl,p,C,dx,_,_,rfl,by rw [upd_ne pS]; exact ob2,T.cl,T.n3,wfl3,_,rfl,q,_,_,_,rfl,rfl,SqT.of (by rw [upd_ne qS]; exact hq2),rfl,L,_,rfl,DPut.k (k:=Sum.inl (sy ss z).2.1) (by rw [upd_ne nSL.symm]; exact hL2) (small1000 (by omega)),?_⟩
      exact upd2 _ (by unfold relax; rw [ea]; simp only; rw [eb])
     | some b =>
      rw [iS_some eb]
      refine ⟨_,rfl,_,rfl,p,C,dx,_,_,rfl,ob2,T.cl,T.n2,wfl2,_,rfl,q,_,_,_,rfl,rfl,SqT.of hq2,rfl,S,_,rfl,.inl ⟨ks2,Sum.inl (sy ss z).2.1,.inl hS2,rfl,by rw [rS2.at_,iS_some eb]⟩,_,_,rfl,rfl,_,rfl,?_⟩
      refine ite2 (fun hlt=>?_) (fun hlt=>?_)
      ·have hlt:a + (sy ss z).2.2 < b:=by simpa using hlt
       refine ⟨_,rfl,_,rfl,p,C,dx,_,_,rfl,ob2,T.cl,T.n2,wfl2,_,rfl,q,_,_,_,rfl,rfl,SqT.of hq2,rfl,S,_,rfl,DPut.k (k:=Sum.inl (sy ss z).2.1) hS2 (small1000 (by omega)),?_⟩
       refine ⟨_,rfl,_,rfl,p,C,dx,_,_,rfl,by rw [upd_ne pS]; exact ob2,T.cl,T.n3,wfl3,_,rfl,q,_,_,_,rfl,rfl,SqT.of (by rw [upd_ne qS]; exact hq2),rfl,L,_,rfl,DPut.k (k:=Sum.inl (sy ss z).2.1) (by rw [upd_ne nSL.symm]; exact hL2) (small1000 (by omega)),?_⟩
       exact upd2 _ (by unfold relax; rw [ea]; simp only; rw [eb]; simp only; rw [if_pos hlt])
      ·have hlt:¬ a + (sy ss z).2.2 < b:=by simpa using hlt
       exact ⟨ks2,kl2,_,_,_,_,(by unfold relax; rw [ea]; simp only; rw [eb]; simp only; rw [if_neg hlt]),rfl,hS2,rS2,hL2,rL2,kp⟩
  ·rintro σ H2 ⟨ks2,kl2,v3,v4,v5,W2,hW,rfl,hS2,rS2,hL2,rL2,kp⟩
   rw [List.length_map,List.take_length] at hW
   subst hW
   exact ⟨_,rfl,k H2 ks2 kl2 ⟨⟨dx,kp _ _ pS pL ob⟩,hS2,rS2,.inl hL2,rL2,nSL⟩ hL2 kp⟩
end
end At
set_option Elab.async false
set_option linter.all false
set_option maxRecDepth 100000
set_option maxHeartbeats 4000000
namespace At
open PySem L2 PyProof.Rows
section
variable {P:Program} {w:World} {K:PySem.W.Frag} {mg:Str→Option Value} {base:Heap}
def spAhead (C:Addr):Sp:=fun vs H Q _=>∃ (p A S L:Addr) (ss:List Say) (ks kl:List (Key × V)) (Sf Lf:Fn) (q k:Int),vs = [.ref p,.int q]∧WalkAt C H p A S L ks kl Sf Lf∧SaysAt H A ss∧Lf q = some k∧cnt ss.length k = true∧Q (.int (sy ss k).1) H
theorem scAhead:FnScope ["self","place"] ["self","place"] (defScope m_Walk_place_ahead):=⟨rfl,rfl,rfl,by decide +kernel,rfl,by decide +kernel,by decide +kernel⟩
theorem ok_ahead {f C:Addr} {fd:FuncData} (F:Fun K "place_ahead" "Walk.place_ahead" m_Walk_place_ahead f fd) (T:WK K mg C):FnOk P w K mg base CX0 1 f fd ["self","place"] (spAhead C):=by
 refine F.ok scAhead (fun vs H Q E h=>?_) (fun cdv A0 outer s H vs Q X hr h=>?_)
 ·obtain ⟨_,_,_,_,_,_,_,_,_,_,_,rfl,_⟩:=h; rfl
 ·obtain ⟨p,A,S,L,ss,ks,kl,Sf,Lf,q,k,rfl,W,hA,hq,hk,fin⟩:=h
  have hu:=hu_of hr
  obtain ⟨ps,hA,hSy⟩:=hA.ex
  obtain ⟨⟨dx,ob⟩,hS,rS,hL,rL,nSL⟩:=W
  refine ⟨_,pss_one (ps_ret (pe_ix ix_tup (pe_ix ix_list (pe_fld (pv 0) rfl) (pe_dget hu (pe_fld (pv 0) rfl) (pv 1) (fun _ _=>rfl)) (fun _ _=>rfl)) pe_int (fun _ _=>rfl))),?_⟩
  obtain ⟨x,ex,hx⟩:=says_at hSy hk
  exact ⟨_,rfl,p,C,dx,_,_,rfl,ob,T.cl,T.n1,wfl1,_,rfl,p,C,dx,_,_,rfl,ob,T.cl,T.n3,wfl3,_,rfl,L,_,rfl,.inl ⟨kl,Sum.inl q,hL,rfl,by rw [rL.at_,iS_some hq]⟩,A,_,_,_,rfl,rfl,SqL.of hA,ex,x,_,_,_,rfl,rfl,SqT.of hx,rfl,fin⟩
end
end At
set_option Elab.async false
set_option linter.all false
set_option maxRecDepth 100000
set_option maxHeartbeats 4000000
namespace At
open PySem L2 PyProof.Rows
section
variable {P:Program} {w:World} {K:PySem.W.Frag} {mg:Str→Option Value} {base:Heap}
def spBetween (C:Addr):Sp:=fun vs H Q _=>∃ (p A S L:Addr) (ss:List Say) (ks kl:List (Key × V)) (Sf Lf:Fn) (one other:Int) (n:Nat),vs = [.ref p,.int one,.int other]∧WalkAt C H p A S L ks kl Sf Lf∧SaysAt H A ss∧J ss Sf Lf∧back ss Lf n other = some one∧n ≤ 1000 ∧
 ∀ (H':Hp) (d:Addr) (m:Nat),Same H H'→H d = none→m ≤ n→back ss Lf m other = some one→H' d = some (.lst ((chainB ss Lf m other).reverse.map V.int))→Q (.ref d) H'
theorem scBetween:FnScope ["self","one","other","chain","place"] ["self","one","other"] (defScope m_Walk_chain_between):=⟨rfl,rfl,rfl,by decide +kernel,rfl,by decide +kernel,by decide +kernel⟩
theorem ok_between {f g C:Addr} {fd gd:FuncData} (F:Fun K "chain_between" "Walk.chain_between" m_Walk_chain_between f fd) (M:MDef K C "place_ahead" "Walk.place_ahead" m_Walk_place_ahead ["self","place"] g gd) (T:WK K mg C):FnOk P w K mg base CX0 2 f fd ["self","one","other"] (spBetween C):=by
 have GA:FnOk P w K mg base CX0 1 g gd ["self","place"] (spAhead C):=ok_ahead M.fn T
 refine F.ok scBetween (fun vs H Q E h=>?_) (fun cdv A0 outer s H vs Q X hr h=>?_)
 ·obtain ⟨_,_,_,_,_,_,_,_,_,_,_,_,rfl,_⟩:=h; rfl
 ·obtain ⟨p,A,S,L,ss,ks,kl,Sf,Lf,one,other,n,rfl,W,hA,hJ,hn,hn1,k⟩:=h
  have hu:=hu_of hr
  obtain ⟨dx,ob⟩:=W.ob
  refine ⟨_,pss_cons (ps_set (i:=3) scBetween.nd rfl (Or.inl rfl) (pe_lst pa_nil))
   (pss_cons (ps_set (i:=4) scBetween.nd rfl (Or.inl rfl) (pv 2))
   (pss_cons (ps_while PassesOwn.never (pt_cmpR op_ne (pv 4) (pv 1) (nomark _))
    (pss_cons (ps_expr (pe_bm PySem.F.plainAttrs_list PySem.F.slot_list_append PySem.F.type_list_append mt_append (pv 3) (pa_cons (pe_dget hu (pe_fld (pv 0) rfl) (pv 4) (fun _ _=>rfl)) pa_nil)))
    (pss_one (ps_set (i:=4) scBetween.nd rfl (Or.inl rfl) (pe_meth (pv 0) T.cl M.me GA hr M.bd .nil pass0 (pa_cons (pv 4) pa_nil))))))
   (pss_cons (ps_expr (pe_bm0 PySem.F.plainAttrs_list PySem.F.slot_list_reverse PySem.F.type_list_reverse mt_reverse (pv 3)))
   (pss_one (ps_ret (pv 3)))))),?_⟩
  refine ⟨by show 0 ≤ sizeLine; decide,fun d hd=>?_⟩
  refine ⟨_,rfl,?_⟩
  refine ⟨fun m σ H2=>∃ (i:Nat) (q:Int),m = n - i∧i ≤ n∧σ = [some (.ref p),some (.int one),some (.int other),some (.ref d),some (.int q)]∧back ss Lf i other = some q∧H2 d = some (.lst ((chainB ss Lf i other).map V.int))∧Same H H2,⟨_,0,other,rfl,Nat.zero_le _,rfl,rfl,upd_same,Same.up hd⟩,?_⟩
  rintro m σ H2 ⟨i,q,rfl,hi,rfl,hq,hd2,s2⟩
  refine ⟨_,rfl,_,rfl,rfl,_,rfl,?_⟩
  rw [dec_int]
  have cl:=(chainB_walk hJ i other q hq).2.2
  refine ite2 (fun hne=>?_) (fun hne=>?_)
  ·have hne:¬ q = one:=by simpa using hne
   have hlt:i < n:=by
    rcases Nat.lt_or_ge i n with z | z
    ·exact z
    ·have:i = n:=by omega
     subst this
     rw [hn] at hq
     exact absurd (Option.some.inj hq).symm hne
   obtain ⟨kk,hk⟩:∃ kk,Lf q = some kk:=by
    have e:n = i + (n - i):=by omega
    rw [e,back_add,hq] at hn
    have e2:n - i = (n - i - 1) + 1:=by omega
    rw [e2] at hn
    have hn:back ss Lf (n - i - 1 + 1) q = some one:=hn
    unfold back at hn
    cases e3:Lf q with
    | none=>rw [e3] at hn; cases hn
    | some kk=>exact ⟨kk,rfl⟩
   have hkc:=(hJ q kk hk).1
   have W2:=W.same s2
   obtain ⟨_,_,_,hL2,rL,_⟩:=id W2
   refine ⟨_,fun σ' H' z=>z,?_⟩
   refine ⟨_,rfl,.inl ⟨rfl,_,SqL.of hd2⟩,_,rfl,p,C,dx,_,_,rfl,s2 _ _ ob,T.cl,T.n3,wfl3,_,rfl,L,_,rfl,.inl ⟨kl,Sum.inl q,hL2,rfl,by rw [rL.at_,iS_some hk]⟩,d,_,_,rfl,rfl,hd2,by rw [List.length_map,cl]; exact small1000 (by omega),?_⟩
   have s3:Same H (upd H2 d (.lst ((chainB ss Lf i other).map V.int ++ [.int kk]))):=fun b o e=>by rw [upd_ne (ne_of_none e hd)]; exact s2 b o e
   refine ⟨_,rfl,p,dx,_,rfl,s3 _ _ ob,wfl_ah,_,rfl,p,A,S,L,ss,ks,kl,Sf,Lf,q,kk,rfl,W.same s3,hA.same s3,hk,hkc,?_⟩
   exact ⟨n - (i + 1),by omega,i + 1,(sy ss kk).1,rfl,hlt,rfl,back_snoc hq hk,by rw [upd_same,chainB_snoc i other q kk hq hk,List.map_append]; rfl,s3⟩
  ·have hne:q = one:=by simpa using hne
   subst hne
   refine ⟨_,rfl,.inl ⟨rfl,_,SqL.of hd2⟩,d,_,rfl,rfl,hd2,?_⟩
   exact ⟨_,rfl,k _ d i (fun b o e=>by rw [upd_ne (ne_of_none e hd)]; exact s2 b o e) hd hi hq (by rw [upd_same,List.map_reverse])⟩
end
end At
set_option Elab.async false
set_option linter.all false
set_option maxRecDepth 100000
set_option maxHeartbeats 4000000
namespace At
open PySem L2 PyProof.Rows
section
variable {P:Program} {w:World} {K:PySem.W.Frag} {mg:Str→Option Value} {base:Heap}
def spOnRing (C:Addr):Sp:=fun vs H Q _=>∃ (p A S L:Addr) (ss:List Say) (c:Nat) (ks kl:List (Key × V)) (Sf Lf:Fn),vs = [.ref p]∧WalkAt C H p A S L ks kl Sf Lf∧H L = some (.dK kl)∧SaysAt H A ss∧c ≤ 1000∧Wd ss c Sf Lf ∧
 (∀ (H':Hp) (q:Int) (n:Nat),Same H H'→n < c→back ss Lf (n + 1) q = some q→Q (.int q) H')∧∀ H':Hp,Same H H'→(∀ q k,Lf q = some k→Grd ss Lf q)→Q .non H'
theorem scOnRing:FnScope ["self","seen","start","place"] ["self"] (defScope m_Walk_place_on_ring):=⟨rfl,rfl,rfl,by decide +kernel,rfl,by decide +kernel,by decide +kernel⟩
theorem Grd.back {ss:List Say} {Lf:Fn} {i:Nat} {x q:Int} (h:back ss Lf i x = some q) (g:Grd ss Lf q):Grd ss Lf x:=by
 obtain ⟨n,y,h1,h2⟩:=g
 exact ⟨i + n,y,by rw [back_add,h]; exact h1,h2⟩
structure Seen (ss:List Say) (Lf:Fn) (old:Int→Prop) (start:Int) (Nf:Fn) (i:Nat) (q:Int):Prop where
 at_:back ss Lf i start = some q
 to:∀ j,j < i→∀ x,back ss Lf j start = some x→Nf x = some start
 of_:∀ x v,Nf x = some v→(v = start∧∃ j,j < i∧back ss Lf j start = some x) ∨ (old v∧Grd ss Lf x)
 inn:∀ x v,Nf x = some v→Lf x ≠ none
theorem ok_onRing {f g C:Addr} {fd gd:FuncData} (F:Fun K "place_on_ring" "Walk.place_on_ring" m_Walk_place_on_ring f fd) (M:MDef K C "place_ahead" "Walk.place_ahead" m_Walk_place_ahead ["self","place"] g gd) (T:WK K mg C):FnOk P w K mg base CX0 2 f fd ["self"] (spOnRing C):=by
 have GA:FnOk P w K mg base CX0 1 g gd ["self","place"] (spAhead C):=ok_ahead M.fn T
 refine F.ok scOnRing (fun vs H Q E h=>?_) (fun cdv A0 outer s H vs Q X hr h=>?_)
 ·obtain ⟨_,_,_,_,_,_,_,_,_,_,rfl,_⟩:=h; rfl
 ·obtain ⟨p,A,S,L,ss,c,ks,kl,Sf,Lf,rfl,W,hL,hA,hc,wd,k1,k2⟩:=h
  have hu:=hu_of hr
  obtain ⟨dx,ob⟩:=W.ob
  refine ⟨_,pss_cons (ps_set (i:=1) scOnRing.nd rfl (Or.inl rfl) pe_dnewK)
   (pss_cons (ps_thaw (ps_for PassesOwn.never rfl (pi_dict (pe_fld (pv 0) rfl)) (pg_name (i:=2) scOnRing.nd rfl (Or.inl rfl))
    (pss_cons (ps_set (i:=3) scOnRing.nd rfl (Or.inl rfl) (pv 2))
    (pss_cons (ps_while PassesOwn.never (PW.pt (pw_and (pt_cmp (pc_din hu (pv 3) (pe_fld (pv 0) rfl))) (pw_and1 (pt_cmp (pc_dnotin hu (pv 3) (pv 1))))))
     (pss_cons (ps_dput hu (pv 1) (pv 3) (pv 2) rfl)
     (pss_one (ps_set (i:=3) scOnRing.nd rfl (Or.inl rfl) (pe_meth (pv 0) T.cl M.me GA hr M.bd .nil pass0 (pa_cons (pv 3) pa_nil))))))
    (pss_one (ps_if (pt_cmpR op_eq (pe_dget1 hu (pv 1) (pv 3) ⟨rfl,rfl,rfl,rfl⟩) (pv 2) (nomark _)) (pss_one (ps_ret (pv 3))) pss_nil))))))
   (pss_one (ps_ret pe_non))),?_⟩
  intro N hN
  have s0:Same H (upd H N (.dK [])):=Same.up hN
  have NL:L ≠ N:=ne_of_none hL hN
  refine ⟨_,rfl,p,C,dx,_,_,rfl,s0 _ _ ob,T.cl,T.n3,wfl3,L,kl,rfl,s0 _ _ hL,fun o=>?_⟩
  have hr0:∀ o' u,¬ H L = some (.frz o' u):=fun o' u z=>by rw [hL] at z; cases z
  have f1:∀ b x,b ≠ L→H b = some x→(upd (upd H N (.dK [])) L (.frz o (.dK kl))) b = some x:=fun b x hb e=>by rw [upd_ne hb]; exact s0 _ _ e
  have f2:(upd (upd H N (.dK [])) L (.frz o (.dK kl))) L = some (.frz o (.dK kl)):=upd_same
  have f3:(upd (upd H N (.dK [])) L (.frz o (.dK kl))) N = some (.dK []):=by rw [upd_ne NL.symm,upd_same]
  generalize (upd (upd H N (.dK [])) L (.frz o (.dK kl))) = H1 at f1 f2 f3
  obtain ⟨ps,hA',hSy⟩:=hA.ex
  have ok2:∀ {H2:Hp},(∀ b x,b ≠ N→H1 b = some x→H2 b = some x)→WalkAt C H2 p A S L ks kl Sf Lf∧SaysAt H2 A ss:=fun {H2} kp=>by
   have g:∀ b x,b ≠ L→H b = some x→H2 b = some x:=fun b x hb e=>kp b x (ne_of_none e hN) (f1 b x hb e)
   refine ⟨⟨⟨dx,g _ _ (ne_of ob hL (by intro z; cases z)) ob⟩,g _ _ W.ne W.hS,W.rS,.inr ⟨o,kp _ _ NL f2⟩,W.rL,W.ne⟩,⟨ps,g _ _ (ne_of hA' hL (by intro z; cases z)) hA',hSy.len,fun i x s h1 h2=>?_⟩⟩
   have:=hSy.at_ i x s h1 h2
   exact g _ _ (ne_of this hL (by intro z; cases z)) this
  have thawed:∀ {H2:Hp},(∀ b x,b ≠ N→H1 b = some x→H2 b = some x)→Same H (upd H2 L (.dK kl)):=fun {H2} kp b x e=>by
   by_cases hb:b = L
   ·subst hb; rw [upd_same]; rw [hL] at e; exact e
   ·rw [upd_ne hb]; exact kp b x (ne_of_none e hN) (f1 b x hb e)
  have kfind:∀ k,Lf k ≠ none→∃ (j:Nat) (pr:Key × V),kl[j]? = some pr∧keyI pr.1 = k:=fun k hk=>by
   have hm:k ∈ keysI kl:=W.rL.keysMem.mpr fun z=>hk (iS_none.mp z)
   obtain ⟨q,hq,e⟩:=List.mem_map.mp hm
   obtain ⟨j,hj,ej⟩:=List.mem_iff_getElem.mp hq
   exact ⟨j,q,by rw [← ej]; exact List.getElem?_eq_getElem hj,e⟩
  refine for_dict (d:=L) (o:=o) (kvs:=kl) (fun i σ H2=>∃ (kn:List (Key × V)) (Nf:Fn) (v2 v3:Option V),σ = [some (.ref p),some (.ref N),v2,v3]∧H2 N = some (.dK kn)∧DR kn (iS Nf)∧(∀ b x,b ≠ N→H1 b = some x→H2 b = some x) ∧
    (∀ x v,Nf x = some v→Lf x ≠ none∧Grd ss Lf x∧∃ j pr,j < i∧kl[j]? = some pr∧v = keyI pr.1)∧∀ j,j < i→∀ pr,kl[j]? = some pr→Grd ss Lf (keyI pr.1))
   ⟨[],fun _=>none,none,none,rfl,f3,DR.nil,(fun b x _ e=>e),(fun x v e=>nomatch e),fun j hj=>by omega⟩
   (fun i σ H2 ⟨_,_,_,_,_,_,_,kp,_⟩=>kp _ _ NL f2) ?_ ?_
  ·rintro i pr σ H2 hi ⟨kn,Nf,v2,v3,rfl,hN2,rN,kp,hof,hgr⟩
   obtain ⟨pe,pn⟩:=W.rL.mem (List.mem_of_getElem? hi)
   have ekv:kV pr.1 = .int (keyI pr.1):=by rw [pe]; rfl
   rw [ekv]
   have hst:Lf (keyI pr.1) ≠ none:=fun z=>pn (iS_none.mpr z)
   generalize hstart:keyI pr.1 = start at hst
   have fresh:∀ j pr',j < i→kl[j]? = some pr'→keyI pr'.1 ≠ start:=fun j pr' hj e z=>by
    have nd:=W.rL.keysNd
    have e1:(keysI kl)[j]? = some start:=by unfold keysI; rw [List.getElem?_map,e]; simp [z]
    have e2:(keysI kl)[i]? = some start:=by unfold keysI; rw [List.getElem?_map,hi]; simp [hstart]
    have:=(List.getElem?_inj (List.getElem?_eq_some_iff.mp e1).1 nd).mp (e1.trans e2.symm)
    omega
   refine ⟨_,rfl,?_⟩
   refine ⟨fun m σ H3=>∃ (n:Nat) (q:Int) (kn3:List (Key × V)) (Nf3:Fn),m = c - kn3.length∧n ≤ kn3.length∧σ = [some (.ref p),some (.ref N),some (.int start),some (.int q)]∧H3 N = some (.dK kn3)∧DR kn3 (iS Nf3)∧(∀ b x,b ≠ N→H1 b = some x→H3 b = some x) ∧
     Seen ss Lf (fun v=>∃ j pr,j < i∧kl[j]? = some pr∧v = keyI pr.1) start Nf3 n q,⟨_,0,start,kn,Nf,rfl,Nat.zero_le _,rfl,hN2,rN,kp,⟨rfl,(fun j hj=>by omega),fun x v e=>.inr ⟨(hof x v e).2.2,(hof x v e).2.1⟩,fun x v e=>(hof x v e).1⟩⟩,?_⟩
   rintro m σ H3 ⟨n,q,kn3,Nf3,rfl,hn,rfl,hN3,rN3,kp3,S3⟩
   obtain ⟨W3,hA3⟩:=ok2 kp3
   obtain ⟨⟨dx3,ob3⟩,_,_,hL3,rL3,_⟩:=id W3
   have hrg:∀ x v,Nf3 x = some v→cnt c x = true:=fun x v e=>by
    cases e2:Lf x with
    | none=>exact absurd e2 (S3.inn x v e)
    | some y=>exact wd.lr e2
   have lN:kn3.length ≤ c:=rN3.len (iS_range hrg)
   have done:∀ {D:Ends},(Lf q = none ∨ Nf3 q ≠ none) →
     ((Nf3 q = some start→∀ n',n' < c→back ss Lf (n' + 1) q = some q→D.rt (.int q) H3)∧((∀ x v,Nf3 x = some v→Grd ss Lf x)→Grd ss Lf start→D.nx [some (.ref p),some (.ref N),some (.int start),some (.int q)] H3)) →
     ∃ o,DGet H3 N (.int q) o∧scal (o.getD .non) (V.int start) = true∧∃ b,b = decide (o.getD .non = V.int start)∧(if b = true then D.rt (.int q) H3 else D.nx [some (.ref p),some (.ref N),some (.int start),some (.int q)] H3):=fun {D} hq ⟨d1,d2⟩=>by
    refine ⟨_,.inl ⟨kn3,Sum.inl q,.inl hN3,rfl,rfl⟩,?_⟩
    rw [rN3.at_]
    cases e:Nf3 q with
    | none =>
     rw [iS_none.mpr e]
     refine ⟨rfl,_,rfl,?_⟩
     have hq:Lf q = none:=by
      rcases hq with z | z
      ·exact z
      ·exact absurd e z
     have g0:Grd ss Lf q:=⟨0,q,rfl,hq⟩
     rw [if_neg (by simp)]
     refine d2 (fun x v ex=>?_) (Grd.back S3.at_ g0)
     rcases S3.of_ x v ex with ⟨_,j,hj,hb⟩ | ⟨_,z⟩
     ·refine Grd.back (i:=n - j) ?_ g0
      have:=S3.at_
      rw [show n = j + (n - j) by omega,back_add,hb] at this
      exact this
     ·exact z
    | some v =>
     rw [iS_some e]
     refine ⟨rfl,_,rfl,?_⟩
     by_cases hv:v = start
     ·subst hv
      rw [if_pos (by simp)]
      rcases S3.of_ q v e with ⟨_,j,hj,hb⟩ | ⟨⟨j,pr',hj,e1,e2⟩,_⟩
      ·refine d1 e (n - j - 1) (by omega) ?_
       have:=S3.at_
       rw [show n = j + (n - j) by omega,back_add,hb] at this
       rw [show n - j - 1 + 1 = n - j by omega]
       exact this
      ·exact absurd e2.symm (fresh j pr' hj e1)
     ·rw [if_neg (by simp [hv])]
      have g0:Grd ss Lf q:=by
       rcases S3.of_ q v e with ⟨z,_⟩ | ⟨_,z⟩
       ·exact absurd z hv
       ·exact z
      refine d2 (fun x v ex=>?_) (Grd.back S3.at_ g0)
      rcases S3.of_ x v ex with ⟨_,j,hj,hb⟩ | ⟨_,z⟩
      ·refine Grd.back (i:=n - j) ?_ g0
       have:=S3.at_
       rw [show n = j + (n - j) by omega,back_add,hb] at this
       exact this
      ·exact z
   have ends:(Nf3 q = some start→∀ n',n' < c→back ss Lf (n' + 1) q = some q→∃ d o' kvs,H3 d = some (.frz o' (.dK kvs))∧(∀ o u,¬ H d = some (.frz o u))∧Q (.int q) (upd H3 d (.dK kvs))):=fun _ n' h1 h2 =>
    ⟨L,o,kl,kp3 _ _ NL f2,hr0,k1 _ q n' (thawed kp3) h1 h2⟩
   have nxt:(∀ x v,Nf3 x = some v→Grd ss Lf x)→Grd ss Lf start→∃ (kn:List (Key × V)) (Nf:Fn) (v2 v3:Option V),([some (.ref p),some (.ref N),some (.int start),some (.int q)]:L2.St) = [some (.ref p),some (.ref N),v2,v3]∧H3 N = some (.dK kn)∧DR kn (iS Nf)∧(∀ b x,b ≠ N→H1 b = some x→H3 b = some x) ∧
     (∀ x v,Nf x = some v→Lf x ≠ none∧Grd ss Lf x∧∃ j pr,j < i + 1∧kl[j]? = some pr∧v = keyI pr.1)∧∀ j,j < i + 1→∀ pr,kl[j]? = some pr→Grd ss Lf (keyI pr.1):=fun g1 g2=>by
    refine ⟨kn3,Nf3,_,_,rfl,hN3,rN3,kp3,fun x v e=>⟨S3.inn x v e,g1 x v e,?_⟩,fun j hj pr' e=>?_⟩
    ·rcases S3.of_ x v e with ⟨z,_⟩ | ⟨⟨j,pr',hj,e1,e2⟩,_⟩
     ·exact ⟨i,pr,by omega,hi,by rw [z,hstart]⟩
     ·exact ⟨j,pr',by omega,e1,e2⟩
    ·by_cases z:j = i
     ·subst z; rw [hi] at e; cases e; rw [hstart]; exact g2
     ·exact hgr j (by omega) pr' e
   have fin:=fun hh=>done (D:={ nx:=fun σ H=>∃ (kn:List (Key × V)) (Nf:Fn) (v2 v3:Option V),σ = [some (.ref p),some (.ref N),v2,v3]∧H N = some (.dK kn)∧DR kn (iS Nf)∧(∀ b x,b ≠ N→H1 b = some x→H b = some x) ∧
     (∀ x v,Nf x = some v→Lf x ≠ none∧Grd ss Lf x∧∃ j pr,j < i + 1∧kl[j]? = some pr∧v = keyI pr.1)∧∀ j,j < i + 1→∀ pr,kl[j]? = some pr→Grd ss Lf (keyI pr.1),rt:=fun v H4=>∃ d o' kvs,H4 d = some (.frz o' (.dK kvs))∧(∀ o u,¬ H d = some (.frz o u))∧Q v (upd H4 d (.dK kvs)) }) hh ⟨ends,nxt⟩
   refine ⟨_,rfl,_,rfl,p,C,dx3,_,_,rfl,ob3,T.cl,T.n3,wfl3,L,_,rfl,.inl ⟨kl,Sum.inl q,hL3,rfl,rfl⟩,_,rfl,?_⟩
   rw [rL3.at_]
   cases eL:Lf q with
   | none =>
    rw [iS_none.mpr eL]
    obtain ⟨oo,q1,q0,bb,q2,q3⟩:=fin (.inl eL)
    subst q2
    exact ⟨_,rfl,N,rfl,.inl ⟨kn3,.inl hN3⟩,_,rfl,oo,q1,_,rfl,q0,_,rfl,ite2 (fun z=>⟨_,rfl,by rw [if_pos z] at q3; exact q3⟩) (fun z=>by rw [if_neg z] at q3; exact q3)⟩
   | some kk =>
    rw [iS_some eL]
    refine ⟨_,rfl,_,rfl,N,_,rfl,.inl ⟨kn3,Sum.inl q,.inl hN3,rfl,rfl⟩,_,rfl,?_⟩
    rw [rN3.at_]
    cases eN:Nf3 q with
    | some v =>
     rw [iS_some eN]
     obtain ⟨oo,q1,q0,bb,q2,q3⟩:=fin (.inr (by rw [eN]; simp))
     subst q2
     exact ⟨_,rfl,N,rfl,.inl ⟨kn3,.inl hN3⟩,_,rfl,oo,q1,_,rfl,q0,_,rfl,ite2 (fun z=>⟨_,rfl,by rw [if_pos z] at q3; exact q3⟩) (fun z=>by rw [if_neg z] at q3; exact q3)⟩
    | none =>
     rw [iS_none.mpr eN]
     have hlen:(putK kn3 (Sum.inl q) (V.int start)).length = kn3.length + 1:=rN3.put_new _ (iS_none.mpr eN)
     have rN4:=rN3.iput q start
     have hrg4:∀ x v,put Nf3 q start x = some v→cnt c x = true:=fun x v e=>by
      by_cases z:x = q
      ·subst z; exact wd.lr eL
      ·rw [put_ne z] at e; exact hrg x v e
     have lN4:kn3.length + 1 ≤ c:=by rw [← hlen]; exact rN4.len (iS_range hrg4)
     have kp4:∀ b x,b ≠ N→H1 b = some x→(upd H3 N (.dK (putK kn3 (Sum.inl q) (V.int start)))) b = some x:=fun b x hb e=>by rw [upd_ne hb]; exact kp3 b x hb e
     obtain ⟨W4,hA4⟩:=ok2 kp4
     obtain ⟨⟨dx4,ob4⟩,_⟩:=id W4
     refine ⟨_,fun σ' H' z=>z,?_⟩
     refine ⟨_,rfl,_,rfl,_,rfl,N,_,rfl,DPut.k (k:=Sum.inl q) hN3 (small1000 (by omega)),?_⟩
     refine ⟨_,rfl,p,dx4,_,rfl,ob4,wfl_ah,_,rfl,p,A,S,L,ss,ks,kl,Sf,Lf,q,kk,rfl,W4,hA4,eL,(wd.j q kk eL).1,?_⟩
     refine ⟨c - (kn3.length + 1),by omega,n + 1,(sy ss kk).1,_,put Nf3 q start,by rw [hlen],by rw [hlen]; omega,rfl,upd_same,rN4,kp4,⟨back_snoc S3.at_ eL,fun j hj x e=>?_,fun x v e=>?_,fun x v e=>?_⟩⟩
     ·by_cases z:j = n
      ·subst z
       rw [S3.at_] at e; cases e; exact put_same
      ·have:=S3.to j (by omega) x e
       by_cases z2:x = q
       ·subst z2; exact put_same
       ·rw [put_ne z2]; exact this
     ·by_cases z:x = q
      ·subst z
       rw [put_same] at e; cases e
       exact .inl ⟨rfl,n,by omega,S3.at_⟩
      ·rw [put_ne z] at e
       rcases S3.of_ x v e with ⟨y,j,hj,hb⟩ | y
       ·exact .inl ⟨y,j,by omega,hb⟩
       ·exact .inr y
     ·by_cases z:x = q
      ·subst z; rw [eL]; simp
      ·rw [put_ne z] at e; exact S3.inn x v e
  ·rintro σ H2 ⟨kn,Nf,v2,v3,rfl,hN2,rN,kp,hof,hgr⟩
   refine ⟨L,o,kl,kp _ _ NL f2,hr0,?_⟩
   refine k2 _ (thawed kp) fun q kk e=>?_
   obtain ⟨j,pr,h1,h2⟩:=kfind q (by rw [e]; simp)
   rw [← h2]
   exact hgr j (List.getElem?_eq_some_iff.mp h1).1 pr h1
end
end At
set_option Elab.async false
set_option linter.all false
set_option maxRecDepth 100000
set_option maxHeartbeats 4000000
namespace At
open PySem L2 PyProof.Rows
section
variable {P:Program} {w:World} {K:PySem.W.Frag} {mg:Str→Option Value} {base:Heap}
structure BK (K:PySem.W.Frag) (mg:Str→Option Value) (C C0 f:Addr):Prop where
 e:ExcI K C f
 n:NoAttr K C "ring"
 b:BaseI K C0
 at_:mg "Broken" = some (.ref C)
 at0:mg "SayError" = some (.ref C0)
def spBroken (C:Addr):Sp:=fun vs H Q _=>∃ (e r:Addr) (ns:List Int),vs = [.ref e,.ref r]∧H e = some (.ext (exφ e C none))∧H r = some (.lst (ns.map V.int)) ∧
 ∀ (H':Hp) (l dx:Addr),H l = none→H dx = none→l ≠ dx→H' l = some (.lst (ns.map V.int))→H' dx = some (.xd [("ring",.ref l)])→H' e = some (.ext (exφ e C (some dx)))→(∀ b o,b ≠ e→H b = some o→H' b = some o)→Q .non H'
theorem scBroken:FnScope ["self","ring"] ["self","ring"] (defScope m_Broken___init__):=⟨rfl,rfl,rfl,by decide +kernel,rfl,by decide +kernel,by decide +kernel⟩
theorem ok_broken {c:Bool} {f C C0:Addr} {fd:FuncData} (F:Fun K "__init__" "Broken.__init__" m_Broken___init__ f fd) (T:BK K mg C C0 f) (G:G1 K mg):FnOk P w K mg base (CXm c) 1 f fd ["self","ring"] (spBroken C):=by
 refine F.ok scBroken (fun vs H Q E h=>?_) (fun cdv A0 outer s H vs Q X hr h=>?_)
 ·obtain ⟨_,_,_,rfl,_⟩:=h; rfl
 ·obtain ⟨e,r,ns,rfl,he,hrr,k⟩:=h
  refine ⟨_,pss_cons (ps_expr (pe_baseInit (by rfl) T.at0 T.b (pa_cons (pv 0) (pa_cons pe_str pa_nil))))
   (pss_one (ps_xfld (pv 0) (pe_callTy call_list_of (by rfl) G.list boot_list (pa_cons (pv 1) pa_nil)) rfl)),?_⟩
  refine ⟨_,rfl,e,C,f,_,rfl,he,T.e,(by show 1 ≤ sizeLine; decide),?_⟩
  refine ⟨_,rfl,r,_,rfl,.inl (SqL.of hrr),fun l hl=>?_⟩
  have el:e ≠ l:=ne_of_none he hl
  refine ⟨_,rfl,e,C,f,rfl,by rw [upd_ne el]; exact he,T.e,T.n,fun dx hdx=>?_⟩
  have nld:l ≠ dx:=fun z=>by subst z; rw [upd_same] at hdx; cases hdx
  have hdx0:H dx = none:=by rw [upd_ne nld.symm] at hdx; exact hdx
  have edx:e ≠ dx:=ne_of_none he hdx0
  exact k _ l dx hl hdx0 nld (by rw [upd_ne el.symm,upd_ne nld,upd_same]) (by rw [upd_ne edx.symm,upd_same]) upd_same fun b o hb q=>by rw [upd_ne hb,upd_ne (ne_of_none q hdx0),upd_ne (ne_of_none q hl)]; exact q
end
end At
set_option Elab.async false
set_option linter.all false
set_option maxRecDepth 100000
set_option maxHeartbeats 4000000
namespace At
open PySem L2 PyProof.Rows
section
variable {P:Program} {w:World} {K:PySem.W.Frag} {mg:Str→Option Value} {base:Heap}
theorem relax_dom {ss:List Say} {w:Ws} {k:Int} (h:w.S (sy ss k).2.1 ≠ none) (p:Int):(relax ss w k).S p ≠ none ↔ w.S p ≠ none:=by
 unfold relax
 cases ea:w.S (sy ss k).1 with
 | none=>exact Iff.rfl
 | some a =>
  cases eb:w.S (sy ss k).2.1 with
  | none=>exact absurd eb h
  | some b =>
   simp only
   split
   ·by_cases q:p = (sy ss k).2.1
    ·subst q; simp only; rw [put_same,eb]; simp
    ·simp only; rw [put_ne q]
   ·exact Iff.rfl
theorem goAll_dom {ss:List Say} {c:Int}:∀ (order:List Int) (w:Ws),(∀ k ∈ order,w.S (sy ss k).2.1 ≠ none)→∀ p,(goAll ss order w).S p ≠ none ↔ w.S p ≠ none:=by
 intro order
 induction order with
 | nil=>intro w _ p; exact Iff.rfl
 | cons k r ih =>
  intro w h p
  have h1:=relax_dom (h k List.mem_cons_self)
  show (goAll ss r (relax ss w k)).S p ≠ none ↔ _
  rw [ih (relax ss w k) (fun j hj=>(h1 _).mpr (h j (List.mem_cons_of_mem _ hj))) p,h1 p]
structure RingOk (ss:List Say) (ns:List Int):Prop where
 wk:∃ p,walk ss ns p = some p
 neg:sumC ss ns < 0
 ne:ns ≠ []
 len:ns.length ≤ 500
def spLeast (CB:Addr):Sp:=fun vs H Q E=>∃ (a O:Addr) (ss:List Say) (c:Nat) (ord:List Int),vs = [.ref a,.ref O]∧SaysAt H a ss∧H O = some (.lst (ord.map V.int))∧ss.length ≤ 400∧c ≤ 400∧ss.all (inside c) = true∧(∀ k ∈ ord,cnt ss.length k = true)∧(∀ k,cnt ss.length k = true→k ∈ ord) ∧
 (∀ (H':Hp) (S:Addr) (ks:List (Key × V)) (Sf:Fn),Same H H'→H S = none→H' S = some (.dK ks)→DR ks (iS Sf)→(∀ k,cnt ss.length k = true→Tight ss Sf k)→(∀ k,cnt ss.length k = true→Sf (sy ss k).1 ≠ none∧Sf (sy ss k).2.1 ≠ none)→(∃ Lf,Wd ss c Sf Lf)→(∀ q v,Sf q = some v→v ≤ 0)→Q (.ref S) H') ∧
 (∀ (H':Hp) (dx l:Addr) (ns:List Int),Same H H'→H l = none→H' dx = some (.xd [("ring",.ref l)])→H' l = some (.lst (ns.map V.int))→RingOk ss ns→E (.ref CB) (some dx) H')
theorem scLeast:FnScope ["sayings","order","walk","place"] ["sayings","order"] (defScope s_least_sums):=⟨rfl,rfl,rfl,by decide +kernel,rfl,by decide +kernel,by decide +kernel⟩
structure WalkF (K:PySem.W.Frag) (mg:Str→Option Value) (C f0:Addr) (d0:FuncData) (f1:Addr) (d1:FuncData) (f2:Addr) (d2:FuncData) (f3:Addr) (d3:FuncData) (f4:Addr) (d4:FuncData):Prop where
 k:WK K mg C
 mK:Mk K C f0
 i:Fun K "__init__" "Walk.__init__" m_Walk___init__ f0 d0
 bi:Binds K d0 ["self","sayings","starts"] []
 go:MDef K C "go_along" "Walk.go_along" m_Walk_go_along ["self","order"] f1 d1
 ah:MDef K C "place_ahead" "Walk.place_ahead" m_Walk_place_ahead ["self","place"] f2 d2
 cb:MDef K C "chain_between" "Walk.chain_between" m_Walk_chain_between ["self","one","other"] f3 d3
 pr:MDef K C "place_on_ring" "Walk.place_on_ring" m_Walk_place_on_ring ["self"] f4 d4
theorem ok_least {f C f0 f1 f2 f3 f4 CB C0 fB:Addr} {fd d0 d1 d2 d3 d4 dB:FuncData} (D:Def K mg "least_sums" s_least_sums ["sayings","order"] f fd) (WF:WalkF K mg C f0 d0 f1 d1 f2 d2 f3 d3 f4 d4) (T:BK K mg CB C0 fB)
  (FB:Fun K "__init__" "Broken.__init__" m_Broken___init__ fB dB) (bB:Binds K dB ["self","ring"] []) (G:G1 K mg):FnOk P w K mg base (CXr P w) 4 f fd ["sayings","order"] (spLeast CB):=by
 have GI:FnOk P w K mg base CX0 1 f0 d0 ["self","sayings","starts"] (spWInit C):=ok_wInit WF.i WF.k
 have GG:FnOk P w K mg base CX0 1 f1 d1 ["self","order"] (spGo C):=ok_go WF.go.fn WF.k
 have GA:FnOk P w K mg base CX0 1 f2 d2 ["self","place"] (spAhead C):=ok_ahead WF.ah.fn WF.k
 have GC:FnOk P w K mg base CX0 2 f3 d3 ["self","one","other"] (spBetween C):=ok_between WF.cb.fn WF.ah WF.k
 have GR:FnOk P w K mg base CX0 2 f4 d4 ["self"] (spOnRing C):=ok_onRing WF.pr.fn WF.ah WF.k
 have GB:FnOk P w K mg base CX0 1 fB dB ["self","ring"] (spBroken CB):=ok_broken FB T G
 refine D.fn.okR scLeast (fun vs H Q E h=>?_) (fun cdv A0 outer s H vs Q E hr h=>?_)
 ·obtain ⟨_,_,_,_,_,rfl,_⟩:=h; rfl
 ·obtain ⟨a,O,ss,c,ord,rfl,ha,hO,hz,hc,hin,hord,hall,k1,k2⟩:=h
  have hu:=hu_of hr
  have hr1:Room 1 _:=hr.mono (by decide)
  have hr2:Room 2 _:=hr.mono (by decide)
  refine ⟨_,pss_cons (ps_set (i:=2) scLeast.nd rfl (Or.inl rfl) (pe_make WF.mK GI hr2 (by rfl) WF.k.at_ WF.bi .nil pass0 (pa_cons (pv 0) (pa_cons (pe_op op_cat
    (pe_comp (XN:=["sayings","order","walk","place"]) (outer:=defScope s_least_sums) (N:=["saying"]) (cap:=[none]) (by exact ⟨rfl,by decide +kernel,by decide +kernel,by decide +kernel,.own .nil,by decide +kernel⟩) rfl (pi_list (pv 0))
     (fun _ _ _ _ _ _=>pg_name (i:=0) (show (["saying"]:List Str).Nodup by decide +kernel) rfl (Or.inl rfl)) (fun _ _ _ _ _ _=>pifs_nil) (fun _ _ _ _ _ _=>pe_ix (ixT (K:=K)) (pv 0) pe_int (fun _ _=>rfl)))
    (pe_comp (XN:=["sayings","order","walk","place"]) (outer:=defScope s_least_sums) (N:=["saying"]) (cap:=[none]) (by exact ⟨rfl,by decide +kernel,by decide +kernel,by decide +kernel,.own .nil,by decide +kernel⟩) rfl (pi_list (pv 0))
     (fun _ _ _ _ _ _=>pg_name (i:=0) (show (["saying"]:List Str).Nodup by decide +kernel) rfl (Or.inl rfl)) (fun _ _ _ _ _ _=>pifs_nil) (fun _ _ _ _ _ _=>pe_ix (ixT (K:=K)) (pv 0) pe_int (fun _ _=>rfl)))) pa_nil))))
   (pss_cons (ps_while PassesOwn.leaving (pt_val (pe_meth (pv 2) WF.k.cl WF.go.me GG hr1 WF.go.bd .nil pass0 (pa_cons (pv 1) pa_nil)))
    (pss_cons (ps_set (i:=3) scLeast.nd rfl (Or.inl rfl) (pe_meth0 (pv 2) WF.k.cl WF.pr.me GR hr2 WF.pr.bd .nil pass0))
    (pss_one (ps_if (pt_cmp (pc_notN (pv 3)))
     (pss_one (ps_raiseX T.e raiseX_ok rfl (pe_makeX T.e GB hr2 (by rfl) T.at_ bB pass0 (pa_cons (pe_op op_cat
      (pe_meth (pv 2) WF.k.cl WF.cb.me GC hr2 WF.cb.bd .nil pass0 (pa_cons (pv 3) (pa_cons (pe_meth (pv 2) WF.k.cl WF.ah.me GA hr1 WF.ah.bd .nil pass0 (pa_cons (pv 3) pa_nil)) pa_nil)))
      (pe_lst (pa_cons (pe_dget hu (pe_fld (pv 2) rfl) (pv 3) (fun _ _=>rfl)) pa_nil))) pa_nil)))) pss_nil))))
   (pss_one (ps_ret (pe_fld (pv 2) rfl)))),?_⟩
  obtain ⟨ps,ha',hSy⟩:=ha.ex
  have hlen:(ps.map V.ref).length = ss.length:=by rw [List.length_map,hSy.len]
  have one:∀ {g:Say→Int} {H2:Hp} {n:Int},Same H H2→∀ (pick:∀ s:Say,atI [V.int s.1,V.int s.2.1,V.int s.2.2] n = some (V.int (g s))) (i:Nat) (x:V) (σc:L2.St) (Hc:Hp) (Yes:V→L2.St→Hp→Prop),(ps.map V.ref)[i]? = some x→Same H2 Hc→(∃ v,σc = [v]) →
    (∀ σ2 H4 v,(∃ v,σ2 = [v])→Same Hc H4→((ss[i]?).map fun s=>V.int (g s)) = some v→Yes v σ2 H4)→∃ v,(σc.set 0 (some x))[0]? = some (some v)∧∃ p xs i v1,v = .ref p∧V.int n = .int i∧SqT K Hc p xs∧atI xs i = some v1∧Yes v1 (σc.set 0 (some x)) Hc:=fun {g H2 n} sm pick i x σc Hc Yes hx sc ⟨v,hv⟩ yes=>by
   rw [List.getElem?_map] at hx
   cases ep:ps[i]? with
   | none=>rw [ep] at hx; cases hx
   | some p =>
    rw [ep] at hx; cases hx
    subst hv
    have hil:i < ss.length:=by rw [← hSy.len]; exact (List.getElem?_eq_some_iff.mp ep).1
    have es:ss[i]? = some ss[i]:=List.getElem?_eq_getElem hil
    exact ⟨_,rfl,p,_,_,_,rfl,rfl,SqT.of (sc _ _ (sm _ _ (hSy.at_ i p _ ep es))),pick _,yes _ _ _ ⟨_,rfl⟩ (Same.refl _) (by rw [es]; rfl)⟩
  refine ⟨_,rfl,?_⟩
  refine ⟨_,rfl,a,rfl,⟨_,SqL.of ha'⟩,fun q1 hq1=>?_⟩
  refine comp_list (outs:=fun i=>(ss[i]?).map fun s=>V.int s.1) (fun σ=>∃ v,σ = [v]) hq1 (SqL.of ha') (by rw [hlen]; exact small1000 (by omega)) ⟨none,rfl⟩ (fun i x σc Hc Yes No hx sm _ hv yes no=>one (g:=fun s=>s.1) (n:=0) (Same.refl _) (fun _=>rfl) i x σc Hc Yes hx sm hv yes) (fun H1 s1 hD1=>?_)
  rw [hlen,fm_map] at hD1
  refine ⟨_,rfl,a,rfl,⟨_,SqL.of (s1 _ _ ha')⟩,fun q2 hq2=>?_⟩
  refine comp_list (outs:=fun i=>(ss[i]?).map fun s=>V.int s.2.1) (fun σ=>∃ v,σ = [v]) hq2 (SqL.of (s1 _ _ ha')) (by rw [hlen]; exact small1000 (by omega)) ⟨none,rfl⟩ (fun i x σc Hc Yes No hx sm _ hv yes no=>one (g:=fun s=>s.2.1) (n:=1) s1 (fun _=>rfl) i x σc Hc Yes hx sm hv yes) (fun H2 s2 hD2=>?_)
  rw [hlen,fm_map] at hD2
  refine ⟨q1,q2,_,_,rfl,rfl,s2 _ _ hD1,hD2,by rw [List.length_map,List.length_map]; exact Nat.le_of_lt (small1000 (by omega)),fun B hB=>?_⟩
  have s3:Same H (upd H2 B (.lst (ss.map (fun s=>V.int s.1) ++ ss.map fun s=>V.int s.2.1))):=(s1.trans s2).trans (Same.up hB)
  have hBB:(upd H2 B (.lst (ss.map (fun s=>V.int s.1) ++ ss.map fun s=>V.int s.2.1))) B = some (.lst (((ss.map fun s=>s.1) ++ ss.map fun s=>s.2.1).map V.int)):=by
   rw [upd_same,List.map_append,List.map_map,List.map_map]; rfl
  generalize upd H2 B (.lst (ss.map (fun s=>V.int s.1) ++ ss.map fun s=>V.int s.2.1)) = H3 at s3 hBB
  intro p dx hp0 hdx0 ndp
  have s4:Same H3 (upd (upd H3 dx (.own p)) p (.ins C dx [])):=fun b o e=>by rw [upd_ne (ne_of_none e hp0),upd_ne (ne_of_none e hdx0)]; exact e
  have hbs:∀ k ∈ (ss.map fun s=>s.1) ++ ss.map (fun s=>s.2.1),cnt c k = true:=fun k hk=>by
   rcases List.mem_append.mp hk with z | z
   all_goals
    obtain ⟨s,hs,rfl⟩:=List.mem_map.mp z
    have:=List.all_eq_true.mp hin s hs
    unfold inside at this
    rw [Bool.and_eq_true] at this
    first | exact this.1 | exact this.2
  refine ⟨p,dx,a,B,_,c,rfl,upd_same,s4 _ _ hBB,hbs,by omega,fun H5 S L ks Sf hS0 hL0 W5 hL5 st5 kp5=>⟨rfl,?_⟩⟩
  have hS3:H3 S = none:=s4.free hS0
  have hL3:H3 L = none:=s4.free hL0
  have s5:Same H H5:=fun b o e=>kp5 b o (ne_of_none (s3 _ _ e) hp0) (s4 _ _ (s3 _ _ e))
  have hSH:H S = none:=s3.free hS3
  have hLH:H L = none:=s3.free hL3
  have ends0:∀ k,cnt ss.length k = true→Sf (sy ss k).1 ≠ none∧Sf (sy ss k).2.1 ≠ none:=fun k hk=>by
   have hm:sy ss k ∈ ss:=List.mem_of_getElem? (sy_get hk)
   have e1:=st5.to (sy ss k).1 (List.mem_append_left _ (List.mem_map.mpr ⟨_,hm,rfl⟩))
   have e2:=st5.to (sy ss k).2.1 (List.mem_append_right _ (List.mem_map.mpr ⟨_,hm,rfl⟩))
   rw [e1,e2]; simp
  have wd0:Wd ss c Sf (fun _=>none):=⟨(fun p k e=>nomatch e),(fun p n e=>by unfold back at e; cases e),fun q v _ e=>(st5.of_ q v e).1,fun q v e=>hbs q (st5.of_ q v e).2⟩
  refine ⟨fun m σ H6=>∃ (ks6 kl6:List (Key × V)) (Sf6 Lf6:Fn) (v3:Option V),m = meas c (-((c * bigNum ss:Nat):Int)) 0 Sf6∧σ = [some (.ref a),some (.ref O),some (.ref p),v3]∧WalkAt C H6 p a S L ks6 kl6 Sf6 Lf6∧H6 L = some (.dK kl6)∧Wd ss c Sf6 Lf6∧Same H H6 ∧
    (∀ k,cnt ss.length k = true→Sf6 (sy ss k).1 ≠ none∧Sf6 (sy ss k).2.1 ≠ none)∧(∀ q v,Sf6 q = some v→v ≤ 0),⟨_,ks,[],Sf,_,none,rfl,rfl,W5,hL5,wd0,s5,ends0,fun q v e=>by rw [(st5.of_ q v e).1]; exact Int.le_refl _⟩,?_⟩
  rintro m σ H6 ⟨ks6,kl6,Sf6,Lf6,v3,rfl,rfl,W6,hL6,wd6,s6,ends6,np6⟩
  obtain ⟨⟨dx6,ob6⟩,_⟩:=id W6
  have pass:=goAll_pass hin ⟨Sf6,Lf6,false⟩ wd6 ord hord
  have dom:=goAll_dom (ss:=ss) (c:=c) ord ⟨Sf6,Lf6,false⟩ (fun k hk=>(ends6 k (hord k hk)).2)
  refine ⟨_,rfl,p,dx6,_,rfl,ob6,wfl_go,_,rfl,p,a,S,L,O,ss,c,ks6,kl6,Sf6,Lf6,ord,rfl,W6,hL6,ha.same s6,s6 _ _ hO,hord,hin,by omega,wd6,fun H7 ks7 kl7 W7 hL7 kp7=>?_⟩
  have s7:Same H H7:=fun b o e=>kp7 b o (ne_of_none e hSH) (ne_of_none e hLH) (s6 _ _ e)
  obtain ⟨⟨dx7,ob7⟩,_⟩:=id W7
  generalize hw7:goAll ss ord ⟨Sf6,Lf6,false⟩ = w7 at pass dom W7
  have ends7:∀ k,cnt ss.length k = true→w7.S (sy ss k).1 ≠ none∧w7.S (sy ss k).2.1 ≠ none:=fun k hk=>⟨(dom _).mpr (ends6 k hk).1,(dom _).mpr (ends6 k hk).2⟩
  have np7:∀ q v,w7.S q = some v→v ≤ 0:=fun q v e=>by
   have:Sf6 q ≠ none:=(dom q).mp (by rw [e]; simp)
   cases e6:Sf6 q with
   | none=>exact absurd e6 this
   | some v6 =>
    obtain ⟨b',eb,hle⟩:=pass.down q v6 e6
    rw [e] at eb; cases eb
    exact Int.le_trans hle (np6 q v6 e6)
  refine ⟨_,rfl,?_⟩
  cases hf:w7.f with
  | false =>
   obtain ⟨e7,tight⟩:=pass.still hf
   refine iteF ?_
   refine ⟨_,rfl,p,C,dx7,_,_,rfl,ob7,WF.k.cl,WF.k.n2,wfl2,?_⟩
   have eS:w7.S = Sf6:=by rw [e7]
   rw [eS] at W7
   exact k1 H7 S ks7 Sf6 s7 hSH W7.hS W7.rS (fun k hk=>tight k (hall k hk)) ends6 ⟨Lf6,wd6⟩ np6
  | true =>
   refine iteT ⟨_,fun σ' H' z=>z,?_⟩
   have less:Less Sf6 w7.S:=by
    rcases pass.less hf with z | z
    ·cases z
    ·exact z
   refine ⟨_,rfl,p,dx7,_,rfl,ob7,wfl_pr,p,a,S,L,ss,c,ks7,kl7,w7.S,w7.L,rfl,W7,hL7,ha.same s7,by omega,pass.wd,fun H8 q n s8 hn hq=>?_,fun H8 s8 grd=>?_⟩
   ·-- a ring
    have s8':Same H H8:=s7.trans s8
    have W8:=W7.same s8
    obtain ⟨⟨dx8,ob8⟩,_,_,hL8,rL8,_⟩:=id W8
    refine ⟨_,rfl,_,rfl,iteT ?_⟩
    obtain ⟨kk,hk⟩:∃ kk,w7.L q = some kk:=by
     cases e:w7.L q with
     | none=>unfold back at hq; rw [e] at hq; cases hq
     | some kk=>exact ⟨kk,rfl⟩
    have hq':back ss w7.L n (sy ss kk).1 = some q:=by unfold back at hq; rw [hk] at hq; exact hq
    have hkc:=(pass.wd.j q kk hk).1
    refine ⟨_,rfl,p,dx8,_,rfl,ob8,wfl_cb,_,rfl,_,rfl,p,dx8,_,rfl,ob8,wfl_ah,_,rfl,p,a,S,L,ss,ks7,kl7,w7.S,w7.L,q,kk,rfl,W8,ha.same s8',hk,hkc,?_⟩
    refine ⟨p,a,S,L,ss,ks7,kl7,w7.S,w7.L,q,(sy ss kk).1,n,rfl,W8,ha.same s8',pass.wd.j,hq',by omega,fun H9 d mm s9 hd0 hm hb9 hd9=>?_⟩
    have s9':Same H H9:=s8'.trans s9
    have W9:=W8.same s9
    obtain ⟨⟨dx9,ob9⟩,_,_,hL9,rL9,_⟩:=id W9
    refine ⟨_,rfl,p,C,dx9,_,_,rfl,ob9,WF.k.cl,WF.k.n3,wfl3,_,rfl,L,_,rfl,.inl ⟨kl7,Sum.inl q,hL9,rfl,by rw [rL9.at_,iS_some hk]⟩,by show 1 ≤ sizeLine; decide,fun l1 hl1=>?_⟩
    have bring:back ss w7.L (mm + 1) q = some q:=by unfold back; rw [hk]; exact hb9
    obtain ⟨r1,r2,r3⟩:=chainB_walk pass.wd.j (mm + 1) q q bring
    have ering:(chainB ss w7.L (mm + 1) q).reverse = (chainB ss w7.L mm (sy ss kk).1).reverse ++ [kk]:=by
     have:chainB ss w7.L (mm + 1) q = kk :: chainB ss w7.L mm (sy ss kk).1:=by simp only [chainB,hk]
     rw [this,List.reverse_cons]
    have hlen9:(chainB ss w7.L mm (sy ss kk).1).reverse.length ≤ 400:=by
     have:=congrArg List.length ering
     rw [List.length_append,List.length_reverse,r3] at this
     have e1:[kk].length = 1:=rfl
     omega
    have u1:=Same.up (o:=.lst [V.int kk]) hl1
    refine ⟨d,l1,_,_,rfl,rfl,u1 _ _ hd9,upd_same,by rw [List.length_map]; exact Nat.le_of_lt (small1000 (by show _ + 1 ≤ 1000; omega)),fun l2 hl2=>?_⟩
    have u2:=Same.up (o:=.lst (((chainB ss w7.L mm (sy ss kk).1).reverse.map V.int) ++ [V.int kk])) hl2
    have s10:Same H (upd (upd H9 l1 (.lst [V.int kk])) l2 (.lst (((chainB ss w7.L mm (sy ss kk).1).reverse.map V.int) ++ [V.int kk]))):=(s9'.trans u1).trans u2
    have hl2':(upd (upd H9 l1 (.lst [V.int kk])) l2 (.lst (((chainB ss w7.L mm (sy ss kk).1).reverse.map V.int) ++ [V.int kk]))) l2 = some (.lst ((chainB ss w7.L (mm + 1) q).reverse.map V.int)):=by
     rw [upd_same,ering,List.map_append]; rfl
    generalize (upd (upd H9 l1 (.lst [V.int kk])) l2 (.lst (((chainB ss w7.L mm (sy ss kk).1).reverse.map V.int) ++ [V.int kk]))) = H10 at s10 hl2'
    refine ⟨by show 1 ≤ sizeLine; decide,fun e he=>?_⟩
    have he0:H e = none:=s10.free he
    have u3:=Same.up (o:=.ext (exφ e CB none)) he
    refine ⟨e,l2,_,rfl,upd_same,u3 _ _ hl2',fun H11 l dy hl0 hdy0 nld h1 h2 h3 kp11=>⟨rfl,?_⟩⟩
    have s11:Same H H11:=fun b o z=>kp11 b o (ne_of_none z he0) (u3 _ _ (s10 _ _ z))
    refine ⟨e,some dy,rfl,h3,he0,?_⟩
    have nl:l ≠ e:=fun z=>by subst z; rw [upd_same] at hl0; cases hl0
    have nd:dy ≠ e:=fun z=>by subst z; rw [upd_same] at hdy0; cases hdy0
    refine k2 _ dy l ((chainB ss w7.L (mm + 1) q).reverse) (fun b o z=>by rw [unt_ne (ne_of_none z he0)]; exact s11 b o z) (s10.free (u3.free hl0)) (by rw [unt_ne nd]; exact h2) (by rw [unt_ne nl]; exact h1) ⟨⟨q,r1⟩,?_,?_,?_⟩
    ·rw [r2]; exact pass.wd.r q mm bring
    ·rw [ering]; simp
    ·rw [List.length_reverse,r3]; omega
   ·-- none
    refine ⟨_,rfl,_,rfl,iteF ?_⟩
    have low:∀ q v,w7.S q = some v→-((c * bigNum ss:Nat):Int) ≤ v:=fun q v e=>low_of pass.wd grd e
    refine ⟨_,meas_lt pass.down less pass.wd.rg low np7,ks7,kl7,w7.S,w7.L,_,rfl,rfl,W7.same s8,s8 _ _ hL7,pass.wd,s7.trans s8,ends7,np7⟩
end
end At
set_option Elab.async false
set_option linter.all false
set_option maxRecDepth 100000
set_option maxHeartbeats 4000000
namespace At
open PySem L2 PyProof.Rows
section
variable {P:Program} {w:World} {K:PySem.W.Frag} {mg:Str→Option Value} {base:Heap}
structure Gone (ss:List Say) (ord:List Int) (c:Nat) (d:Int→Int) (one:Int) (Sf Lf:Fn):Prop where
 wd:Wd ss c Sf Lf
 wk:Wk ss c d one Sf Lf
 tight:∀ k ∈ ord,Tight ss Sf k
 own:∀ p k,Lf p = some k→k ∈ ord
theorem relax_own {ss:List Say} {O:List Int} {w:Ws} {k:Int} (hk:k ∈ O) (h:∀ p j,w.L p = some j→j ∈ O):∀ p j,(relax ss w k).L p = some j→j ∈ O:=by
 have main:∀ p j,(put w.L (sy ss k).2.1 k) p = some j→j ∈ O:=fun p j e=>by
  by_cases q:p = (sy ss k).2.1
  ·rw [q,put_same] at e; cases e; exact hk
  ·rw [put_ne q] at e; exact h p j e
 unfold At.relax
 cases ea:w.S (sy ss k).1 with
 | none=>exact h
 | some a =>
  cases eb:w.S (sy ss k).2.1 with
  | none=>exact main
  | some b =>
   simp only
   split
   ·exact main
   ·exact h
theorem goAll_own {ss:List Say} {O:List Int}:∀ (ord:List Int) (w:Ws),(∀ k ∈ ord,k ∈ O)→(∀ p j,w.L p = some j→j ∈ O)→∀ p j,(goAll ss ord w).L p = some j→j ∈ O
 | [],_,_,h=>h
 | k :: r,w,ho,h=>goAll_own r (At.relax ss w k) (fun j hj=>ho j (List.mem_cons_of_mem _ hj)) (relax_own (ho k List.mem_cons_self) h)
def spFrom (C:Addr):Sp:=fun vs H Q _=>∃ (a O:Addr) (ss:List Say) (c:Nat) (ord:List Int) (one:Int) (d:Int→Int),vs = [.ref a,.ref O,.int one]∧SaysAt H a ss∧H O = some (.lst (ord.map V.int))∧c ≤ 400∧ss.all (inside c) = true∧cnt c one = true ∧
 (∀ k ∈ ord,cnt ss.length k = true)∧(∀ s ∈ ss,d s.2.1 - d s.1 ≤ s.2.2) ∧
 ∀ (H':Hp) (p S L:Addr) (ks kl:List (Key × V)) (Sf Lf:Fn),Same H H'→H p = none→H S = none→WalkAt C H' p a S L ks kl Sf Lf→Gone ss ord c d one Sf Lf→Q (.ref p) H'
theorem scFrom:FnScope ["sayings","order","one","walk","found"] ["sayings","order","one"] (defScope s_walk_from):=⟨rfl,rfl,rfl,by decide +kernel,rfl,by decide +kernel,by decide +kernel⟩
theorem ok_from {f C f0 f1 f2 f3 f4:Addr} {fd d0 d1 d2 d3 d4:FuncData} (D:Def K mg "walk_from" s_walk_from ["sayings","order","one"] f fd) (WF:WalkF K mg C f0 d0 f1 d1 f2 d2 f3 d3 f4 d4):FnOk P w K mg base CX0 3 f fd ["sayings","order","one"] (spFrom C):=by
 have GI:FnOk P w K mg base CX0 1 f0 d0 ["self","sayings","starts"] (spWInit C):=ok_wInit WF.i WF.k
 have GG:FnOk P w K mg base CX0 1 f1 d1 ["self","order"] (spGo C):=ok_go WF.go.fn WF.k
 refine D.fn.ok scFrom (fun vs H Q E h=>?_) (fun cdv A0 outer s H vs Q X hr h=>?_)
 ·obtain ⟨_,_,_,_,_,_,_,rfl,_⟩:=h; rfl
 ·obtain ⟨a,O,ss,c,ord,one,d,rfl,ha,hO,hc,hin,h1,hord,pt,k⟩:=h
  have hr1:Room 1 _:=hr.mono (by decide)
  refine ⟨_,pss_cons (ps_set (i:=3) scFrom.nd rfl (Or.inl rfl) (pe_make WF.mK GI hr (by rfl) WF.k.at_ WF.bi .nil pass0 (pa_cons (pv 0) (pa_cons (pe_lst (pa_cons (pv 2) pa_nil)) pa_nil))))
   (pss_cons (ps_set (i:=4) scFrom.nd rfl (Or.inl rfl) pe_bl)
   (pss_cons (ps_while PassesOwn.never (pt_val (pv 4)) (pss_one (ps_set (i:=4) scFrom.nd rfl (Or.inl rfl) (pe_meth (pv 3) WF.k.cl WF.go.me GG hr1 WF.go.bd .nil pass0 (pa_cons (pv 1) pa_nil)))))
   (pss_one (ps_ret (pv 3))))),?_⟩
  refine ⟨_,rfl,_,rfl,by show 1 ≤ sizeLine; decide,fun B hB=>?_⟩
  have u0:=Same.up (o:=.lst [V.int one]) hB
  have hBB:(upd H B (.lst [V.int one])) B = some (.lst ([one].map V.int)):=upd_same
  generalize upd H B (.lst [V.int one]) = H0 at u0 hBB
  intro p dx hp0 hdx0 ndp
  have s1:Same H0 (upd (upd H0 dx (.own p)) p (.ins C dx [])):=fun b o e=>by rw [upd_ne (ne_of_none e hp0),upd_ne (ne_of_none e hdx0)]; exact e
  refine ⟨p,dx,a,B,[one],c,rfl,upd_same,s1 _ _ hBB,fun k hk=>?_,by omega,fun H2 S L ks Sf hS0 hL0 W2 hL2 st kp2=>⟨rfl,?_⟩⟩
  ·have:k = one:=by simpa using hk
   subst this; exact h1
  have hSH:H S = none:=u0.free (s1.free hS0)
  have hLH:H L = none:=u0.free (s1.free hL0)
  have hpH:H p = none:=u0.free hp0
  have s2:Same H H2:=fun b o e=>kp2 b o (ne_of_none (u0 _ _ e) hp0) (s1 _ _ (u0 _ _ e))
  have st1:Sf one = some 0:=st.to one (by simp)
  have st2:∀ q v,Sf q = some v→v = 0∧q = one:=fun q v e=>by
   obtain ⟨z1,z2⟩:=st.of_ q v e
   exact ⟨z1,by simpa using z2⟩
  have wd0:Wd ss c Sf (fun _=>none):=⟨(fun p k e=>nomatch e),(fun p n e=>by unfold back at e; cases e),fun q v _ e=>(st2 q v e).1,fun q v e=>by rw [(st2 q v e).2]; exact h1⟩
  have wk0:Wk ss c d one Sf (fun _=>none):=by
   refine ⟨fun q v e=>?_,fun q v e=>?_,st1,rfl,fun q v e n=>absurd (st2 q v e).2 n⟩
   ·obtain ⟨rfl,rfl⟩:=st2 q v e; omega
   ·obtain ⟨rfl,rfl⟩:=st2 q v e; omega
  refine ⟨fun m σ H6=>∃ (ks6 kl6:List (Key × V)) (Sf6 Lf6:Fn) (fb:Bool),(m = meas c (-((c * bigNum ss:Nat):Int)) ((c * bigNum ss:Nat):Int) Sf6 + (if fb = true then 1 else 0))∧σ = [some (.ref a),some (.ref O),some (.int one),some (.ref p),some (.bl fb)]∧WalkAt C H6 p a S L ks6 kl6 Sf6 Lf6∧H6 L = some (.dK kl6)∧Wd ss c Sf6 Lf6∧Wk ss c d one Sf6 Lf6∧(∀ p k,Lf6 p = some k→k ∈ ord)∧Same H H6 ∧
    (fb = false→∀ k ∈ ord,Tight ss Sf6 k),⟨_,ks,[],Sf,_,true,rfl,rfl,W2,hL2,wd0,wk0,(fun p k e=>nomatch e),s2,(fun z=>nomatch z)⟩,?_⟩
  rintro m σ H6 ⟨ks6,kl6,Sf6,Lf6,fb,rfl,rfl,W6,hL6,wd6,wk6,ow6,s6,t6⟩
  refine ⟨_,rfl,_,rfl,?_⟩
  cases fb with
  | false =>
   refine iteF ⟨_,rfl,?_⟩
   exact k H6 p S L ks6 kl6 Sf6 Lf6 s6 hpH hSH W6 ⟨wd6,wk6,t6 rfl,ow6⟩
  | true =>
   refine iteT ⟨_,fun σ' H' z=>z,?_⟩
   obtain ⟨⟨dx6,ob6⟩,_⟩:=id W6
   have pass:=goAll_pass hin ⟨Sf6,Lf6,false⟩ wd6 ord hord
   have wk7:=Wk.goAll pt hin ord ⟨Sf6,Lf6,false⟩ hord wk6
   have ow7:=goAll_own (ss:=ss) ord ⟨Sf6,Lf6,false⟩ (fun k hk=>hk) ow6
   refine ⟨_,rfl,p,dx6,_,rfl,ob6,wfl_go,_,rfl,p,a,S,L,O,ss,c,ks6,kl6,Sf6,Lf6,ord,rfl,W6,hL6,ha.same s6,s6 _ _ hO,hord,hin,by omega,wd6,fun H7 ks7 kl7 W7 hL7 kp7=>?_⟩
   have s7:Same H H7:=fun b o e=>kp7 b o (ne_of_none e hSH) (ne_of_none e hLH) (s6 _ _ e)
   generalize goAll ss ord ⟨Sf6,Lf6,false⟩ = w7 at pass wk7 ow7 W7
   have low:∀ q v,w7.S q = some v→-((c * bigNum ss:Nat):Int) ≤ v:=fun q v e=>low_of pass.wd (fun p k _=>ends_of pt pass.wd p) e
   have top:∀ q v,w7.S q = some v→v ≤ ((c * bigNum ss:Nat):Int):=fun q v e=>Int.le_trans (wk7.up q v e) (Int.ofNat_le.mpr (Nat.mul_le_mul_right _ (crd_le c w7.S)))
   cases hf:w7.f with
   | true =>
    have less:Less Sf6 w7.S:=by
     rcases pass.less hf with z | z
     ·cases z
     ·exact z
    have ml:meas c (-((c * bigNum ss:Nat):Int)) ((c * bigNum ss:Nat):Int) w7.S < meas c (-((c * bigNum ss:Nat):Int)) ((c * bigNum ss:Nat):Int) Sf6:=meas_lt pass.down less pass.wd.rg low top
    exact ⟨_,Nat.add_lt_add_right ml 1,ks7,kl7,w7.S,w7.L,true,rfl,rfl,W7,hL7,pass.wd,wk7,ow7,s7,(fun z=>nomatch z)⟩
   | false =>
    obtain ⟨e7,tight⟩:=pass.still hf
    have eS:w7.S = Sf6:=by rw [e7]
    refine ⟨_,by rw [eS]; show _ + 0 < _ + 1; omega,ks7,kl7,w7.S,w7.L,false,rfl,rfl,W7,hL7,pass.wd,wk7,ow7,s7,fun _ k hk=>by rw [eS]; exact tight k hk⟩
end
end At
set_option Elab.async false
set_option linter.all false
set_option maxRecDepth 100000
set_option maxHeartbeats 4000000
namespace At
open PySem L2 PyProof.Rows
section
variable {P:Program} {w:World} {K:PySem.W.Frag} {mg:Str→Option Value} {base:Heap}
def lw (S S0:Fn) (lift:Int) (c:Nat):List Int:=(List.range c).map fun (i:Nat)=>(S (i:Int)).getD ((S0 (i:Int)).getD 0 + lift)
def spLW (C:Addr):Sp:=fun vs H Q _=>∃ (c:Nat) (p a S0 S L:Addr) (ks0 ks kl:List (Key × V)) (Sf0 Sf Lf:Fn) (one:Int),vs = [.int c,.ref S0,.ref p]∧c ≤ 400∧H S0 = some (.dK ks0)∧DR ks0 (iS Sf0)∧WalkAt C H p a S L ks kl Sf Lf∧S0 ≠ S∧Sf one = some 0∧(∀ k v,Sf k = some v→cnt c k = true) ∧
 ∀ (H':Hp) (d:Addr) (lift:Int),Same H H'→H d = none→H' d = some (.lst ((lw Sf Sf0 lift c).map V.int))→(∀ k v,Sf k = some v→v - (Sf0 k).getD 0 ≤ lift)→Q (.ref d) H'
theorem pe_fldK {Y:Cx} {K:PySem.W.Frag} {e:Expr} {f:Str} {pos:Pos} {ta:TE} (he:PE Y e ta) (hb:attributeBase e f Y.env (eval e Y.env) = eval e Y.env) (eK:Y.K = K:=by rfl):PE Y (.Attribute e f pos) (tFld K ta f):=by subst eK; exact pe_fld he hb
theorem scLW:FnScope ["count","sums","walk","lift"] ["count","sums","walk"] (defScope s_level_of_walk):=⟨rfl,rfl,rfl,by decide +kernel,rfl,by decide +kernel,by decide +kernel⟩
theorem ok_lw {f C:Addr} {fd:FuncData} (D:Def K mg "level_of_walk" s_level_of_walk ["count","sums","walk"] f fd) (T:WK K mg C) (G:G1 K mg):FnOk P w K mg base CX0 1 f fd ["count","sums","walk"] (spLW C):=by
 refine D.fn.ok scLW (fun vs H Q E h=>?_) (fun cdv A0 outer s H vs Q X hr h=>?_)
 ·obtain ⟨_,_,_,_,_,_,_,_,_,_,_,_,_,rfl,_⟩:=h; rfl
 ·obtain ⟨c,p,a,S0,S,L,ks0,ks,kl,Sf0,Sf,Lf,one,rfl,hc,hS0,rS0,W,nS,h1,hrg,k⟩:=h
  have hu:=hu_of hr
  refine ⟨_,pss_cons (ps_set (i:=3) scLW.nd rfl (Or.inr rfl) (pe_callB (call_maxB rfl) (by rfl) G.max boot_max (pa_cons (pe_thaw
    (pe_comp (XN:=["count","sums","walk","lift"]) (outer:=defScope s_level_of_walk) (N:=["place","walk","sums"]) (cap:=[none,some 2,some 1])
     (by exact ⟨rfl,by decide +kernel,by decide +kernel,by decide +kernel,.own (.cap rfl rfl rfl (.cap rfl rfl rfl .nil)),by decide +kernel⟩) rfl (pi_dict (pe_fld (pv 2) rfl))
     (fun _ _ _ _ _ _=>pg_name (i:=0) (show (["place","walk","sums"]:List Str).Nodup by decide +kernel) rfl (Or.inl rfl)) (fun _ _ _ _ _ _=>pifs_nil)
     (fun _ _ _ _ _ _=>pe_op op_sub (pe_dget hu (pe_fldK (K:=K) (pv 1) rfl) (pv 0) (fun _ _=>rfl)) (pe_dget2 hu (pv 2) (pv 0) pe_int ⟨rfl,rfl,rfl,rfl⟩)))) pa_nil)))
   (pss_one (ps_ret (pe_comp (XN:=["count","sums","walk","lift"]) (outer:=defScope s_level_of_walk) (N:=["place","walk","sums","lift"]) (cap:=[none,some 2,some 1,some 3])
    (by exact ⟨rfl,by decide +kernel,by decide +kernel,by decide +kernel,.own (.cap rfl rfl rfl (.cap rfl rfl rfl (.cap rfl rfl rfl .nil))),by decide +kernel⟩) rfl (pi_range1 (by rfl) G.range (pa_cons (pv 0) pa_nil))
    (fun _ _ _ _ _ _=>pg_name (i:=0) (show (["place","walk","sums","lift"]:List Str).Nodup by decide +kernel) rfl (Or.inl rfl)) (fun _ _ _ _ _ _=>pifs_nil)
    (fun _ _ _ _ _ _=>pe_dget2 hu (pe_fldK (K:=K) (pv 1) rfl) (pv 0) (pe_op op_add (pe_dget2 hu (pv 2) (pv 0) pe_int ⟨rfl,rfl,rfl,rfl⟩) (pv 3)) ⟨rfl,rfl,rfl,rfl⟩)))),?_⟩
  obtain ⟨⟨dx,ob⟩,hS,rS,hL,rL,nSL⟩:=id W
  have hkl:ks.length ≤ c:=rS.len fun k v e=>by
   cases q:Sf k with
   | none=>rw [iS_none.mpr q] at e; cases e
   | some x=>exact hrg k x q
  refine ⟨_,rfl,p,C,dx,_,_,rfl,ob,T.cl,T.n2,wfl2,S,ks,rfl,hS,fun o D1 hD1=>?_⟩
  have f1:∀ b x,b ≠ S→H b = some x→(upd H S (.frz o (.dK ks))) b = some x:=fun b x hb e=>by rw [upd_ne hb]; exact e
  have f2:(upd H S (.frz o (.dK ks))) S = some (.frz o (.dK ks)):=upd_same
  have hD0:H D1 = none:=by
   by_cases z:D1 = S
   ·rw [z,upd_same] at hD1; cases hD1
   ·rw [upd_ne z] at hD1; exact hD1
  generalize upd H S (.frz o (.dK ks)) = H1 at f1 f2 hD1
  have key:∀ i,i < ks.length→∃ (pr:Key × V) (v:Int),ks[i]? = some pr∧pr.1 = Sum.inl (keyI pr.1)∧Sf (keyI pr.1) = some v:=fun i hi=>by
   have e:ks[i]? = some ks[i]:=List.getElem?_eq_getElem hi
   obtain ⟨pe,pn⟩:=rS.mem (List.getElem_mem hi)
   cases q:Sf (keyI ks[i].1) with
   | none=>exact absurd (iS_none.mpr q) pn
   | some v=>exact ⟨ks[i],v,e,pe,q⟩
  refine comp_by (J:=Itd S o ks) (n:=ks.length) (item:=fun i=>((ks[i]?).map fun pr=>V.int (keyI pr.1)).getD .non) (outs:=fun i=>(ks[i]?).map fun pr=>V.int ((Sf (keyI pr.1)).getD 0 - (Sf0 (keyI pr.1)).getD 0)) (fun σ=>∃ v,σ = [v,some (.ref p),some (.ref S0)]) hD1 (small1000 (by omega))
   (fun i Hc hi sm=>⟨hi,sm _ _ f2⟩) (fun i Hc x H' hi sm ⟨e1,pr,e2,e3⟩=>⟨e1,?_⟩) (fun Hc sm=>⟨Nat.le_refl _,sm _ _ f2⟩) ⟨none,rfl⟩ (fun i σc Hc Yes No hi sm _ ⟨v0,hv⟩ yes no=>?_) (fun Hc sm hM=>?_)
  ·obtain ⟨pr',v,e4,e5,_⟩:=key i hi
   rw [e2] at e4; cases e4
   rw [e3,e2,e5]; rfl
  ·subst hv
   obtain ⟨pr,v,e4,e5,e6⟩:=key i hi
   have ei:((ks[i]?).map fun pr=>V.int (keyI pr.1)).getD .non = V.int (keyI pr.1):=by rw [e4]; rfl
   rw [ei]
   have ob1:=sm _ _ (f1 _ _ (ne_of ob hS (by intro z; cases z)) ob)
   have h01:=sm _ _ (f1 _ _ nS hS0)
   refine ⟨_,rfl,p,C,dx,_,_,rfl,ob1,T.cl,T.n2,wfl2,_,rfl,S,_,rfl,.inl ⟨ks,Sum.inl (keyI pr.1),.inr ⟨o,sm _ _ f2⟩,rfl,by rw [rS.at_,iS_some e6]⟩,?_⟩
   refine ⟨_,rfl,S0,rfl,.inl ⟨ks0,.inl h01⟩,_,rfl,_,.inl ⟨ks0,Sum.inl (keyI pr.1),.inl h01,rfl,rfl⟩,?_⟩
   rw [rS0.at_]
   have ev:(iS Sf0 (keyI pr.1)).getD (V.int 0) = V.int ((Sf0 (keyI pr.1)).getD 0):=by
    unfold iS
    cases Sf0 (keyI pr.1) <;> rfl
   rw [ev]
   exact ⟨_,_,rfl,rfl,yes _ _ _ ⟨_,rfl⟩ (Same.refl _) (by rw [e4]; show some (V.int ((Sf (keyI pr.1)).getD 0 - (Sf0 (keyI pr.1)).getD 0)) = _; rw [e6]; rfl)⟩
  have hM':Hc D1 = some (.lst ((ks.map fun pr=>(Sf (keyI pr.1)).getD 0 - (Sf0 (keyI pr.1)).getD 0).map V.int)):=by
   rw [hM,fm_map,List.map_map]; rfl
  have nD:D1 ≠ S:=fun z=>by rw [z] at hD0; rw [hD0] at hS; cases hS
  have nz:∀ (o':Obj) (u:HO),¬ H S = some (.frz o' u):=fun o' u z=>by
   rw [hS] at z; cases z
  refine ⟨S,o,ks,sm _ _ f2,nz,?_⟩
  have s2:Same H (upd Hc S (.dK ks)):=fun b x e=>by
   by_cases hb:b = S
   ·subst hb; rw [upd_same]; rw [hS] at e; exact e
   ·rw [upd_ne hb]; exact sm _ _ (f1 b x hb e)
  refine ⟨D1,_,rfl,SqL.of (by rw [upd_ne nD]; exact hM'),?_,fun lift hlift=>?_⟩
  ·intro z
   have:one ∈ keysI ks:=rS.keysMem.mpr fun y=>by rw [iS_some h1] at y; cases y
   unfold keysI at this
   cases ks with
   | nil=>simp at this
   | cons q r=>simp at z
  have hl:∀ k v,Sf k = some v→v - (Sf0 k).getD 0 ≤ lift:=fun k v e=>by
   have hm:k ∈ keysI ks:=rS.keysMem.mpr fun y=>by rw [iS_some e] at y; cases y
   obtain ⟨pr,hp,rfl⟩:=List.mem_map.mp hm
   have:=hlift _ (List.mem_map.mpr ⟨pr,hp,rfl⟩)
   rw [e] at this
   exact this
  have W2:=W.same s2
  obtain ⟨⟨dx2,ob2⟩,hS2,_⟩:=id W2
  have h02:=s2 _ _ hS0
  generalize upd Hc S (.dK ks) = H2 at s2 W2 ob2 hS2 h02
  refine ⟨_,rfl,_,rfl,by omega,by omega,fun q hq=>?_⟩
  refine comp_range (n:=(c:Int).toNat) (outs:=fun (i:Nat)=>some (V.int ((Sf (i:Int)).getD ((Sf0 (i:Int)).getD 0 + lift)))) (fun σ=>∃ v,σ = [v,some (.ref p),some (.ref S0),some (.int lift)]) hq (by rw [Int.toNat_natCast]; exact small1000 (by omega)) ⟨none,rfl⟩ (fun i σc Hc' Yes No hi sm' _ ⟨v,hv⟩ yes no=>?_) (fun Hd sd hD=>?_)
  ·subst hv
   refine ⟨_,rfl,p,C,dx2,_,_,rfl,sm' _ _ ob2,T.cl,T.n2,wfl2,S,rfl,.inl ⟨ks,.inl (sm' _ _ hS2)⟩,_,rfl,?_⟩
   refine ⟨_,rfl,S0,rfl,.inl ⟨ks0,.inl (sm' _ _ h02)⟩,_,rfl,_,.inl ⟨ks0,Sum.inl (i:Int),.inl (sm' _ _ h02),rfl,rfl⟩,?_⟩
   rw [rS0.at_]
   have ev:(iS Sf0 (i:Int)).getD (V.int 0) = V.int ((Sf0 (i:Int)).getD 0):=by
    unfold iS
    cases Sf0 (i:Int) <;> rfl
   rw [ev]
   refine ⟨_,rfl,_,_,rfl,rfl,_,.inl ⟨ks,Sum.inl (i:Int),.inl (sm' _ _ hS2),rfl,rfl⟩,?_⟩
   refine yes _ _ _ ⟨_,rfl⟩ (Same.refl _) ?_
   rw [rS.at_]
   unfold iS
   cases Sf (i:Int) <;> rfl
  ·rw [Int.toNat_natCast] at hD
   refine k Hd q lift (s2.trans sd) (s2.free hq) ?_ hl
   rw [hD]
   unfold lw
   rw [List.map_map,show (fun (i:Nat)=>some (V.int ((Sf (i:Int)).getD ((Sf0 (i:Int)).getD 0 + lift)))) = some ∘ (V.int ∘ fun (i:Nat)=>(Sf (i:Int)).getD ((Sf0 (i:Int)).getD 0 + lift)) from rfl,List.filterMap_eq_map]
end
end At
set_option Elab.async false
set_option linter.all false
set_option maxRecDepth 100000
set_option maxHeartbeats 4000000
namespace At
open PySem L2 PyProof.Rows
section
variable {P:Program} {w:World} {K:PySem.W.Frag} {mg:Str→Option Value} {base:Heap}
structure FS (c n:Nat) (H0:Hp) (E F:Addr) (ups:Int→List Int) (H:Hp) (T:List Int) (ke kf:List (Key × V)) (Ef:Int→Bool) (Ff:Fn):Prop where
 hE:H E = some (.dK ke)
 rE:DR ke (bS Ef)
 hF:H F = some (.dK kf)
 rF:DR kf (iS Ff)
 keep:∀ b o,b ≠ E→b ≠ F→H0 b = some o→H b = some o
 e1:∀ k,Ef k = true→cnt c k = true
 f1:∀ k v,Ff k = some v→cnt c k = true
 t1:∀ k ∈ T,cnt c k = true
 a:∀ k,Ef k = true→Ff k ≠ none ∨ k ∈ T
 b:∀ k,Ef k = true→∀ u ∈ ups k,Ef u = true ∨ u ∈ T
structure UpsOk (H:Hp) (U:Addr) (ups:Int→List Int) (c n:Nat):Prop where
 ex:∃ (ku:List (Key × V)) (Uf:Int→Option Addr),Rd H U (.dK ku)∧DR ku (fun k=>(Uf k).map V.ref)∧(∀ k a,Uf k = some a→H a = some (.lst ((ups k).map V.int)))∧∀ k,Uf k = none→ups k = []
 len:∀ k,(ups k).length ≤ n
 rg:∀ k,∀ u ∈ ups k,cnt c u = true
def spFinish:Sp:=fun vs H Q _=>∃ (start:Int) (U E F:Addr) (c n:Nat) (ups:Int→List Int) (ke kf:List (Key × V)) (Ef:Int→Bool) (Ff:Fn),vs = [.int start,.ref U,.ref E,.ref F]∧c ≤ 1000∧n ≤ 1000∧cnt c start = true∧E ≠ F∧U ≠ E∧U ≠ F ∧
 UpsOk H U ups c n∧FS c n H E F ups H [] ke kf Ef Ff ∧
 ∀ H' ke' kf' Ef' Ff',FS c n H E F ups H' [] ke' kf' Ef' Ff'→(∀ k,Ef k = true→Ef' k = true)→Ef' start = true→Q .non H'
theorem scFinish:FnScope ["start","uppers","entered","finished","todo","place"] ["start","uppers","entered","finished"] (defScope s_finish_from):=⟨rfl,rfl,rfl,by decide +kernel,rfl,by decide +kernel,by decide +kernel⟩
theorem FS.lenE {c n:Nat} {H0 H:Hp} {E F:Addr} {ups:Int→List Int} {T:List Int} {ke kf:List (Key × V)} {Ef:Int→Bool} {Ff:Fn} (h:FS c n H0 E F ups H T ke kf Ef Ff):ke.length ≤ c:=h.rE.len (bS_range h.e1)
theorem FS.lenF {c n:Nat} {H0 H:Hp} {E F:Addr} {ups:Int→List Int} {T:List Int} {ke kf:List (Key × V)} {Ef:Int→Bool} {Ff:Fn} (h:FS c n H0 E F ups H T ke kf Ef Ff):kf.length ≤ c:=h.rF.len (iS_range h.f1)
theorem big6 {n:Nat} (h:n ≤ 1100000):n < sizeLine:=Nat.lt_of_le_of_lt h (by decide)
theorem ok_finish {f:Addr} {fd:FuncData} (D:Def K mg "finish_from" s_finish_from ["start","uppers","entered","finished"] f fd) (G:G1 K mg):FnOk P w K mg base CX0 1 f fd ["start","uppers","entered","finished"] spFinish:=by
 refine D.fn.ok scFinish (fun vs H Q E h=>?_) (fun cdv A outer s H vs Q X hr h=>?_)
 ·obtain ⟨_,_,_,_,_,_,_,_,_,_,_,rfl,_⟩:=h; rfl
 ·obtain ⟨start,U,E,F,c,n,ups,ke,kf,Ef,Ff,rfl,hc,hn,hst,nEF,nUE,nUF,hU,h0,k⟩:=h
  have hu:=hu_of hr
  refine ⟨_,pss_cons (ps_set (i:=4) scFinish.nd rfl (Or.inl rfl) (pe_lst (pa_cons (pv 0) pa_nil)))
   (pss_one (ps_while PassesOwn.never (pt_cmpR op_gt (pe_callB call_len_seq (by rfl) G.len PySem.boot_len (pa_cons (pv 4) pa_nil)) pe_int (nomark _))
    (pss_cons (ps_set (i:=5) scFinish.nd rfl (Or.inl rfl) (pe_ix ix_list (pv 4) (pe_un un_neg pe_int) (fun _ _=>rfl)))
    (pss_one (ps_if (pt_cmp (pc_din hu (pv 5) (pv 2)))
     (pss_cons (ps_expr (pe_bm0 PySem.F.plainAttrs_list PySem.F.slot_list_pop PySem.F.type_list_pop mt_pop (pv 4)))
      (pss_one (ps_expr (pe_dsetd (pv 3) (pv 5) (pe_callB call_lenD (by rfl) G.len PySem.boot_len (pa_cons (pv 3) pa_nil)) ⟨rfl,rfl,rfl,rfl⟩))))
     (pss_cons (ps_dput hu (pv 2) (pv 5) pe_bl rfl)
      (pss_one (ps_expr (pe_bm PySem.F.plainAttrs_list PySem.F.slot_list_extend PySem.F.type_list_extend mt_extend (pv 4) (pa_cons
       (pe_comp (XN:=["start","uppers","entered","finished","todo","place"]) (outer:=defScope s_finish_from) (N:=["upper","entered"]) (cap:=[none,some 2])
        (by exact ⟨rfl,by decide +kernel,by decide +kernel,by decide +kernel,.own (.cap rfl rfl rfl .nil),by decide +kernel⟩) rfl (pi_list (pe_dget2 hu (pv 1) (pv 5) (pe_lst pa_nil) ⟨rfl,rfl,rfl,rfl⟩))
        (fun _ _ _ _ _ _=>pg_name (i:=0) (show (["upper","entered"]:List Str).Nodup by decide +kernel) rfl (Or.inl rfl)) (fun _ _ _ _ _ _=>pifs_one (pt_cmp (pc_dnotin hu (pv 0) (pv 1))))
        (fun _ _ _ _ _ _=>pv 0)) pa_nil)))))))))),?_⟩
  refine ⟨_,rfl,by show 1 ≤ sizeLine; decide,fun t ht=>?_⟩
  have tE:t ≠ E:=(ne_of_none h0.hE ht).symm
  have tF:t ≠ F:=(ne_of_none h0.hF ht).symm
  refine ⟨fun m σ H2=>∃ (T:List Int) (ke2 kf2:List (Key × V)) (Ef2:Int→Bool) (Ff2:Fn) (v5:Option V),σ = [some (.int start),some (.ref U),some (.ref E),some (.ref F),some (.ref t),v5]∧H2 t = some (.lst (T.map V.int))∧FS c n H E F ups H2 T ke2 kf2 Ef2 Ff2 ∧
    (∀ k,Ef k = true→Ef2 k = true)∧(Ef2 start = true ∨ start ∈ T)∧T.length ≤ 1 + ke2.length * n∧m = (c - ke2.length) * (n + 1) + T.length,⟨_,[start],ke,kf,Ef,Ff,none,rfl,upd_same,?_,fun _ z=>z,.inr (by simp),by simp,rfl⟩,?_⟩
  ·refine ⟨by rw [upd_ne tE.symm]; exact h0.hE,h0.rE,by rw [upd_ne tF.symm]; exact h0.hF,h0.rF,fun b o h1 h2 e=>by rw [upd_ne (ne_of_none e ht)]; exact e,h0.e1,h0.f1,fun k hk=>?_,fun k e=>?_,fun k e u hu'=>?_⟩
   ·have:k = start:=by simpa using hk
    subst this; exact hst
   ·rcases h0.a k e with z | z
    ·exact .inl z
    ·simp at z
   ·rcases h0.b k e u hu' with z | z
    ·exact .inl z
    ·simp at z
  rintro m σ H2 ⟨T,ke2,kf2,Ef2,Ff2,v5,rfl,hT,S,mono,hs2,hTl,rfl⟩
  refine ⟨_,rfl,t,_,rfl,.inl (SqL.of hT),_,_,rfl,rfl,_,rfl,?_⟩
  rw [List.length_map]
  refine ite2 (fun hlt=>?_) (fun hlt=>?_)
  ·have hlt:0 < T.length:=by simpa using hlt
   obtain ⟨T0,p,rfl⟩:∃ T0 p,T = T0 ++ [p]:=⟨T.dropLast,T.getLast (List.length_pos_iff.mp hlt),(List.dropLast_concat_getLast _).symm⟩
   have lE:=S.lenE
   have lF:=S.lenF
   have cp:cnt c p = true:=S.t1 p (by simp)
   refine ⟨_,fun σ' H' z=>z,?_⟩
   refine ⟨_,rfl,_,rfl,t,_,_,_,rfl,rfl,SqL.of hT,by rw [List.map_append]; exact atI_last _ _,?_⟩
   refine ⟨_,rfl,_,rfl,E,_,rfl,DGet.k (k:=Sum.inl p) S.hE,_,rfl,?_⟩
   rw [S.rE.at_]
   cases he:Ef2 p with
   | true =>
    rw [show bS Ef2 p = some (.bl true) from by unfold bS; rw [he]; rfl]
    refine iteT ⟨_,rfl,.inl ⟨rfl,_,SqL.of hT⟩,t,_,.int p,rfl,rfl,hT,by simp,?_⟩
    have hF2:(upd H2 t (.lst ((T0 ++ [p]).map V.int).dropLast)) F = some (.dK kf2):=by rw [upd_ne tF.symm]; exact S.hF
    have hE2:(upd H2 t (.lst ((T0 ++ [p]).map V.int).dropLast)) E = some (.dK ke2):=by rw [upd_ne tE.symm]; exact S.hE
    have edl:((T0 ++ [p]).map V.int).dropLast = T0.map V.int:=by rw [List.map_append]; simp
    rw [edl] at hF2 hE2 ⊢
    refine ⟨_,rfl,F,rfl,.inl ⟨_,.inl hF2⟩,_,rfl,_,rfl,F,_,rfl,hF2,kf2,Sum.inl p,hF2,rfl,small1000 (by omega),fun v hv=>?_,fun hv=>?_⟩
    ·refine ⟨_,Nat.lt_of_lt_of_le ?_ (Nat.le_refl _),T0,ke2,kf2,Ef2,Ff2,_,rfl,upd_same,⟨hE2,S.rE,hF2,S.rF,fun b o h1 h2 e=>?_,S.e1,S.f1,fun k hk=>S.t1 k (by simp [hk]),fun k e=>?_,fun k e u hu'=>?_⟩,mono,?_,?_,rfl⟩
     ·rw [List.length_append]; show _ + T0.length < _ + (T0.length + 1); omega
     ·rw [upd_ne (ne_of_none e ht)]; exact S.keep b o h1 h2 e
     ·rcases S.a k e with z | z
      ·exact .inl z
      ·rcases List.mem_append.mp z with z | z
       ·exact .inr z
       ·have:k = p:=by simpa using z
        subst this
        left
        rw [S.rF.at_] at hv
        intro q
        rw [iS_none.mpr q] at hv; cases hv
     ·rcases S.b k e u hu' with z | z
      ·exact .inl z
      ·rcases List.mem_append.mp z with z | z
       ·exact .inr z
       ·have:u = p:=by simpa using z
        subst this; exact .inl he
     ·rcases hs2 with z | z
      ·exact .inl z
      ·rcases List.mem_append.mp z with z | z
       ·exact .inr z
       ·have:start = p:=by simpa using z
        subst this; exact .inl he
     ·rw [List.length_append] at hTl
      have:[p].length = 1:=rfl
      omega
    ·have hr2:=S.rF.iput p (kf2.length:Int)
     refine ⟨_,Nat.lt_of_lt_of_le ?_ (Nat.le_refl _),T0,ke2,_,Ef2,put Ff2 p kf2.length,_,rfl,by rw [upd_ne tF]; exact upd_same,⟨by rw [upd_ne nEF]; exact hE2,S.rE,upd_same,hr2,fun b o h1 h2 e=>?_,S.e1,fun k v e=>?_,fun k hk=>S.t1 k (by simp [hk]),fun k e=>?_,fun k e u hu'=>?_⟩,mono,?_,?_,rfl⟩
     ·rw [List.length_append]; show _ + T0.length < _ + (T0.length + 1); omega
     ·rw [upd_ne h2,upd_ne (ne_of_none e ht)]; exact S.keep b o h1 h2 e
     ·by_cases z:k = p
      ·subst z; exact cp
      ·rw [put_ne z] at e; exact S.f1 k v e
     ·by_cases z:k = p
      ·subst z; left; rw [put_same]; simp
      ·rcases S.a k e with y | y
       ·left; rw [put_ne z]; exact y
       ·rcases List.mem_append.mp y with y | y
        ·exact .inr y
        ·exact absurd (by simpa using y) z
     ·rcases S.b k e u hu' with z | z
      ·exact .inl z
      ·rcases List.mem_append.mp z with z | z
       ·exact .inr z
       ·have:u = p:=by simpa using z
        subst this; exact .inl he
     ·rcases hs2 with z | z
      ·exact .inl z
      ·rcases List.mem_append.mp z with z | z
       ·exact .inr z
       ·have:start = p:=by simpa using z
        subst this; exact .inl he
     ·rw [List.length_append] at hTl
      have:[p].length = 1:=rfl
      omega
   | false =>
    rw [show bS Ef2 p = none from bS_none.mpr he]
    have hr2:=S.rE.bput p
    have hlen2:(putK ke2 (Sum.inl p) (V.bl true)).length = ke2.length + 1:=S.rE.put_new _ (bS_none.mpr he)
    have hrg2:∀ k,putB Ef2 p k = true→cnt c k = true:=fun k e=>by
     by_cases z:k = p
     ·subst z; exact cp
     ·unfold putB at e; rw [if_neg z] at e; exact S.e1 k e
    have lE2:ke2.length + 1 ≤ c:=by rw [← hlen2]; exact hr2.len (bS_range hrg2)
    refine iteF ⟨_,rfl,_,rfl,E,_,rfl,DPut.k (k:=Sum.inl p) S.hE (small1000 (by omega)),?_⟩
    obtain ⟨⟨ku,Uf,hUd,rU,hUl,hUn⟩,hUlen,hUrg⟩:=hU
    have kp:∀ b o,b ≠ E→b ≠ F→H b = some o→(upd H2 E (.dK (putK ke2 (Sum.inl p) (V.bl true)))) b = some o:=fun b o h1 h2 e=>by rw [upd_ne h1]; exact S.keep b o h1 h2 e
    have hTE:(upd H2 E (.dK (putK ke2 (Sum.inl p) (V.bl true)))) t = some (.lst ((T0 ++ [p]).map V.int)):=by rw [upd_ne tE]; exact hT
    have hFE:(upd H2 E (.dK (putK ke2 (Sum.inl p) (V.bl true)))) F = some (.dK kf2):=by rw [upd_ne nEF.symm]; exact S.hF
    have hEE:(upd H2 E (.dK (putK ke2 (Sum.inl p) (V.bl true)))) E = some (.dK (putK ke2 (Sum.inl p) (V.bl true))):=upd_same
    have hUE:Rd (upd H2 E (.dK (putK ke2 (Sum.inl p) (V.bl true)))) U (.dK ku):=by
     rcases hUd with z | ⟨o,z⟩
     ·exact .inl (kp _ _ nUE nUF z)
     ·exact .inr ⟨o,kp _ _ nUE nUF z⟩
    generalize hHE:upd H2 E (.dK (putK ke2 (Sum.inl p) (V.bl true))) = HE at kp hTE hFE hEE hUE ⊢
    refine ⟨_,rfl,.inl ⟨rfl,_,SqL.of hTE⟩,?_⟩
    refine ⟨_,rfl,U,rfl,.inl ⟨ku,hUE⟩,_,rfl,by show 0 ≤ sizeLine; decide,fun nl hnl=>?_⟩
    have smn:Same HE (upd HE nl (.lst [])):=fun b o e=>by rw [upd_ne (ne_of_none e hnl)]; exact e
    have hUE2:Rd (upd HE nl (.lst [])) U (.dK ku):=by
     rcases hUE with z | ⟨o,z⟩
     ·exact .inl (smn _ _ z)
     ·exact .inr ⟨o,smn _ _ z⟩
    refine ⟨valV ku (Sum.inl p),.inl ⟨ku,Sum.inl p,hUE2,rfl,rfl⟩,?_⟩
    obtain ⟨l,hl,hlv⟩:∃ l,(valV ku (Sum.inl p)).getD (.ref nl) = .ref l∧(upd HE nl (.lst [])) l = some (.lst ((ups p).map V.int)):=by
     rw [rU.at_]
     cases q:Uf p with
     | none=>exact ⟨nl,rfl,by rw [hUn p q]; exact upd_same⟩
     | some a =>
      have ha:=hUl p a q
      exact ⟨a,rfl,smn _ _ (kp a _ (ne_of ha h0.hE (by intro z; cases z)) (ne_of ha h0.hF (by intro z; cases z)) ha)⟩
    refine ⟨l,hl,⟨_,SqL.of hlv⟩,fun D hD=>?_⟩
    refine comp_list (outs:=fun i=>(((ups p)[i]?).bind fun u=>if putB Ef2 p u = true then none else some (V.int u))) (fun σ=>∃ v,σ = [v,some (.ref E)]) hD (SqL.of hlv) (by rw [List.length_map]; exact small1000 (Nat.le_trans (hUlen p) hn)) ⟨none,rfl⟩ (fun i x σc Hc Yes No hx sm _ ⟨v,hv⟩ yes no=>?_) (fun Hc sm hDc=>?_)
    ·rw [List.getElem?_map] at hx
     cases en:(ups p)[i]? with
     | none=>rw [en] at hx; cases hx
     | some u =>
      rw [en] at hx; cases hx
      subst hv
      refine ⟨_,rfl,_,rfl,E,_,rfl,DGet.k (k:=Sum.inl u) (sm _ _ (smn _ _ hEE)),_,rfl,?_⟩
      rw [hr2.at_]
      cases eu:putB Ef2 p u with
      | true =>
       rw [show bS (putB Ef2 p) u = some (.bl true) from by unfold bS; rw [eu]; rfl]
       exact iteF (no _ _ ⟨_,rfl⟩ (Same.refl _) (by rw [en]; simp [eu]))
      | false =>
       rw [bS_none.mpr eu]
       exact iteT ⟨_,rfl,yes _ _ _ ⟨_,rfl⟩ (Same.refl _) (by rw [en]; simp [eu])⟩
    ·rw [List.length_map] at hDc
     have ef:((List.range (ups p).length).filterMap fun i=>(((ups p)[i]?).bind fun u=>if putB Ef2 p u = true then none else some (V.int u))) = ((ups p).filter fun u=>!putB Ef2 p u).map V.int:=by
      have:∀ (l:List Int) (g:Int→Option V),((List.range l.length).filterMap fun i=>(l[i]?).bind g) = l.filterMap g:=by
       intro l g
       induction l with
       | nil=>rfl
       | cons x r ih =>
        rw [List.length_cons,List.range_succ_eq_map,List.filterMap_cons,List.filterMap_map]
        have e2:((fun i=>((x :: r)[i]?).bind g) ∘ Nat.succ) = fun i=>(r[i]?).bind g:=by funext i; simp
        rw [e2,ih]
        simp only [List.getElem?_cons_zero,Option.bind_some,List.filterMap_cons]
      rw [this]
      induction ups p with
      | nil=>rfl
      | cons x r ih =>
       rw [List.filterMap_cons,List.filter_cons]
       cases putB Ef2 p x <;> simp [ih]
     rw [ef] at hDc
     have hll:((ups p).filter fun u=>!putB Ef2 p u).length ≤ n:=Nat.le_trans (List.length_filter_le _ _) (hUlen p)
     have hTc:Hc t = some (.lst ((T0 ++ [p]).map V.int)):=sm _ _ (smn _ _ hTE)
     have hmul:(ke2.length + 1) * n = ke2.length * n + n:=by rw [Nat.add_mul,Nat.one_mul]
     have hmul2:ke2.length * n ≤ 1000 * 1000:=Nat.mul_le_mul (by omega) hn
     have hlp:(T0 ++ [p]).length ≤ 1 + ke2.length * n:=hTl
     refine ⟨t,D,_,_,rfl,rfl,hTc,hDc,Nat.le_of_lt (big6 (by rw [List.length_map,List.length_map]; omega)),?_⟩
     have smt:∀ b o,b ≠ t→HE b = some o→(upd Hc t (.lst ((T0 ++ [p]).map V.int ++ ((ups p).filter fun u=>!putB Ef2 p u).map V.int))) b = some o:=fun b o hb e=>by rw [upd_ne hb]; exact sm _ _ (smn _ _ e)
     refine ⟨(c - (putK ke2 (Sum.inl p) (V.bl true)).length) * (n + 1) + ((T0 ++ [p]) ++ (ups p).filter fun u=>!putB Ef2 p u).length,?_,(T0 ++ [p]) ++ (ups p).filter (fun u=>!putB Ef2 p u),_,kf2,putB Ef2 p,Ff2,_,rfl,by rw [upd_same,← List.map_append],
      ⟨smt _ _ tE.symm hEE,hr2,smt _ _ tF.symm hFE,S.rF,fun b o h1 h2 e=>smt _ _ (ne_of_none e ht) (kp b o h1 h2 e),hrg2,S.f1,fun k hk=>?_,fun k e=>?_,fun k e u hu'=>?_⟩,fun k e=>?_,?_,?_,rfl⟩
     ·rw [hlen2,List.length_append (as:=T0 ++ [p])]
      have e1:c - ke2.length = (c - (ke2.length + 1)) + 1:=by omega
      rw [e1,Nat.add_mul (c - (ke2.length + 1)) 1 (n + 1),Nat.one_mul]
      omega
     ·rcases List.mem_append.mp hk with z | z
      ·exact S.t1 k z
      ·exact hUrg p k (List.mem_filter.mp z).1
     ·by_cases z:k = p
      ·subst z; right; simp
      ·unfold putB at e; rw [if_neg z] at e
       rcases S.a k e with y | y
       ·exact .inl y
       ·right; exact List.mem_append_left _ y
     ·by_cases z:k = p
      ·subst z
       cases q:putB Ef2 k u with
       | true=>exact .inl rfl
       | false=>right; exact List.mem_append_right _ (List.mem_filter.mpr ⟨hu',by simp [q]⟩)
      ·unfold putB at e; rw [if_neg z] at e
       rcases S.b k e u hu' with y | y
       ·left; unfold putB; split <;> first | rfl | exact y
       ·right; exact List.mem_append_left _ y
     ·unfold putB; split
      ·rfl
      ·exact mono k e
     ·rcases hs2 with z | z
      ·left; unfold putB; split <;> first | rfl | exact z
      ·right; exact List.mem_append_left _ z
     ·rw [hlen2,List.length_append (as:=T0 ++ [p])]; omega
  ·have hlt:T = []:=by
    cases T with
    | nil=>rfl
    | cons x r=>simp at hlt
   subst hlt
   refine k H2 ke2 kf2 Ef2 Ff2 S mono ?_
   rcases hs2 with z | z
   ·exact z
   ·simp at z
end
end At
set_option Elab.async false
set_option linter.all false
set_option maxRecDepth 100000
set_option maxHeartbeats 4000000
namespace At
open PySem L2 PyProof.Rows
section
variable {P:Program} {w:World} {K:PySem.W.Frag} {mg:Str→Option Value} {base:Heap}
def lowIn (ss:List Say) (k:Int):List Int:=(ss.filter fun s=>decide (s.1 = k)).map fun s=>s.2.1
theorem lowIn_snoc (ss:List Say) (s:Say) (k:Int):lowIn (ss ++ [s]) k = lowIn ss k ++ (if s.1 = k then [s.2.1] else []):=by
 unfold lowIn
 rw [List.filter_append,List.map_append]
 congr 1
 by_cases e:s.1 = k
 ·simp [e]
 ·simp [e]
theorem lowIn_len (ss:List Say) (k:Int):(lowIn ss k).length ≤ ss.length:=by
 unfold lowIn; rw [List.length_map]; exact List.length_filter_le _ _
theorem lowIn_mem {ss:List Say} {s:Say} (h:s ∈ ss):s.2.1 ∈ lowIn ss s.1:=by
 unfold lowIn
 exact List.mem_map.mpr ⟨s,List.mem_filter.mpr ⟨h,by simp⟩,rfl⟩
theorem lowIn_rg {ss:List Say} {c:Int} (hin:ss.all (inside c) = true) (k:Int):∀ u ∈ lowIn ss k,cnt c u = true:=by
 intro u hu
 obtain ⟨s,hs,rfl⟩:=List.mem_map.mp hu
 have:=List.all_eq_true.mp hin s (List.mem_filter.mp hs).1
 unfold inside at this
 rw [Bool.and_eq_true] at this
 exact this.2
def spFinOrd:Sp:=fun vs H Q _=>∃ (a:Addr) (ss:List Say) (c:Nat),vs = [.ref a]∧SaysAt H a ss∧ss.length ≤ 1000∧c ≤ 1000∧ss.all (inside c) = true ∧
 ∀ H' d kf Ff,Same H H'→H d = none→H' d = some (.dK kf)→DR kf (iS Ff)→(∀ s ∈ ss,Ff s.1 ≠ none∧Ff s.2.1 ≠ none)→Q (.ref d) H'
theorem scFinOrd:FnScope ["sayings","uppers","saying","entered","finished","start"] ["sayings"] (defScope s_finishing_order):=⟨rfl,rfl,rfl,by decide +kernel,rfl,by decide +kernel,by decide +kernel⟩
theorem ok_finOrd {f g:Addr} {fd gd:FuncData} (D:Def K mg "finishing_order" s_finishing_order ["sayings"] f fd) (DF:Def K mg "finish_from" s_finish_from ["start","uppers","entered","finished"] g gd) (G:G1 K mg):FnOk P w K mg base CX0 2 f fd ["sayings"] spFinOrd:=by
 have GF:FnOk P w K mg base CX0 1 g gd ["start","uppers","entered","finished"] spFinish:=ok_finish DF G
 refine D.fn.ok scFinOrd (fun vs H Q E h=>?_) (fun cdv A outer s H vs Q X hr h=>?_)
 ·obtain ⟨_,_,_,rfl,_⟩:=h; rfl
 ·obtain ⟨a,ss,c,rfl,ha,hz,hc,hin,k⟩:=h
  have hu:=hu_of hr
  obtain ⟨ps,ha,hS⟩:=ha.ex
  refine ⟨_,pss_cons (ps_set (i:=1) scFinOrd.nd rfl (Or.inl rfl) pe_dnewK)
   (pss_cons (ps_for PassesOwn.never rfl (pi_list (pv 0)) (pg_name (i:=2) scFinOrd.nd rfl (Or.inl rfl))
    (pss_one (ps_expr (pe_bm PySem.F.plainAttrs_list PySem.F.slot_list_append PySem.F.type_list_append mt_append (pe_dsetd (pv 1) (pe_ix ix_tup (pv 2) pe_int (fun _ _=>rfl)) (pe_lst pa_nil) ⟨rfl,rfl,rfl,rfl⟩) (pa_cons (pe_ix ix_tup (pv 2) pe_int (fun _ _=>rfl)) pa_nil)))))
   (pss_cons (ps_set (i:=3) scFinOrd.nd rfl (Or.inl rfl) pe_dnewK)
   (pss_cons (ps_set (i:=4) scFinOrd.nd rfl (Or.inl rfl) pe_dnewK)
   (pss_cons (ps_thaw (ps_for PassesOwn.never rfl (pi_dict (pv 1)) (pg_name (i:=5) scFinOrd.nd rfl (Or.inl rfl))
    (pss_one (ps_expr (pe_call GF hr (by rfl) DF.at_ DF.fn.kp DF.bd .nil pass0 (pa_cons (pv 5) (pa_cons (pv 1) (pa_cons (pv 3) (pa_cons (pv 4) pa_nil)))))))))
   (pss_one (ps_ret (pv 4))))))),?_⟩
  intro U hU
  have s0:Same H (upd H U (.dK [])):=fun b o e=>by rw [upd_ne (ne_of_none e hU)]; exact e
  refine ⟨_,rfl,a,rfl,⟨_,SqL.of (s0 _ _ ha)⟩,for_list (K:=K) (a:=a) (xs:=ps.map V.ref) (fun i σ H2=>∃ (ku:List (Key × V)) (Uf:Int→Option Addr) (v2:Option V),σ = [some (.ref a),some (.ref U),v2,none,none,none]∧Same H H2∧H2 U = some (.dK ku)∧DR ku (fun k=>(Uf k).map V.ref) ∧
    (∀ k b,Uf k = some b→H b = none∧b ≠ U∧H2 b = some (.lst ((lowIn (ss.take i) k).map V.int))∧cnt c k = true)∧(∀ k,Uf k = none→lowIn (ss.take i) k = [])∧(∀ k j b,Uf k = some b→Uf j = some b→k = j)∧(∀ s ∈ ss.take i,Uf s.1 ≠ none))
   ⟨[],fun _=>none,none,rfl,s0,upd_same,DR.nil,(fun k b z=>nomatch z),fun k _=>by simp [lowIn],(fun k j b z=>nomatch z),fun s hs=>by simp at hs⟩ (fun i σ H2 _ ⟨_,_,_,_,s2,_⟩=>SqL.of (s2 _ _ ha)) ?_ ?_⟩
  ·rintro i y σ H2 hi ⟨ku,Uf,v2,rfl,s2,hU2,rU,hl,hn,inj,cov⟩
   rw [List.getElem?_map] at hi
   cases ep:ps[i]? with
   | none=>rw [ep] at hi; cases hi
   | some p =>
    rw [ep] at hi; cases hi
    have hil:i < ss.length:=by rw [← hS.len]; exact (List.getElem?_eq_some_iff.mp ep).1
    have es:ss[i]? = some ss[i]:=List.getElem?_eq_getElem hil
    have hsin:inside c ss[i] = true:=List.all_eq_true.mp hin _ (List.getElem_mem hil)
    have hp:=s2 _ _ (hS.at_ i p _ ep es)
    have etk:ss.take (i + 1) = ss.take i ++ [ss[i]]:=by rw [List.take_add_one,es]; rfl
    rw [etk]
    generalize ss[i] = sx at es hsin hp etk
    obtain ⟨lo,up,nu⟩:=sx
    have hp:H2 p = some (.tup [.int lo,.int up,.int nu]):=hp
    have hlo:cnt c lo = true:=by unfold inside at hsin; rw [Bool.and_eq_true] at hsin; exact hsin.1
    have lU:ku.length ≤ c:=rU.len fun k v e=>by
     cases q:Uf k with
     | none=>rw [q] at e; cases e
     | some b=>exact (hl k b q).2.2.2
    refine ⟨_,rfl,U,rfl,.inl ⟨ku,.inl hU2⟩,_,rfl,_,_,_,_,rfl,rfl,SqT.of hp,rfl,by show 0 ≤ sizeLine; decide,fun nl hnl=>?_⟩
    have smn:Same H2 (upd H2 nl (.lst [])):=fun b o e=>by rw [upd_ne (ne_of_none e hnl)]; exact e
    have nlU:nl ≠ U:=(ne_of_none hU2 hnl).symm
    have fin:∀ (b:Addr) (ku':List (Key × V)) (Uf':Int→Option Addr) (H3:Hp),(∀ x o,x ≠ U→x ≠ nl→H2 x = some o→H3 x = some o)→H3 U = some (.dK ku')→DR ku' (fun k=>(Uf' k).map V.ref)→Uf' lo = some b→(∀ k d,Uf' k = some d→H d = none∧d ≠ U∧H3 d = some (.lst ((lowIn (ss.take i) k).map V.int))∧cnt c k = true) →
      (∀ k,Uf' k = none→lowIn (ss.take i) k = []∧k ≠ lo)→(∀ k j d,Uf' k = some d→Uf' j = some d→k = j)→(∀ k,Uf k ≠ none→Uf' k ≠ none) →
      tyV K "list" (.ref b) H3∧∃ v,[some (V.ref a),some (.ref U),some (.ref p),none,none,none][2]? = some (some v)∧∃ q xs j w,v = .ref q∧V.int 1 = .int j∧SqT K H3 q xs∧atI xs j = some w∧∃ l xs y,V.ref b = .ref l∧[w] = [y]∧H3 l = some (.lst xs)∧xs.length < sizeLine ∧
       ∃ (ku:List (Key × V)) (Uf:Int→Option Addr) (v2:Option V),[some (V.ref a),some (.ref U),some (.ref p),none,none,none] = [some (.ref a),some (.ref U),v2,none,none,none]∧Same H (upd H3 l (.lst (xs ++ [y])))∧(upd H3 l (.lst (xs ++ [y]))) U = some (.dK ku)∧DR ku (fun k=>(Uf k).map V.ref) ∧
       (∀ k b,Uf k = some b→H b = none∧b ≠ U∧(upd H3 l (.lst (xs ++ [y]))) b = some (.lst ((lowIn (ss.take i ++ [(lo,up,nu)]) k).map V.int))∧cnt c k = true)∧(∀ k,Uf k = none→lowIn (ss.take i ++ [(lo,up,nu)]) k = [])∧(∀ k j b,Uf k = some b→Uf j = some b→k = j)∧(∀ s ∈ ss.take i ++ [(lo,up,nu)],Uf s.1 ≠ none):=by
     intro b ku' Uf' H3 kp hU3 rU' hb hl' hn' inj' mono
     obtain ⟨b1,b2,b3,b4⟩:=hl' lo b hb
     have npU:p ≠ U:=ne_of hp hU2 (by intro z; cases z)
     have npn:p ≠ nl:=ne_of_none hp hnl
     have hp3:=kp p _ npU npn hp
     refine ⟨.inl ⟨rfl,_,SqL.of b3⟩,_,rfl,p,_,_,_,rfl,rfl,SqT.of hp3,rfl,b,_,_,rfl,rfl,b3,by rw [List.length_map]; exact small1000 (Nat.le_trans (lowIn_len _ _) (by rw [List.length_take]; omega)),ku',Uf',_,rfl,fun x o e=>?_,?_,rU',fun k d hd=>?_,fun k hk=>?_,inj',fun s hs=>?_⟩
     ·have nx:x ≠ b:=ne_of_none e b1
      rw [upd_ne nx]
      exact kp x o (ne_of_none e hU) (fun z=>by subst z; rw [s2 _ _ e] at hnl; cases hnl) (s2 _ _ e)
     ·rw [upd_ne b2.symm]; exact hU3
     ·obtain ⟨d1,d2,d3,d4⟩:=hl' k d hd
      refine ⟨d1,d2,?_,d4⟩
      rw [lowIn_snoc]
      by_cases q:k = lo
      ·subst q
       rw [hb] at hd; cases hd
       rw [upd_same,if_pos rfl,List.map_append]; rfl
      ·have nd:d ≠ b:=fun z=>by subst z; exact q (inj' k lo d hd hb)
       rw [upd_ne nd,if_neg (fun z=>q z.symm),List.append_nil]; exact d3
     ·obtain ⟨e1,e2⟩:=hn' k hk
      rw [lowIn_snoc,e1,if_neg (fun z=>e2 z.symm)]; rfl
     ·rcases List.mem_append.mp hs with z | z
      ·exact mono _ (cov s z)
      ·have:s = (lo,up,nu):=by simpa using z
       subst this
       show Uf' lo ≠ none
       rw [hb]; simp
    refine ⟨ku,Sum.inl lo,smn _ _ hU2,rfl,small1000 (by omega),fun v hv=>?_,fun hv=>?_⟩
    ·rw [rU.at_] at hv
     cases q:Uf lo with
     | none=>rw [q] at hv; cases hv
     | some b =>
      rw [q] at hv
      have hv:V.ref b = v:=Option.some.inj hv
      subst hv
      refine fin b ku Uf _ (fun x o _ _ e=>smn _ _ e) (smn _ _ hU2) rU q (fun k d hd=>?_) (fun k hk=>⟨hn k hk,fun z=>by subst z; rw [q] at hk; cases hk⟩) inj (fun _ z=>z)
      obtain ⟨d1,d2,d3,d4⟩:=hl k d hd
      exact ⟨d1,d2,smn _ _ d3,d4⟩
    ·rw [rU.at_] at hv
     have q:Uf lo = none:=by
      cases q:Uf lo with
      | none=>rfl
      | some b=>rw [q] at hv; cases hv
     have rU':=rU.put lo (.ref nl)
     have e1:putV (fun k=>(Uf k).map V.ref) lo (.ref nl) = fun k=>((if k = lo then some nl else Uf k).map V.ref):=by
      funext k; unfold putV; split <;> rfl
     rw [e1] at rU'
     have hH0:H nl = none:=s2.free hnl
     refine fin nl _ (fun k=>if k = lo then some nl else Uf k) _ (fun x o hx1 hx2 e=>by rw [upd_ne hx1]; exact smn _ _ e) upd_same rU' (if_pos rfl) (fun k d hd=>?_) (fun k hk=>?_) (fun k j d hk hj=>?_) (fun k hk=>?_)
     ·by_cases z:k = lo
      ·rw [if_pos z] at hd; cases hd
       subst z
       refine ⟨hH0,nlU,?_,hlo⟩
       rw [upd_ne nlU,upd_same,hn k q]; rfl
      ·rw [if_neg z] at hd
       obtain ⟨d1,d2,d3,d4⟩:=hl k d hd
       refine ⟨d1,d2,?_,d4⟩
       rw [upd_ne d2]; exact smn _ _ d3
     ·by_cases z:k = lo
      ·rw [if_pos z] at hk; cases hk
      ·rw [if_neg z] at hk; exact ⟨hn k hk,z⟩
     ·have fr:∀ k,Uf k = some nl→False:=fun k e=>by
       have:=(hl k nl e).2.2.1
       rw [hnl] at this; cases this
      by_cases z:k = lo
      ·rw [if_pos z] at hk; cases hk
       by_cases z2:j = lo
       ·rw [z,z2]
       ·rw [if_neg z2] at hj; exact (fr j hj).elim
      ·rw [if_neg z] at hk
       by_cases z2:j = lo
       ·rw [if_pos z2] at hj; cases hj; exact (fr k hk).elim
       ·rw [if_neg z2] at hj; exact inj k j d hk hj
     ·split
      ·simp
      ·exact hk
  ·rintro σ H2 ⟨ku,Uf,v2,rfl,s2,hU2,rU,hl,hn,inj,cov⟩
   rw [List.length_map,hS.len,List.take_length] at hl hn cov
   intro E hE F hF
   have nUE:U ≠ E:=ne_of_none hU2 hE
   have nUF:U ≠ F:=fun z=>by subst z; rw [upd_ne nUE,hU2] at hF; cases hF
   have nEF:E ≠ F:=fun z=>by subst z; rw [upd_same] at hF; cases hF
   have hF2:H2 F = none:=by rw [upd_ne nEF.symm] at hF; exact hF
   have sEF:Same H2 (upd (upd H2 E (.dK [])) F (.dK [])):=fun b o e=>by rw [upd_ne (ne_of_none e hF2),upd_ne (ne_of_none e hE)]; exact e
   refine ⟨_,rfl,U,ku,rfl,sEF _ _ hU2,fun o=>?_⟩
   have nUo:∀ {b:Addr} {x:HO},H2 b = some x→b ≠ U→(upd (upd (upd H2 E (.dK [])) F (.dK [])) U (.frz o (.dK ku))) b = some x:=fun {b x} e hb=>by rw [upd_ne hb]; exact sEF _ _ e
   have eE:(upd (upd (upd H2 E (.dK [])) F (.dK [])) U (.frz o (.dK ku))) E = some (.dK []):=by rw [upd_ne nUE.symm,upd_ne nEF,upd_same]
   have eF:(upd (upd (upd H2 E (.dK [])) F (.dK [])) U (.frz o (.dK ku))) F = some (.dK []):=by rw [upd_ne nUF.symm,upd_same]
   have eU:(upd (upd (upd H2 E (.dK [])) F (.dK [])) U (.frz o (.dK ku))) U = some (.frz o (.dK ku)):=upd_same
   generalize (upd (upd (upd H2 E (.dK [])) F (.dK [])) U (.frz o (.dK ku))) = H3 at nUo eE eF eU
   have lst3:∀ k b,Uf k = some b→H3 b = some (.lst ((lowIn ss k).map V.int)):=fun k b e=>nUo (hl k b e).2.2.1 (hl k b e).2.1
   have upsOk:∀ {H4:Hp},(∀ b x,b ≠ E→b ≠ F→H3 b = some x→H4 b = some x)→UpsOk H4 U (lowIn ss) c ss.length:=fun {H4} kp =>
    ⟨⟨ku,Uf,.inr ⟨o,kp _ _ nUE nUF eU⟩,rU,fun k b e=>kp _ _ (ne_of (lst3 k b e) eE (by intro z; cases z)) (ne_of (lst3 k b e) eF (by intro z; cases z)) (lst3 k b e),hn⟩,lowIn_len ss,lowIn_rg hin⟩
   refine for_dict (d:=U) (o:=o) (kvs:=ku) (fun i σ H4=>∃ (ke kf:List (Key × V)) (Ef:Int→Bool) (Ff:Fn) (v5:Option V),σ = [some (.ref a),some (.ref U),v2,some (.ref E),some (.ref F),v5]∧FS c ss.length H3 E F (lowIn ss) H4 [] ke kf Ef Ff∧∀ j,j < i→∀ p,ku[j]? = some p→Ef (keyI p.1) = true)
    ⟨[],[],fun _=>false,fun _=>none,none,rfl,⟨eE,DR.nil,eF,DR.nil,(fun b o _ _ e=>e),(fun k e=>nomatch e),(fun k v e=>nomatch e),(fun k hk=>by simp at hk),(fun k e=>nomatch e),(fun k e=>nomatch e)⟩,fun j hj=>by omega⟩
    (fun i σ H4 ⟨_,_,_,_,_,_,S,_⟩=>S.keep _ _ nUE nUF eU) ?_ ?_
   ·rintro i p σ H4 hi ⟨ke,kf,Ef,Ff,v5,rfl,S,seen⟩
    have hpm:p ∈ ku:=List.mem_of_getElem? hi
    obtain ⟨pe,pn⟩:=rU.mem hpm
    have hck:cnt c (keyI p.1) = true:=by
     cases q:Uf (keyI p.1) with
     | none=>rw [q] at pn; exact absurd rfl pn
     | some b=>exact (hl _ b q).2.2.2
    have ekv:kV p.1 = .int (keyI p.1):=by rw [pe]; rfl
    rw [ekv]
    refine ⟨_,rfl,_,rfl,_,rfl,_,rfl,keyI p.1,U,E,F,c,ss.length,lowIn ss,ke,kf,Ef,Ff,rfl,hc,hz,hck,nEF,nUE,nUF,upsOk S.keep,⟨S.hE,S.rE,S.hF,S.rF,(fun b o _ _ e=>e),S.e1,S.f1,S.t1,S.a,S.b⟩,fun H5 ke' kf' Ef' Ff' S' mono hst=>?_⟩
    refine ⟨ke',kf',Ef',Ff',_,rfl,⟨S'.hE,S'.rE,S'.hF,S'.rF,fun b x h1 h2 e=>S'.keep b x h1 h2 (S.keep b x h1 h2 e),S'.e1,S'.f1,S'.t1,S'.a,S'.b⟩,fun j hj q hq=>?_⟩
    by_cases z:j = i
    ·subst z; rw [hi] at hq; cases hq; exact hst
    ·exact mono _ (seen j (by omega) q hq)
   ·rintro σ H4 ⟨ke,kf,Ef,Ff,v5,rfl,S,seen⟩
    have hU4:=S.keep _ _ nUE nUF eU
    refine ⟨U,o,ku,hU4,(fun o' u z=>by
     have z:H U = some (.frz o' u):=z
     rw [hU] at z; cases z),?_⟩
    have allE:∀ k,Uf k ≠ none→Ef k = true:=fun k hk=>by
     have hm:k ∈ keysI ku:=rU.keysMem.mpr (by cases q:Uf k with
      | none=>exact absurd q hk
      | some b=>simp)
     obtain ⟨q,hq,e⟩:=List.mem_map.mp hm
     obtain ⟨j,hj,ej⟩:=List.mem_iff_getElem.mp hq
     rw [← e]
     exact seen j hj q (by rw [← ej]; simp)
    have fin0:∀ k,Ef k = true→Ff k ≠ none:=fun k e=>by
     rcases S.a k e with z | z
     ·exact z
     ·simp at z
    refine ⟨_,rfl,k _ F kf Ff (fun b x e=>?_) (s2.free hF2) ?_ S.rF fun sx hsx=>?_⟩
    ·have hb:b ≠ U:=ne_of_none e hU
     rw [upd_ne hb]
     exact S.keep b x (fun z=>by subst z; rw [s2 _ _ e] at hE; cases hE) (fun z=>by subst z; rw [s2 _ _ e] at hF2; cases hF2) (nUo (s2 _ _ e) hb)
    ·rw [upd_ne nUF.symm]; exact S.hF
    ·have e1:=allE sx.1 (cov sx hsx)
     refine ⟨fin0 _ e1,fin0 _ ?_⟩
     rcases S.b sx.1 e1 sx.2.1 (lowIn_mem hsx) with z | z
     ·exact z
     ·simp at z
end
end At
set_option Elab.async false
set_option linter.all false
set_option maxRecDepth 100000
set_option maxHeartbeats 4000000
namespace At
open PySem L2 PyProof.Rows
section
variable {P:Program} {w:World} {K:PySem.W.Frag} {mg:Str→Option Value} {base:Heap}
inductive Rch (ss:List Say) (ord:List Int) (other:Int):Int→Prop
 | refl:Rch ss ord other other
 | step {k:Int} (h:k ∈ ord) (r:Rch ss ord other (sy ss k).2.1):Rch ss ord other (sy ss k).1
def flip1 (ss:List Say) (k:Int):Say:=((sy ss k).2.1,(sy ss k).1,0)
def spLead:Sp:=fun vs H Q _=>∃ (a O:Addr) (ss:List Say) (c:Nat) (ord:List Int) (other:Int),vs = [.ref a,.ref O,.int other]∧SaysAt H a ss∧H O = some (.lst (ord.map V.int))∧ord.length ≤ 400∧c ≤ 400∧ss.all (inside c) = true∧cnt c other = true∧(∀ k ∈ ord,cnt ss.length k = true) ∧
 ∀ (H':Hp) (d:Addr) (kd:List (Key × V)) (Ef:Int→Bool),Same H H'→H d = none→H' d = some (.dK kd)→DR kd (bS Ef)→Ef other = true→(∀ k ∈ ord,Ef (sy ss k).2.1 = true→Ef (sy ss k).1 = true)→(∀ p,Ef p = true→cnt c p = true∧Rch ss ord other p)→Q (.ref d) H'
theorem scLead:FnScope ["sayings","order","other","lowers","at","leading","todo","place","lower"] ["sayings","order","other"] (defScope s_leading_to):=⟨rfl,rfl,rfl,by decide +kernel,rfl,by decide +kernel,by decide +kernel⟩
theorem low_flip {ss:List Say} {ord:List Int} {p:Int}:∀ {l:Int},l ∈ lowIn (ord.map (flip1 ss)) p→∃ k ∈ ord,(sy ss k).2.1 = p∧(sy ss k).1 = l:=fun {l} h=>by
 unfold lowIn at h
 obtain ⟨s,hs,rfl⟩:=List.mem_map.mp h
 obtain ⟨h1,h2⟩:=List.mem_filter.mp hs
 obtain ⟨k,hk,rfl⟩:=List.mem_map.mp h1
 exact ⟨k,hk,of_decide_eq_true h2,rfl⟩
theorem flip_low {ss:List Say} {ord:List Int} {k:Int} (h:k ∈ ord):(sy ss k).1 ∈ lowIn (ord.map (flip1 ss)) (sy ss k).2.1:=lowIn_mem (s:=flip1 ss k) (List.mem_map.mpr ⟨k,h,rfl⟩)
theorem ok_lead {f:Addr} {fd:FuncData} (D:Def K mg "leading_to" s_leading_to ["sayings","order","other"] f fd) (G:G1 K mg):FnOk P w K mg base CX0 1 f fd ["sayings","order","other"] spLead:=by
 refine D.fn.ok scLead (fun vs H Q E h=>?_) (fun cdv A outer s H vs Q X hr h=>?_)
 ·obtain ⟨_,_,_,_,_,_,rfl,_⟩:=h; rfl
 ·obtain ⟨a,O,ss,c,ord,other,rfl,ha,hO,hz,hc,hin,hot,hord,k⟩:=h
  have hu:=hu_of hr
  obtain ⟨ps,ha,hS⟩:=ha.ex
  refine ⟨_,pss_cons (ps_set (i:=3) scLead.nd rfl (Or.inl rfl) pe_dnewK)
   (pss_cons (ps_for PassesOwn.never rfl (pi_list (pv 1)) (pg_name (i:=4) scLead.nd rfl (Or.inl rfl))
    (pss_one (ps_expr (pe_bm PySem.F.plainAttrs_list PySem.F.slot_list_append PySem.F.type_list_append mt_append (pe_dsetd (pv 3) (pe_ix ix_tup (pe_ix ix_list (pv 0) (pv 4) (fun _ _=>rfl)) pe_int (fun _ _=>rfl)) (pe_lst pa_nil) ⟨rfl,rfl,rfl,rfl⟩) (pa_cons (pe_ix ix_tup (pe_ix ix_list (pv 0) (pv 4) (fun _ _=>rfl)) pe_int (fun _ _=>rfl)) pa_nil)))))
   (pss_cons (ps_set (i:=5) scLead.nd rfl (Or.inl rfl) (pe_disp (pps_cons (pv 2) pe_bl pps_nil) rfl rfl (by simp) (by decide)))
   (pss_cons (ps_set (i:=6) scLead.nd rfl (Or.inl rfl) (pe_lst (pa_cons (pv 2) pa_nil)))
   (pss_cons (ps_while PassesOwn.never (pt_cmpR op_gt (pe_callB call_len_seq (by rfl) G.len PySem.boot_len (pa_cons (pv 6) pa_nil)) pe_int (nomark _))
    (pss_cons (ps_set (i:=7) scLead.nd rfl (Or.inl rfl) (pe_bm0 PySem.F.plainAttrs_list PySem.F.slot_list_pop PySem.F.type_list_pop mt_pop (pv 6)))
    (pss_one (ps_for PassesOwn.never rfl (pi_list (pe_dget2 hu (pv 3) (pv 7) (pe_lst pa_nil) ⟨rfl,rfl,rfl,rfl⟩)) (pg_name (i:=8) scLead.nd rfl (Or.inl rfl))
     (pss_one (ps_if (pt_cmp (pc_dnotin hu (pv 8) (pv 5)))
      (pss_cons (ps_dput hu (pv 5) (pv 8) pe_bl rfl)
      (pss_one (ps_expr (pe_bm PySem.F.plainAttrs_list PySem.F.slot_list_append PySem.F.type_list_append mt_append (pv 6) (pa_cons (pv 8) pa_nil))))) pss_nil))))))
   (pss_one (ps_ret (pv 5))))))),?_⟩
  intro U hU
  have s0:Same H (upd H U (.dK [])):=Same.up hU
  have rgk:∀ j,cnt ss.length j = true→cnt c (sy ss j).2.1 = true:=fun j hj=>(sy_in hin hj).2
  refine ⟨_,rfl,O,rfl,⟨_,SqL.of (s0 _ _ hO)⟩,for_list (K:=K) (a:=O) (xs:=ord.map V.int) (fun i σ H2=>∃ (ku:List (Key × V)) (Uf:Int→Option Addr) (v4:Option V),σ = [some (.ref a),some (.ref O),some (.int other),some (.ref U),v4,none,none,none,none]∧Same H H2∧H2 U = some (.dK ku)∧DR ku (fun k=>(Uf k).map V.ref) ∧
    (∀ k b,Uf k = some b→H b = none∧b ≠ U∧H2 b = some (.lst ((lowIn ((ord.map (flip1 ss)).take i) k).map V.int))∧cnt c k = true)∧(∀ k,Uf k = none→lowIn ((ord.map (flip1 ss)).take i) k = [])∧(∀ k j b,Uf k = some b→Uf j = some b→k = j))
   ⟨[],fun _=>none,none,rfl,s0,upd_same,DR.nil,(fun k b z=>nomatch z),fun k _=>by simp [lowIn],(fun k j b z=>nomatch z)⟩ (fun i σ H2 _ ⟨_,_,_,_,s2,_⟩=>SqL.of (s2 _ _ hO)) ?_ ?_⟩
  ·rintro i y σ H2 hi ⟨ku,Uf,v4,rfl,s2,hU2,rU,hl,hn,inj⟩
   rw [List.getElem?_map] at hi
   cases en:ord[i]? with
   | none=>rw [en] at hi; cases hi
   | some z =>
    rw [en] at hi; cases hi
    have hz1:cnt ss.length z = true:=hord z (List.mem_of_getElem? en)
    obtain ⟨p,ep,hp0⟩:=says_at hS hz1
    have hp:=s2 _ _ hp0
    have ha2:=s2 _ _ ha
    have etk:(ord.map (flip1 ss)).take (i + 1) = (ord.map (flip1 ss)).take i ++ [flip1 ss z]:=by rw [List.take_add_one,List.getElem?_map,en]; rfl
    rw [etk]
    have hlo:=rgk z hz1
    have lU:ku.length ≤ c:=rU.len fun k v e=>by
     cases q:Uf k with
     | none=>rw [q] at e; cases e
     | some b=>exact (hl k b q).2.2.2
    refine ⟨_,rfl,U,rfl,.inl ⟨ku,.inl hU2⟩,_,rfl,_,rfl,a,_,_,_,rfl,rfl,SqL.of ha2,ep,p,_,_,_,rfl,rfl,SqT.of hp,rfl,by show 0 ≤ sizeLine; decide,fun nl hnl=>?_⟩
    have smn:Same H2 (upd H2 nl (.lst [])):=Same.up hnl
    have nlU:nl ≠ U:=(ne_of_none hU2 hnl).symm
    have hlt:((lowIn ((ord.map (flip1 ss)).take i) (sy ss z).2.1).map V.int).length < sizeLine:=by
     rw [List.length_map]
     exact small1000 (Nat.le_trans (lowIn_len _ _) (by rw [List.length_take,List.length_map]; omega))
    have lf:∀ k,lowIn ((ord.map (flip1 ss)).take i ++ [flip1 ss z]) k = lowIn ((ord.map (flip1 ss)).take i) k ++ (if (sy ss z).2.1 = k then [(sy ss z).1] else []):=fun k=>lowIn_snoc _ _ k
    have aft:∀ (b:Addr) (ku':List (Key × V)) (Uf':Int→Option Addr) (H3:Hp),(∀ x o,x ≠ U→x ≠ nl→H2 x = some o→H3 x = some o)→H3 U = some (.dK ku')→DR ku' (fun k=>(Uf' k).map V.ref)→Uf' (sy ss z).2.1 = some b→(∀ k d,Uf' k = some d→H d = none∧d ≠ U∧H3 d = some (.lst ((lowIn ((ord.map (flip1 ss)).take i) k).map V.int))∧cnt c k = true) →
      (∀ k,Uf' k = none→lowIn ((ord.map (flip1 ss)).take i) k = []∧k ≠ (sy ss z).2.1)→(∀ k j d,Uf' k = some d→Uf' j = some d→k = j) →
      H3 a = some (.lst (ps.map V.ref))∧H3 p = some (.tup [.int (sy ss z).1,.int (sy ss z).2.1,.int (sy ss z).2.2])∧H3 b = some (.lst ((lowIn ((ord.map (flip1 ss)).take i) (sy ss z).2.1).map V.int)) ∧
      ∃ (ku:List (Key × V)) (Uf:Int→Option Addr) (v4:Option V),[some (.ref a),some (.ref O),some (.int other),some (.ref U),some (V.int z),none,none,none,none] = [some (.ref a),some (.ref O),some (.int other),some (.ref U),v4,none,none,none,none]∧Same H (upd H3 b (.lst ((lowIn ((ord.map (flip1 ss)).take i) (sy ss z).2.1).map V.int ++ [V.int (sy ss z).1])))∧(upd H3 b (.lst ((lowIn ((ord.map (flip1 ss)).take i) (sy ss z).2.1).map V.int ++ [V.int (sy ss z).1]))) U = some (.dK ku)∧DR ku (fun k=>(Uf k).map V.ref) ∧
       (∀ k b',Uf k = some b'→H b' = none∧b' ≠ U∧(upd H3 b (.lst ((lowIn ((ord.map (flip1 ss)).take i) (sy ss z).2.1).map V.int ++ [V.int (sy ss z).1]))) b' = some (.lst ((lowIn ((ord.map (flip1 ss)).take i ++ [flip1 ss z]) k).map V.int))∧cnt c k = true)∧(∀ k,Uf k = none→lowIn ((ord.map (flip1 ss)).take i ++ [flip1 ss z]) k = [])∧(∀ k j b,Uf k = some b→Uf j = some b→k = j):=by
     intro b ku' Uf' H3 kp hU3 rU' hb hl' hn' inj'
     obtain ⟨b1,b2,b3,b4⟩:=hl' _ b hb
     have kpH:∀ x o,H x = some o→H3 x = some o:=fun x o e=>kp x o (ne_of_none e hU) (fun q=>by subst q; rw [s2 _ _ e] at hnl; cases hnl) (s2 _ _ e)
     refine ⟨kpH _ _ ha,kpH _ _ hp0,b3,ku',Uf',_,rfl,fun x o e=>?_,?_,rU',fun k d hd=>?_,fun k hk=>?_,inj'⟩
     ·rw [upd_ne (ne_of_none e b1)]; exact kpH x o e
     ·rw [upd_ne b2.symm]; exact hU3
     ·obtain ⟨d1,d2,d3,d4⟩:=hl' k d hd
      refine ⟨d1,d2,?_,d4⟩
      rw [lf]
      by_cases q:k = (sy ss z).2.1
      ·subst q
       rw [hb] at hd; cases hd
       rw [upd_same,if_pos rfl,List.map_append]; rfl
      ·have nd:d ≠ b:=fun y=>by subst y; exact q (inj' k _ d hd hb)
       rw [upd_ne nd,if_neg (fun y=>q y.symm),List.append_nil]; exact d3
     ·obtain ⟨e1,e2⟩:=hn' k hk
      rw [lf,e1,if_neg (fun y=>e2 y.symm)]; rfl
    refine ⟨ku,Sum.inl (sy ss z).2.1,smn _ _ hU2,rfl,small1000 (by omega),fun v hv=>?_,fun hv=>?_⟩
    ·rw [rU.at_] at hv
     cases q:Uf (sy ss z).2.1 with
     | none=>rw [q] at hv; cases hv
     | some b =>
      rw [q] at hv
      have hv:V.ref b = v:=Option.some.inj hv
      subst hv
      obtain ⟨g1,g2,g3,g4⟩:=aft b ku Uf _ (fun x o _ _ e=>smn _ _ e) (smn _ _ hU2) rU q (fun k d hd=>by
       obtain ⟨d1,d2,d3,d4⟩:=hl k d hd
       exact ⟨d1,d2,smn _ _ d3,d4⟩) (fun k hk=>⟨hn k hk,fun y=>by subst y; rw [q] at hk; cases hk⟩) inj
      exact ⟨.inl ⟨rfl,_,SqL.of g3⟩,_,rfl,_,rfl,a,_,_,_,rfl,rfl,SqL.of g1,ep,p,_,_,_,rfl,rfl,SqT.of g2,rfl,b,_,_,rfl,rfl,g3,hlt,g4⟩
    ·rw [rU.at_] at hv
     have q:Uf (sy ss z).2.1 = none:=by
      cases q:Uf (sy ss z).2.1 with
      | none=>rfl
      | some b=>rw [q] at hv; cases hv
     have rU':=rU.put (sy ss z).2.1 (.ref nl)
     have e1:putV (fun k=>(Uf k).map V.ref) (sy ss z).2.1 (.ref nl) = fun k=>((if k = (sy ss z).2.1 then some nl else Uf k).map V.ref):=by
      funext k; unfold putV; split <;> rfl
     rw [e1] at rU'
     have hH0:H nl = none:=s2.free hnl
     have fr:∀ k,Uf k = some nl→False:=fun k e=>by
      have:=(hl k nl e).2.2.1
      rw [hnl] at this; cases this
     obtain ⟨g1,g2,g3,g4⟩:=aft nl _ (fun k=>if k = (sy ss z).2.1 then some nl else Uf k) _ (fun x o hx1 hx2 e=>by rw [upd_ne hx1]; exact smn _ _ e) upd_same rU' (if_pos rfl) (fun k d hd=>by
      by_cases y:k = (sy ss z).2.1
      ·rw [if_pos y] at hd; cases hd
       subst y
       refine ⟨hH0,nlU,?_,hlo⟩
       rw [upd_ne nlU,upd_same,hn _ q]; rfl
      ·rw [if_neg y] at hd
       obtain ⟨d1,d2,d3,d4⟩:=hl k d hd
       refine ⟨d1,d2,?_,d4⟩
       rw [upd_ne d2]; exact smn _ _ d3) (fun k hk=>by
      by_cases y:k = (sy ss z).2.1
      ·rw [if_pos y] at hk; cases hk
      ·rw [if_neg y] at hk; exact ⟨hn k hk,y⟩) (fun k j d hk hj=>by
      by_cases y:k = (sy ss z).2.1
      ·rw [if_pos y] at hk; cases hk
       by_cases y2:j = (sy ss z).2.1
       ·rw [y,y2]
       ·rw [if_neg y2] at hj; exact (fr j hj).elim
      ·rw [if_neg y] at hk
       by_cases y2:j = (sy ss z).2.1
       ·rw [if_pos y2] at hj; cases hj; exact (fr k hk).elim
       ·rw [if_neg y2] at hj; exact inj k j d hk hj)
     exact ⟨.inl ⟨rfl,_,SqL.of g3⟩,_,rfl,_,rfl,a,_,_,_,rfl,rfl,SqL.of g1,ep,p,_,_,_,rfl,rfl,SqT.of g2,rfl,nl,_,_,rfl,rfl,g3,hlt,g4⟩
  ·rintro σ H2 ⟨ku,Uf,v4,rfl,s2,hU2,rU,hl,hn,inj⟩
   rw [List.length_map,show ord.length = (ord.map (flip1 ss)).length by rw [List.length_map],List.take_length] at hl hn
   have rgl:∀ p,∀ l ∈ lowIn (ord.map (flip1 ss)) p,cnt c l = true:=fun p l hl'=>by
    obtain ⟨j,hj,_,e⟩:=low_flip hl'
    rw [← e]; exact (sy_in hin (hord j hj)).1
   intro E hE
   have nUE:U ≠ E:=ne_of_none hU2 hE
   refine ⟨_,rfl,upd_same,[(Sum.inl other,.bl true)],rfl,(by show 1 ≤ 15; decide),?_⟩
   have hEH:H E = none:=s2.free hE
   have s3:∀ b o,H2 b = some o→(upd (upd H2 E (.dK [])) E (.dK (mergeK [] [(Sum.inl other,.bl true)]))) b = some o:=fun b o e=>by rw [upd_ne (ne_of_none e hE),upd_ne (ne_of_none e hE)]; exact e
   have hEE:(upd (upd H2 E (.dK [])) E (.dK (mergeK [] [(Sum.inl other,.bl true)]))) E = some (.dK (putK [] (Sum.inl other) (.bl true))):=upd_same
   generalize (upd (upd H2 E (.dK [])) E (.dK (mergeK [] [(Sum.inl other,.bl true)]))) = H3 at s3 hEE
   have r0:DR (putK [] (Sum.inl other) (.bl true)) (bS (putB (fun _=>false) other)):=DR.bput (E:=fun _=>false) DR.nil other
   refine ⟨_,rfl,by show 1 ≤ sizeLine; decide,fun T hT=>?_⟩
   have nTE:T ≠ E:=(ne_of_none hEE hT).symm
   have nTU:T ≠ U:=(ne_of_none (s3 _ _ hU2) hT).symm
   have hTH:H T = none:=s2.free (by
    cases q:H2 T with
    | none=>rfl
    | some o=>rw [s3 _ _ q] at hT; cases hT)
   have lst:∀ p b,Uf p = some b→b ≠ E∧b ≠ T:=fun p b e=>by
    have h4:=(hl p b e).2.2.1
    exact ⟨ne_of_none h4 hE,ne_of_none (s3 _ _ h4) hT⟩
   refine ⟨fun m σ H4=>∃ (kd:List (Key × V)) (Ef:Int→Bool) (ts:List Int) (v7 v8:Option V),m = 2 * (c - kd.length) + ts.length∧σ = [some (.ref a),some (.ref O),some (.int other),some (.ref U),v4,some (.ref E),some (.ref T),v7,v8]∧H4 E = some (.dK kd)∧DR kd (bS Ef)∧H4 T = some (.lst (ts.map V.int)) ∧
     (∀ b o,b ≠ E→b ≠ T→H3 b = some o→H4 b = some o)∧Ef other = true∧(∀ p,Ef p = true→cnt c p = true∧Rch ss ord other p)∧(∀ p ∈ ts,Ef p = true)∧(∀ p,Ef p = true→p ∉ ts→∀ l ∈ lowIn (ord.map (flip1 ss)) p,Ef l = true)∧ts.length ≤ kd.length,⟨_,_,_,[other],none,none,rfl,rfl,by rw [upd_ne nTE.symm]; exact hEE,r0,upd_same,fun b o _ h2 e=>by rw [upd_ne h2]; exact e,by simp [putB],fun p e=>?_,fun p hp=>?_,fun p e hn'=>?_,?_⟩,?_⟩
   ·have:p = other:=by
     unfold putB at e
     split at e
     ·assumption
     ·cases e
    subst this
    exact ⟨hot,.refl⟩
   ·have:p = other:=by simpa using hp
    subst this; simp [putB]
   ·have:p = other:=by
     unfold putB at e
     split at e
     ·assumption
     ·cases e
    subst this; simp at hn'
   ·exact Nat.le_refl _
   rintro m σ H4 ⟨kd,Ef,ts,v7,v8,rfl,rfl,hE4,rE,hT4,kp4,oth,snd,inT,clo,len4⟩
   have lE:kd.length ≤ c:=rE.len (bS_range fun p e=>(snd p e).1)
   refine ⟨_,rfl,T,_,rfl,.inl (SqL.of hT4),_,_,rfl,rfl,_,rfl,?_⟩
   rw [List.length_map]
   refine ite2 (fun hlt=>?_) (fun hlt=>?_)
   ·have hlt:0 < ts.length:=by simpa using hlt
    obtain ⟨T0,p,rfl⟩:∃ T0 p,ts = T0 ++ [p]:=⟨ts.dropLast,ts.getLast (List.length_pos_iff.mp hlt),(List.dropLast_concat_getLast _).symm⟩
    have hp1:Ef p = true:=inT p (by simp)
    refine ⟨_,fun σ' H' z=>z,?_⟩
    refine ⟨_,rfl,.inl ⟨rfl,_,SqL.of hT4⟩,T,_,.int p,rfl,rfl,hT4,by simp,?_⟩
    have edl:((T0 ++ [p]).map V.int).dropLast = T0.map V.int:=by rw [List.map_append]; simp
    rw [edl]
    have hE5:(upd H4 T (.lst (T0.map V.int))) E = some (.dK kd):=by rw [upd_ne nTE.symm]; exact hE4
    have hT5:(upd H4 T (.lst (T0.map V.int))) T = some (.lst (T0.map V.int)):=upd_same
    have kp5:∀ b o,b ≠ E→b ≠ T→H3 b = some o→(upd H4 T (.lst (T0.map V.int))) b = some o:=fun b o h1 h2 e=>by rw [upd_ne h2]; exact kp4 b o h1 h2 e
    generalize (upd H4 T (.lst (T0.map V.int))) = H5 at hE5 hT5 kp5
    have hU5:=kp5 _ _ nUE nTU.symm (s3 _ _ hU2)
    refine ⟨_,rfl,U,rfl,.inl ⟨ku,.inl hU5⟩,_,rfl,by show 0 ≤ sizeLine; decide,fun nl hnl=>?_⟩
    have smn:Same H5 (upd H5 nl (.lst [])):=Same.up hnl
    refine ⟨valV ku (Sum.inl p),.inl ⟨ku,Sum.inl p,.inl (smn _ _ hU5),rfl,rfl⟩,?_⟩
    obtain ⟨l,hl1,hlv,nlE,nlT⟩:∃ l,(valV ku (Sum.inl p)).getD (.ref nl) = .ref l∧(upd H5 nl (.lst [])) l = some (.lst ((lowIn (ord.map (flip1 ss)) p).map V.int))∧l ≠ E∧l ≠ T:=by
     rw [rU.at_]
     cases q:Uf p with
     | none=>exact ⟨nl,rfl,by rw [hn p q]; exact upd_same,(ne_of_none hE5 hnl).symm,(ne_of_none hT5 hnl).symm⟩
     | some b =>
      obtain ⟨h1,h2⟩:=lst p b q
      exact ⟨b,rfl,smn _ _ (kp5 b _ h1 h2 (s3 _ _ (hl p b q).2.2.1)),h1,h2⟩
    refine ⟨l,hl1,⟨_,SqL.of hlv⟩,?_⟩
    have hE6:=smn _ _ hE5
    have hT6:=smn _ _ hT5
    have kp6:∀ b o,b ≠ E→b ≠ T→H3 b = some o→(upd H5 nl (.lst [])) b = some o:=fun b o h1 h2 e=>smn _ _ (kp5 b o h1 h2 e)
    generalize (upd H5 nl (.lst [])) = H6 at hE6 hT6 kp6 hlv
    refine for_list (K:=K) (a:=l) (xs:=(lowIn (ord.map (flip1 ss)) p).map V.int) (fun i σ H7=>∃ (kd7:List (Key × V)) (Ef7:Int→Bool) (ts7:List Int) (v8:Option V),σ = [some (.ref a),some (.ref O),some (.int other),some (.ref U),v4,some (.ref E),some (.ref T),some (.int p),v8]∧H7 E = some (.dK kd7)∧DR kd7 (bS Ef7)∧H7 T = some (.lst (ts7.map V.int)) ∧
      (∀ b o,b ≠ E→b ≠ T→H6 b = some o→H7 b = some o)∧(∀ q,Ef q = true→Ef7 q = true)∧(∀ q,Ef7 q = true→cnt c q = true∧Rch ss ord other q)∧(∀ q ∈ ts7,Ef7 q = true)∧(∀ q ∈ T0,q ∈ ts7)∧(∀ q,Ef7 q = true→Ef q = true ∨ q ∈ ts7)∧(∀ q ∈ (lowIn (ord.map (flip1 ss)) p).take i,Ef7 q = true)∧2 * (c - kd7.length) + ts7.length ≤ 2 * (c - kd.length) + T0.length∧ts7.length ≤ kd7.length)
     ⟨kd,Ef,T0,_,rfl,hE6,rE,hT6,(fun b o _ _ e=>e),(fun _ z=>z),snd,fun q hq=>inT q (by simp [hq]),(fun _ z=>z),(fun _ z=>.inl z),fun q hq=>by simp at hq,Nat.le_refl _,by rw [List.length_append] at len4; have:[p].length = 1:=rfl; omega⟩
     (fun i σ H7 _ ⟨_,_,_,_,_,_,_,_,kp7,_⟩=>SqL.of (kp7 _ _ nlE nlT hlv)) ?_ ?_
    ·rintro i y σ H7 hi ⟨kd7,Ef7,ts7,v8,rfl,hE7,rE7,hT7,kp7,mono,snd7,inT7,sub7,new7,don7,ms7,ln7⟩
     rw [List.getElem?_map] at hi
     cases en:(lowIn (ord.map (flip1 ss)) p)[i]? with
     | none=>rw [en] at hi; cases hi
     | some q =>
      rw [en] at hi; cases hi
      have hq:q ∈ lowIn (ord.map (flip1 ss)) p:=List.mem_of_getElem? en
      have cq:=rgl p q hq
      have rq:Rch ss ord other q:=by
       obtain ⟨j,hj,e1,e2⟩:=low_flip hq
       rw [← e2]
       exact .step hj (by rw [e1]; exact (snd p hp1).2)
      have etk:(lowIn (ord.map (flip1 ss)) p).take (i + 1) = (lowIn (ord.map (flip1 ss)) p).take i ++ [q]:=by rw [List.take_add_one,en]; rfl
      rw [etk]
      have lE7:kd7.length ≤ c:=rE7.len (bS_range fun p e=>(snd7 p e).1)
      refine ⟨_,rfl,_,rfl,E,_,rfl,.inl ⟨kd7,Sum.inl q,.inl hE7,rfl,rfl⟩,_,rfl,?_⟩
      rw [rE7.at_]
      cases hq7:Ef7 q with
      | true =>
       rw [show bS Ef7 q = some (.bl true) from by unfold bS; rw [hq7]; rfl]
       refine iteF ⟨kd7,Ef7,ts7,_,rfl,hE7,rE7,hT7,kp7,mono,snd7,inT7,sub7,new7,fun x hx=>?_,ms7,ln7⟩
       rcases List.mem_append.mp hx with z | z
       ·exact don7 x z
       ·have:x = q:=by simpa using z
        subst this; exact hq7
      | false =>
       rw [bS_none.mpr hq7]
       have r8:=rE7.bput q
       have hlen8:(putK kd7 (Sum.inl q) (V.bl true)).length = kd7.length + 1:=rE7.put_new _ (bS_none.mpr hq7)
       have pB:∀ x,putB Ef7 q x = true ↔ x = q ∨ Ef7 x = true:=fun x=>by
        unfold putB
        by_cases e:x = q
        ·simp [e]
        ·simp [e]
       have snd8:∀ x,putB Ef7 q x = true→cnt c x = true∧Rch ss ord other x:=fun x e=>by
        rcases (pB x).mp e with rfl | e
        ·exact ⟨cq,rq⟩
        ·exact snd7 x e
       have lE8:kd7.length + 1 ≤ c:=by rw [← hlen8]; exact r8.len (bS_range fun p e=>(snd8 p e).1)
       refine iteT ⟨_,rfl,_,rfl,E,_,rfl,DPut.k (k:=Sum.inl q) hE7 (small1000 (by omega)),?_⟩
       refine ⟨_,rfl,.inl ⟨rfl,_,SqL.of (by rw [upd_ne nTE]; exact hT7)⟩,_,rfl,T,_,_,rfl,rfl,by rw [upd_ne nTE]; exact hT7,by rw [List.length_map]; exact small1000 (by omega),?_⟩
       refine ⟨_,putB Ef7 q,ts7 ++ [q],_,rfl,by rw [upd_ne nTE.symm,upd_same],r8,by rw [upd_same,List.map_append]; rfl,fun b o h1 h2 e=>by rw [upd_ne h2,upd_ne h1]; exact kp7 b o h1 h2 e,fun x e=>(pB x).mpr (.inr (mono x e)),snd8,fun x hx=>?_,fun x hx=>List.mem_append_left _ (sub7 x hx),fun x e=>?_,fun x hx=>?_,?_,?_⟩
       ·rcases List.mem_append.mp hx with z | z
        ·exact (pB x).mpr (.inr (inT7 x z))
        ·exact (pB x).mpr (.inl (by simpa using z))
       ·rcases (pB x).mp e with rfl | e
        ·exact .inr (by simp)
        ·rcases new7 x e with z | z
         ·exact .inl z
         ·exact .inr (List.mem_append_left _ z)
       ·rcases List.mem_append.mp hx with z | z
        ·exact (pB x).mpr (.inr (don7 x z))
        ·exact (pB x).mpr (.inl (by simpa using z))
       ·rw [hlen8,List.length_append,List.length_singleton]; omega
       ·rw [hlen8,List.length_append,List.length_singleton]; omega
    ·rintro σ H7 ⟨kd7,Ef7,ts7,v8,rfl,hE7,rE7,hT7,kp7,mono,snd7,inT7,sub7,new7,don7,ms7,ln7⟩
     rw [List.length_map,List.take_length] at don7
     refine ⟨2 * (c - kd7.length) + ts7.length,?_,kd7,Ef7,ts7,_,_,rfl,rfl,hE7,rE7,hT7,fun b o h1 h2 e=>kp7 b o h1 h2 (kp6 b o h1 h2 e),mono _ oth,snd7,inT7,fun q hq hnq x hx=>?_,ln7⟩
     ·rw [List.length_append,List.length_singleton]; omega
     ·rcases new7 q hq with z | z
      ·by_cases qp:q = p
       ·subst qp; exact don7 x hx
       ·refine mono _ (clo q z (fun m=>?_) x hx)
        rcases List.mem_append.mp m with y | y
        ·exact hnq (sub7 q y)
        ·exact qp (by simpa using y)
      ·exact absurd z hnq
   ·have hlt:ts = []:=by
     have:¬ 0 < ts.length:=by simpa using hlt
     exact List.length_eq_zero_iff.mp (by omega)
    subst hlt
    refine ⟨_,rfl,k H4 E kd Ef (fun b o e=>kp4 b o (ne_of_none e hEH) (ne_of_none e hTH) (s3 _ _ (s2 _ _ e))) hEH hE4 rE oth (fun j hj e=>clo _ e (by simp) _ (flip_low hj)) snd⟩
end
end At
set_option Elab.async false
set_option linter.all false
set_option maxRecDepth 100000
set_option maxHeartbeats 4000000
namespace At
open PySem L2 PyProof.Rows
section
variable {P:Program} {w:World} {K:PySem.W.Frag} {mg:Str→Option Value} {base:Heap}
theorem call_isinstK {Y:Cx} {K:PySem.W.Frag} (e:Y.K = K:=by rfl):CallR Y (.builtin "isinstance") (fun xs H Q=>∃ (x c:V) (t cv:Value) (b:Bool),xs = [x,c]∧TyOf K H x t∧ClsV c cv∧PySem.W.kitOne K t cv = some b∧Q (.bl b) H):=by subst e; exact call_isinst
theorem pg_tupK {Y:Cx} {K:PySem.W.Frag} {es:List Expr} {k:Nat} {t:TGs} {n:Nat} {pos:Pos} (hc:True = True) (h:PGs Y es t)
  (hn:(assignEach es Y.env).length = n) (hst:(assignEach es Y.env).findIdx? (·.1) = none:=by rfl) (e:Y.K = K:=by rfl):PG Y (.Tuple es k pos) (gTup K n t):=by subst e; exact pg_tup hc h hn hst
end
end At
set_option Elab.async false
set_option linter.all false
set_option maxRecDepth 100000
set_option maxHeartbeats 4000000
namespace At
open PySem L2 PyProof.Rows
section
variable {P:Program} {w:World} {K:PySem.W.Frag} {mg:Str→Option Value} {base:Heap}
def mvd (ns:List Int) (E:Int→Bool) (by_:Int):List Int:=(List.range ns.length).map fun (i:Nat)=>if E (i:Int) = true then ns.getD i 0 + by_ else ns.getD i 0
theorem fm_all {F:Nat→Option V} {G:Nat→V}:∀ n,(∀ i,i < n→F i = some (G i))→(List.range n).filterMap F = (List.range n).map G
 | 0,_=>rfl
 | n + 1,h=>by
  rw [List.range_succ,List.filterMap_append,List.map_append,fm_all n fun i hi=>h i (by omega)]
  show _ ++ [n].filterMap F = _ ++ [G n]
  rw [List.filterMap_cons,h n (by omega)]; rfl
def spMoved:Sp:=fun vs H Q _=>∃ (g p:Addr) (ns:List Int) (ks:List (Key × V)) (E:Int→Bool) (b:Int),vs = [.ref g,.ref p,.int b]∧H g = some (.lst (ns.map V.int))∧ns.length ≤ 1000∧H p = some (.dK ks)∧DR ks (bS E)∧∀ (H':Hp) (d:Addr),Same H H'→H d = none→H' d = some (.lst ((mvd ns E b).map V.int))→Q (.ref d) H'
theorem scMoved:FnScope ["ground","places","by"] ["ground","places","by"] (defScope s_moved_up):=⟨rfl,rfl,rfl,by decide +kernel,rfl,by decide +kernel,by decide +kernel⟩
theorem ok_moved {f:Addr} {fd:FuncData} (D:Def K mg "moved_up" s_moved_up ["ground","places","by"] f fd) (G:G1 K mg):FnOk P w K mg base CX0 1 f fd ["ground","places","by"] spMoved:=by
 refine D.fn.ok scMoved (fun vs H Q E h=>?_) (fun cdv A0 outer s H vs Q X hr h=>?_)
 ·obtain ⟨_,_,_,_,_,_,rfl,_⟩:=h; rfl
 ·obtain ⟨g,p,ns,ks,E,b,rfl,hg,hz,hp,rE,k⟩:=h
  have hu:=hu_of hr
  refine ⟨_,pss_one (ps_ret (pe_comp (XN:=["ground","places","by"]) (outer:=defScope s_moved_up) (N:=["place","height","by","places"]) (cap:=[none,none,some 2,some 1])
    (by exact ⟨rfl,by decide +kernel,by decide +kernel,by decide +kernel,.own (.own (.cap rfl rfl rfl (.cap rfl rfl rfl .nil))),by decide +kernel⟩) rfl (pi_enum (by rfl) G.enumerate (pa_cons (pv 0) pa_nil))
    (fun _ _ _ _ _ _=>pg_tupK (K:=K) (n:=2) rfl (pgs_cons (pg_name (i:=0) (show (["place","height","by","places"]:List Str).Nodup by decide +kernel) rfl (Or.inl rfl)) (pgs_cons (pg_name (i:=1) (show (["place","height","by","places"]:List Str).Nodup by decide +kernel) rfl (Or.inl rfl)) pgs_nil)) rfl) (fun _ _ _ _ _ _=>pifs_nil)
    (fun _ _ _ _ _ _=>pe_ifExp (pt_cmp (pc_din hu (pv 0) (pv 3))) (pe_op op_add (pv 1) (pv 2)) (pv 1)))),?_⟩
  refine ⟨_,rfl,g,rfl,⟨_,SqL.of hg⟩,fun q hq=>?_⟩
  refine comp_enum (outs:=fun (i:Nat)=>(ns[i]?).map fun v=>V.int (if E (i:Int) = true then v + b else v)) (fun σ=>∃ v1 v2,σ = [v1,v2,some (.int b),some (.ref p)]) hq (SqL.of hg) (by rw [List.length_map]; exact small1000 hz) ⟨none,none,rfl⟩ (fun i x t σc Hc Yes No hx sm hDn ht ⟨v1,v2,hv⟩ yes no=>?_) (fun Hc sm hD=>?_)
  ·subst hv
   rw [List.getElem?_map] at hx
   cases ex:ns[i]? with
   | none=>rw [ex] at hx; cases hx
   | some y =>
    rw [ex] at hx; cases hx
    refine ⟨t,_,rfl,SqT.of ht,rfl,_,_,rfl,_,_,rfl,rfl,?_⟩
    refine ⟨_,rfl,_,rfl,p,_,rfl,.inl ⟨ks,Sum.inl (i:Int),.inl (sm _ _ hp),rfl,rfl⟩,_,rfl,?_⟩
    rw [rE.at_]
    cases hE:E (i:Int) with
    | true =>
     rw [show (bS E (i:Int)).isSome = true from by unfold bS; rw [hE]; rfl]
     exact iteT ⟨_,rfl,_,rfl,_,_,rfl,rfl,yes _ _ _ ⟨_,_,rfl⟩ (Same.refl _) (by rw [ex,hE]; rfl)⟩
    | false =>
     rw [show (bS E (i:Int)).isSome = false from by unfold bS; rw [hE]; rfl]
     exact iteF ⟨_,rfl,yes _ _ _ ⟨_,_,rfl⟩ (Same.refl _) (by rw [ex,hE]; rfl)⟩
  ·refine k Hc q sm hq ?_
   rw [hD,List.length_map]
   unfold mvd
   rw [List.map_map]
   refine congrArg some (congrArg HO.lst (fm_all _ fun i hi=>?_))
   rw [List.getElem?_eq_getElem hi]
   show some (V.int _) = some (V.int (if E (i:Int) = true then ns.getD i 0 + b else ns.getD i 0))
   rw [List.getD_eq_getElem?_getD,List.getElem?_eq_getElem hi]; rfl
end
end At
set_option Elab.async false
set_option linter.all false
set_option maxRecDepth 100000
set_option maxHeartbeats 4000000
namespace At
open PySem L2 PyProof.Rows
section
variable {P:Program} {w:World} {K:PySem.W.Frag} {mg:Str→Option Value} {base:Heap}
structure OneK (K:PySem.W.Frag) (mg:Str→Option Value) (x f:Str) (C fI:Addr):Prop where
 cl:Cls K C
 n:NoAttr K C f
 at_:mg x = some (.ref C)
 mK:Mk K C fI
def spOne (C:Addr) (f:Str):Sp:=fun vs H Q _=>∃ (x dx l:Addr) (ys:List V),vs = [.ref x,.ref l]∧H x = some (.ins C dx [])∧H l = some (.lst ys)∧∀ q,H q = none→Q .non (upd (upd H q (.lst ys)) x (.ins C dx [(f,.ref q)]))
theorem scHInit:FnScope ["self","heights"] ["self","heights"] (defScope m_Heights___init__):=⟨rfl,rfl,rfl,by decide +kernel,rfl,by decide +kernel,by decide +kernel⟩
theorem scRInit:FnScope ["self","chain"] ["self","chain"] (defScope m_Ring___init__):=⟨rfl,rfl,rfl,by decide +kernel,rfl,by decide +kernel,by decide +kernel⟩
theorem ok_hInit {c:Bool} {f C:Addr} {fd:FuncData} (F:Fun K "__init__" "Heights.__init__" m_Heights___init__ f fd) (T:OneK K mg "Heights" "heights" C f) (G:G1 K mg):FnOk P w K mg base (CXm c) 1 f fd ["self","heights"] (spOne C "heights"):=by
 refine F.ok scHInit (fun vs H Q E h=>?_) (fun cdv A0 outer s H vs Q X hr h=>?_)
 ·obtain ⟨_,_,_,_,rfl,_⟩:=h; rfl
 ·obtain ⟨x,dx,l,ys,rfl,hx,hl,k⟩:=h
  refine ⟨_,pss_one (ps_fld (pv 0) (pe_callTy call_list_of (by rfl) G.list boot_list (pa_cons (pv 1) pa_nil)) rfl),?_⟩
  refine ⟨_,rfl,l,_,rfl,.inl (SqL.of hl),fun q hq=>?_⟩
  exact ⟨_,rfl,x,C,dx,[],rfl,by rw [upd_ne (ne_of_none hx hq)]; exact hx,T.cl,T.n,(by show 0 < 1000; decide),k q hq⟩
theorem ok_rInit {c:Bool} {f C:Addr} {fd:FuncData} (F:Fun K "__init__" "Ring.__init__" m_Ring___init__ f fd) (T:OneK K mg "Ring" "chain" C f) (G:G1 K mg):FnOk P w K mg base (CXm c) 1 f fd ["self","chain"] (spOne C "chain"):=by
 refine F.ok scRInit (fun vs H Q E h=>?_) (fun cdv A0 outer s H vs Q X hr h=>?_)
 ·obtain ⟨_,_,_,_,rfl,_⟩:=h; rfl
 ·obtain ⟨x,dx,l,ys,rfl,hx,hl,k⟩:=h
  refine ⟨_,pss_one (ps_fld (pv 0) (pe_callTy call_list_of (by rfl) G.list boot_list (pa_cons (pv 1) pa_nil)) rfl),?_⟩
  refine ⟨_,rfl,l,_,rfl,.inl (SqL.of hl),fun q hq=>?_⟩
  exact ⟨_,rfl,x,C,dx,[],rfl,by rw [upd_ne (ne_of_none hx hq)]; exact hx,T.cl,T.n,(by show 0 < 1000; decide),k q hq⟩
structure AnsAt (H:Hp) (x C l:Addr) (f:Str) (ns:List Int):Prop where
 ex:∃ dx,H x = some (.ins C dx [(f,.ref l)])
 ls:H l = some (.lst (ns.map V.int))
def ansC (cH cR:Addr) (b:Bool):Addr:=cond b cH cR
def ansF (b:Bool):Str:=cond b "heights" "chain"
theorem AnsAt.same {H H':Hp} {x C l:Addr} {f:Str} {ns:List Int} (h:AnsAt H x C l f ns) (e:Same H H'):AnsAt H' x C l f ns:=by
 obtain ⟨dx,hx⟩:=h.ex
 exact ⟨⟨dx,e _ _ hx⟩,e _ _ h.ls⟩
end
end At
set_option Elab.async false
set_option linter.all false
set_option maxRecDepth 100000
set_option maxHeartbeats 4000000
namespace At
open PySem L2 PyProof.Rows
section
variable {P:Program} {w:World} {K:PySem.W.Frag} {mg:Str→Option Value} {base:Heap}
abbrev QL:Str:=(("walking_order":Str) ++ (".<locals>.":Str)) ++ ("<lambda>":Str)
structure LamIn (base:Heap) (mg:Str→Option Value) (fd:FuncData) (Pt:Addr):Prop where
 ex:∃ c,fd.code = .ref c∧PySem.W.CodeHd base c Pt∧base.BuiltinsAt mg Pt
def fv (F:Fn) (k:Int):Int:=(F k).getD 0
def onw (F:Fn) (ss:List Say) (i:Nat):Bool:=(ss[i]?).elim false fun s=>decide (fv F s.2.1 < fv F s.1)
def bkw (F:Fn) (ss:List Say) (i:Nat):Bool:=(ss[i]?).elim false fun s=>decide (fv F s.1 ≤ fv F s.2.1)
def idx (p:Nat→Bool) (n:Nat):List Int:=((List.range n).filter p).map fun i=>((i:Nat):Int)
theorem fm_idx (p:Nat→Bool) (n:Nat):((List.range n).filterMap fun i=>if p i = true then some (V.int ((i:Nat):Int)) else none) = (idx p n).map V.int:=by
 unfold idx
 rw [List.map_map]
 generalize List.range n = l
 induction l with
 | nil=>rfl
 | cons x r ih =>
  rw [List.filterMap_cons,List.filter_cons]
  cases p x <;> simp [ih]
theorem idx_len (p:Nat→Bool) (n:Nat):(idx p n).length ≤ n:=by
 unfold idx
 rw [List.length_map]
 exact Nat.le_trans (List.length_filter_le _ _) (by simp)
theorem idx_mem {p:Nat→Bool} {n:Nat} {k:Int}:k ∈ idx p n ↔ cnt n k = true∧p k.toNat = true:=by
 unfold idx
 rw [List.mem_map]
 constructor
 ·rintro ⟨i,hi,rfl⟩
  rw [List.mem_filter,List.mem_range] at hi
  refine ⟨cnt_iff.mpr ⟨by omega,by omega⟩,by simpa using hi.2⟩
 ·rintro ⟨h1,h2⟩
  obtain ⟨h0,h3⟩:=cnt_iff.mp h1
  exact ⟨k.toNat,List.mem_filter.mpr ⟨List.mem_range.mpr (by omega),h2⟩,by omega⟩
def spWalkOrd (Pt:Addr):Sp:=fun vs H Q _=>∃ (a:Addr) (ss:List Say) (c:Nat),vs = [.ref a]∧SaysAt H a ss∧ss.length < 66∧c ≤ 1000∧ss.all (inside c) = true∧LamTab H Pt QL ∧
 ∀ (H':Hp) (d:Addr) (ord:List Int),SameN H H'→LamTab H' Pt QL→H d = none→H' d = some (.lst (ord.map V.int))→(∀ k ∈ ord,cnt ss.length k = true)→(∀ k,cnt ss.length k = true→k ∈ ord)→ord.length ≤ 400→Q (.ref d) H'
theorem scWalkOrd:FnScope ["sayings","finished","onward","backward"] ["sayings"] (defScope s_walking_order):=⟨rfl,rfl,rfl,by decide +kernel,rfl,by decide +kernel,by decide +kernel⟩
theorem frWO:∀ x ∈ ([("at",.local),("finished",.free),("sayings",.free)]:List (Str × NameKind)),x.2 = NameKind.free→(defScope s_walking_order).names.lookup x.1 = some .cell:=by decide +kernel
theorem ok_walkOrd {f g h1:Addr} {fd gd hd:FuncData} {Pt:Addr} (D:Def K mg "walking_order" s_walking_order ["sayings"] f fd) (DO:Def K mg "finishing_order" s_finishing_order ["sayings"] g gd) (DF:Def K mg "finish_from" s_finish_from ["start","uppers","entered","finished"] h1 hd) (G:G1 K mg) (L:LamIn base mg fd Pt) :
  FnOk P w K mg base CX0 3 f fd ["sayings"] (spWalkOrd Pt):=by
 have GO:FnOk P w K mg base CX0 2 g gd ["sayings"] spFinOrd:=ok_finOrd DO DF G
 refine Fun.okC D.fn scWalkOrd (fun vs H Q E h=>?_) (fun cdv A outer s H vs Q X hcd hr h=>?_)
 ·obtain ⟨_,_,_,rfl,_⟩:=h; rfl
 ·obtain ⟨a,ss,c,rfl,ha,hz,hc,hin,hL,k⟩:=h
  obtain ⟨cc,hcc,hC,hB⟩:=L.ex
  have hcv:cdv = .ref cc:=hcd.symm.trans hcc
  subst hcv
  have hu:=hu_of hr
  obtain ⟨ps,ha,hS⟩:=ha.ex
  have hlu:∀ e,((A.deeper (envOfC "walking_order" (defScope s_walking_order) s.heap.objs.size f (.ref cc))).in1.in1.deeper e).units + 1 < cLine:=fun e=>by
   have:=hr.un
   show (A.deeper (envOfC "walking_order" (defScope s_walking_order) s.heap.objs.size f (.ref cc))).units + 1 + 1 + 3 + 1 < cLine
   omega
  refine ⟨_,pss_cons (ps_set (i:=1) scWalkOrd.nd rfl (Or.inr rfl) (pe_call GO hr (by rfl) DO.at_ DO.fn.kp DO.bd .nil pass0 (pa_cons (pv 0) pa_nil)))
   (pss_cons (ps_setComp (j:=2) (XN:=["sayings","finished","onward","backward"]) (outer:=defScope s_walking_order) (N:=["at","saying","finished"]) (cap:=[none,none,some 1])
     (by exact ⟨rfl,by decide +kernel,by decide +kernel,by decide +kernel,.own (.own (.cap rfl rfl rfl .nil)),by decide +kernel⟩) rfl scWalkOrd.nd rfl (Or.inl rfl) (pi_enum (by rfl) G.enumerate (pa_cons (pv 0) pa_nil))
     (fun _ _ _ _ _ _=>pg_tupK (K:=K) (n:=2) rfl (pgs_cons (pg_name (i:=0) (show (["at","saying","finished"]:List Str).Nodup by decide +kernel) rfl (Or.inl rfl)) (pgs_cons (pg_name (i:=1) (show (["at","saying","finished"]:List Str).Nodup by decide +kernel) rfl (Or.inl rfl)) pgs_nil)) rfl)
     (fun _ _ _ _ _ _=>pifs_one (pt_cmpR op_gt (pe_dget hu (pv 2) (pe_ix (ixT (K:=K)) (pv 1) pe_int (fun _ _=>rfl)) (fun _ _=>rfl)) (pe_dget hu (pv 2) (pe_ix (ixT (K:=K)) (pv 1) pe_int (fun _ _=>rfl)) (fun _ _=>rfl)) (nomark _)))
     (fun _ _ _ _ _ _=>pv 0))
   (pss_cons (ps_setComp (j:=3) (XN:=["sayings","finished","onward","backward"]) (outer:=defScope s_walking_order) (N:=["at","saying","finished"]) (cap:=[none,none,some 1])
     (by exact ⟨rfl,by decide +kernel,by decide +kernel,by decide +kernel,.own (.own (.cap rfl rfl rfl .nil)),by decide +kernel⟩) rfl scWalkOrd.nd rfl (Or.inl rfl) (pi_enum (by rfl) G.enumerate (pa_cons (pv 0) pa_nil))
     (fun _ _ _ _ _ _=>pg_tupK (K:=K) (n:=2) rfl (pgs_cons (pg_name (i:=0) (show (["at","saying","finished"]:List Str).Nodup by decide +kernel) rfl (Or.inl rfl)) (pgs_cons (pg_name (i:=1) (show (["at","saying","finished"]:List Str).Nodup by decide +kernel) rfl (Or.inl rfl)) pgs_nil)) rfl)
     (fun _ _ _ _ _ _=>pifs_one (pt_cmpR op_le (pe_dget hu (pv 2) (pe_ix (ixT (K:=K)) (pv 1) pe_int (fun _ _=>rfl)) (fun _ _=>rfl)) (pe_dget hu (pv 2) (pe_ix (ixT (K:=K)) (pv 1) pe_int (fun _ _=>rfl)) (fun _ _=>rfl)) (nomark _)))
     (fun _ _ _ _ _ _=>pv 0))
   (pss_cons (ps_set (i:=2) scWalkOrd.nd rfl (Or.inl rfl) (pe_sort2 (XN:=["sayings","finished","onward","backward"]) (outer:=defScope s_walking_order) (x:="at") (N:=["finished","sayings"]) (cap:=[some 1,some 0]) rfl
     (by exact ⟨rfl,rfl,rfl,by decide +kernel,rfl,.cap rfl rfl rfl (.cap rfl rfl rfl .nil),by decide +kernel,by decide⟩) hr.depth
     (fun _ _ _ _ _ _ _=>pe_dget (hlu _) (pv 1) (pe_ix (ixT (K:=K)) (pe_ix (ixL (K:=K)) (pv 2) (pv 0) (fun _ _=>rfl)) pe_int (fun _ _=>rfl)) (fun _ _=>rfl))
     (fun _ _ _ _ _=>rfl) (by rfl) G.sorted (pa_cons (pv 2) pa_nil) (pk_cons (pe_lam rfl hC hB frWO) (pk_cons pe_bl pk_nil))))
   (pss_cons (ps_set (i:=3) scWalkOrd.nd rfl (Or.inl rfl) (pe_sort1 (XN:=["sayings","finished","onward","backward"]) (outer:=defScope s_walking_order) (x:="at") (N:=["finished","sayings"]) (cap:=[some 1,some 0]) rfl
     (by exact ⟨rfl,rfl,rfl,by decide +kernel,rfl,.cap rfl rfl rfl (.cap rfl rfl rfl .nil),by decide +kernel,by decide⟩) hr.depth
     (fun _ _ _ _ _ _ _=>pe_dget (hlu _) (pv 1) (pe_ix (ixT (K:=K)) (pe_ix (ixL (K:=K)) (pv 2) (pv 0) (fun _ _=>rfl)) pe_int (fun _ _=>rfl)) (fun _ _=>rfl))
     (fun _ _ _ _ _=>rfl) (by rfl) G.sorted (pa_cons (pv 3) pa_nil) (pk_cons (pe_lam rfl hC hB frWO) pk_nil)))
   (pss_one (ps_ret (pe_op op_cat (pv 2) (pv 3)))))))),?_⟩
  refine ⟨_,rfl,a,ss,c,rfl,⟨ps,ha,hS⟩,by omega,hc,hin,fun H1 d kf Ff s1 hd0 hd rF cov=>?_⟩
  have val:∀ k,Ff k ≠ none→valV kf (Sum.inl k) = some (.int (fv Ff k)):=fun k hk=>by
   rw [rF.at_]
   cases q:Ff k with
   | none=>exact absurd q hk
   | some v=>unfold iS fv; rw [q]; rfl
  have item:∀ {H2:Hp},Same H1 H2→∀ (i:Nat) (p:Addr),ps[i]? = some p→∃ sx,ss[i]? = some sx∧H2 p = some (.tup [.int sx.1,.int sx.2.1,.int sx.2.2])∧Ff sx.1 ≠ none∧Ff sx.2.1 ≠ none:=fun {H2} sm i p ep=>by
   have hil:i < ss.length:=by rw [← hS.len]; exact (List.getElem?_eq_some_iff.mp ep).1
   have es:ss[i]? = some ss[i]:=List.getElem?_eq_getElem hil
   have:=cov ss[i] (List.getElem_mem hil)
   exact ⟨ss[i],es,sm _ _ (s1 _ _ (hS.at_ i p _ ep es)),this.1,this.2⟩
  have ha1:=s1 _ _ ha
  have hlen:(ps.map V.ref).length = ss.length:=by rw [List.length_map,hS.len]
  refine ⟨_,rfl,a,rfl,⟨_,SqL.of ha1⟩,fun D1 hD1=>?_⟩
  refine comp_enum (outs:=fun i=>if onw Ff ss i = true then some (V.int ((i:Nat):Int)) else none) (fun σ=>∃ v1 v2,σ = [v1,v2,some (.ref d)]) hD1 (SqL.of ha1) (by rw [hlen]; exact small1000 (by omega)) ⟨none,none,rfl⟩ (fun i x t σc Hc Yes No hx sm _ htup ⟨v1,v2,hv⟩ yes no=>?_) (fun H2 s2 hD1c=>?_)
  ·rw [List.getElem?_map] at hx
   cases ep:ps[i]? with
   | none=>rw [ep] at hx; cases hx
   | some p =>
    rw [ep] at hx; cases hx
    subst hv
    obtain ⟨sx,es,hp,f1,f2⟩:=item sm i p ep
    have hdc:=sm _ _ hd
    refine ⟨t,_,rfl,SqT.of htup,rfl,_,_,rfl,_,_,rfl,rfl,?_⟩
    refine ⟨_,rfl,_,rfl,p,_,_,_,rfl,rfl,SqT.of hp,rfl,d,_,rfl,.inl ⟨kf,Sum.inl sx.1,.inl hdc,rfl,(val _ f1).symm⟩,_,rfl,_,rfl,p,_,_,_,rfl,rfl,SqT.of hp,rfl,d,_,rfl,.inl ⟨kf,Sum.inl sx.2.1,.inl hdc,rfl,(val _ f2).symm⟩,_,_,rfl,rfl,_,rfl,?_⟩
    have eo:onw Ff ss i = decide (fv Ff sx.2.1 < fv Ff sx.1):=by unfold onw; rw [es]; rfl
    rw [← eo]
    refine ite2 (fun q=>?_) (fun q=>?_)
    ·exact ⟨_,rfl,yes _ _ _ ⟨_,_,rfl⟩ (Same.refl _) (by rw [if_pos q])⟩
    ·exact no _ _ ⟨_,_,rfl⟩ (Same.refl _) (by rw [if_neg q])
  rw [hlen,fm_idx] at hD1c
  refine ⟨_,rfl,a,rfl,⟨_,SqL.of (s2 _ _ ha1)⟩,fun D2 hD2=>?_⟩
  refine comp_enum (outs:=fun i=>if bkw Ff ss i = true then some (V.int ((i:Nat):Int)) else none) (fun σ=>∃ v1 v2,σ = [v1,v2,some (.ref d)]) hD2 (SqL.of (s2 _ _ ha1)) (by rw [hlen]; exact small1000 (by omega)) ⟨none,none,rfl⟩ (fun i x t σc Hc Yes No hx sm _ htup ⟨v1,v2,hv⟩ yes no=>?_) (fun H3 s3 hD2c=>?_)
  ·rw [List.getElem?_map] at hx
   cases ep:ps[i]? with
   | none=>rw [ep] at hx; cases hx
   | some p =>
    rw [ep] at hx; cases hx
    subst hv
    obtain ⟨sx,es,hp,f1,f2⟩:=item (s2.trans sm) i p ep
    have hdc:=sm _ _ (s2 _ _ hd)
    refine ⟨t,_,rfl,SqT.of htup,rfl,_,_,rfl,_,_,rfl,rfl,?_⟩
    refine ⟨_,rfl,_,rfl,p,_,_,_,rfl,rfl,SqT.of hp,rfl,d,_,rfl,.inl ⟨kf,Sum.inl sx.1,.inl hdc,rfl,(val _ f1).symm⟩,_,rfl,_,rfl,p,_,_,_,rfl,rfl,SqT.of hp,rfl,d,_,rfl,.inl ⟨kf,Sum.inl sx.2.1,.inl hdc,rfl,(val _ f2).symm⟩,_,_,rfl,rfl,_,rfl,?_⟩
    have eo:bkw Ff ss i = decide (fv Ff sx.1 ≤ fv Ff sx.2.1):=by unfold bkw; rw [es]; rfl
    rw [← eo]
    refine ite2 (fun q=>?_) (fun q=>?_)
    ·exact ⟨_,rfl,yes _ _ _ ⟨_,_,rfl⟩ (Same.refl _) (by rw [if_pos q])⟩
    ·exact no _ _ ⟨_,_,rfl⟩ (Same.refl _) (by rw [if_neg q])
  rw [hlen,fm_idx] at hD2c
  have s13:Same H1 H3:=s2.trans s3
  have s03:Same H H3:=s1.trans s13
  have lam:∀ {H4:Hp},SameN H3 H4→∀ (n:Int),cnt ss.length n = true→∃ v0,([some (V.int n),some (.ref d),some (.ref a)]:L2.St)[1]? = some (some v0)∧∃ v1,([some (V.int n),some (.ref d),some (.ref a)]:L2.St)[2]? = some (some v1)∧∃ v2,([some (V.int n),some (.ref d),some (.ref a)]:L2.St)[0]? = some (some v2) ∧
    ∃ p xs i v,v1 = .ref p∧v2 = .int i∧SqL K H4 p xs∧atI xs i = some v∧∃ p' xs' i' v',v = .ref p'∧V.int 0 = .int i'∧SqT K H4 p' xs'∧atI xs' i' = some v'∧∃ x w,v0 = .ref x∧DGet H4 x v' (some w)∧H4 = H4∧∃ k,w = .int k:=fun {H4} sm n hn=>by
   obtain ⟨p,ep,h0⟩:=get_of_cnt (xs:=ps) (i:=n) (by rw [hS.len]; exact hn)
   obtain ⟨sx,es,hp,f1,f2⟩:=item s13 n.toNat p ep
   exact ⟨_,rfl,_,rfl,_,rfl,a,_,n,.ref p,rfl,rfl,SqL.of (sm _ _ rfl (s13 _ _ ha1)),atI_of h0 (by rw [List.getElem?_map,ep]; rfl),p,_,0,.int sx.1,rfl,rfl,SqT.of (sm _ _ rfl hp),rfl,d,.int (fv Ff sx.1),rfl,.inl ⟨kf,Sum.inl sx.1,.inl (sm _ _ rfl (s13 _ _ hd)),rfl,(val _ f1).symm⟩,rfl,_,rfl⟩
  have l1:=idx_len (onw Ff ss) ss.length
  have l2:=idx_len (bkw Ff ss) ss.length
  refine ⟨_,rfl,⟨hL.same s03,fun q1 H4 hq1 s4 hL4 hq=>?_⟩⟩
  refine ⟨D1,idx (onw Ff ss) ss.length,q1,rfl,rfl,SqL.of (s4 _ _ rfl (s3 _ _ hD1c)),by omega,hq,fun n hn=>lam s4 n (idx_mem.mp hn).1,fun D3 ms1 hp1 hD3=>?_⟩
  have u5:=Same.up (o:=.lst (ms1.map V.int)) hD3
  have s35:SameN H3 (upd H4 D3 (.lst (ms1.map V.int))):=s4.trans u5.n
  refine ⟨_,rfl,⟨hL4.same u5,fun q2 H6 hq2 s6 hL6 hq'=>?_⟩⟩
  refine ⟨D2,idx (bkw Ff ss) ss.length,q2,rfl,rfl,SqL.of (s6 _ _ rfl (s35 _ _ rfl hD2c)),by omega,hq',fun n hn=>lam (s35.trans s6) n (idx_mem.mp hn).1,fun D4 ms2 hp2 hD4=>?_⟩
  have u7:=Same.up (o:=.lst (ms2.map V.int)) hD4
  have e3:(upd H6 D4 (.lst (ms2.map V.int))) D3 = some (.lst (ms1.map V.int)):=u7 _ _ (s6 _ _ rfl upd_same)
  have e4:(upd H6 D4 (.lst (ms2.map V.int))) D4 = some (.lst (ms2.map V.int)):=upd_same
  have s07:SameN H (upd H6 D4 (.lst (ms2.map V.int))):=s03.n.trans ((s35.trans s6).trans u7.n)
  have hm1:=hp1.length_eq
  have hm2:=hp2.length_eq
  refine ⟨_,rfl,_,rfl,D3,D4,_,_,rfl,rfl,e3,e4,by rw [List.length_map,List.length_map]; exact Nat.le_of_lt (small1000 (by omega)),fun D5 hD5=>?_⟩
  have u8:=Same.up (o:=.lst (ms1.map V.int ++ ms2.map V.int)) hD5
  have fr:H D5 = none:=s07.tb _ hD5
  refine k _ D5 (ms1 ++ ms2) (s07.trans u8.n) ((hL6.same u7).same u8) fr (by rw [upd_same,List.map_append]) (fun n hn=>?_) (fun n hn=>?_) (by rw [List.length_append]; omega)
  ·rcases List.mem_append.mp hn with z | z
   ·exact (idx_mem.mp (hp1.mem_iff.mp z)).1
   ·exact (idx_mem.mp (hp2.mem_iff.mp z)).1
  ·obtain ⟨sx,es,h0⟩:=get_of_cnt hn
   by_cases q:fv Ff sx.2.1 < fv Ff sx.1
   ·exact List.mem_append_left _ (hp1.mem_iff.mpr (idx_mem.mpr ⟨hn,by unfold onw; rw [es]; simpa using q⟩))
   ·exact List.mem_append_right _ (hp2.mem_iff.mpr (idx_mem.mpr ⟨hn,by unfold bkw; rw [es]; simp; omega⟩))
end
end At
set_option Elab.async false
set_option linter.all false
set_option maxRecDepth 100000
set_option maxHeartbeats 4000000
namespace At
open PySem L2 PyProof.Rows
section
variable {P:Program} {w:World} {K:PySem.W.Frag} {mg:Str→Option Value} {base:Heap}
def spWhole:Sp:=fun vs H Q _=>∃ i:Int,vs = [.int i]∧Q (.bl true) H
theorem scWhole:FnScope ["value"] ["value"] (defScope sWhole):=⟨rfl,rfl,rfl,by decide +kernel,rfl,by decide +kernel,by decide +kernel⟩
theorem ok_whole {f:Addr} {fd:FuncData} (D:Def K mg "is_whole" sWhole ["value"] f fd) (G:G1 K mg):FnOk P w K mg base CX0 1 f fd ["value"] spWhole:=by
 refine D.fn.ok scWhole (fun vs H Q E h=>?_) (fun cdv A outer s H vs Q E hr h=>?_)
 ·obtain ⟨i,rfl,_⟩:=h; rfl
 ·obtain ⟨i,rfl,k⟩:=h
  refine ⟨_,pss_one (ps_ret (pe_and (pe_callB call_isinst (by rfl) G.isi boot_isinstance (pa_cons (pv 0) (pa_cons (pe_ty (by rfl) G.int boot_int) pa_nil)))
   (pe_one (pe_not (pe_callB call_isinst (by rfl) G.isi boot_isinstance (pa_cons (pv 0) (pa_cons (pe_ty (by rfl) G.bool boot_bool) pa_nil))))))),?_⟩
  refine ⟨_,rfl,_,_,_,_,_,rfl,.int i,rfl,G.kii,true,rfl,iteT ?_⟩
  exact ⟨_,rfl,_,_,_,_,_,rfl,.int i,rfl,G.kib,false,rfl,k⟩
end
end At
set_option Elab.async false
set_option linter.all false
set_option maxRecDepth 100000
set_option maxHeartbeats 4000000
namespace At
open PySem L2 PyProof.Rows
section
variable {P:Program} {w:World} {K:PySem.W.Frag} {mg:Str→Option Value} {base:Heap}
def spCounted:Sp:=fun vs H Q _=>∃ c i:Int,vs = [.int c,.int i]∧Q (.bl (cnt c i)) H
theorem scCounted:FnScope ["count","value"] ["count","value"] (defScope sCounted):=⟨rfl,rfl,rfl,by decide +kernel,rfl,by decide +kernel,by decide +kernel⟩
theorem ok_counted {f g:Addr} {fd gd:FuncData} (D:Def K mg "is_counted" sCounted ["count","value"] f fd) (DW:Def K mg "is_whole" sWhole ["value"] g gd) (G:G1 K mg):FnOk P w K mg base CX0 2 f fd ["count","value"] spCounted:=by
 have GW:FnOk P w K mg base CX0 1 g gd ["value"] spWhole:=ok_whole DW G
 refine D.fn.ok scCounted (fun vs H Q E h=>?_) (fun cdv A outer s H vs Q E hr h=>?_)
 ·obtain ⟨c,i,rfl,_⟩:=h; rfl
 ·obtain ⟨c,i,rfl,k⟩:=h
  refine ⟨_,pss_one (ps_ret (pe_and (pe_call GW hr (by rfl) DW.at_ DW.fn.kp DW.bd .nil pass0 (pa_cons (pv 1) pa_nil)) (pe_one (pe_chain op_le op_lt pe_int (pv 1) (pv 0))))),?_⟩
  refine ⟨_,rfl,i,rfl,true,rfl,iteT ?_⟩
  refine ⟨_,rfl,_,_,rfl,rfl,_,rfl,?_⟩
  unfold cnt at k
  refine ite2 (fun h0=>?_) (fun h0=>?_)
  ·rw [h0,Bool.true_and] at k
   exact ⟨_,rfl,_,_,rfl,rfl,k⟩
  ·rw [Bool.eq_false_iff.mpr h0,Bool.false_and] at k
   exact k
end
end At
set_option Elab.async false
set_option linter.all false
set_option maxRecDepth 100000
set_option maxHeartbeats 4000000
namespace At
open PySem L2 PyProof.Rows
section
variable {P:Program} {w:World} {K:PySem.W.Frag} {mg:Str→Option Value} {base:Heap}
def spSaying:Sp:=fun vs H Q _=>∃ (c:Int) (p:Addr) (s:Say),vs = [.int c,.ref p]∧H p = some (tupOf s)∧Q (.bl (cnt c s.1 && cnt c s.2.1)) H
theorem scSaying:FnScope ["count","value"] ["count","value"] (defScope sSaying):=⟨rfl,rfl,rfl,by decide +kernel,rfl,by decide +kernel,by decide +kernel⟩
theorem ok_saying {f fc fw:Addr} {fd dc dw:FuncData} (D:Def K mg "is_saying" sSaying ["count","value"] f fd) (DC:Def K mg "is_counted" sCounted ["count","value"] fc dc) (DW:Def K mg "is_whole" sWhole ["value"] fw dw) (G:G1 K mg):FnOk P w K mg base CX0 3 f fd ["count","value"] spSaying:=by
 have GC:FnOk P w K mg base CX0 2 fc dc ["count","value"] spCounted:=ok_counted DC DW G
 have GW:FnOk P w K mg base CX0 2 fw dw ["value"] spWhole:=(ok_whole DW G).mono (by decide)
 refine D.fn.ok scSaying (fun vs H Q E h=>?_) (fun cdv A outer s H vs Q E hr h=>?_)
 ·obtain ⟨c,p,s,rfl,_⟩:=h; rfl
 ·obtain ⟨c,p,⟨l,u,n⟩,rfl,hp,k⟩:=h
  have hp:H p = some (.tup [.int l,.int u,.int n]):=hp
  refine ⟨_,pss_cons (ps_if (PW.pt (pw_or (pt_not (pt_val (pe_callB call_isinst (by rfl) G.isi boot_isinstance (pa_cons (pv 1) (pa_cons (pe_ty (by rfl) G.tuple boot_tuple) pa_nil)))))
    (pw_or1 (pt_cmpR op_ne (pe_callB call_len_seq (by rfl) G.len PySem.boot_len (pa_cons (pv 1) pa_nil)) pe_int (nomark _))))) (pss_one (ps_ret pe_bl)) pss_nil)
   (pss_one (ps_ret (pe_and (pe_call GC hr (by rfl) DC.at_ DC.fn.kp DC.bd .nil pass0 (pa_cons (pv 0) (pa_cons (pe_ix ix_tup (pv 1) pe_int (fun _ _=>rfl)) pa_nil)))
    (pe_and (pe_call GC hr (by rfl) DC.at_ DC.fn.kp DC.bd .nil pass0 (pa_cons (pv 0) (pa_cons (pe_ix ix_tup (pv 1) pe_int (fun _ _=>rfl)) pa_nil)))
     (pe_one (pe_call GW hr (by rfl) DW.at_ DW.fn.kp DW.bd .nil pass0 (pa_cons (pe_ix ix_tup (pv 1) pe_int (fun _ _=>rfl)) pa_nil))))))),?_⟩
  refine ⟨_,rfl,_,_,_,_,_,rfl,.tup hp,rfl,G.ktt,true,rfl,iteF ?_⟩
  refine ⟨_,rfl,p,_,rfl,.inr (SqT.of hp),rfl,_,rfl,iteF ?_⟩
  refine ⟨_,rfl,_,rfl,p,_,_,_,rfl,rfl,SqT.of hp,rfl,c,l,rfl,_,rfl,?_⟩
  dsimp only at k
  refine ite2 (fun h0=>?_) (fun h0=>?_)
  ·rw [h0,Bool.true_and] at k
   refine ⟨_,rfl,_,rfl,p,_,_,_,rfl,rfl,SqT.of hp,rfl,c,u,rfl,_,rfl,?_⟩
   refine ite2 (fun h1=>?_) (fun h1=>?_)
   ·rw [h1] at k
    exact ⟨_,rfl,p,_,_,_,rfl,rfl,SqT.of hp,rfl,n,rfl,k⟩
   ·rw [Bool.eq_false_iff.mpr h1] at k
    exact k
  ·rw [Bool.eq_false_iff.mpr h0,Bool.false_and] at k
   exact k
end
end At
set_option Elab.async false
set_option linter.all false
set_option maxRecDepth 100000
set_option maxHeartbeats 4000000
namespace At
open PySem L2 PyProof.Rows
section
variable {P:Program} {w:World} {K:PySem.W.Frag} {mg:Str→Option Value} {base:Heap}
def spCheckS:Sp:=fun vs H Q _=>∃ (c:Int) (a:Addr) (ss:List Say),vs = [.int c,.ref a]∧1 ≤ c∧SaysAt H a ss∧ss.all (inside c) = true∧Q .non H
theorem scCheckS:FnScope ["count","sayings","saying"] ["count","sayings"] (defScope sCheckS):=⟨rfl,rfl,rfl,by decide +kernel,rfl,by decide +kernel,by decide +kernel⟩
theorem ok_checkS {f fs fc fw:Addr} {fd ds dc dw:FuncData} (D:Def K mg "check_sayings" sCheckS ["count","sayings"] f fd) (DS:Def K mg "is_saying" sSaying ["count","value"] fs ds) (DC:Def K mg "is_counted" sCounted ["count","value"] fc dc) (DW:Def K mg "is_whole" sWhole ["value"] fw dw) (G:G1 K mg):FnOk P w K mg base CX0 4 f fd ["count","sayings"] spCheckS:=by
 have GS:FnOk P w K mg base CX0 3 fs ds ["count","value"] spSaying:=ok_saying DS DC DW G
 have GW:FnOk P w K mg base CX0 3 fw dw ["value"] spWhole:=(ok_whole DW G).mono (by decide)
 refine D.fn.ok scCheckS (fun vs H Q E h=>?_) (fun cdv A outer s H vs Q E hr h=>?_)
 ·obtain ⟨c,a,ss,rfl,_⟩:=h; rfl
 ·obtain ⟨c,a,ss,rfl,hc,ha,hin,k⟩:=h
  obtain ⟨ps,ha,hS⟩:=ha.ex
  refine ⟨_,pss_cons (ps_if (PW.pt (pw_or (pt_not (pt_val (pe_call GW hr (by rfl) DW.at_ DW.fn.kp DW.bd .nil pass0 (pa_cons (pv 0) pa_nil)))) (pw_or1 (pt_cmpR op_lt (pv 0) pe_int (nomark _))))) pss_never pss_nil)
   (pss_cons (ps_if (pt_not (pt_val (pe_callB call_isinst (by rfl) G.isi boot_isinstance (pa_cons (pv 1) (pa_cons (pe_ty (by rfl) G.list boot_list) pa_nil))))) pss_never pss_nil)
   (pss_one (ps_for PassesOwn.never rfl (pi_list (pv 1)) (pg_name (i:=2) scCheckS.nd rfl (Or.inl rfl))
    (pss_one (ps_if (pt_not (pt_val (pe_call GS hr (by rfl) DS.at_ DS.fn.kp DS.bd .nil pass0 (pa_cons (pv 0) (pa_cons (pv 2) pa_nil))))) pss_never pss_nil))))),?_⟩
  refine ⟨_,rfl,c,rfl,true,rfl,iteF ?_⟩
  refine ⟨_,rfl,_,_,rfl,rfl,_,rfl,?_⟩
  rw [decide_eq_false (by omega)]
  refine iteF ?_
  refine ⟨_,rfl,_,_,_,_,_,rfl,.lst ha,rfl,G.kll,true,rfl,iteF ?_⟩
  refine ⟨_,rfl,a,rfl,⟨_,SqL.of ha⟩,for_list (K:=K) (a:=a) (xs:=ps.map V.ref) (fun i σ H2=>H2 = H∧∃ (v:Option V),σ = [some (.int c),some (.ref a),v])
   ⟨rfl,none,rfl⟩ (fun i σ H2 _ ⟨e,_⟩=>by rw [e]; exact SqL.of ha) ?_ ?_⟩
  ·rintro i y σ H2 hi ⟨rfl,v,rfl⟩
   rw [List.getElem?_map] at hi
   cases ep:ps[i]? with
   | none=>rw [ep] at hi; cases hi
   | some p =>
    rw [ep] at hi; cases hi
    have hl:i < ss.length:=by rw [← hS.len]; exact (List.getElem?_eq_some_iff.mp ep).1
    have es:ss[i]? = some ss[i]:=List.getElem?_eq_getElem hl
    have hb:inside c ss[i] = true:=List.all_eq_true.mp hin _ (List.getElem_mem hl)
    refine ⟨_,rfl,_,rfl,c,p,ss[i],rfl,hS.at_ i p _ ep es,_,rfl,?_⟩
    unfold inside at hb
    rw [hb]
    exact iteF ⟨rfl,_,rfl⟩
  ·rintro σ H2 ⟨rfl,v,rfl⟩
   exact k
end
end At
set_option Elab.async false
set_option linter.all false
set_option maxRecDepth 100000
set_option maxHeartbeats 4000000
namespace At
open PySem L2 PyProof.Rows
section
variable {P:Program} {w:World} {K:PySem.W.Frag} {mg:Str→Option Value} {base:Heap}
theorem lev_len (S:Fn) (c:Nat):(lev S c).length = c:=by unfold lev; simp
theorem lev_get (S:Fn) {c:Nat} {i:Int} (h:cnt c i = true):(lev S c).getD i.toNat 0 = (S i).getD 0:=by
 obtain ⟨h0,h1⟩:=cnt_iff.mp h
 have hl:i.toNat < c:=by omega
 unfold lev
 rw [List.getD_eq_getElem?_getD,List.getElem?_map,List.getElem?_range hl]
 simp [Int.toNat_of_nonneg h0]
theorem lev_keeps {S:Fn} {ss:List Say} {c:Nat} (hin:ss.all (inside c) = true) (tight:∀ k,cnt ss.length k = true→Tight ss S k) (ends:∀ k,cnt ss.length k = true→S (sy ss k).1 ≠ none∧S (sy ss k).2.1 ≠ none):ss.all (keeps (lev S c)) = true:=by
 refine List.all_eq_true.mpr fun s hs=>?_
 obtain ⟨i,hi,rfl⟩:=List.mem_iff_getElem.mp hs
 have hc:cnt ss.length (i:Int) = true:=cnt_iff.mpr ⟨by omega,by omega⟩
 have es:sy ss (i:Int) = ss[i]:=by unfold sy; rw [Int.toNat_natCast,List.getElem?_eq_getElem hi]; rfl
 have h1:=List.all_eq_true.mp hin _ (List.getElem_mem hi)
 unfold inside at h1
 rw [Bool.and_eq_true] at h1
 have h2:=(ends i hc).1
 have h3:=tight i hc
 unfold Tight at h3
 rw [es] at h2 h3
 unfold keeps
 rw [lev_get S h1.1,lev_get S h1.2]
 cases ea:S ss[i].1 with
 | none=>exact absurd ea h2
 | some a =>
  obtain ⟨b,eb,hb⟩:=h3 a ea
  rw [eb]
  have e1:(some a:Option Int).getD 0 = a:=rfl
  have e2:(some b:Option Int).getD 0 = b:=rfl
  rw [e1,e2]
  exact decide_eq_true (by omega)
structure BX (K:PySem.W.Frag) (C:Addr):Prop where
 look:ExcLook K C
 hd:PySem.W.hasDictIn K C = true
 m:ExcM K C C
def Good (b:Bool) (c:Nat) (ss:List Say) (ns:List Int):Prop:=cond b (ns.length = c∧ss.all (keeps ns) = true) (RingOk ss ns)
def spHts (Pt CH CR:Addr):Sp:=fun vs H Q _=>∃ (a:Addr) (ss:List Say) (c:Nat),vs = [.int c,.ref a]∧1 ≤ c∧c ≤ 400∧SaysAt H a ss∧ss.length < 66∧ss.all (inside c) = true∧LamTab H Pt QL ∧
 ∀ (b:Bool) (H':Hp) (x l:Addr) (ns:List Int),SameN H H'→LamTab H' Pt QL→H x = none→H l = none→x ≠ l→AnsAt H' x (ansC CH CR b) l (ansF b) ns→Good b c ss ns→Q (.ref x) H'
theorem scHeightsF:FnScope ["count","sayings","sums","broken"] ["count","sayings"] (defScope s_heights):=⟨rfl,rfl,rfl,by decide +kernel,rfl,by decide +kernel,by decide +kernel⟩
theorem ok_heightsF {f fc fl fv fo CB C0 fB CH fH CR fR Pt:Addr} {fd dc dl dv do_ dH dR:FuncData} (D:Def K mg "heights" s_heights ["count","sayings"] f fd)
  (DC:Def K mg "check_sayings" sCheckS ["count","sayings"] fc dc) (GC:FnOk P w K mg base CX0 4 fc dc ["count","sayings"] spCheckS)
  (DL:Def K mg "least_sums" s_least_sums ["sayings","order"] fl dl) (GL:FnOk P w K mg base (CXr P w) 4 fl dl ["sayings","order"] (spLeast CB))
  (DV:Def K mg "level" s_level ["count","sums"] fv dv) (DO:Def K mg "walking_order" s_walking_order ["sayings"] fo do_) (GO:FnOk P w K mg base CX0 3 fo do_ ["sayings"] (spWalkOrd Pt))
  (T:BK K mg CB C0 fB) (TX:BX K CB) (TH:OneK K mg "Heights" "heights" CH fH) (FH:Fun K "__init__" "Heights.__init__" m_Heights___init__ fH dH) (bH:Binds K dH ["self","heights"] [])
  (TR:OneK K mg "Ring" "chain" CR fR) (FR:Fun K "__init__" "Ring.__init__" m_Ring___init__ fR dR) (bR:Binds K dR ["self","chain"] []) (G:G1 K mg):FnOk P w K mg base CX0 5 f fd ["count","sayings"] (spHts Pt CH CR):=by
 have GV:FnOk P w K mg base CX0 1 fv dv ["count","sums"] spLevel:=ok_level DV G
 have GH:FnOk P w K mg base CX0 1 fH dH ["self","heights"] (spOne CH "heights"):=ok_hInit FH TH G
 have GR:FnOk P w K mg base (CXm false) 1 fR dR ["self","chain"] (spOne CR "chain"):=ok_rInit FR TR G
 refine D.fn.ok scHeightsF (fun vs H Q E h=>?_) (fun cdv A0 outer s H vs Q X hr h=>?_)
 ·obtain ⟨_,_,_,rfl,_⟩:=h; rfl
 ·obtain ⟨a,ss,c,rfl,hc1,hc,ha,hz,hin,hL,k1⟩:=h
  have hr1:Room 1 _:=hr.mono (by decide)
  have hr2:Room 2 _:=hr.mono (by decide)
  have hr3:Room 3 _:=hr.mono (by decide)
  refine ⟨_,pss_cons (ps_expr (pe_call GC hr (by rfl) DC.at_ DC.fn.kp DC.bd .nil pass0 (pa_cons (pv 0) (pa_cons (pv 1) pa_nil))))
   (pss_cons (ps_tryS (i:=3) (j:=2) (pex_call GL hr (by rfl) DL.at_ DL.fn.kp DL.bd (pa_cons (pv 1) (pa_cons (pe_call GO hr3 (by rfl) DO.at_ DO.fn.kp DO.bd .nil pass0 (pa_cons (pv 1) pa_nil)) pa_nil)))
     scHeightsF.nd rfl (Or.inl rfl) rfl rfl (by rfl) T.at_ (fun x=>pss_one (ps_ret (pe_make TR.mK GR ⟨hr2.dp,hr2.un⟩ (by rfl) TR.at_ bR .nil pass0 (pa_cons (pe_xfld (pv 3) rfl) pa_nil)))))
   (pss_one (ps_ret (pe_make TH.mK GH hr2 (by rfl) TH.at_ bH .nil pass0 (pa_cons (pe_call GV hr1 (by rfl) DV.at_ DV.fn.kp DV.bd .nil pass0 (pa_cons (pv 0) (pa_cons (pv 2) pa_nil))) pa_nil))))),?_⟩
  refine ⟨_,rfl,_,rfl,c,a,ss,rfl,by omega,ha,hin,?_⟩
  refine ⟨_,rfl,_,rfl,a,ss,c,rfl,ha,hz,by omega,hin,hL,fun H1 O ord s1 hL1 hO0 hO ho1 ho2 hol=>?_⟩
  refine ⟨a,O,ss,c,ord,rfl,ha.sameN s1,hO,by omega,hc,hin,ho1,ho2,fun H2 S ks Sf s2 hS0 hS rS tight ends _ _=>?_,fun H2 dx l ns s2 hl0 hdx hl ring=>?_⟩
  ·-- heights
   refine ⟨_,rfl,_,rfl,c,S,ks,Sf,rfl,by omega,hS,rS,fun H3 d s3 hd0 hd=>?_⟩
   intro x dx hx hdx0 ndx
   have s4:Same H3 (upd (upd H3 dx (.own x)) x (.ins CH dx [])):=fun b o e=>by rw [upd_ne (ne_of_none e hx),upd_ne (ne_of_none e hdx0)]; exact e
   refine ⟨x,dx,d,_,rfl,upd_same,s4 _ _ hd,fun q hq=>⟨rfl,?_⟩⟩
   have hq3:H3 q = none:=s4.free hq
   have xq:x ≠ q:=fun z=>by subst z; rw [upd_same] at hq; cases hq
   have s5:Same H3 (upd (upd (upd (upd H3 dx (.own x)) x (.ins CH dx [])) q (.lst ((lev Sf c).map V.int))) x (.ins CH dx [("heights",.ref q)])):=fun b o e=>by
    rw [upd_ne (ne_of_none e hx),upd_ne (ne_of_none e hq3)]; exact s4 _ _ e
   have sN:SameN H H3:=s1.trans (s2.trans s3).n
   refine k1 true _ x q (lev Sf c) (sN.trans s5.n) (hL1.same ((s2.trans s3).trans s5)) (sN.tb _ hx) (sN.tb _ hq3) xq ⟨⟨dx,upd_same⟩,by rw [upd_ne xq.symm,upd_same]⟩ ⟨lev_len Sf c,lev_keeps hin tight ends⟩
  ·-- a ring
   refine ⟨CB,rfl,TX.m,fun x H3 hx0 oth held=>?_⟩
   have s3:Same H2 H3:=fun b o e=>by rw [oth b (ne_of_none e hx0)]; exact e
   refine ⟨_,rfl,x,CB,dx,_,_,rfl,⟨_,held⟩,s3 _ _ hdx,rfl,TX.look,TX.hd,T.n,?_⟩
   intro y dy hy hdy0 ndy
   have s4:Same H3 (upd (upd H3 dy (.own y)) y (.ins CR dy [])):=fun b o e=>by rw [upd_ne (ne_of_none e hy),upd_ne (ne_of_none e hdy0)]; exact e
   refine ⟨y,dy,l,_,rfl,upd_same,s4 _ _ (s3 _ _ hl),fun q hq=>⟨rfl,?_⟩⟩
   have hq3:H3 q = none:=s4.free hq
   have yq:y ≠ q:=fun z=>by subst z; rw [upd_same] at hq; cases hq
   have s5:Same H3 (upd (upd (upd (upd H3 dy (.own y)) y (.ins CR dy [])) q (.lst (ns.map V.int))) y (.ins CR dy [("chain",.ref q)])):=fun b o e=>by
    rw [upd_ne (ne_of_none e hy),upd_ne (ne_of_none e hq3)]; exact s4 _ _ e
   have sN:SameN H H3:=s1.trans (s2.trans s3).n
   refine k1 false _ y q ns (sN.trans s5.n) (hL1.same ((s2.trans s3).trans s5)) (sN.tb _ hy) (sN.tb _ hq3) yq ⟨⟨dy,upd_same⟩,by rw [upd_ne yq.symm,upd_same]⟩ ring
end
end At
set_option Elab.async false
set_option linter.all false
set_option maxRecDepth 100000
set_option maxHeartbeats 4000000
namespace At
open PySem L2 PyProof.Rows
section
variable {P:Program} {w:World} {K:PySem.W.Frag} {mg:Str→Option Value} {base:Heap}
def gt (ls:List Int) (p:Int):Int:=ls.getD p.toNat 0
theorem ring_not {ss:List Say} {ns:List Int} (d:Int→Int) (h:∀ s ∈ ss,d s.2.1 - d s.1 ≤ s.2.2) (r:RingOk ss ns):False:=by
 obtain ⟨p,hw⟩:=r.wk
 have:=walk_pot h ns p p hw
 have:=r.neg
 omega
end
end At
set_option Elab.async false
set_option linter.all false
set_option maxRecDepth 100000
set_option maxHeartbeats 4000000
namespace At
open PySem L2 PyProof.Rows
section
variable {P:Program} {w:World} {K:PySem.W.Frag} {mg:Str→Option Value} {base:Heap}
theorem keeps_gt {hs:List Int} {s:Say}:keeps hs s = true ↔ gt hs s.2.1 ≤ gt hs s.1 + s.2.2:=by
 unfold keeps
 rw [decide_eq_true_eq]
 show gt hs s.2.1 - gt hs s.1 ≤ _ ↔ _
 omega
theorem gt_rng {c:Nat} (f:Int→Int) {p:Int} (hp:cnt c p = true):gt ((List.range c).map fun (j:Nat)=>f (j:Int)) p = f p:=by
 obtain ⟨h0,h1⟩:=cnt_iff.mp hp
 unfold gt
 rw [List.getD_eq_getElem?_getD,List.getElem?_map,List.getElem?_range (by omega)]
 show f ((p.toNat:Nat):Int) = f p
 rw [Int.toNat_of_nonneg h0]
theorem ins2 {c:Int} {ss:List Say} (hin:ss.all (inside c) = true) {s:Say} (hs:s ∈ ss):cnt c s.1 = true∧cnt c s.2.1 = true:=by
 have:=List.all_eq_true.mp hin s hs
 unfold inside at this
 rwa [Bool.and_eq_true] at this
theorem pot0 {ss:List Say} {c:Nat} {S:Fn} (hin:ss.all (inside c) = true) (tight:∀ k,cnt ss.length k = true→Tight ss S k) (ends:∀ k,cnt ss.length k = true→S (sy ss k).1 ≠ none∧S (sy ss k).2.1 ≠ none):∀ s ∈ ss,(S s.2.1).getD 0 - (S s.1).getD 0 ≤ s.2.2:=fun s hs=>by
 have h:=keeps_gt.mp (List.all_eq_true.mp (lev_keeps hin tight ends) s hs)
 obtain ⟨c1,c2⟩:=ins2 hin hs
 have e1:gt (lev S c) s.1 = _:=lev_get S c1
 have e2:gt (lev S c) s.2.1 = _:=lev_get S c2
 rw [e1,e2] at h
 omega
theorem lw_get {S S0:Fn} {lift:Int} {c:Nat} {p:Int} (hp:cnt c p = true):gt (lw S S0 lift c) p = (S p).getD ((S0 p).getD 0 + lift):=gt_rng (fun p=>(S p).getD ((S0 p).getD 0 + lift)) hp
theorem lw_len (S S0:Fn) (lift:Int) (c:Nat):(lw S S0 lift c).length = c:=by unfold lw; simp
theorem mvd_len (ns:List Int) (E:Int→Bool) (b:Int):(mvd ns E b).length = ns.length:=by unfold mvd; simp
theorem mvd_get {ns:List Int} {E:Int→Bool} {b p:Int} (hp:cnt ns.length p = true):gt (mvd ns E b) p = if E p = true then gt ns p + b else gt ns p:=by
 obtain ⟨h0,h1⟩:=cnt_iff.mp hp
 have:=gt_rng (c:=ns.length) (fun p=>if E p = true then gt ns p + b else gt ns p) hp
 rw [← this]
 unfold mvd
 congr 1
def wo (ss:List Say) (at_:Int):List Say:=ss.take at_.toNat ++ ss.drop (at_.toNat + 1)
theorem wo_mem {ss:List Say} {at_:Int} {s:Say} (h:s ∈ wo ss at_):∃ k:Int,cnt ss.length k = true∧k ≠ at_∧sy ss k = s:=by
 have key:∀ i:Nat,i < ss.length→i ≠ at_.toNat→ss[i]? = some s→∃ k:Int,cnt ss.length k = true∧k ≠ at_∧sy ss k = s:=fun i hi hne e =>
  ⟨(i:Int),cnt_iff.mpr ⟨by omega,by omega⟩,by omega,by unfold sy; rw [Int.toNat_natCast,e]; rfl⟩
 rcases List.mem_append.mp h with h | h
 ·obtain ⟨i,hi,e⟩:=List.mem_iff_getElem.mp h
  rw [List.length_take] at hi
  rw [List.getElem_take] at e
  exact key i (by omega) (by omega) (by rw [List.getElem?_eq_getElem (by omega),e])
 ·obtain ⟨i,hi,e⟩:=List.mem_iff_getElem.mp h
  rw [List.length_drop] at hi
  rw [List.getElem_drop] at e
  exact key (at_.toNat + 1 + i) (by omega) (by omega) (by rw [List.getElem?_eq_getElem (by omega),e])
theorem wo_sub {ss:List Say} {at_:Int} {s:Say} (h:s ∈ wo ss at_):s ∈ ss:=by
 obtain ⟨k,hk,_,rfl⟩:=wo_mem h
 exact List.mem_of_getElem? (sy_get hk)
theorem wo_in {c:Int} {ss:List Say} {at_:Int} (hin:ss.all (inside c) = true):(wo ss at_).all (inside c) = true:=List.all_eq_true.mpr fun s hs=>List.all_eq_true.mp hin s (wo_sub hs)
theorem lw_keepsN {ss:List Say} {at_:Int} {c:Nat} {S S0:Fn} {lift:Int} (hin:ss.all (inside c) = true) (pt:∀ s ∈ ss,(S0 s.2.1).getD 0 - (S0 s.1).getD 0 ≤ s.2.2) (tight:∀ k,cnt ss.length k = true→k ≠ at_→Tight ss S k) (hl:∀ k v,S k = some v→v - (S0 k).getD 0 ≤ lift):(wo ss at_).all (keeps (lw S S0 lift c)) = true:=by
 refine List.all_eq_true.mpr fun s hs=>keeps_gt.mpr ?_
 have hs':=wo_sub hs
 obtain ⟨c1,c2⟩:=ins2 hin hs'
 have hp:=pt s hs'
 rw [lw_get c1,lw_get c2]
 obtain ⟨k,hk,hne,rfl⟩:=wo_mem hs
 have h3:=tight k hk hne
 unfold Tight at h3
 cases ea:S (sy ss k).1 with
 | some a =>
  obtain ⟨b,eb,hb⟩:=h3 a ea
  rw [eb]
  show b ≤ a + _
  omega
 | none =>
  show (S (sy ss k).2.1).getD _ ≤ (S0 (sy ss k).1).getD 0 + lift + _
  cases eb:S (sy ss k).2.1 with
  | some b =>
   have:=hl _ _ eb
   show b ≤ _
   omega
  | none =>
   show (S0 (sy ss k).2.1).getD 0 + lift ≤ _
   omega
theorem mvd_keepsN {ss:List Say} {at_:Int} {ns:List Int} {E:Int→Bool} {b:Int} (hb:0 ≤ b) (hin:ss.all (inside ns.length) = true) (hk:ss.all (keeps ns) = true) (cl:∀ k,cnt ss.length k = true→k ≠ at_→E (sy ss k).2.1 = true→E (sy ss k).1 = true):(wo ss at_).all (keeps (mvd ns E b)) = true:=by
 refine List.all_eq_true.mpr fun s hs=>keeps_gt.mpr ?_
 have hs':=wo_sub hs
 have h:=keeps_gt.mp (List.all_eq_true.mp hk s hs')
 obtain ⟨c1,c2⟩:=ins2 hin hs'
 obtain ⟨k,hc,hne,rfl⟩:=wo_mem hs
 have hc:=cl k hc hne
 rw [mvd_get c1,mvd_get c2]
 by_cases e2:E (sy ss k).2.1 = true
 ·rw [if_pos e2,if_pos (hc e2)]; omega
 ·rw [if_neg e2]
  split <;> omega
theorem rch_sumN {ss:List Say} {ord:List Int} {S:Fn} {other p:Int} (tight:∀ k ∈ ord,Tight ss S k) (h:Rch ss ord other p):S p ≠ none→S other ≠ none:=by
 induction h with
 | refl=>exact id
 | step hk _ ih =>
  intro hs
  refine ih ?_
  cases e:S (sy ss _).1 with
  | none=>exact absurd e hs
  | some a =>
   obtain ⟨b,eb,_⟩:=tight _ hk a e
   rw [eb]; simp
theorem chainB_own {ss:List Say} {L:Fn} {O:List Int} (own:∀ p k,L p = some k→k ∈ O):∀ (n:Nat) (p:Int),∀ k ∈ chainB ss L n p,k ∈ O
 | 0,p,k,h=>by unfold chainB at h; simp at h
 | n + 1,p,k,h=>by
  unfold chainB at h
  cases e:L p with
  | none=>rw [e] at h; simp at h
  | some j =>
   rw [e] at h
   rcases List.mem_cons.mp h with rfl | h
   ·exact own p _ e
   ·exact chainB_own own n _ k h
def GoodN (b:Bool) (c:Nat) (ss:List Say) (at_:Int) (xs:List Int):Prop:=(∀ ns,RingOk ss ns→False)∧cond b
 (xs.length = c∧(wo ss at_).all (keeps xs) = true∧keeps xs (sy ss at_) = false)
 (walk ss xs (sy ss at_).1 = some (sy ss at_).2.1∧¬ at_ ∈ xs∧sumC ss xs ≤ (sy ss at_).2.2∧xs.length ≤ 400)
end
end At
set_option Elab.async false
set_option linter.all false
set_option maxRecDepth 100000
set_option maxHeartbeats 4000000
namespace At
open PySem L2 PyProof.Rows
section
variable {P:Program} {w:World} {K:PySem.W.Frag} {mg:Str→Option Value} {base:Heap}
def spHeights:Sp:=fun vs H Q _=>∃ (c:Int) (a:Addr) (ns:List Int),vs = [.int c,.ref a]∧H a = some (.lst (ns.map V.int))∧ns.length ≤ 1000∧∀ H',Same H H'→Q (.bl (decide ((ns.length:Int) = c))) H'
theorem scHeights:FnScope ["count","value"] ["count","value"] (defScope sHeights):=⟨rfl,rfl,rfl,by decide +kernel,rfl,by decide +kernel,by decide +kernel⟩
theorem fm_true (n:Nat):((List.range n).filterMap fun _=>some (V.bl true)) = (List.replicate n true).map V.bl:=by
 induction n with
 | zero=>rfl
 | succ n ih=>rw [List.range_succ,List.filterMap_append,ih,List.replicate_succ',List.map_append]; rfl
theorem all_rep (n:Nat):(List.replicate n true).all id = true:=by rw [List.all_eq_true]; intro b hb; exact (List.mem_replicate.mp hb).2
theorem ok_heights {f fw:Addr} {fd dw:FuncData} (D:Def K mg "are_heights" sHeights ["count","value"] f fd) (DW:Def K mg "is_whole" sWhole ["value"] fw dw) (G:G1 K mg):FnOk P w K mg base CX0 2 f fd ["count","value"] spHeights:=by
 have GW:FnOk P w K mg base CX0 1 fw dw ["value"] spWhole:=ok_whole DW G
 refine D.fn.ok scHeights (fun vs H Q E h=>?_) (fun cdv A outer s H vs Q E hr h=>?_)
 ·obtain ⟨c,a,ns,rfl,_⟩:=h; rfl
 ·obtain ⟨c,a,ns,rfl,ha,hz,k⟩:=h
  refine ⟨_,pss_cons (ps_if (PW.pt (pw_or (pt_not (pt_val (pe_callB call_isinst (by rfl) G.isi boot_isinstance (pa_cons (pv 1) (pa_cons (pe_ty (by rfl) G.list boot_list) pa_nil)))))
    (pw_or1 (pt_cmpR op_ne (pe_callB call_len_seq (by rfl) G.len PySem.boot_len (pa_cons (pv 1) pa_nil)) (pv 0) (nomark _))))) (pss_one (ps_ret pe_bl)) pss_nil)
   (pss_one (ps_ret (pe_callB (call_allL rfl) (by rfl) G.all boot_all (pa_cons
    (pe_comp (XN:=["count","value"]) (outer:=defScope sHeights) (N:=["height"]) (cap:=[none]) (by exact ⟨rfl,by decide +kernel,by decide +kernel,by decide +kernel,.own .nil,by decide +kernel⟩) rfl (pi_list (pv 1))
     (fun _ _ _ _ _ _=>pg_name (i:=0) (show (["height"]:List Str).Nodup by decide +kernel) rfl (Or.inl rfl)) (fun _ _ _ _ _ _=>pifs_nil)
     (fun _ _ _ _ _ _=>pe_call GW hr (by rfl) DW.at_ DW.fn.kp DW.bd .nil pass0 (pa_cons (pv 0) pa_nil))) pa_nil)))),?_⟩
  refine ⟨_,rfl,_,_,_,_,_,rfl,.lst ha,rfl,G.kll,true,rfl,iteF ?_⟩
  refine ⟨_,rfl,a,_,rfl,.inl (SqL.of ha),_,rfl,rfl,_,rfl,?_⟩
  refine ite2 (fun h0=>?_) (fun h0=>?_)
  ·have e:decide ((ns.length:Int) = c) = false:=by
    rw [dec_int] at h0
    simp at h0
    exact decide_eq_false h0
   rw [← e]
   exact k H (Same.refl _)
  ·have e:decide ((ns.length:Int) = c) = true:=by
    rw [dec_int] at h0
    simp at h0
    exact decide_eq_true h0
   rw [e] at k
   refine ⟨_,rfl,a,rfl,⟨_,SqL.of ha⟩,fun q hq=>?_⟩
   refine comp_list (outs:=fun _=>some (V.bl true)) (fun σ=>∃ v,σ = [v]) hq (SqL.of ha) (by rw [List.length_map]; exact small1000 hz) ⟨none,rfl⟩ (fun i x σc Hc Yes No hx sm _ ⟨v,hv⟩ yes no=>?_) (fun Hc sm hD=>?_)
   ·rw [List.getElem?_map] at hx
    cases en:ns[i]? with
    | none=>rw [en] at hx; cases hx
    | some z =>
     rw [en] at hx; cases hx
     subst hv
     exact ⟨_,rfl,z,rfl,yes _ _ _ ⟨_,rfl⟩ (Same.refl _) rfl⟩
   ·rw [fm_true] at hD
    refine ⟨q,List.replicate _ true,rfl,SqL.of hD,?_⟩
    rw [all_rep]
    exact k Hc sm
end
end At
set_option Elab.async false
set_option linter.all false
set_option maxRecDepth 100000
set_option maxHeartbeats 4000000
namespace At
open PySem L2 PyProof.Rows
section
variable {P:Program} {w:World} {K:PySem.W.Frag} {mg:Str→Option Value} {base:Heap}
def spAbove:Sp:=fun vs H Q _=>∃ (b:Addr) (hs:List Int) (one other:Int),vs = [.ref b,.int one,.int other]∧H b = some (.lst (hs.map V.int))∧cnt hs.length one = true∧cnt hs.length other = true∧Q (.int (hs.getD other.toNat 0 - hs.getD one.toNat 0)) H
theorem scAbove:FnScope ["heights","one","other"] ["heights","one","other"] (defScope sAbove):=⟨rfl,rfl,rfl,by decide +kernel,rfl,by decide +kernel,by decide +kernel⟩
theorem ok_above {f:Addr} {fd:FuncData} (D:Def K mg "above" sAbove ["heights","one","other"] f fd):FnOk P w K mg base CX0 1 f fd ["heights","one","other"] spAbove:=by
 refine D.fn.ok scAbove (fun vs H Q E h=>?_) (fun cdv A outer s H vs Q E hr h=>?_)
 ·obtain ⟨b,hs,one,other,rfl,_⟩:=h; rfl
 ·obtain ⟨b,hs,one,other,rfl,hb,h1,h2,k⟩:=h
  refine ⟨_,pss_one (ps_ret (pe_op op_sub (pe_ix ix_list (pv 0) (pv 2) (fun _ _=>rfl)) (pe_ix ix_list (pv 0) (pv 1) (fun _ _=>rfl)))),?_⟩
  exact ⟨_,rfl,_,rfl,b,_,_,_,rfl,rfl,SqL.of hb,at_ints h2,_,rfl,_,rfl,b,_,_,_,rfl,rfl,SqL.of hb,at_ints h1,_,_,rfl,rfl,k⟩
end
end At
set_option Elab.async false
set_option linter.all false
set_option maxRecDepth 100000
set_option maxHeartbeats 4000000
namespace At
open PySem L2 PyProof.Rows
section
variable {P:Program} {w:World} {K:PySem.W.Frag} {mg:Str→Option Value} {base:Heap}
def spKeepOne:Sp:=fun vs H Q _=>∃ (p b:Addr) (s:Say) (hs:List Int),vs = [.ref p,.ref b]∧H p = some (tupOf s)∧H b = some (.lst (hs.map V.int))∧inside hs.length s = true∧Q (.bl (keeps hs s)) H
theorem scKeepOne:FnScope ["saying","heights"] ["saying","heights"] (defScope sKeepOne):=⟨rfl,rfl,rfl,by decide +kernel,rfl,by decide +kernel,by decide +kernel⟩
theorem ok_keepOne {f fa:Addr} {fd da:FuncData} (D:Def K mg "keep_one" sKeepOne ["saying","heights"] f fd) (DA:Def K mg "above" sAbove ["heights","one","other"] fa da):FnOk P w K mg base CX0 2 f fd ["saying","heights"] spKeepOne:=by
 have GA:FnOk P w K mg base CX0 1 fa da ["heights","one","other"] spAbove:=ok_above DA
 refine D.fn.ok scKeepOne (fun vs H Q E h=>?_) (fun cdv A outer s H vs Q E hr h=>?_)
 ·obtain ⟨p,b,s,hs,rfl,_⟩:=h; rfl
 ·obtain ⟨p,b,⟨l,u,n⟩,hs,rfl,hp,hb,hin,k⟩:=h
  have hp:H p = some (.tup [.int l,.int u,.int n]):=hp
  unfold inside at hin
  rw [Bool.and_eq_true] at hin
  refine ⟨_,pss_one (ps_ret (pe_cmpR op_le (pe_call GA hr (by rfl) DA.at_ DA.fn.kp DA.bd .nil pass0 (pa_cons (pv 1) (pa_cons (pe_ix ix_tup (pv 0) pe_int (fun _ _=>rfl)) (pa_cons (pe_ix ix_tup (pv 0) pe_int (fun _ _=>rfl)) pa_nil)))) (pe_ix ix_tup (pv 0) pe_int (fun _ _=>rfl)) (nomark _))),?_⟩
  exact ⟨_,rfl,_,rfl,p,_,_,_,rfl,rfl,SqT.of hp,rfl,_,rfl,p,_,_,_,rfl,rfl,SqT.of hp,rfl,b,hs,l,u,rfl,hb,hin.1,hin.2,_,rfl,p,_,_,_,rfl,rfl,SqT.of hp,rfl,_,_,rfl,rfl,k⟩
end
end At
set_option Elab.async false
set_option linter.all false
set_option maxRecDepth 100000
set_option maxHeartbeats 4000000
namespace At
open PySem L2 PyProof.Rows
section
variable {P:Program} {w:World} {K:PySem.W.Frag} {mg:Str→Option Value} {base:Heap}
def spKeepAll:Sp:=fun vs H Q _=>∃ (a b:Addr) (ss:List Say) (hs:List Int),vs = [.ref a,.ref b]∧SaysAt H a ss∧ss.length ≤ 1000∧H b = some (.lst (hs.map V.int))∧ss.all (inside hs.length) = true∧∀ H',Same H H'→Q (.bl (ss.all (keeps hs))) H'
theorem scKeepAll:FnScope ["sayings","heights"] ["sayings","heights"] (defScope sKeepAll):=⟨rfl,rfl,rfl,by decide +kernel,rfl,by decide +kernel,by decide +kernel⟩
theorem ok_keepAll {f fo fa:Addr} {fd d1 da:FuncData} (D:Def K mg "keep_all" sKeepAll ["sayings","heights"] f fd) (DO:Def K mg "keep_one" sKeepOne ["saying","heights"] fo d1) (DA:Def K mg "above" sAbove ["heights","one","other"] fa da) (G:G1 K mg):FnOk P w K mg base CX0 3 f fd ["sayings","heights"] spKeepAll:=by
 have GO:FnOk P w K mg base CX0 2 fo d1 ["saying","heights"] spKeepOne:=ok_keepOne DO DA
 refine D.fn.ok scKeepAll (fun vs H Q E h=>?_) (fun cdv A outer s H vs Q E hr h=>?_)
 ·obtain ⟨a,b,ss,hs,rfl,_⟩:=h; rfl
 ·obtain ⟨a,b,ss,hs,rfl,ha,hz,hb,hin,k⟩:=h
  obtain ⟨ps,ha,hS⟩:=ha.ex
  refine ⟨_,pss_one (ps_ret (pe_callB (call_allL rfl) (by rfl) G.all boot_all (pa_cons
    (pe_comp (XN:=["sayings","heights"]) (outer:=defScope sKeepAll) (N:=["saying","heights"]) (cap:=[none,some 1]) (by exact ⟨rfl,by decide +kernel,by decide +kernel,by decide +kernel,.own (.cap rfl rfl rfl .nil),by decide +kernel⟩) rfl (pi_list (pv 0))
     (fun _ _ _ _ _ _=>pg_name (i:=0) (show (["saying","heights"]:List Str).Nodup by decide +kernel) rfl (Or.inl rfl)) (fun _ _ _ _ _ _=>pifs_nil)
     (fun _ _ _ _ _ _=>pe_call GO hr (by rfl) DO.at_ DO.fn.kp DO.bd .nil pass0 (pa_cons (pv 0) (pa_cons (pv 1) pa_nil)))) pa_nil))),?_⟩
  refine ⟨_,rfl,a,rfl,⟨_,SqL.of ha⟩,fun q hq=>?_⟩
  refine comp_list (outs:=fun i=>(ss[i]?).map fun s=>V.bl (keeps hs s)) (fun σ=>∃ v,σ = [v,some (.ref b)]) hq (SqL.of ha) (by rw [List.length_map,hS.len]; exact small1000 hz) ⟨none,rfl⟩ (fun i x σc Hc Yes No hx sm _ ⟨v,hv⟩ yes no=>?_) (fun Hc sm hD=>?_)
  ·rw [List.getElem?_map] at hx
   cases ep:ps[i]? with
   | none=>rw [ep] at hx; cases hx
   | some p =>
    rw [ep] at hx; cases hx
    subst hv
    have hl:i < ss.length:=by rw [← hS.len]; exact (List.getElem?_eq_some_iff.mp ep).1
    have es:ss[i]? = some ss[i]:=List.getElem?_eq_getElem hl
    exact ⟨_,rfl,_,rfl,p,b,ss[i],hs,rfl,sm _ _ (hS.at_ i p _ ep es),sm _ _ hb,List.all_eq_true.mp hin _ (List.getElem_mem hl),yes _ _ _ ⟨_,rfl⟩ (Same.refl _) (by rw [es]; rfl)⟩
  ·rw [List.length_map,hS.len,fm_map] at hD
   refine ⟨q,ss.map (keeps hs),rfl,?_,?_⟩
   ·rw [List.map_map]; exact SqL.of hD
   ·rw [List.all_map]
    exact k Hc sm
end
end At
set_option Elab.async false
set_option linter.all false
set_option maxRecDepth 100000
set_option maxHeartbeats 4000000
namespace At
open PySem L2 PyProof.Rows
section
variable {P:Program} {w:World} {K:PySem.W.Frag} {mg:Str→Option Value} {base:Heap}
def hDue (c:Int) (hs:List Int) (ss:List Say):Bool:=decide ((hs.length:Int) = c) && ss.all (keeps hs)
def spAreKept:Sp:=fun vs H Q _=>∃ (c:Int) (a b:Addr) (ss:List Say) (hs:List Int),vs = [.int c,.ref a,.ref b]∧SaysAt H a ss∧ss.length ≤ 1000∧ss.all (inside c) = true∧H b = some (.lst (hs.map V.int))∧hs.length ≤ 1000∧∀ H',Same H H'→Q (.bl (hDue c hs ss)) H'
theorem scAreKept:FnScope ["count","sayings","heights"] ["count","sayings","heights"] (defScope s_are_kept):=⟨rfl,rfl,rfl,by decide +kernel,rfl,by decide +kernel,by decide +kernel⟩
theorem ok_areKept {k1:Nat} {f fh fk:Addr} {fd dh dk:FuncData} (D:Def K mg "are_kept" s_are_kept ["count","sayings","heights"] f fd) (DH:Def K mg "are_heights" sHeights ["count","value"] fh dh) (GH:FnOk P w K mg base CX0 3 fh dh ["count","value"] spHeights)
  (DK:Def K mg "keep_all" sKeepAll ["sayings","heights"] fk dk) (GK:FnOk P w K mg base CX0 3 fk dk ["sayings","heights"] spKeepAll):FnOk P w K mg base CX0 4 f fd ["count","sayings","heights"] spAreKept:=by
 refine D.fn.ok scAreKept (fun vs H Q E h=>?_) (fun cdv A0 outer s H vs Q X hr h=>?_)
 ·obtain ⟨_,_,_,_,_,rfl,_⟩:=h; rfl
 ·obtain ⟨c,a,b,ss,hs,rfl,ha,hz,hin,hb,hl,k⟩:=h
  refine ⟨_,pss_one (ps_ret (pe_and (pe_call GH hr (by rfl) DH.at_ DH.fn.kp DH.bd .nil pass0 (pa_cons (pv 0) (pa_cons (pv 2) pa_nil))) (pe_one (pe_call GK hr (by rfl) DK.at_ DK.fn.kp DK.bd .nil pass0 (pa_cons (pv 1) (pa_cons (pv 2) pa_nil)))))),?_⟩
  refine ⟨_,rfl,_,rfl,c,b,hs,rfl,hb,hl,fun H1 s1=>⟨_,rfl,?_⟩⟩
  unfold hDue at k
  refine ite2 (fun h0=>?_) (fun h0=>?_)
  ·have e:(hs.length:Int) = c:=of_decide_eq_true h0
   rw [h0,Bool.true_and] at k
   exact ⟨_,rfl,_,rfl,a,b,ss,hs,rfl,ha.same s1,hz,s1 _ _ hb,by rw [e]; exact hin,fun H2 s2=>k H2 (s1.trans s2)⟩
  ·rw [Bool.eq_false_iff.mpr h0,Bool.false_and] at k
   exact k H1 s1
end
end At
set_option Elab.async false
set_option linter.all false
set_option maxRecDepth 100000
set_option maxHeartbeats 4000000
namespace At
open PySem L2 PyProof.Rows
section
variable {P:Program} {w:World} {K:PySem.W.Frag} {mg:Str→Option Value} {base:Heap}
def spChain:Sp:=fun vs H Q _=>∃ (a:Addr) (ss:List Say) (b:Addr) (ns:List Int) (one other:Int),vs = [.ref a,.ref b,.int one,.int other]∧SaysAt H a ss∧H b = some (.lst (ns.map V.int))∧ss.length ≤ 1000∧Q (.bl (decide (walk ss ns one = some other))) H
theorem scChain:FnScope ["sayings","value","one","other","place","at"] ["sayings","value","one","other"] (defScope sChain):=⟨rfl,rfl,rfl,by decide +kernel,rfl,by decide +kernel,by decide +kernel⟩
theorem ok_chain {f fc fw:Addr} {fd dc dw:FuncData} (D:Def K mg "is_chain" sChain ["sayings","value","one","other"] f fd) (DC:Def K mg "is_counted" sCounted ["count","value"] fc dc) (DW:Def K mg "is_whole" sWhole ["value"] fw dw) (G:G1 K mg):FnOk P w K mg base CX0 3 f fd ["sayings","value","one","other"] spChain:=by
 have GC:FnOk P w K mg base CX0 2 fc dc ["count","value"] spCounted:=ok_counted DC DW G
 refine D.fn.ok scChain (fun vs H Q E h=>?_) (fun cdv A outer s H vs Q E hr h=>?_)
 ·obtain ⟨a,ss,b,ns,one,other,rfl,_⟩:=h; rfl
 ·obtain ⟨a,ss,b,ns,one,other,rfl,ha,hb,hz,k⟩:=h
  obtain ⟨ps,ha,hS⟩:=ha.ex
  refine ⟨_,pss_cons (ps_if (pt_not (pt_val (pe_callB call_isinst (by rfl) G.isi boot_isinstance (pa_cons (pv 1) (pa_cons (pe_ty (by rfl) G.list boot_list) pa_nil))))) (pss_one (ps_ret pe_bl)) pss_nil)
   (pss_cons (ps_set (i:=4) scChain.nd rfl (Or.inl rfl) (pv 2))
   (pss_cons (ps_for PassesOwn.never rfl (pi_list (pv 1)) (pg_name (i:=5) scChain.nd rfl (Or.inl rfl))
    (pss_cons (ps_if (PW.pt (pw_or (pt_not (pt_val (pe_call GC hr (by rfl) DC.at_ DC.fn.kp DC.bd .nil pass0 (pa_cons (pe_callB call_len_seq (by rfl) G.len PySem.boot_len (pa_cons (pv 0) pa_nil)) (pa_cons (pv 5) pa_nil)))))
      (pw_or1 (pt_cmpR op_ne (pe_ix ix_tup (pe_ix ix_list (pv 0) (pv 5) (fun _ _=>rfl)) pe_int (fun _ _=>rfl)) (pv 4) (nomark _))))) (pss_one (ps_ret pe_bl)) pss_nil)
     (pss_one (ps_set (i:=4) scChain.nd rfl (Or.inl rfl) (pe_ix ix_tup (pe_ix ix_list (pv 0) (pv 5) (fun _ _=>rfl)) pe_int (fun _ _=>rfl))))))
   (pss_one (ps_ret (pe_cmpR op_eq (pv 4) (pv 3) (nomark _)))))),?_⟩
  refine ⟨_,rfl,_,_,_,_,_,rfl,.lst hb,rfl,G.kll,true,rfl,iteF ?_⟩
  refine ⟨_,rfl,?_⟩
  refine ⟨_,rfl,b,rfl,⟨_,SqL.of hb⟩,for_list (K:=K) (a:=b) (xs:=ns.map V.int) (fun i σ H2=>H2 = H∧∃ (p:Int) (v:Option V),σ = [some (.ref a),some (.ref b),some (.int one),some (.int other),some (.int p),v]∧walk ss ns one = walk ss (ns.drop i) p)
   ⟨rfl,one,none,rfl,rfl⟩ (fun i σ H2 _ ⟨e,_⟩=>by rw [e]; exact SqL.of hb) ?_ ?_⟩
  ·rintro i y σ H2 hi ⟨rfl,p,v,rfl,hw⟩
   rw [List.getElem?_map] at hi
   cases en:ns[i]? with
   | none=>rw [en] at hi; cases hi
   | some z =>
    rw [en] at hi; cases hi
    have ed:ns.drop i = z :: ns.drop (i + 1):=by
     obtain ⟨hl,rfl⟩:=List.getElem?_eq_some_iff.mp en
     exact List.drop_eq_getElem_cons hl
    rw [ed] at hw
    refine ⟨_,rfl,a,_,rfl,.inl (SqL.of ha),_,rfl,_,z,rfl,_,rfl,?_⟩
    have el:((ps.map V.ref).length:Int) = ss.length:=by rw [List.length_map,hS.len]
    rw [el]
    cases hc:cnt ss.length z with
    | false =>
     have hwn:walk ss ns one = none:=by rw [hw]; unfold walk; rw [hc]; rfl
     rw [hwn] at k
     exact k
    | true =>
     obtain ⟨⟨l,u,n⟩,es,h0⟩:=get_of_cnt hc
     obtain ⟨q,eq,hq⟩:=hS.get es
     have hq:H2 q = some (.tup [.int l,.int u,.int n]):=hq
     have e1:(ps.map V.ref)[z.toNat]? = some (.ref q):=by rw [List.getElem?_map,eq]; rfl
     have hw2:walk ss ns one = if l = p then walk ss (ns.drop (i + 1)) u else none:=by
      rw [hw]; conv=>lhs; unfold walk
      rw [hc,if_pos rfl,es]
     refine ⟨_,rfl,_,rfl,a,_,_,_,rfl,rfl,SqL.of ha,atI_of h0 e1,q,_,_,_,rfl,rfl,SqT.of hq,rfl,_,rfl,rfl,_,rfl,?_⟩
     refine ite2 (fun hne=>?_) (fun hne=>?_)
     ·rw [dec_int] at hne
      have hne:¬ l = p:=by simpa using hne
      rw [hw2,if_neg hne] at k
      exact k
     ·rw [dec_int] at hne
      have hne:l = p:=by simpa using hne
      refine ⟨_,rfl,_,rfl,a,_,_,_,rfl,rfl,SqL.of ha,atI_of h0 e1,q,_,_,_,rfl,rfl,SqT.of hq,rfl,?_⟩
      exact ⟨rfl,u,_,rfl,by rw [hw2,if_pos hne]⟩
  ·rintro σ H2 ⟨rfl,p,v,rfl,hw⟩
   rw [List.length_map,List.drop_length] at hw
   refine ⟨_,rfl,_,rfl,rfl,?_⟩
   have e:decide (V.int p = V.int other) = decide (walk ss ns one = some other):=by
    rw [hw,dec_int,Bool.eq_iff_iff]; simp [walk]
   rw [e]
   exact k
end
end At
set_option Elab.async false
set_option linter.all false
set_option maxRecDepth 100000
set_option maxHeartbeats 4000000
namespace At
open PySem L2 PyProof.Rows
section
variable {P:Program} {w:World} {K:PySem.W.Frag} {mg:Str→Option Value} {base:Heap}
def spChainSum:Sp:=fun vs H Q _=>∃ (a b:Addr) (ss:List Say) (ns:List Int),vs = [.ref a,.ref b]∧SaysAt H a ss∧H b = some (.lst (ns.map V.int))∧ns.length ≤ 1000∧ns.all (cnt ss.length) = true∧∀ H',Same H H'→Q (.int (sumC ss ns)) H'
theorem scChainSum:FnScope ["sayings","chain"] ["sayings","chain"] (defScope sChainSum):=⟨rfl,rfl,rfl,by decide +kernel,rfl,by decide +kernel,by decide +kernel⟩
theorem ok_chainSum {f:Addr} {fd:FuncData} (D:Def K mg "chain_sum" sChainSum ["sayings","chain"] f fd) (G:G1 K mg):FnOk P w K mg base CX0 1 f fd ["sayings","chain"] spChainSum:=by
 refine D.fn.ok scChainSum (fun vs H Q E h=>?_) (fun cdv A outer s H vs Q E hr h=>?_)
 ·obtain ⟨a,b,ss,ns,rfl,_⟩:=h; rfl
 ·obtain ⟨a,b,ss,ns,rfl,ha,hb,hz,hin,k⟩:=h
  obtain ⟨ps,ha,hS⟩:=ha.ex
  refine ⟨_,pss_one (ps_ret (pe_callB (call_sumL rfl) (by rfl) G.sum boot_sum (pa_cons
    (pe_comp (XN:=["sayings","chain"]) (outer:=defScope sChainSum) (N:=["at","sayings"]) (cap:=[none,some 0]) (by exact ⟨rfl,by decide +kernel,by decide +kernel,by decide +kernel,.own (.cap rfl rfl rfl .nil),by decide +kernel⟩) rfl (pi_list (pv 1))
     (fun _ _ _ _ _ _=>pg_name (i:=0) (show (["at","sayings"]:List Str).Nodup by decide +kernel) rfl (Or.inl rfl)) (fun _ _ _ _ _ _=>pifs_nil)
     (fun _ _ _ _ _ _=>pe_ix (ixT (K:=K)) (pe_ix (ixL (K:=K)) (pv 1) (pv 0) (fun _ _=>rfl)) pe_int (fun _ _=>rfl))) pa_nil))),?_⟩
  refine ⟨_,rfl,b,rfl,⟨_,SqL.of hb⟩,fun q hq=>?_⟩
  refine comp_list (outs:=fun i=>(ns[i]?).map fun z=>V.int (num ss z)) (fun σ=>∃ v,σ = [v,some (.ref a)]) hq (SqL.of hb) (by rw [List.length_map]; exact small1000 hz) ⟨none,rfl⟩ (fun i x σc Hc Yes No hx sm _ ⟨v,hv⟩ yes no=>?_) (fun Hc sm hD=>?_)
  ·rw [List.getElem?_map] at hx
   cases ez:ns[i]? with
   | none=>rw [ez] at hx; cases hx
   | some z =>
    rw [ez] at hx; cases hx
    subst hv
    obtain ⟨⟨l,u,n⟩,es,h0⟩:=get_of_cnt (List.all_eq_true.mp hin z (List.mem_of_getElem? ez))
    obtain ⟨p,ep,hp⟩:=hS.get es
    have hp:Hc p = some (.tup [.int l,.int u,.int n]):=sm _ _ hp
    have e1:(ps.map V.ref)[z.toNat]? = some (.ref p):=by rw [List.getElem?_map,ep]; rfl
    exact ⟨_,rfl,_,rfl,a,_,_,_,rfl,rfl,SqL.of (sm _ _ ha),atI_of h0 e1,p,_,_,_,rfl,rfl,SqT.of hp,rfl,yes _ _ _ ⟨_,rfl⟩ (Same.refl _) (by rw [ez]; simp [num,es])⟩
  ·rw [List.length_map,fm_map] at hD
   refine ⟨q,ns.map (num ss),rfl,?_,k Hc sm⟩
   rw [List.map_map]; exact SqL.of hD
end
end At
set_option Elab.async false
set_option linter.all false
set_option maxRecDepth 100000
set_option maxHeartbeats 4000000
namespace At
open PySem L2 PyProof.Rows
section
variable {P:Program} {w:World} {K:PySem.W.Frag} {mg:Str→Option Value} {base:Heap}
def rDue (ss:List Say) (ns:List Int):Bool:=match ns with
 | []=>false
 | k :: r=>cnt ss.length k && (decide (walk ss (k :: r) (sy ss k).1 = some (sy ss k).1) && decide (sumC ss (k :: r) < 0))
theorem rDue_cons (ss:List Say) (k:Int) (r:List Int):rDue ss (k :: r) = (cnt ss.length k && (decide (walk ss (k :: r) (sy ss k).1 = some (sy ss k).1) && decide (sumC ss (k :: r) < 0))):=rfl
theorem walk_cnt {ss:List Say}:∀ (ns:List Int) (p q:Int),walk ss ns p = some q→ns.all (cnt ss.length) = true
 | [],_,_,_=>rfl
 | k :: r,p,q,h=>by
  unfold walk at h
  cases hc:cnt ss.length k with
  | false=>rw [hc] at h; cases h
  | true =>
   obtain ⟨s,es,_⟩:=get_of_cnt hc
   rw [hc,if_pos rfl,es] at h
   dsimp only at h
   rw [List.all_cons,hc,Bool.true_and]
   split at h
   ·exact walk_cnt r _ _ h
   ·cases h
end
end At
set_option Elab.async false
set_option linter.all false
set_option maxRecDepth 100000
set_option maxHeartbeats 4000000
namespace At
open PySem L2 PyProof.Rows
section
variable {P:Program} {w:World} {K:PySem.W.Frag} {mg:Str→Option Value} {base:Heap}
def spDrawn (K:PySem.W.Frag):Sp:=fun vs H Q _=>∃ (a:Addr) (ns:List Int) (c:Nat),vs = [.ref a,.int c]∧SqL K H a (ns.map V.int)∧ns.length ≤ 63∧c ≤ 1000∧∀ q H',H q = none→Same H H'→H' q = some (.lst ((drawn ns c).map V.int))→Q (.ref q) H'
theorem scDrawn:FnScope ["_law_script","_law_count","_law_most"] ["_law_script","_law_count"] (defScope sDrawn):=⟨rfl,rfl,rfl,by decide +kernel,rfl,by decide +kernel,by decide +kernel⟩
theorem ok_drawn {f:Addr} {fd:FuncData} (D:Def K mg "_law_drawn" sDrawn ["_law_script","_law_count"] f fd) (G:G1 K mg):FnOk P w K mg base CX0 1 f fd ["_law_script","_law_count"] (spDrawn K):=by
 refine D.fn.ok scDrawn (fun vs H Q E h=>?_) (fun cdv A outer s H vs Q E hr h=>?_)
 ·obtain ⟨a,ns,c,rfl,_⟩:=h; rfl
 ·obtain ⟨a,ns,c,rfl,ha,hz,hc,k⟩:=h
  have hu:=hr.units
  refine ⟨_,pss_cons (ps_set (i:=2) scDrawn.nd rfl (Or.inr rfl) (pe_ix ix_tup (pe_tup (pa_cons pe_int (pa_cons pe_int pa_nil))) (pe_op op_mod (pe_op op_fdiv (pe_callB (call_sumL rfl) (by rfl) G.sum boot_sum (pa_cons (pv 0) pa_nil)) pe_int) pe_int) (fun _ _=>rfl)))
   (pss_one (ps_ret (pe_comp (XN:=["_law_script","_law_count","_law_most"]) (outer:=defScope sDrawn) (N:=["_law_place","_law_script","_law_most"]) (cap:=[none,some 0,some 2])
    (by exact ⟨rfl,by decide +kernel,by decide +kernel,by decide +kernel,.own (.cap rfl rfl rfl (.cap rfl rfl rfl .nil)),by decide +kernel⟩) rfl (pi_range1 (by rfl) G.range (pa_cons (pv 1) pa_nil))
     (fun _ _ _ _ _ _=>pg_name (i:=0) (show (["_law_place","_law_script","_law_most"]:List Str).Nodup by decide +kernel) rfl (Or.inl rfl)) (fun _ _ _ _ _ _=>pifs_nil)
     (fun _ _ _ _ _ _=>pe_ifExp (pt_cmpR (op_neK (K:=K) hu) (pv 1) (pe_lst pa_nil) (nomark _))
      (pe_op op_mod (pe_op op_fdiv (pe_ix (ixL (K:=K)) (pv 1) (pe_op op_mod (pv 0) (pe_callB (call_lenK (K:=K)) (by rfl) G.len PySem.boot_len (pa_cons (pv 1) pa_nil))) (fun _ _=>rfl)) pe_int) (pv 2)) pe_int)))),?_⟩
  refine ⟨by show 2 ≤ sizeLine; decide,fun t ht=>?_⟩
  have s1:Same H (upd H t (.tup [.int 10,.int 1000])):=fun b o e=>by rw [upd_ne (ne_of_none e ht)]; exact e
  refine ⟨_,rfl,a,ns,rfl,s1.seq ha,_,_,rfl,rfl,⟨by decide,by decide⟩,_,_,rfl,rfl,(by show (0:Int) < 2; decide),t,_,_,_,rfl,rfl,SqT.of upd_same,at_ints (hs:=[10,1000]) (cnt_mod (n:=2) (by decide)),?_⟩
  refine ⟨_,rfl,_,rfl,by omega,by omega,fun q hq=>?_⟩
  have hq0:H q = none:=s1.free hq
  refine comp_range (n:=(c:Int).toNat) (outs:=fun i=>some (V.int (drawnAt ns i))) (fun σ=>∃ v,σ = [v,some (.ref a),some (.int (mostOf ns))]) hq (by rw [Int.toNat_natCast]; exact small1000 hc) ⟨none,rfl⟩ (fun i σc Hc Yes No hi sm _ ⟨v,hv⟩ yes no=>?_) (fun Hc sm hD=>?_)
  ·subst hv
   refine ⟨_,rfl,by show 0 ≤ sizeLine; decide,fun q2 hq2=>?_⟩
   have s2:Same Hc (upd Hc q2 (.lst [])):=fun b o e=>by rw [upd_ne (ne_of_none e hq2)]; exact e
   have ha2:=((s1.trans sm).trans s2).seq ha
   refine ⟨a,q2,ns,[],rfl,rfl,ha2,SqL.of upd_same,_,rfl,?_⟩
   by_cases hn:ns = []
   ·rw [decide_eq_true hn]
    refine iteF ?_
    exact yes _ _ _ ⟨_,rfl⟩ s2 (by unfold drawnAt; rw [if_pos hn])
   ·rw [decide_eq_false hn]
    refine iteT ?_
    have hl:0 < ns.length:=List.length_pos_iff.mpr hn
    have hlm:((ns.map V.int).length:Int) = (ns.length:Int):=by rw [List.length_map]
    refine ⟨_,rfl,_,rfl,_,rfl,a,_,rfl,.inl ha2,?_⟩
    rw [hlm]
    refine ⟨_,_,rfl,rfl,(by show (0:Int) < ns.length; omega),a,_,_,_,rfl,rfl,ha2,at_ints (hs:=ns) (cnt_mod hl),_,_,rfl,rfl,⟨by decide,by decide⟩,_,rfl,_,_,rfl,rfl,mostOf_pos ns,?_⟩
    refine yes _ _ _ ⟨_,rfl⟩ s2 ?_
    unfold drawnAt
    rw [if_neg hn]
    have e:((i:Int) % (ns.length:Int)).toNat = i % ns.length:=by omega
    rw [e]
  ·refine k q Hc hq0 (s1.trans sm) ?_
   rw [hD,Int.toNat_natCast]
   unfold drawn
   rw [List.map_map]
   rw [show (fun i=>some (V.int (drawnAt ns i))) = some ∘ (V.int ∘ drawnAt ns) from rfl,List.filterMap_eq_map]
end
end At
set_option Elab.async false
set_option linter.all false
set_option maxRecDepth 100000
set_option maxHeartbeats 4000000
namespace At
open PySem L2 PyProof.Rows
section
variable {P:Program} {w:World} {K:PySem.W.Frag} {mg:Str→Option Value} {base:Heap}
theorem cut_take (xs:List V) (k:Nat):cutV xs none (some (k:Int)) = xs.take k:=by
 unfold cutV
 rw [HT.sIx_none,HT.sIx_nat,List.drop_zero,Nat.sub_zero]
 by_cases h:k ≤ xs.length
 ·rw [Nat.min_eq_left h]
 ·rw [Nat.min_eq_right (by omega),List.take_of_length_le (Nat.le_refl _),List.take_of_length_le (by omega)]
theorem SaysL.snoc {H:Hp} {ps:List Addr} {ss:List Say} {p:Addr} {s:Say} (h:SaysL H ps ss) (e:H p = some (tupOf s)):SaysL H (ps ++ [p]) (ss ++ [s]):=by
 refine ⟨by rw [List.length_append,List.length_append,h.len]; rfl,fun i q t a b=>?_⟩
 by_cases hi:i < ps.length
 ·rw [List.getElem?_append_left hi] at a
  rw [List.getElem?_append_left (by rw [← h.len]; exact hi)] at b
  exact h.at_ i q t a b
 ·rw [List.getElem?_append_right (by omega)] at a
  rw [List.getElem?_append_right (by rw [← h.len]; omega)] at b
  rw [h.len] at a
  cases hj:i - ss.length with
  | zero=>rw [hj] at a b; simp at a b; subst a b; exact e
  | succ j=>rw [hj] at a; simp at a
theorem SaysL.take {H:Hp} {ps:List Addr} {ss:List Say} (h:SaysL H ps ss) (k:Nat):SaysL H (ps.take k) (ss.take k):=by
 refine ⟨by rw [List.length_take,List.length_take,h.len],fun i p s a b=>?_⟩
 rw [List.getElem?_take] at a b
 by_cases hi:i < k
 ·rw [if_pos hi] at a b; exact h.at_ i p s a b
 ·rw [if_neg hi] at a; cases a
def spSays (K:PySem.W.Frag):Sp:=fun vs H Q _=>∃ (a:Addr) (ns:List Int),vs = [.ref a]∧SqL K H a (ns.map V.int)∧ns.length ≤ 63∧∀ p q H',H p = none→H q = none→Same H H'→H' p = some (.tup [.int (countOf ns),.ref q])→SaysAt H' q (saysOf ns)→Q (.ref p) H'
theorem scSays:FnScope ["_law_script","_law_code","_law_many","_law_found","_law_count","_law_drawn_here","_law_kind","_law_cell","_law_lower","_law_upper","_law_high","_law_rest","_law_any_one","_law_more"] ["_law_script"] (defScope sSays):=⟨rfl,rfl,rfl,by decide +kernel,rfl,by decide +kernel,by decide +kernel⟩
theorem ok_says {f fr:Addr} {fd dr:FuncData} (D:Def K mg "_law_sayings" sSays ["_law_script"] f fd) (DR:Def K mg "_law_drawn" sDrawn ["_law_script","_law_count"] fr dr) (G:G1 K mg):FnOk P w K mg base CX0 2 f fd ["_law_script"] (spSays K):=by
 have GR:FnOk P w K mg base CX0 1 fr dr ["_law_script","_law_count"] (spDrawn K):=ok_drawn DR G
 refine D.fn.ok scSays (fun vs H Q E h=>?_) (fun cdv A outer s H vs Q E hr h=>?_)
 ·obtain ⟨a,ns,rfl,_⟩:=h; rfl
 ·obtain ⟨a,ns,rfl,ha,hz,k⟩:=h
  refine ⟨_,pss_cons (ps_par3 (i:=1) (j:=2) (l:=3) rfl scSays.nd rfl rfl rfl (by decide) (by decide) (by decide) rfl rfl rfl (pa_cons (pe_callB (call_sumL rfl) (by rfl) G.sum boot_sum (pa_cons (pv 0) pa_nil)) (pa_cons (pe_callB call_len_seq (by rfl) G.len PySem.boot_len (pa_cons (pv 0) pa_nil)) (pa_cons (pe_lst pa_nil) pa_nil))) rfl)
   (pss_cons (ps_set (i:=4) scSays.nd rfl (Or.inl rfl) (pe_ix ix_tup (pe_tup (pa_cons (pe_op op_add pe_int (pe_op op_fdiv (pv 2) pe_int)) (pa_cons (pe_op op_add pe_int (pe_op op_mod (pe_op op_fdiv (pv 1) pe_int) pe_int)) (pa_cons (pe_op op_add (pv 2) pe_int) (pa_cons (pe_op op_add pe_int (pe_op op_mod (pe_op op_fdiv (pv 1) pe_int) (pe_op op_add (pv 2) pe_int))) pa_nil)))))
     (pe_op op_mod (pe_op op_fdiv (pv 1) pe_int) pe_int) (fun _ _=>rfl)))
   (pss_cons (ps_par (i:=5) (j:=6) rfl scSays.nd rfl rfl (by decide) rfl rfl (pa_cons (pe_call GR hr (by rfl) DR.at_ DR.fn.kp DR.bd .nil pass0 (pa_cons (pv 0) (pa_cons (pv 4) pa_nil))) (pa_cons (pe_op op_mod (pv 1) pe_int) pa_nil)) rfl)
   (pss_cons (ps_for PassesOwn.never rfl (pi_list (pv 0)) (pg_name (i:=7) scSays.nd rfl (Or.inl rfl))
    (pss_cons (ps_par (i:=8) (j:=9) rfl scSays.nd rfl rfl (by decide) rfl rfl (pa_cons (pe_op op_mod (pv 7) (pv 4)) (pa_cons (pe_op op_mod (pe_op op_fdiv (pv 7) (pv 4)) (pv 4)) pa_nil)) rfl)
    (pss_cons (ps_set (i:=10) scSays.nd rfl (Or.inl rfl) (pe_op op_fdiv (pe_op op_fdiv (pv 7) (pv 4)) (pv 4)))
    (pss_cons (ps_par (i:=11) (j:=12) rfl scSays.nd rfl rfl (by decide) rfl rfl (pa_cons (pe_op op_add (pv 10) (pe_op op_fdiv (pv 7) pe_int)) (pa_cons (pe_ix ix_tup (pe_tup (pa_cons (pe_op op_fdiv (pv 7) pe_int) (pa_cons (pv 10) pa_nil))) (pe_op op_mod (pe_op op_fdiv (pv 1) pe_int) pe_int) (fun _ _=>rfl)) pa_nil)) rfl)
    (pss_cons (ps_set (i:=13) scSays.nd rfl (Or.inl rfl) (pe_ix ix_tup (pe_tup (pa_cons (pe_op op_mod (pv 11) pe_int) (pa_cons (pe_op op_mod (pv 11) pe_int) (pa_cons (pe_op op_sub (pe_op op_mod (pv 11) pe_int) pe_int)
      (pa_cons (pe_op op_mul (pe_op op_mod (pe_op op_fdiv (pv 12) pe_int) (pe_op op_pow pe_int pe_int)) (pe_op op_sub pe_int (pe_op op_mul (pe_op op_mod (pv 12) pe_int) pe_int))) pa_nil))))) (pv 6) (fun _ _=>rfl)))
    (pss_one (ps_expr (pe_bm PySem.F.plainAttrs_list PySem.F.slot_list_append PySem.F.type_list_append mt_append (pv 3) (pa_cons (pe_tup (pa_cons (pv 8) (pa_cons (pv 9) (pa_cons (pe_ifExp (pt_cmpR op_eq (pv 6) pe_int (nomark _)) (pv 13)
      (pe_op op_add (pe_op op_sub (pe_ix ix_list (pv 5) (pv 9) (fun _ _=>rfl)) (pe_ix ix_list (pv 5) (pv 8) (fun _ _=>rfl))) (pv 13))) pa_nil)))) pa_nil))))))))) 
   (pss_cons (ps_if (pt_cmpR op_eq (pe_op op_mod (pe_op op_fdiv (pv 1) pe_int) pe_int) pe_int (nomark _)) (pss_one (ps_set (i:=3) scSays.nd rfl (Or.inl rfl) (pe_slice sl_list (pv 3) po_none (po_some (pe_op op_mod (pe_op op_fdiv (pv 1) pe_int) (pe_op op_add (pv 2) pe_int)))))) pss_nil)
   (pss_one (ps_ret (pe_tup (pa_cons (pv 4) (pa_cons (pv 3) pa_nil))))))))),?_⟩
  obtain ⟨hc1,hc2⟩:=countOf_bd ns hz
  have hcn:((countOf ns).toNat:Int) = countOf ns:=by omega
  have hlm:((ns.map V.int).length:Int) = (ns.length:Int):=by rw [List.length_map]
  have hcd:∀ x:Int,CDiv x (countOf ns):=fun x=>⟨by omega,by omega⟩
  refine ⟨_,rfl,a,ns,rfl,ha,_,rfl,a,_,rfl,.inl ha,by show 0 ≤ sizeLine; decide,fun q hq=>⟨_,_,_,rfl,?_⟩⟩
  rw [hlm]
  have sq:Same H (upd H q (.lst [])):=fun b o e=>by rw [upd_ne (ne_of_none e hq)]; exact e
  have hct:atI ([.int (1 + (ns.length:Int) / 2),.int (1 + ns.sum / 8 % 4),.int ((ns.length:Int) + 2),.int (1 + ns.sum / 8 % ((ns.length:Int) + 1))]:List V) (ns.sum / 32 % 4) = some (.int (countOf ns)) :=
   at_ints (hs:=[1 + (ns.length:Int) / 2,1 + ns.sum / 8 % 4,(ns.length:Int) + 2,1 + ns.sum / 8 % ((ns.length:Int) + 1)]) (cnt_mod (n:=4) (by decide))
  refine ⟨_,rfl,_,_,rfl,rfl,⟨by decide,by decide⟩,_,_,rfl,rfl,_,rfl,_,_,rfl,rfl,⟨by decide,by decide⟩,_,_,rfl,rfl,(by show (0:Int) < 4; decide),_,_,rfl,rfl,_,rfl,_,_,rfl,rfl,
   _,rfl,_,_,rfl,rfl,⟨by decide,by decide⟩,_,rfl,_,_,rfl,rfl,_,_,rfl,rfl,(by show (0:Int) < (ns.length:Int) + 1; omega),_,_,rfl,rfl,by show 4 ≤ sizeLine; decide,fun t ht=>?_⟩
  refine ⟨_,rfl,_,_,rfl,rfl,⟨by decide,by decide⟩,_,_,rfl,rfl,(by show (0:Int) < 4; decide),t,_,_,_,rfl,rfl,SqT.of upd_same,hct,?_⟩
  have st:Same (upd H q (.lst [])) (upd (upd H q (.lst [])) t (.tup [.int (1 + (ns.length:Int) / 2),.int (1 + ns.sum / 8 % 4),.int ((ns.length:Int) + 2),.int (1 + ns.sum / 8 % ((ns.length:Int) + 1))])):=fun b o e=>by rw [upd_ne (ne_of_none e ht)]; exact e
  refine ⟨_,rfl,_,rfl,a,ns,(countOf ns).toNat,(by rw [hcn]; rfl),(sq.trans st).seq ha,hz,by omega,fun d H3 hd s3 hd3=>⟨_,rfl,_,_,rfl,rfl,(by show (0:Int) < 4; decide),_,_,rfl,?_⟩⟩
  have s03:Same H H3:=(sq.trans st).trans s3
  have hq3:H3 q = some (.lst []):=s3 _ _ (st _ _ upd_same)
  have hdq:d ≠ q:=(ne_of_none (st _ _ upd_same) hd).symm
  refine ⟨_,rfl,a,rfl,⟨_,s03.seq ha⟩,for_list (K:=K) (a:=a) (xs:=ns.map V.int) (fun i σ H2=>∃ (ps:List Addr) (v7 v8 v9 v10 v11 v12 v13:Option V),
    σ = [some (.ref a),some (.int ns.sum),some (.int ns.length),some (.ref q),some (.int (countOf ns)),some (.ref d),some (.int (ns.sum % 4)),v7,v8,v9,v10,v11,v12,v13]∧Same H H2∧H2 q = some (.lst (ps.map V.ref))∧SaysL H2 ps ((ns.take i).map (oneSay ns))∧H2 d = some (.lst ((drawn ns (countOf ns).toNat).map V.int)))
   ⟨[],none,none,none,none,none,none,none,rfl,s03,hq3,⟨rfl,fun i p s e=>nomatch e⟩,hd3⟩ (fun i σ H2 _ ⟨_,_,_,_,_,_,_,_,_,s2,_⟩=>s2.seq ha) ?_ ?_⟩
  ·rintro i y σ H2 hi ⟨ps,v7,v8,v9,v10,v11,v12,v13,rfl,s2,hq2,hS,hd2⟩
   rw [List.getElem?_map] at hi
   cases en:ns[i]? with
   | none=>rw [en] at hi; cases hi
   | some z =>
    rw [en] at hi; cases hi
    have hil:i < ns.length:=(List.getElem?_eq_some_iff.mp en).1
    have hany:atI ([.int (z / 3),.int (z / countOf ns / countOf ns)]:List V) (ns.sum / 128 % 2) = some (.int (anyOf ns z (z / countOf ns / countOf ns))) :=
     at_ints (hs:=[z / 3,z / countOf ns / countOf ns]) (cnt_mod (n:=2) (by decide))
    have hmore:atI ([.int ((z / countOf ns / countOf ns + z / 7) % 4),.int ((z / countOf ns / countOf ns + z / 7) % 40),.int ((z / countOf ns / countOf ns + z / 7) % 9 - 1),.int (anyOf ns z (z / countOf ns / countOf ns) / 2 % 10 ^ 60 * (1 - anyOf ns z (z / countOf ns / countOf ns) % 2 * 2))]:List V) (ns.sum % 4) = some (.int (moreOf ns z (z / countOf ns / countOf ns))) :=
     at_ints (hs:=[(z / countOf ns / countOf ns + z / 7) % 4,(z / countOf ns / countOf ns + z / 7) % 40,(z / countOf ns / countOf ns + z / 7) % 9 - 1,anyOf ns z (z / countOf ns / countOf ns) / 2 % 10 ^ 60 * (1 - anyOf ns z (z / countOf ns / countOf ns) % 2 * 2)]) (cnt_mod (n:=4) (by decide))
    refine ⟨_,rfl,_,rfl,_,_,rfl,rfl,(by show 0 < countOf ns; omega),_,rfl,_,rfl,_,_,rfl,rfl,hcd _,_,rfl,_,_,rfl,rfl,(by show 0 < countOf ns; omega),_,_,rfl,?_⟩
    refine ⟨_,rfl,_,rfl,_,_,rfl,rfl,hcd _,_,rfl,_,_,rfl,rfl,hcd _,?_⟩
    refine ⟨_,rfl,_,rfl,_,_,rfl,rfl,⟨by decide,by decide⟩,_,_,rfl,rfl,_,rfl,_,_,rfl,rfl,⟨by decide,by decide⟩,_,rfl,by show 2 ≤ sizeLine; decide,fun t1 ht1=>?_⟩
    refine ⟨_,rfl,_,_,rfl,rfl,⟨by decide,by decide⟩,_,_,rfl,rfl,(by show (0:Int) < 2; decide),t1,_,_,_,rfl,rfl,SqT.of upd_same,hany,_,_,rfl,?_⟩
    refine ⟨_,rfl,_,_,rfl,rfl,(by show (0:Int) < 4; decide),_,rfl,_,_,rfl,rfl,(by show (0:Int) < 40; decide),_,rfl,_,_,rfl,rfl,(by show (0:Int) < 9; decide),_,_,rfl,rfl,
     _,rfl,_,_,rfl,rfl,⟨by decide,by decide⟩,_,_,rfl,rfl,⟨by decide,by decide,by decide⟩,_,_,rfl,rfl,(by show (0:Int) < 10 ^ 60; decide),_,rfl,_,_,rfl,rfl,(by show (0:Int) < 2; decide),_,_,rfl,rfl,.inr ⟨by decide,by decide⟩,_,_,rfl,rfl,_,_,rfl,rfl,?_,by show 4 ≤ sizeLine; decide,fun t2 ht2=>?_⟩
    ·have hb:anyOf ns z (z / countOf ns / countOf ns) % 2 = 0 ∨ anyOf ns z (z / countOf ns / countOf ns) % 2 = 1:=by omega
     refine .inr ?_
     rcases hb with e | e <;> rw [e] <;> exact ⟨by decide,by decide⟩
    refine ⟨_,rfl,t2,_,_,_,rfl,rfl,SqT.of upd_same,hmore,?_⟩
    generalize hH4:upd (upd H2 t1 _) t2 _ = H4
    have s24:Same H2 H4:=fun b o e=>by
     have e1:=e
     rw [← hH4]
     have n1:=ne_of_none e ht1
     have n2:b ≠ t2:=fun z=>by subst z; rw [upd_ne n1,e] at ht2; cases ht2
     rw [upd_ne n2,upd_ne n1]; exact e
    have hq4:=s24 _ _ hq2
    have hd4:=s24 _ _ hd2
    have hS4:=hS.same s24
    have hpl:ps.length = i:=by
     have:=hS.len
     rw [List.length_map,List.length_take] at this
     omega
    have fin:∀ n:Int,n = (oneSay ns z).2.2→∀ p,H4 p = none→∃ l xs y,V.ref q = .ref l∧[V.ref p] = [y]∧(upd H4 p (.tup [.int (z % countOf ns),.int (z / countOf ns % countOf ns),.int n])) l = some (.lst xs)∧xs.length < sizeLine ∧
      ∃ (ps:List Addr) (v7 v8 v9 v10 v11 v12 v13:Option V),[some (V.ref a),some (.int ns.sum),some (.int ns.length),some (.ref q),some (.int (countOf ns)),some (.ref d),some (.int (ns.sum % 4)),some (.int z),some (.int (z % countOf ns)),some (.int (z / countOf ns % countOf ns)),some (.int (z / countOf ns / countOf ns)),some (.int (z / countOf ns / countOf ns + z / 7)),some (.int (anyOf ns z (z / countOf ns / countOf ns))),some (.int (moreOf ns z (z / countOf ns / countOf ns)))] =
       [some (V.ref a),some (.int ns.sum),some (.int ns.length),some (.ref q),some (.int (countOf ns)),some (.ref d),some (.int (ns.sum % 4)),v7,v8,v9,v10,v11,v12,v13]∧Same H (upd (upd H4 p (.tup [.int (z % countOf ns),.int (z / countOf ns % countOf ns),.int n])) l (.lst (xs ++ [y])))∧(upd (upd H4 p (.tup [.int (z % countOf ns),.int (z / countOf ns % countOf ns),.int n])) l (.lst (xs ++ [y]))) q = some (.lst (ps.map V.ref))∧SaysL (upd (upd H4 p (.tup [.int (z % countOf ns),.int (z / countOf ns % countOf ns),.int n])) l (.lst (xs ++ [y]))) ps ((ns.take (i + 1)).map (oneSay ns))∧(upd (upd H4 p (.tup [.int (z % countOf ns),.int (z / countOf ns % countOf ns),.int n])) l (.lst (xs ++ [y]))) d = some (.lst ((drawn ns (countOf ns).toNat).map V.int)):=by
     intro n hn p hp
     have npq:q ≠ p:=ne_of_none hq4 hp
     have ndp:d ≠ p:=ne_of_none hd4 hp
     have up:∀ {b:Addr} {o:HO} {l':HO},H4 b = some o→b ≠ q→(upd (upd H4 p (.tup [.int (z % countOf ns),.int (z / countOf ns % countOf ns),.int n])) q l') b = some o:=fun {b o l'} e hb=>by
      rw [upd_ne hb,upd_ne (ne_of_none e hp)]; exact e
     refine ⟨q,ps.map V.ref,.ref p,rfl,rfl,by rw [upd_ne npq]; exact hq4,by rw [List.length_map,hpl]; exact small1000 (by omega),ps ++ [p],_,_,_,_,_,_,_,rfl,fun b o e=>up (s24 _ _ (s2 _ _ e)) (ne_of_none e hq),by rw [upd_same,List.map_append]; rfl,?_,up hd4 hdq⟩
     have et:(ns.take (i + 1)).map (oneSay ns) = (ns.take i).map (oneSay ns) ++ [oneSay ns z]:=by
      rw [List.take_add_one,en,List.map_append]; rfl
     rw [et]
     refine SaysL.snoc ⟨hS4.len,fun j r t e1 e2=>?_⟩ ?_
     ·have e3:=hS4.at_ j r t e1 e2
      exact up e3 fun z=>by rw [z,hq4] at e3; cases e3
     ·rw [upd_ne npq.symm,upd_same]
      show _ = some (HO.tup [.int (z % countOf ns),.int (z / countOf ns % countOf ns),.int (oneSay ns z).2.2])
      rw [hn]
    refine ⟨_,rfl,.inl ⟨rfl,_,SqL.of hq4⟩,_,rfl,_,rfl,_,rfl,rfl,_,rfl,?_⟩
    by_cases h3:ns.sum % 4 = 3
    ·rw [show decide (V.int (ns.sum % 4) = V.int 3) = true from by rw [dec_int]; simp [h3]]
     refine iteT ⟨_,rfl,by show 3 ≤ sizeLine; decide,fun p hp=>fin _ ?_ p hp⟩
     unfold oneSay; rw [if_pos h3]
    ·rw [show decide (V.int (ns.sum % 4) = V.int 3) = false from by rw [dec_int]; simpa using h3]
     have hdl:((drawn ns (countOf ns).toNat).length:Int) = countOf ns:=by rw [drawn_len]; exact hcn
     have c1:cnt (drawn ns (countOf ns).toNat).length (z / countOf ns % countOf ns) = true:=by
      rw [hdl,cnt_iff]; exact ⟨Int.emod_nonneg _ (by omega),Int.emod_lt_of_pos _ (by omega)⟩
     have c2:cnt (drawn ns (countOf ns).toNat).length (z % countOf ns) = true:=by
      rw [hdl,cnt_iff]; exact ⟨Int.emod_nonneg _ (by omega),Int.emod_lt_of_pos _ (by omega)⟩
     refine iteF ⟨_,rfl,_,rfl,d,_,_,_,rfl,rfl,SqL.of hd4,at_ints c1,_,rfl,_,rfl,d,_,_,_,rfl,rfl,SqL.of hd4,at_ints c2,_,_,rfl,rfl,_,rfl,_,_,rfl,rfl,by show 3 ≤ sizeLine; decide,fun p hp=>fin _ ?_ p hp⟩
     unfold oneSay; rw [if_neg h3]
  ·rintro σ H2 ⟨ps,v7,v8,v9,v10,v11,v12,v13,rfl,s2,hq2,hS,hd2⟩
   rw [List.length_map,List.take_length] at hS
   refine ⟨_,rfl,_,_,rfl,rfl,⟨by decide,by decide⟩,_,_,rfl,rfl,(by show (0:Int) < 4; decide),rfl,_,rfl,?_⟩
   by_cases h3:ns.sum / 256 % 4 = 3
   ·rw [show decide (V.int (ns.sum / 256 % 4) = V.int 3) = true from by rw [dec_int]; simp [h3]]
    refine iteT ⟨_,rfl,_,rfl,_,_,rfl,rfl,⟨by decide,by decide⟩,_,rfl,_,_,rfl,rfl,_,_,rfl,rfl,(by show (0:Int) < (ns.length:Int) + 1; omega),_,rfl,q,_,rfl,SqL.of hq2,fun q2 hn2=>?_⟩
    have hm0:=Int.emod_nonneg (ns.sum / 1024) (show ((ns.length:Int) + 1) ≠ 0 by omega)
    have hmn:ns.sum / 1024 % ((ns.length:Int) + 1) = (((ns.sum / 1024 % ((ns.length:Int) + 1)).toNat:Nat):Int):=by omega
    have sq2:Same H2 (upd H2 q2 (.lst (cutV (ps.map V.ref) none (some (ns.sum / 1024 % ((ns.length:Int) + 1)))))):=fun b o e=>by rw [upd_ne (ne_of_none e hn2)]; exact e
    refine ⟨_,rfl,_,rfl,by show 2 ≤ sizeLine; decide,fun p hp=>k p q2 _ ((s2.trans sq2).free hp) (s2.free hn2) (fun b o e=>?_) upd_same ?_⟩
    ·rw [upd_ne (ne_of_none (sq2 _ _ (s2 _ _ e)) hp)]; exact sq2 _ _ (s2 _ _ e)
    ·have np:q2 ≠ p:=fun z=>by subst z; rw [upd_same] at hp; cases hp
     refine ⟨ps.take (ns.sum / 1024 % ((ns.length:Int) + 1)).toNat,?_,?_⟩
     ·rw [upd_ne np,upd_same,hmn,cut_take,List.map_take]; rfl
     ·unfold saysOf
      rw [if_pos h3]
      have:=(hS.take (ns.sum / 1024 % ((ns.length:Int) + 1)).toNat).same sq2
      exact this.same fun b o e=>by rw [upd_ne (ne_of_none e hp)]; exact e
   ·rw [show decide (V.int (ns.sum / 256 % 4) = V.int 3) = false from by rw [dec_int]; simpa using h3]
    refine iteF ⟨_,rfl,_,rfl,by show 2 ≤ sizeLine; decide,fun p hp=>k p q _ (s2.free hp) hq (fun b o e=>?_) upd_same ?_⟩
    ·rw [upd_ne (ne_of_none (s2 _ _ e) hp)]; exact s2 _ _ e
    ·refine ⟨ps,by rw [upd_ne (ne_of_none hq2 hp)]; exact hq2,?_⟩
     unfold saysOf
     rw [if_neg h3]
     exact hS.same fun b o e=>by rw [upd_ne (ne_of_none e hp)]; exact e
end
end At
set_option Elab.async false
set_option linter.all false
set_option maxRecDepth 100000
set_option maxHeartbeats 4000000
namespace At
open PySem L2 PyProof.Rows
section
variable {P:Program} {w:World} {K:PySem.W.Frag} {mg:Str→Option Value} {base:Heap}
theorem scNdInit:FnScope ["self","heights"] ["self","heights"] (defScope m_Needed___init__):=⟨rfl,rfl,rfl,by decide +kernel,rfl,by decide +kernel,by decide +kernel⟩
theorem scNlInit:FnScope ["self","chain"] ["self","chain"] (defScope m_Needless___init__):=⟨rfl,rfl,rfl,by decide +kernel,rfl,by decide +kernel,by decide +kernel⟩
theorem ok_ndInit {f C:Addr} {fd:FuncData} (F:Fun K "__init__" "Needed.__init__" m_Needed___init__ f fd) (T:OneK K mg "Needed" "heights" C f) (G:G1 K mg):FnOk P w K mg base CX0 1 f fd ["self","heights"] (spOne C "heights"):=by
 refine F.ok scNdInit (fun vs H Q E h=>?_) (fun cdv A0 outer s H vs Q X hr h=>?_)
 ·obtain ⟨_,_,_,_,rfl,_⟩:=h; rfl
 ·obtain ⟨x,dx,l,ys,rfl,hx,hl,k⟩:=h
  refine ⟨_,pss_one (ps_fld (pv 0) (pe_callTy call_list_of (by rfl) G.list boot_list (pa_cons (pv 1) pa_nil)) rfl),?_⟩
  refine ⟨_,rfl,l,_,rfl,.inl (SqL.of hl),fun q hq=>?_⟩
  exact ⟨_,rfl,x,C,dx,[],rfl,by rw [upd_ne (ne_of_none hx hq)]; exact hx,T.cl,T.n,(by show 0 < 1000; decide),k q hq⟩
theorem ok_nlInit {f C:Addr} {fd:FuncData} (F:Fun K "__init__" "Needless.__init__" m_Needless___init__ f fd) (T:OneK K mg "Needless" "chain" C f) (G:G1 K mg):FnOk P w K mg base CX0 1 f fd ["self","chain"] (spOne C "chain"):=by
 refine F.ok scNlInit (fun vs H Q E h=>?_) (fun cdv A0 outer s H vs Q X hr h=>?_)
 ·obtain ⟨_,_,_,_,rfl,_⟩:=h; rfl
 ·obtain ⟨x,dx,l,ys,rfl,hx,hl,k⟩:=h
  refine ⟨_,pss_one (ps_fld (pv 0) (pe_callTy call_list_of (by rfl) G.list boot_list (pa_cons (pv 1) pa_nil)) rfl),?_⟩
  refine ⟨_,rfl,l,_,rfl,.inl (SqL.of hl),fun q hq=>?_⟩
  exact ⟨_,rfl,x,C,dx,[],rfl,by rw [upd_ne (ne_of_none hx hq)]; exact hx,T.cl,T.n,(by show 0 < 1000; decide),k q hq⟩
def showN (b:Bool) (c:Int) (ss:List Say) (at_:Int) (xs:List Int):Bool:=cond b
 (hDue c xs (wo ss at_) && !keeps xs (sy ss at_))
 (!decide (at_ ∈ xs) && (decide (walk ss xs (sy ss at_).1 = some (sy ss at_).2.1) && decide (sumC ss xs ≤ (sy ss at_).2.2)))
theorem inV_ints (n:Int):∀ xs:List Int,inV (.int n) (xs.map V.int) = decide (n ∈ xs)
 | []=>by simp [inV]
 | x :: r=>by
  have ih:=inV_ints n r
  unfold inV at ih ⊢
  rw [List.map_cons,List.any_cons,ih]
  have e:eqV (.int x) (.int n) = decide (n = x):=by
   show (x == n) = _
   by_cases q:n = x
   ·subst q; simp
   ·rw [decide_eq_false q,beq_eq_false_iff_ne]; exact fun z=>q z.symm
  rw [e]
  by_cases h1:n = x
  ·subst h1; simp
  ·simp [h1]
theorem ints_flat (xs:List Int):(xs.map V.int).all flatV = true:=by
 rw [List.all_map]; exact List.all_eq_true.mpr fun _ _=>rfl
theorem SaysL.wo {H:Hp} {ps:List Addr} {ss:List Say} (h:SaysL H ps ss) (at_:Int):SaysL H (ps.take at_.toNat ++ ps.drop (at_.toNat + 1)) (wo ss at_):=by
 have h1:=h.take at_.toNat
 have hl:=h.len
 have e1:(ps.take at_.toNat).length = (ss.take at_.toNat).length:=by rw [List.length_take,List.length_take,hl]
 refine ⟨by unfold At.wo; rw [List.length_append,List.length_append,e1,List.length_drop,List.length_drop,hl],fun i p s a b=>?_⟩
 unfold At.wo at b
 by_cases hi:i < (ps.take at_.toNat).length
 ·rw [List.getElem?_append_left hi] at a
  rw [List.getElem?_append_left (by omega)] at b
  exact h1.at_ i p s a b
 ·rw [List.getElem?_append_right (by omega),List.getElem?_drop] at a
  rw [List.getElem?_append_right (by omega),List.getElem?_drop,← e1] at b
  exact h.at_ _ p s a b
theorem cut_drop (xs:List V) (k:Nat):cutV xs (some (k:Int)) none = xs.drop k:=by
 unfold cutV
 rw [HT.sIx_none,HT.sIx_nat]
 by_cases h:k ≤ xs.length
 ·rw [Nat.min_eq_left h]
  exact List.take_of_length_le (by rw [List.length_drop]; omega)
 ·rw [Nat.min_eq_right (by omega),List.drop_of_length_le (Nat.le_refl _),List.drop_of_length_le (by omega)]; simp
def spShowN (b:Bool) (C:Addr):Sp:=fun vs H Q _=>∃ (x l a:Addr) (c at_:Int) (ss:List Say) (xs:List Int),vs = [.ref x,.int c,.ref a,.int at_]∧AnsAt H x C l (ansF b) xs∧SaysAt H a ss∧ss.length ≤ 400∧ss.all (inside c) = true∧xs.length ≤ 1000∧cnt ss.length at_ = true∧∀ H',Same H H'→Q (.bl (showN b c ss at_ xs)) H'
theorem scNlShows:FnScope ["self","count","sayings","at","saying"] ["self","count","sayings","at"] (defScope m_Needless_shows):=⟨rfl,rfl,rfl,by decide +kernel,rfl,by decide +kernel,by decide +kernel⟩
theorem say_at {H:Hp} {ps:List Addr} {ss:List Say} {at_:Int} (h:SaysL H ps ss) (hc:cnt ss.length at_ = true):∃ p,atI (ps.map V.ref) at_ = some (.ref p)∧H p = some (.tup [.int (sy ss at_).1,.int (sy ss at_).2.1,.int (sy ss at_).2.2]):=by
 obtain ⟨h0,h1⟩:=cnt_iff.mp hc
 obtain ⟨p,e,hp⟩:=h.get (sy_get hc)
 exact ⟨p,atI_of h0 (by rw [List.getElem?_map,e]; rfl),hp⟩
theorem ok_nlShows {f fh fs C fI:Addr} {fd dh ds:FuncData} (F:Fun K "shows" "Needless.shows" m_Needless_shows f fd) (T:OneK K mg "Needless" "chain" C fI) (DH:Def K mg "is_chain" sChain ["sayings","value","one","other"] fh dh) (GH:FnOk P w K mg base CX0 4 fh dh ["sayings","value","one","other"] spChain)
  (DS:Def K mg "chain_sum" sChainSum ["sayings","chain"] fs ds) (GS:FnOk P w K mg base CX0 4 fs ds ["sayings","chain"] spChainSum):FnOk P w K mg base CX0 5 f fd ["self","count","sayings","at"] (spShowN false C):=by
 refine F.ok scNlShows (fun vs H Q E h=>?_) (fun cdv A0 outer s H vs Q X hr h=>?_)
 ·obtain ⟨_,_,_,_,_,_,_,rfl,_⟩:=h; rfl
 ·obtain ⟨x,l,a,c,at_,ss,xs,rfl,an,ha,hz,hin,hx,hat,k⟩:=h
  refine ⟨_,pss_cons (ps_set (i:=4) scNlShows.nd rfl (Or.inl rfl) (pe_ix ix_list (pv 2) (pv 3) (fun _ _=>rfl)))
   (pss_cons (ps_if (PW.pt (pw_or (pt_cmpR op_in_seq (pv 3) (pe_fld (pv 0) rfl) (by with_unfolding_all rfl)) (pw_or1 (pt_not (pt_val (pe_call GH hr (by rfl) DH.at_ DH.fn.kp DH.bd .nil pass0 (pa_cons (pv 2) (pa_cons (pe_fld (pv 0) rfl) (pa_cons (pe_ix ix_tup (pv 4) pe_int (fun _ _=>rfl)) (pa_cons (pe_ix ix_tup (pv 4) pe_int (fun _ _=>rfl)) pa_nil)))))))))) (pss_one (ps_ret pe_bl)) pss_nil)
   (pss_one (ps_ret (pe_cmpR op_le (pe_call GS hr (by rfl) DS.at_ DS.fn.kp DS.bd .nil pass0 (pa_cons (pv 2) (pa_cons (pe_fld (pv 0) rfl) pa_nil))) (pe_ix ix_tup (pv 4) pe_int (fun _ _=>rfl)) (nomark _))))),?_⟩
  obtain ⟨⟨dx,hxo⟩,h1⟩:=id an
  obtain ⟨ps,hq,hS⟩:=ha.ex
  obtain ⟨p,ep,hp⟩:=say_at hS hat
  refine ⟨_,rfl,_,rfl,a,_,_,_,rfl,rfl,SqL.of hq,ep,?_⟩
  unfold showN at k
  refine ⟨_,rfl,_,rfl,x,C,dx,_,_,rfl,hxo,T.cl,T.n,rfl,l,_,rfl,.inl (SqL.of h1),rfl,ints_flat xs,_,rfl,?_⟩
  rw [show (if false = true then !inV (V.int at_) (xs.map V.int) else inV (V.int at_) (xs.map V.int)) = decide (at_ ∈ xs) from inV_ints at_ xs]
  cases hm:decide (at_ ∈ xs) with
  | true=>rw [hm] at k; exact k H (Same.refl _)
  | false =>
   rw [hm] at k
   refine iteF ?_
   refine ⟨_,rfl,_,rfl,x,C,dx,_,_,rfl,hxo,T.cl,T.n,rfl,_,rfl,p,_,_,_,rfl,rfl,SqT.of hp,rfl,_,rfl,p,_,_,_,rfl,rfl,SqT.of hp,rfl,a,ss,l,xs,_,_,rfl,ha,h1,by omega,_,rfl,?_⟩
   cases hw:decide (walk ss xs (sy ss at_).1 = some (sy ss at_).2.1) with
   | false=>rw [hw] at k; exact k H (Same.refl _)
   | true =>
    rw [hw] at k
    refine iteF ?_
    refine ⟨_,rfl,_,rfl,x,C,dx,_,_,rfl,hxo,T.cl,T.n,rfl,a,l,ss,xs,rfl,ha,h1,hx,walk_cnt _ _ _ (of_decide_eq_true hw),fun H1 s1=>?_⟩
    exact ⟨_,rfl,p,_,_,_,rfl,rfl,SqT.of (s1 _ _ hp),rfl,_,_,rfl,rfl,k H1 s1⟩
theorem scNdShows:FnScope ["self","count","sayings","at","others"] ["self","count","sayings","at"] (defScope m_Needed_shows):=⟨rfl,rfl,rfl,by decide +kernel,rfl,by decide +kernel,by decide +kernel⟩
theorem ok_ndShows {f fk fo C fI:Addr} {fd dk d1:FuncData} (F:Fun K "shows" "Needed.shows" m_Needed_shows f fd) (T:OneK K mg "Needed" "heights" C fI) (DK:Def K mg "are_kept" s_are_kept ["count","sayings","heights"] fk dk) (GK:FnOk P w K mg base CX0 4 fk dk ["count","sayings","heights"] spAreKept)
  (DO:Def K mg "keep_one" sKeepOne ["saying","heights"] fo d1) (GO:FnOk P w K mg base CX0 4 fo d1 ["saying","heights"] spKeepOne):FnOk P w K mg base CX0 5 f fd ["self","count","sayings","at"] (spShowN true C):=by
 refine F.ok scNdShows (fun vs H Q E h=>?_) (fun cdv A0 outer s H vs Q X hr h=>?_)
 ·obtain ⟨_,_,_,_,_,_,_,rfl,_⟩:=h; rfl
 ·obtain ⟨x,l,a,c,at_,ss,xs,rfl,an,ha,hz,hin,hx,hat,k⟩:=h
  refine ⟨_,pss_cons (ps_set (i:=4) scNdShows.nd rfl (Or.inl rfl) (pe_op op_cat (pe_slice sl_list (pv 2) po_none (po_some (pv 3))) (pe_slice sl_list (pv 2) (po_some (pe_op op_add (pv 3) pe_int)) po_none)))
   (pss_one (ps_ret (pe_and (pe_call GK hr (by rfl) DK.at_ DK.fn.kp DK.bd .nil pass0 (pa_cons (pv 1) (pa_cons (pv 4) (pa_cons (pe_fld (pv 0) rfl) pa_nil)))) (pe_one (pe_not (pe_call GO hr (by rfl) DO.at_ DO.fn.kp DO.bd .nil pass0 (pa_cons (pe_ix ix_list (pv 2) (pv 3) (fun _ _=>rfl)) (pa_cons (pe_fld (pv 0) rfl) pa_nil)))))))),?_⟩
  obtain ⟨⟨dx,hxo⟩,h1⟩:=id an
  obtain ⟨ps,hq,hS⟩:=ha.ex
  obtain ⟨p,ep,hp⟩:=say_at hS hat
  obtain ⟨c0,c1⟩:=cnt_iff.mp hat
  have hat':((at_.toNat:Nat):Int) = at_:=by omega
  have hlp:=hS.len
  refine ⟨_,rfl,_,rfl,at_,rfl,a,_,rfl,SqL.of hq,fun L1 hL1=>?_⟩
  rw [← hat',cut_take]
  have u1:=Same.up (o:=.lst ((ps.map V.ref).take at_.toNat)) hL1
  have e1:(upd H L1 (.lst ((ps.map V.ref).take at_.toNat))) L1 = some (.lst ((ps.take at_.toNat).map V.ref)):=by rw [upd_same,List.map_take]
  generalize upd H L1 (.lst ((ps.map V.ref).take at_.toNat)) = H1 at u1 e1
  refine ⟨_,rfl,_,rfl,_,_,rfl,rfl,((at_.toNat:Nat):Int) + 1,rfl,a,_,rfl,SqL.of (u1 _ _ hq),fun L2 hL2=>?_⟩
  rw [show (((at_.toNat:Nat):Int) + 1) = ((at_.toNat + 1:Nat):Int) by omega,cut_drop]
  have u2:=Same.up (o:=.lst ((ps.map V.ref).drop (at_.toNat + 1))) hL2
  have e2:(upd H1 L2 (.lst ((ps.map V.ref).drop (at_.toNat + 1)))) L2 = some (.lst ((ps.drop (at_.toNat + 1)).map V.ref)):=by rw [upd_same,List.map_drop]
  generalize upd H1 L2 (.lst ((ps.map V.ref).drop (at_.toNat + 1))) = H2 at u2 e2
  refine ⟨L1,L2,_,_,rfl,rfl,u2 _ _ e1,e2,by rw [List.length_map,List.length_map,List.length_take,List.length_drop]; exact Nat.le_of_lt (small1000 (by omega)),fun O hO=>?_⟩
  have u3:=Same.up (o:=.lst ((ps.take at_.toNat).map V.ref ++ (ps.drop (at_.toNat + 1)).map V.ref)) hO
  have e3:(upd H2 O (.lst ((ps.take at_.toNat).map V.ref ++ (ps.drop (at_.toNat + 1)).map V.ref))) O = some (.lst ((ps.take at_.toNat ++ ps.drop (at_.toNat + 1)).map V.ref)):=by rw [upd_same,List.map_append]
  have u:=(u1.trans u2).trans u3
  show tSeq _ _ _ _ (upd H2 O (.lst ((ps.take at_.toNat).map V.ref ++ (ps.drop (at_.toNat + 1)).map V.ref)))
  generalize upd H2 O (.lst ((ps.take at_.toNat).map V.ref ++ (ps.drop (at_.toNat + 1)).map V.ref)) = H3 at e3 u
  have hW:SaysAt H3 O (wo ss at_):=⟨_,e3,(hS.wo at_).same u⟩
  have hwl:(wo ss at_).length ≤ 1000:=by unfold wo; rw [List.length_append,List.length_take,List.length_drop]; omega
  unfold showN at k
  refine ⟨_,rfl,_,rfl,_,rfl,x,C,dx,_,_,rfl,u _ _ hxo,T.cl,T.n,rfl,c,O,l,wo ss at_,xs,rfl,hW,hwl,wo_in hin,u _ _ h1,hx,fun H4 s4=>?_⟩
  have u4:=u.trans s4
  refine ⟨_,rfl,?_⟩
  cases hw:hDue c xs (wo ss at_) with
  | false=>rw [hw] at k; exact k H4 u4
  | true =>
   rw [hw] at k
   have lx:(xs.length:Int) = c:=by
    unfold hDue at hw
    rw [Bool.and_eq_true] at hw
    exact of_decide_eq_true hw.1
   have hi:inside xs.length (sy ss at_) = true:=by rw [lx]; exact List.all_eq_true.mp hin _ (List.mem_of_getElem? (sy_get hat))
   refine iteT ?_
   refine ⟨_,rfl,_,rfl,a,_,_,_,rfl,rfl,SqL.of (u4 _ _ hq),by rw [hat']; exact ep,_,rfl,x,C,dx,_,_,rfl,u4 _ _ hxo,T.cl,T.n,rfl,p,l,sy ss at_,xs,rfl,u4 _ _ hp,u4 _ _ h1,hi,_,rfl,?_⟩
   exact k H4 u4
end
end At
set_option Elab.async false
set_option linter.all false
set_option maxRecDepth 100000
set_option maxHeartbeats 4000000
namespace At
open PySem L2 PyProof.Rows
section
variable {P:Program} {w:World} {K:PySem.W.Frag} {mg:Str→Option Value} {base:Heap}
def spNeedless (Pt CB cN cL:Addr):Sp:=fun vs H Q E=>∃ (a:Addr) (ss:List Say) (c:Nat) (at_:Int),vs = [.int c,.ref a,.int at_]∧1 ≤ c∧c ≤ 400∧SaysAt H a ss∧ss.length < 66∧ss.all (inside c) = true∧cnt ss.length at_ = true∧LamTab H Pt QL ∧
 (∀ (b:Bool) (H':Hp) (x l:Addr) (xs:List Int),SameN H H'→LamTab H' Pt QL→H x = none→H l = none→x ≠ l→AnsAt H' x (ansC cN cL b) l (ansF b) xs→GoodN b c ss at_ xs→Q (.ref x) H') ∧
 (∀ (H':Hp) (dx l:Addr) (ns:List Int),SameN H H'→LamTab H' Pt QL→H l = none→H' dx = some (.xd [("ring",.ref l)])→H' l = some (.lst (ns.map V.int))→RingOk ss ns→E (.ref CB) (some dx) H')
theorem scNeedless:FnScope ["count","sayings","at","order","sums","others","lower","upper","leading","ground","walk"] ["count","sayings","at"] (defScope s_needless):=⟨rfl,rfl,rfl,by decide +kernel,rfl,by decide +kernel,by decide +kernel⟩
theorem fm_get {α β:Type} (f:α→Option β):∀ xs:List α,(List.range xs.length).filterMap (fun i=>xs[i]?.bind f) = xs.filterMap f
 | []=>rfl
 | x :: r=>by
  rw [List.length_cons,List.range_succ_eq_map,List.filterMap_cons,List.filterMap_map,List.filterMap_cons]
  have e:((fun i=>(x :: r)[i]?.bind f) ∘ Nat.succ) = fun i=>r[i]?.bind f:=by funext i; rfl
  rw [e,fm_get f r]
  rfl
def oth (ord:List Int) (at_:Int):List Int:=ord.filter fun k=>!decide (k = at_)
theorem mem_oth {ord:List Int} {at_ k:Int}:k ∈ oth ord at_ ↔ k ∈ ord∧k ≠ at_:=by
 unfold oth
 rw [List.mem_filter]
 simp
theorem fm_oth (ord:List Int) (at_:Int):(List.range (ord.map V.int).length).filterMap (fun i=>ord[i]?.bind fun k=>if k = at_ then none else some (V.int k)) = (oth ord at_).map V.int:=by
 rw [List.length_map,fm_get]
 unfold oth
 induction ord with
 | nil=>rfl
 | cons x r ih =>
  rw [List.filterMap_cons,List.filter_cons]
  by_cases h:x = at_
  ·rw [if_pos h,decide_eq_true h]
   exact ih
  ·rw [if_neg h,decide_eq_false h]
   show V.int x :: _ = _
   rw [ih]; rfl
theorem one_made {H:Hp} {C x dx q:Addr} {f:Str} {xs:List Int} (hx:H x = none) (hdx:H dx = none) (hq:(upd (upd H dx (.own x)) x (.ins C dx [])) q = none) :
  Same H (upd (upd (upd (upd H dx (.own x)) x (.ins C dx [])) q (.lst (xs.map V.int))) x (.ins C dx [(f,.ref q)]))∧H q = none∧x ≠ q∧AnsAt (upd (upd (upd (upd H dx (.own x)) x (.ins C dx [])) q (.lst (xs.map V.int))) x (.ins C dx [(f,.ref q)])) x C q f xs:=by
 have s4:Same H (upd (upd H dx (.own x)) x (.ins C dx [])):=fun b o e=>by rw [upd_ne (ne_of_none e hx),upd_ne (ne_of_none e hdx)]; exact e
 have hq3:H q = none:=s4.free hq
 have xq:x ≠ q:=fun z=>by subst z; rw [upd_same] at hq; cases hq
 refine ⟨fun b o e=>?_,hq3,xq,⟨dx,upd_same⟩,by rw [upd_ne xq.symm,upd_same]⟩
 rw [upd_ne (ne_of_none e hx),upd_ne (ne_of_none e hq3)]; exact s4 _ _ e
abbrev NN:List Str:=["count","sayings","at","order","sums","others","lower","upper","leading","ground","walk"]
theorem ndE:(["each","at"]:List Str).Nodup:=by decide +kernel
theorem ok_needless {f fc fi fw' fl fv fo fd' fm ff fw fa C g0 g1 g2 g3 g4 CB cN fN cL fL Pt:Addr} {fd dc di dw' dl dv do_ dd dm df dw da e0 e1 e2 e3 e4 dN dL:FuncData} (D:Def K mg "needless" s_needless ["count","sayings","at"] f fd)
  (DC:Def K mg "check_sayings" sCheckS ["count","sayings"] fc dc) (GC:FnOk P w K mg base CX0 4 fc dc ["count","sayings"] spCheckS) (DI:Def K mg "is_counted" sCounted ["count","value"] fi di) (DJ:Def K mg "is_whole" sWhole ["value"] fw' dw')
  (DL:Def K mg "least_sums" s_least_sums ["sayings","order"] fl dl) (GL:FnOk P w K mg base (CXr P w) 4 fl dl ["sayings","order"] (spLeast CB))
  (DV:Def K mg "level" s_level ["count","sums"] fv dv) (DO:Def K mg "walking_order" s_walking_order ["sayings"] fo do_) (GO:FnOk P w K mg base CX0 3 fo do_ ["sayings"] (spWalkOrd Pt))
  (DD:Def K mg "leading_to" s_leading_to ["sayings","order","other"] fd' dd) (DM:Def K mg "moved_up" s_moved_up ["ground","places","by"] fm dm) (DF:Def K mg "walk_from" s_walk_from ["sayings","order","one"] ff df) (DW:Def K mg "level_of_walk" s_level_of_walk ["count","sums","walk"] fw dw) (DA:Def K mg "above" sAbove ["heights","one","other"] fa da)
  (WF:WalkF K mg C g0 e0 g1 e1 g2 e2 g3 e3 g4 e4) (TN:OneK K mg "Needed" "heights" cN fN) (FN:Fun K "__init__" "Needed.__init__" m_Needed___init__ fN dN) (bN:Binds K dN ["self","heights"] [])
  (TL:OneK K mg "Needless" "chain" cL fL) (FL:Fun K "__init__" "Needless.__init__" m_Needless___init__ fL dL) (bL:Binds K dL ["self","chain"] []) (G:G1 K mg):FnOk P w K mg base (CXr P w) 5 f fd ["count","sayings","at"] (spNeedless Pt CB cN cL):=by
 have GV:FnOk P w K mg base CX0 1 fv dv ["count","sums"] spLevel:=ok_level DV G
 have GI:FnOk P w K mg base CX0 2 fi di ["count","value"] spCounted:=ok_counted DI DJ G
 have GD:FnOk P w K mg base CX0 1 fd' dd ["sayings","order","other"] spLead:=ok_lead DD G
 have GM:FnOk P w K mg base CX0 1 fm dm ["ground","places","by"] spMoved:=ok_moved DM G
 have GF:FnOk P w K mg base CX0 3 ff df ["sayings","order","one"] (spFrom C):=ok_from DF WF
 have GW:FnOk P w K mg base CX0 1 fw dw ["count","sums","walk"] (spLW C):=ok_lw DW WF.k G
 have GA:FnOk P w K mg base CX0 1 fa da ["heights","one","other"] spAbove:=ok_above DA
 have GB:FnOk P w K mg base CX0 2 g3 e3 ["self","one","other"] (spBetween C):=ok_between WF.cb.fn WF.ah WF.k
 have GNi:FnOk P w K mg base CX0 1 fN dN ["self","heights"] (spOne cN "heights"):=ok_ndInit FN TN G
 have GLi:FnOk P w K mg base CX0 1 fL dL ["self","chain"] (spOne cL "chain"):=ok_nlInit FL TL G
 refine D.fn.okR scNeedless (fun vs H Q E h=>?_) (fun cdv A0 outer s H vs Q E hr h=>?_)
 ·obtain ⟨_,_,_,_,rfl,_⟩:=h; rfl
 ·obtain ⟨a,ss,c,at_,rfl,hc1,hc,ha,hz,hin,hat,hL,k1,k2⟩:=h
  have hu:=hu_of hr
  have hr1:Room 1 _:=hr.mono (by decide)
  have hr2:Room 2 _:=hr.mono (by decide)
  have hr3:Room 3 _:=hr.mono (by decide)
  refine ⟨_,pss_cons (ps_expr (pe_call GC hr (by rfl) DC.at_ DC.fn.kp DC.bd .nil pass0 (pa_cons (pv 0) (pa_cons (pv 1) pa_nil))))
   (pss_cons (ps_if (pt_not (pt_val (pe_call GI hr2 (by rfl) DI.at_ DI.fn.kp DI.bd .nil pass0 (pa_cons (pe_callB call_len_seq (by rfl) G.len PySem.boot_len (pa_cons (pv 1) pa_nil)) (pa_cons (pv 2) pa_nil))))) pss_never pss_nil)
   (pss_cons (ps_set (i:=3) scNeedless.nd rfl (Or.inl rfl) (pe_call GO hr3 (by rfl) DO.at_ DO.fn.kp DO.bd .nil pass0 (pa_cons (pv 1) pa_nil)))
   (pss_cons (ps_set (i:=4) scNeedless.nd rfl (Or.inl rfl) (pe_call GL hr (by rfl) DL.at_ DL.fn.kp DL.bd .nil pass_fly (pa_cons (pv 1) (pa_cons (pv 3) pa_nil))))
   (pss_cons (ps_setComp (j:=5) (XN:=NN) (outer:=defScope s_needless) (N:=["each","at"]) (cap:=[none,some 2])
      (by exact ⟨rfl,by decide +kernel,by decide +kernel,by decide +kernel,.own (.cap rfl rfl rfl .nil),by decide +kernel⟩) rfl scNeedless.nd rfl (Or.inl rfl) (pi_list (pv 3))
      (fun _ _ _ _ _ _=>pg_name (i:=0) ndE rfl (Or.inl rfl)) (fun _ _ _ _ _ _=>pifs_one (pt_cmpR op_ne (pv 0) (pv 1) (nomark _))) (fun _ _ _ _ _ _=>pv 0))
   (pss_cons (ps_set (i:=6) scNeedless.nd rfl (Or.inl rfl) (pe_ix ix_tup (pe_ix ix_list (pv 1) (pv 2) (fun _ _=>rfl)) pe_int (fun _ _=>rfl)))
   (pss_cons (ps_set (i:=7) scNeedless.nd rfl (Or.inl rfl) (pe_ix ix_tup (pe_ix ix_list (pv 1) (pv 2) (fun _ _=>rfl)) pe_int (fun _ _=>rfl)))
   (pss_cons (ps_set (i:=8) scNeedless.nd rfl (Or.inl rfl) (pe_call GD hr1 (by rfl) DD.at_ DD.fn.kp DD.bd .nil pass0 (pa_cons (pv 1) (pa_cons (pv 5) (pa_cons (pv 7) pa_nil)))))
   (pss_cons (ps_if (pt_cmp (pc_dnotin hu (pv 6) (pv 8)))
     (pss_cons (ps_set (i:=9) scNeedless.nd rfl (Or.inl rfl) (pe_call GV hr1 (by rfl) DV.at_ DV.fn.kp DV.bd .nil pass0 (pa_cons (pv 0) (pa_cons (pv 4) pa_nil))))
     (pss_one (ps_ret (pe_make TN.mK GNi hr2 (by rfl) TN.at_ bN .nil pass0 (pa_cons (pe_call GM hr1 (by rfl) DM.at_ DM.fn.kp DM.bd .nil pass0 (pa_cons (pv 9) (pa_cons (pv 8) (pa_cons
      (pe_op op_sub (pe_op op_add (pe_ix ix_tup (pe_ix ix_list (pv 1) (pv 2) (fun _ _=>rfl)) pe_int (fun _ _=>rfl)) pe_int) (pe_call GA hr1 (by rfl) DA.at_ DA.fn.kp DA.bd .nil pass0 (pa_cons (pv 9) (pa_cons (pv 6) (pa_cons (pv 7) pa_nil))))) pa_nil)))) pa_nil))))) pss_nil)
   (pss_cons (ps_set (i:=10) scNeedless.nd rfl (Or.inl rfl) (pe_call GF hr3 (by rfl) DF.at_ DF.fn.kp DF.bd .nil pass0 (pa_cons (pv 1) (pa_cons (pv 5) (pa_cons (pv 6) pa_nil)))))
   (pss_cons (ps_if (pt_cmpR op_le (pe_dget hu (pe_fld (pv 10) rfl) (pv 7) (fun _ _=>rfl)) (pe_ix ix_tup (pe_ix ix_list (pv 1) (pv 2) (fun _ _=>rfl)) pe_int (fun _ _=>rfl)) (nomark _))
    (pss_one (ps_ret (pe_make TL.mK GLi hr2 (by rfl) TL.at_ bL .nil pass0 (pa_cons (pe_meth (pv 10) WF.k.cl WF.cb.me GB hr2 WF.cb.bd .nil pass0 (pa_cons (pv 6) (pa_cons (pv 7) pa_nil))) pa_nil)))) pss_nil)
   (pss_one (ps_ret (pe_make TN.mK GNi hr2 (by rfl) TN.at_ bN .nil pass0 (pa_cons (pe_call GW hr1 (by rfl) DW.at_ DW.fn.kp DW.bd .nil pass0 (pa_cons (pv 0) (pa_cons (pv 4) (pa_cons (pv 10) pa_nil)))) pa_nil)))))))))))))),?_⟩
  refine ⟨_,rfl,_,rfl,c,a,ss,rfl,by omega,ha,hin,?_⟩
  obtain ⟨ps,hq,hS⟩:=ha.ex
  have hlp:=hS.len
  refine ⟨_,rfl,a,_,rfl,.inl (SqL.of hq),_,rfl,_,_,rfl,_,rfl,?_⟩
  rw [show cnt ((ps.map V.ref).length:Int) at_ = true by rw [List.length_map,hlp]; exact hat]
  refine iteF ?_
  refine ⟨_,rfl,a,ss,c,rfl,ha,hz,by omega,hin,hL,fun H1 O ord s1 hL1 hO0 hO ho1 ho2 hol=>?_⟩
  refine ⟨_,rfl,_,rfl,a,O,ss,c,ord,rfl,ha.sameN s1,hO,by omega,hc,hin,ho1,ho2,fun H2 S0 ks0 Sf0 s2 hS00 hS0 rS0 tight0 ends0 _ _=>?_,fun H2 dx l ns s2 hl0 hdx hl ring=>k2 H2 dx l ns (s1.trans s2.n) (hL1.same s2) (s1.tb _ hl0) hdx hl ring⟩
  have pt:=pot0 hin tight0 ends0
  have noR:∀ ns,RingOk ss ns→False:=fun ns r=>ring_not (fun p=>(Sf0 p).getD 0) pt r
  have n2:SameN H H2:=s1.trans s2.n
  have hL2:=hL1.same s2
  have hO2:=s2 _ _ hO
  refine ⟨_,rfl,O,rfl,⟨_,SqL.of hO2⟩,fun D1 hD1=>?_⟩
  refine comp_list (outs:=fun i=>ord[i]?.bind fun k=>if k = at_ then none else some (V.int k)) (fun σ=>∃ v,σ = [v,some (.int at_)]) hD1 (SqL.of hO2) (by rw [List.length_map]; exact small1000 (by omega)) ⟨none,rfl⟩ (fun i x σc Hc Yes No hx sm hDn ⟨v,hv⟩ yes no=>?_) (fun H3 s3 hD3=>?_)
  ·subst hv
   rw [List.getElem?_map] at hx
   cases ek:ord[i]? with
   | none=>rw [ek] at hx; cases hx
   | some kk =>
    rw [ek] at hx; cases hx
    refine ⟨_,rfl,_,rfl,rfl,_,rfl,?_⟩
    rw [dec_int]
    by_cases hd:kk = at_
    ·rw [show (!(kk == at_)) = false by rw [beq_iff_eq.mpr hd]; rfl]
     exact iteF (no _ _ ⟨_,rfl⟩ (Same.refl _) (by rw [ek]; exact if_pos hd))
    ·rw [show (!(kk == at_)) = true by rw [beq_eq_false_iff_ne.mpr hd]; rfl]
     exact iteT ⟨_,rfl,yes _ _ _ ⟨_,rfl⟩ (Same.refl _) (by rw [ek]; exact if_neg hd)⟩
  rw [fm_oth] at hD3
  have n3:SameN H H3:=n2.trans s3.n
  have hL3:=hL2.same s3
  have ha3:=ha.sameN n3
  have hq3:=n3 _ _ rfl hq
  have hS3:=hS.sameN n3
  obtain ⟨p,ep,hp⟩:=say_at hS3 hat
  have h03:=s3 _ _ hS0
  have hlo:=sy_in hin hat
  have oth1:∀ k ∈ oth ord at_,cnt ss.length k = true:=fun k hk=>ho1 k (mem_oth.mp hk).1
  have oth2:∀ k,cnt ss.length k = true→k ≠ at_→k ∈ oth ord at_:=fun k hk hn=>mem_oth.mpr ⟨ho2 k hk,hn⟩
  have othl:(oth ord at_).length ≤ 400:=Nat.le_trans (List.length_filter_le _ _) hol
  have pat:=pt (sy ss at_) (List.mem_of_getElem? (sy_get hat))
  refine ⟨_,rfl,_,rfl,a,_,_,_,rfl,rfl,SqL.of hq3,ep,p,_,_,_,rfl,rfl,SqT.of hp,rfl,?_⟩
  refine ⟨_,rfl,_,rfl,a,_,_,_,rfl,rfl,SqL.of hq3,ep,p,_,_,_,rfl,rfl,SqT.of hp,rfl,?_⟩
  refine ⟨_,rfl,_,rfl,_,rfl,a,D1,ss,c,oth ord at_,_,rfl,ha3,hD3,othl,hc,hin,hlo.2,oth1,fun H4 d kd Ef s4 hd0 hd rE hEo hEc hEr=>?_⟩
  refine ⟨_,rfl,_,rfl,d,_,rfl,.inl ⟨kd,Sum.inl (sy ss at_).1,.inl hd,rfl,rfl⟩,_,rfl,?_⟩
  rw [rE.at_]
  cases hE:Ef (sy ss at_).1 with
  | false =>
   rw [show (!(bS Ef (sy ss at_).1).isSome) = true from by unfold bS; rw [hE]; rfl]
   refine iteT ?_
   refine ⟨_,rfl,_,rfl,c,S0,ks0,Sf0,rfl,by omega,s4 _ _ h03,rS0,fun H5 g s5 hg0 hg=>?_⟩
   have s45:=s4.trans s5
   have hll:(lev Sf0 c).length = c:=lev_len Sf0 c
   have hkl:=lev_keeps hin tight0 ends0
   refine ⟨_,rfl,_,rfl,_,rfl,_,rfl,a,_,_,_,rfl,rfl,SqL.of (s45 _ _ hq3),ep,p,_,_,_,rfl,rfl,SqT.of (s45 _ _ hp),rfl,_,_,rfl,rfl,_,rfl,_,rfl,_,rfl,g,lev Sf0 c,_,_,rfl,hg,by rw [hll]; exact hlo.1,by rw [hll]; exact hlo.2,_,_,rfl,rfl,?_⟩
   refine ⟨g,d,lev Sf0 c,kd,Ef,_,rfl,hg,by rw [hll]; omega,s5 _ _ hd,rE,fun H6 m s6 hm0 hm=>?_⟩
   intro x dx hx hdx ndx
   have sx:Same H6 (upd (upd H6 dx (.own x)) x (.ins cN dx [])):=fun b o e=>by rw [upd_ne (ne_of_none e hx),upd_ne (ne_of_none e hdx)]; exact e
   refine ⟨x,dx,m,_,rfl,upd_same,sx _ _ hm,fun q hq'=>⟨rfl,?_⟩⟩
   obtain ⟨sA,z1,nx,ans⟩:=one_made (f:="heights") hx hdx hq'
   have s36:Same H3 H6:=s45.trans s6
   have n6:SameN H H6:=n3.trans s36.n
   refine k1 true _ x q _ (n6.trans sA.n) (hL3.same (s36.trans sA)) (n6.tb _ hx) (n6.tb _ z1) nx ans ⟨noR,by rw [mvd_len]; exact hll,?_,?_⟩
   ·refine mvd_keepsN ?_ (by rw [hll]; exact hin) hkl fun k hk hn=>hEc k (oth2 k hk hn)
    have:=keeps_gt.mp (List.all_eq_true.mp hkl _ (List.mem_of_getElem? (sy_get hat)))
    unfold gt at this
    omega
   ·unfold keeps
    refine decide_eq_false fun h=>?_
    have h:gt (mvd (lev Sf0 c) Ef _) (sy ss at_).2.1 - gt (mvd (lev Sf0 c) Ef _) (sy ss at_).1 ≤ _:=h
    rw [mvd_get (by rw [hll]; exact hlo.2),mvd_get (by rw [hll]; exact hlo.1),if_pos hEo,if_neg (by rw [hE]; decide)] at h
    unfold gt at h
    omega
  | true =>
   rw [show (!(bS Ef (sy ss at_).1).isSome) = false from by unfold bS; rw [hE]; rfl]
   refine iteF ?_
   have hreach:=(hEr _ hE).2
   refine ⟨_,rfl,_,rfl,_,rfl,a,D1,ss,c,oth ord at_,_,fun p=>(Sf0 p).getD 0,rfl,ha3.same s4,s4 _ _ hD3,hc,hin,hlo.1,oth1,pt,fun H5 p1 S1 L1 ks1 kl1 Sf1 Lf1 s5 hp10 hS10 W1 g1=>?_⟩
   have s45:=s4.trans s5
   obtain ⟨v,ev⟩:∃ v,Sf1 (sy ss at_).2.1 = some v:=by
    cases e:Sf1 (sy ss at_).2.1 with
    | none=>exact absurd e (rch_sumN g1.tight hreach (by rw [g1.wk.st]; simp))
    | some v=>exact ⟨v,rfl⟩
   obtain ⟨⟨dx1,ob1⟩,hS1,rS1,_⟩:=id W1
   refine ⟨_,rfl,p1,C,dx1,_,_,rfl,ob1,WF.k.cl,WF.k.n2,wfl2,_,rfl,S1,_,rfl,.inl ⟨ks1,Sum.inl (sy ss at_).2.1,.inl hS1,rfl,by rw [rS1.at_,iS_some ev]⟩,_,rfl,_,rfl,a,_,_,_,rfl,rfl,SqL.of (s45 _ _ hq3),ep,p,_,_,_,rfl,rfl,SqT.of (s45 _ _ hp),rfl,_,_,rfl,rfl,_,rfl,?_⟩
   have n5:SameN H H5:=n3.trans s45.n
   have hL5:=hL3.same s45
   by_cases hle:v ≤ (sy ss at_).2.2
   ·rw [decide_eq_true hle]
    refine iteT ?_
    obtain ⟨m1,hm1,hb1⟩:=chain_of pt g1.wd g1.wk ev
    refine ⟨_,rfl,p1,dx1,_,rfl,ob1,wfl_cb,_,rfl,_,rfl,p1,a,S1,L1,ss,ks1,kl1,Sf1,Lf1,_,_,m1,rfl,W1,ha3.same s45,g1.wd.j,hb1,by omega,fun H6 c1 k1' s6 hc10 hk1 hbk1 hc1'=>?_⟩
    intro x dx hx hdx ndx
    have sx:Same H6 (upd (upd H6 dx (.own x)) x (.ins cL dx [])):=fun b o e=>by rw [upd_ne (ne_of_none e hx),upd_ne (ne_of_none e hdx)]; exact e
    refine ⟨x,dx,c1,_,rfl,upd_same,sx _ _ hc1',fun q hq'=>⟨rfl,?_⟩⟩
    obtain ⟨sA,z1,nx,ans⟩:=one_made (f:="chain") hx hdx hq'
    have n6:SameN H H6:=n5.trans s6.n
    obtain ⟨r1,r2,r3⟩:=chainB_walk g1.wd.j k1' _ _ hbk1
    refine k1 false _ x q _ (n6.trans sA.n) (hL5.same (s6.trans sA)) (n6.tb _ hx) (n6.tb _ z1) nx ans ⟨noR,r1,fun hm=>?_,?_,by rw [List.length_reverse,r3]; omega⟩
    ·exact (mem_oth.mp (chainB_own g1.own _ _ _ (List.mem_reverse.mp hm))).2 rfl
    ·have:=tele g1.wd.j k1' _ _ 0 v hbk1 g1.wk.st ev
     rw [r2]
     omega
   ·rw [decide_eq_false hle]
    refine iteF ?_
    have nS1:S0 ≠ S1:=ne_of_none (s4 _ _ h03) hS10
    refine ⟨_,rfl,_,rfl,_,rfl,c,p1,a,S0,S1,L1,ks0,ks1,kl1,Sf0,Sf1,Lf1,_,rfl,hc,s45 _ _ h03,rS0,W1,nS1,g1.wk.st,g1.wd.rg,fun H6 c1 li1 s6 hc10 hc1' hli1=>?_⟩
    intro x dx hx hdx ndx
    have sx:Same H6 (upd (upd H6 dx (.own x)) x (.ins cN dx [])):=fun b o e=>by rw [upd_ne (ne_of_none e hx),upd_ne (ne_of_none e hdx)]; exact e
    refine ⟨x,dx,c1,_,rfl,upd_same,sx _ _ hc1',fun q hq'=>⟨rfl,?_⟩⟩
    obtain ⟨sA,z1,nx,ans⟩:=one_made (f:="heights") hx hdx hq'
    have n6:SameN H H6:=n5.trans s6.n
    refine k1 true _ x q _ (n6.trans sA.n) (hL5.same (s6.trans sA)) (n6.tb _ hx) (n6.tb _ z1) nx ans ⟨noR,lw_len _ _ _ _,lw_keepsN hin pt (fun k hk hn=>g1.tight k (oth2 k hk hn)) hli1,?_⟩
    unfold keeps
    refine decide_eq_false fun h=>?_
    have h:gt (lw Sf1 Sf0 li1 c) (sy ss at_).2.1 - gt (lw Sf1 Sf0 li1 c) (sy ss at_).1 ≤ _:=h
    rw [lw_get hlo.2,lw_get hlo.1,ev,g1.wk.st] at h
    have h:v - 0 ≤ (sy ss at_).2.2:=h
    omega
end
end At
set_option Elab.async false
set_option linter.all false
set_option maxRecDepth 100000
set_option maxHeartbeats 4000000
namespace At
open PySem L2 PyProof.Rows
section
variable {P:Program} {w:World} {K:PySem.W.Frag} {mg:Str→Option Value} {base:Heap}
def dueSum (ss:List Say) (ns:List Int) (one other:Int):V:=if walk ss ns one = some other then .int (sumC ss ns) else .non
def spLSum:Sp:=fun vs H Q _=>∃ (a:Addr) (ss:List Say) (b:Addr) (ns:List Int) (one other:Int),vs = [.ref a,.ref b,.int one,.int other]∧SaysAt H a ss∧H b = some (.lst (ns.map V.int))∧Q (dueSum ss ns one other) H
theorem scLSum:FnScope ["_law_sayings_here","_law_chain","_law_one","_law_other","_law_total","_law_place","_law_at","_law_lower","_law_upper","_law_number"] ["_law_sayings_here","_law_chain","_law_one","_law_other"] (defScope sLSum):=⟨rfl,rfl,rfl,by decide +kernel,rfl,by decide +kernel,by decide +kernel⟩
theorem sumC_cons (ss:List Say) (k:Int) (r:List Int):sumC ss (k :: r) = num ss k + sumC ss r:=by unfold sumC; rw [List.map_cons,List.sum_cons]
theorem ok_lsum {c:Bool} {f:Addr} {fd:FuncData} (D:Def K mg "_law_sum" sLSum ["_law_sayings_here","_law_chain","_law_one","_law_other"] f fd) (G:G1 K mg):FnOk P w K mg base (CXm c) 1 f fd ["_law_sayings_here","_law_chain","_law_one","_law_other"] spLSum:=by
 refine D.fn.ok scLSum (fun vs H Q E h=>?_) (fun cdv A outer s H vs Q E hr h=>?_)
 ·obtain ⟨a,ss,b,ns,one,other,rfl,_⟩:=h; rfl
 ·obtain ⟨a,ss,b,ns,one,other,rfl,ha,hb,k⟩:=h
  obtain ⟨ps,ha,hS⟩:=ha.ex
  refine ⟨_,pss_cons (ps_par (i:=4) (j:=5) rfl scLSum.nd rfl rfl (by decide) rfl rfl (pa_cons pe_int (pa_cons (pv 2) pa_nil)) rfl)
   (pss_cons (ps_for PassesOwn.never rfl (pi_list (pv 1)) (pg_name (i:=6) scLSum.nd rfl (Or.inl rfl))
    (pss_cons (ps_if (PW.pt (pw_or (pt_val (pe_callB call_isinst (by rfl) G.isi boot_isinstance (pa_cons (pv 6) (pa_cons (pe_ty (by rfl) G.bool boot_bool) pa_nil))))
      (pw_or (pt_not (pt_val (pe_callB call_isinst (by rfl) G.isi boot_isinstance (pa_cons (pv 6) (pa_cons (pe_ty (by rfl) G.int boot_int) pa_nil)))))
      (pw_or1 (pt_not (pt_chain op_le op_lt pe_int (pv 6) (pe_callB call_len_seq (by rfl) G.len PySem.boot_len (pa_cons (pv 0) pa_nil)))))))) (pss_one (ps_ret pe_non)) pss_nil)
    (pss_cons (ps_asg (pe_ix ix_list (pv 0) (pv 6) (fun _ _=>rfl)) (pg_tup rfl (pgs_cons (pg_name (i:=7) scLSum.nd rfl (Or.inl rfl)) (pgs_cons (pg_name (i:=8) scLSum.nd rfl (Or.inl rfl)) (pgs_cons (pg_name (i:=9) scLSum.nd rfl (Or.inl rfl)) pgs_nil)))))
    (pss_cons (ps_if (pt_cmpR op_ne (pv 7) (pv 5) (nomark _)) (pss_one (ps_ret pe_non)) pss_nil)
    (pss_one (ps_par (i:=4) (j:=5) rfl scLSum.nd rfl rfl (by decide) rfl rfl (pa_cons (pe_op op_add (pv 4) (pv 9)) (pa_cons (pv 8) pa_nil)) rfl))))))
   (pss_one (ps_ret (pe_ifExp (pt_cmpR op_eq (pv 5) (pv 3) (nomark _)) (pv 4) pe_non)))),?_⟩
  refine ⟨_,rfl,_,_,rfl,?_⟩
  refine ⟨_,rfl,b,rfl,⟨_,SqL.of hb⟩,for_list (K:=K) (a:=b) (xs:=ns.map V.int) (fun i σ H2=>H2 = H∧∃ (t p:Int) (v6 v7 v8 v9:Option V),σ = [some (.ref a),some (.ref b),some (.int one),some (.int other),some (.int t),some (.int p),v6,v7,v8,v9]∧walk ss ns one = walk ss (ns.drop i) p∧sumC ss ns = t + sumC ss (ns.drop i))
   ⟨rfl,0,one,none,none,none,none,rfl,rfl,by rw [List.drop_zero,Int.zero_add]⟩ (fun i σ H2 _ ⟨e,_⟩=>by rw [e]; exact SqL.of hb) ?_ ?_⟩
  ·rintro i y σ H2 hi ⟨rfl,t,p,v6,v7,v8,v9,rfl,hw,hsum⟩
   rw [List.getElem?_map] at hi
   cases en:ns[i]? with
   | none=>rw [en] at hi; cases hi
   | some z =>
    rw [en] at hi; cases hi
    have ed:ns.drop i = z :: ns.drop (i + 1):=by
     obtain ⟨hl,rfl⟩:=List.getElem?_eq_some_iff.mp en
     exact List.drop_eq_getElem_cons hl
    rw [ed] at hw hsum
    rw [sumC_cons] at hsum
    have el:((ps.map V.ref).length:Int) = ss.length:=by rw [List.length_map,hS.len]
    have kn:walk ss ns one = none→Q .non H2:=fun e=>by
     unfold dueSum at k
     rw [e,if_neg (by simp)] at k
     exact k
    refine ⟨_,rfl,_,_,_,_,_,rfl,.int z,rfl,G.kib,false,rfl,iteF ?_⟩
    refine ⟨_,rfl,_,_,_,_,_,rfl,.int z,rfl,G.kii,true,rfl,iteF ?_⟩
    refine ⟨_,rfl,_,_,rfl,rfl,_,rfl,?_⟩
    refine ite2 (fun h0=>?_) (fun h0=>?_)
    ·refine ⟨_,rfl,a,_,rfl,.inl (SqL.of ha),_,_,rfl,rfl,_,rfl,?_⟩
     rw [el]
     cases hlt:decide (z < (ss.length:Int)) with
     | false =>
      refine kn ?_
      rw [hw]; unfold walk
      rw [if_neg]
      unfold cnt; rw [hlt]; simp
     | true =>
      have hc:cnt ss.length z = true:=by unfold cnt; rw [h0,hlt]; rfl
      obtain ⟨⟨l,u,n⟩,es,h0'⟩:=get_of_cnt hc
      obtain ⟨q,eq,hq⟩:=hS.get es
      have hq:H2 q = some (.tup [.int l,.int u,.int n]):=hq
      have e1:(ps.map V.ref)[z.toNat]? = some (.ref q):=by rw [List.getElem?_map,eq]; rfl
      have hw2:walk ss ns one = if l = p then walk ss (ns.drop (i + 1)) u else none:=by
       rw [hw]; conv=>lhs; unfold walk
       rw [hc,if_pos rfl,es]
      have hn:num ss z = n:=by unfold num; rw [es]; rfl
      refine ⟨_,rfl,_,rfl,a,_,_,_,rfl,rfl,SqL.of ha,atI_of h0' e1,q,_,rfl,SqT.of hq,rfl,_,_,rfl,_,_,rfl,_,_,rfl,rfl,?_⟩
      refine ⟨_,rfl,_,rfl,rfl,_,rfl,?_⟩
      refine ite2 (fun hne=>?_) (fun hne=>?_)
      ·rw [dec_int] at hne
       have hne:¬ l = p:=by simpa using hne
       exact kn (by rw [hw2,if_neg hne])
      ·rw [dec_int] at hne
       have hne:l = p:=by simpa using hne
       refine ⟨_,rfl,_,rfl,_,_,rfl,rfl,_,rfl,_,_,rfl,?_⟩
       exact ⟨rfl,_,u,_,_,_,_,rfl,by rw [hw2,if_pos hne],by rw [hsum,hn]; omega⟩
    ·refine ⟨false,rfl,kn ?_⟩
     rw [hw]; unfold walk
     rw [if_neg]
     unfold cnt
     rw [Bool.eq_false_iff.mpr h0]; simp
  ·rintro σ H2 ⟨rfl,t,p,v6,v7,v8,v9,rfl,hw,hsum⟩
   rw [List.length_map,List.drop_length] at hw hsum
   have hw:walk ss ns one = some p:=hw
   have hsum:sumC ss ns = t:=by rw [hsum]; simp [sumC]
   refine ⟨_,rfl,_,rfl,rfl,_,rfl,?_⟩
   unfold dueSum at k
   rw [hw,hsum] at k
   refine ite2 (fun he=>?_) (fun he=>?_)
   ·rw [dec_int] at he
    have he:p = other:=by simpa using he
    rw [if_pos (by rw [he])] at k
    exact ⟨_,rfl,k⟩
   ·rw [dec_int] at he
    have he:¬ p = other:=by simpa using he
    rw [if_neg (by intro z; exact he (Option.some.inj z))] at k
    exact k
end
end At
set_option Elab.async false
set_option linter.all false
set_option maxRecDepth 100000
set_option maxHeartbeats 4000000
namespace At
open PySem L2 PyProof.Rows
section
variable {P:Program} {w:World} {K:PySem.W.Frag} {mg:Str→Option Value} {base:Heap}
def keeps2 (hs:List Int) (s:Say):Bool:=decide (hs.getD s.2.1.toNat 0 ≤ hs.getD s.1.toNat 0 + s.2.2)
theorem keeps_eq (hs:List Int) (s:Say):keeps2 hs s = keeps hs s:=by
 unfold keeps2 keeps
 rw [Bool.eq_iff_iff,decide_eq_true_eq,decide_eq_true_eq]; omega
def spLKept:Sp:=fun vs H Q _=>∃ (c:Int) (a b:Addr) (ss:List Say) (hs:List Int),vs = [.int c,.ref a,.ref b]∧SaysAt H a ss∧ss.length ≤ 1000∧ss.all (inside c) = true∧H b = some (.lst (hs.map V.int))∧(hs.length:Int) = c∧hs.length ≤ 1000∧∀ H',Same H H'→Q (.bl (ss.all (keeps hs))) H'
theorem scLKept:FnScope ["_law_count","_law_sayings_here","_law_row"] ["_law_count","_law_sayings_here","_law_row"] (defScope sLKept):=⟨rfl,rfl,rfl,by decide +kernel,rfl,by decide +kernel,by decide +kernel⟩
theorem fm_false (n:Nat):((List.range n).filterMap fun _=>some (V.bl false)) = (List.replicate n false).map V.bl:=by
 induction n with
 | zero=>rfl
 | succ n ih=>rw [List.range_succ,List.filterMap_append,ih,List.replicate_succ',List.map_append]; rfl
theorem any_rep (n:Nat):(List.replicate n false).any id = false:=by
 rw [List.any_eq_false]; intro b hb; rw [(List.mem_replicate.mp hb).2]; decide
theorem ok_lkept {f:Addr} {fd:FuncData} (D:Def K mg "_law_kept" sLKept ["_law_count","_law_sayings_here","_law_row"] f fd) (G:G1 K mg):FnOk P w K mg base CX0 1 f fd ["_law_count","_law_sayings_here","_law_row"] spLKept:=by
 refine D.fn.ok scLKept (fun vs H Q E h=>?_) (fun cdv A outer s H vs Q E hr h=>?_)
 ·obtain ⟨c,a,b,ss,hs,rfl,_⟩:=h; rfl
 ·obtain ⟨c,a,b,ss,hs,rfl,ha,hz,hin,hb,hl,hz2,k⟩:=h
  obtain ⟨ps,ha,hS⟩:=ha.ex
  refine ⟨_,pss_cons (ps_if (PW.pt (pw_or (pt_cmpR op_ne (pe_callB call_len_seq (by rfl) G.len PySem.boot_len (pa_cons (pv 2) pa_nil)) (pv 0) (nomark _))
    (pw_or1 (pt_val (pe_callB (call_anyL rfl) (by rfl) G.any boot_any (pa_cons
     (pe_comp (XN:=["_law_count","_law_sayings_here","_law_row"]) (outer:=defScope sLKept) (N:=["_law_one"]) (cap:=[none]) (by exact ⟨rfl,by decide +kernel,by decide +kernel,by decide +kernel,.own .nil,by decide +kernel⟩) rfl (pi_list (pv 2))
      (fun _ _ _ _ _ _=>pg_name (i:=0) (show (["_law_one"]:List Str).Nodup by decide +kernel) rfl (Or.inl rfl)) (fun _ _ _ _ _ _=>pifs_nil)
      (fun _ _ _ _ _ _=>pe_or (pe_callB (call_isinstK (K:=K)) (by rfl) G.isi boot_isinstance (pa_cons (pv 0) (pa_cons (pe_ty (by rfl) G.bool boot_bool) pa_nil)))
       (pe_one (pe_not (pe_callB (call_isinstK (K:=K)) (by rfl) G.isi boot_isinstance (pa_cons (pv 0) (pa_cons (pe_ty (by rfl) G.int boot_int) pa_nil))))))) pa_nil)))))) (pss_one (ps_ret pe_bl)) pss_nil)
   (pss_one (ps_ret (pe_callB (call_allL rfl) (by rfl) G.all boot_all (pa_cons
    (pe_comp (XN:=["_law_count","_law_sayings_here","_law_row"]) (outer:=defScope sLKept) (N:=["_law_lower","_law_upper","_law_number","_law_row"]) (cap:=[none,none,none,some 2]) (by exact ⟨rfl,by decide +kernel,by decide +kernel,by decide +kernel,.own (.own (.own (.cap rfl rfl rfl .nil))),by decide +kernel⟩) rfl (pi_list (pv 1))
     (fun _ _ _ _ _ _=>pg_tupK (K:=K) (n:=3) rfl (pgs_cons (pg_name (i:=0) (show (["_law_lower","_law_upper","_law_number","_law_row"]:List Str).Nodup by decide +kernel) rfl (Or.inl rfl)) (pgs_cons (pg_name (i:=1) (show (["_law_lower","_law_upper","_law_number","_law_row"]:List Str).Nodup by decide +kernel) rfl (Or.inl rfl)) (pgs_cons (pg_name (i:=2) (show (["_law_lower","_law_upper","_law_number","_law_row"]:List Str).Nodup by decide +kernel) rfl (Or.inl rfl)) pgs_nil))) rfl) (fun _ _ _ _ _ _=>pifs_nil)
     (fun _ _ _ _ _ _=>pe_cmpR op_le (pe_ix (ixL (K:=K)) (pv 3) (pv 1) (fun _ _=>rfl)) (pe_op op_add (pe_ix (ixL (K:=K)) (pv 3) (pv 0) (fun _ _=>rfl)) (pv 2)) (nomark _))) pa_nil)))),?_⟩
  have hlm:(((hs.map V.int).length:Nat):Int) = c:=by rw [List.length_map]; exact hl
  refine ⟨_,rfl,b,_,rfl,.inl (SqL.of hb),_,rfl,rfl,_,rfl,?_⟩
  rw [hlm,decide_eq_true rfl]
  refine iteF ⟨_,rfl,b,rfl,⟨_,SqL.of hb⟩,fun q hq=>?_⟩
  refine comp_list (outs:=fun _=>some (V.bl false)) (fun σ=>∃ v,σ = [v]) hq (SqL.of hb) (by rw [List.length_map]; exact small1000 hz2) ⟨none,rfl⟩ (fun i x σc Hc Yes No hx sm _ ⟨v,hv⟩ yes no=>?_) (fun Hc sm hD=>?_)
  ·rw [List.getElem?_map] at hx
   cases en:hs[i]? with
   | none=>rw [en] at hx; cases hx
   | some z =>
    rw [en] at hx; cases hx
    subst hv
    refine ⟨_,rfl,_,_,_,_,_,rfl,.int z,rfl,G.kib,false,rfl,iteF ?_⟩
    exact ⟨_,rfl,_,_,_,_,_,rfl,.int z,rfl,G.kii,true,rfl,yes _ _ _ ⟨_,rfl⟩ (Same.refl _) rfl⟩
  ·rw [fm_false] at hD
   refine ⟨q,List.replicate _ false,rfl,SqL.of hD,_,rfl,?_⟩
   rw [any_rep]
   refine iteF ⟨_,rfl,a,rfl,⟨_,SqL.of (sm _ _ ha)⟩,fun q2 hq2=>?_⟩
   refine comp_list (outs:=fun i=>(ss[i]?).map fun s=>V.bl (keeps2 hs s)) (fun σ=>∃ v1 v2 v3,σ = [v1,v2,v3,some (.ref b)]) hq2 (SqL.of (sm _ _ ha)) (by rw [List.length_map,hS.len]; exact small1000 hz) ⟨none,none,none,rfl⟩ (fun i x σc Hc2 Yes No hx sm2 _ ⟨v1,v2,v3,hv⟩ yes no=>?_) (fun Hc2 sm2 hD2=>?_)
   ·rw [List.getElem?_map] at hx
    cases ep:ps[i]? with
    | none=>rw [ep] at hx; cases hx
    | some p =>
     rw [ep] at hx; cases hx
     subst hv
     have hli:i < ss.length:=by rw [← hS.len]; exact (List.getElem?_eq_some_iff.mp ep).1
     have es:ss[i]? = some ss[i]:=List.getElem?_eq_getElem hli
     have hb2:inside c ss[i] = true:=List.all_eq_true.mp hin _ (List.getElem_mem hli)
     have hp:=sm2 _ _ (sm _ _ (hS.at_ i p _ ep es))
     generalize ss[i] = t at es hb2 hp
     obtain ⟨l,u,n⟩:=t
     have hp:Hc2 p = some (.tup [.int l,.int u,.int n]):=hp
     unfold inside at hb2
     rw [Bool.and_eq_true,← hl] at hb2
     have hbc:=sm2 _ _ (sm _ _ hb)
     refine ⟨p,_,rfl,SqT.of hp,rfl,_,_,rfl,_,_,rfl,_,_,rfl,rfl,?_⟩
     exact ⟨_,rfl,_,rfl,b,_,_,_,rfl,rfl,SqL.of hbc,at_ints hb2.2,_,rfl,_,rfl,b,_,_,_,rfl,rfl,SqL.of hbc,at_ints hb2.1,_,rfl,_,_,rfl,rfl,_,_,rfl,rfl,yes _ _ _ ⟨_,_,_,rfl⟩ (Same.refl _) (by rw [es]; rfl)⟩
   ·rw [List.length_map,hS.len,fm_map] at hD2
    refine ⟨q2,ss.map (keeps2 hs),rfl,?_,?_⟩
    ·rw [List.map_map]; exact SqL.of hD2
    ·rw [List.all_map]
     have e:(ss.all (id ∘ keeps2 hs)) = ss.all (keeps hs):=by
      congr 1; funext s; exact keeps_eq hs s
     rw [e]
     exact k Hc2 (sm.trans sm2)
end
end At
set_option Elab.async false
set_option linter.all false
set_option maxRecDepth 100000
set_option maxHeartbeats 4000000
namespace At
open PySem L2 PyProof.Rows
section
variable {P:Program} {w:World} {K:PySem.W.Frag} {mg:Str→Option Value} {base:Heap}
structure InsK (K:PySem.W.Frag) (C:Addr):Prop where
 cl:Cls K C
 ha:PySem.W.findIn K (.ref C) "__class__" = some (some (.builtin "object.__class__"))
 hn:PySem.W.specialIn K (.builtin "object.__class__") "__get__" = some (some (.builtin "getset_descriptor.__get__"))
 htk:PySem.W.takesIn K (.builtin "object.__class__") = some true
 hm:PySem.W.mroIn K C (.type "object") = some true
theorem AnsAt.ty {K:PySem.W.Frag} {H:Hp} {x C l:Addr} {f:Str} {ns:List Int} (h:AnsAt H x C l f ns) (i:InsK K C):TyOf K H (.ref x) (.ref C):=by
 obtain ⟨dx,hx⟩:=h.ex
 exact .ins hx i.cl i.ha i.hn i.htk i.hm
structure NeedN (K:PySem.W.Frag) (mg:Str→Option Value) (cA cN cL c1 c2 c3 c4 c5 c6:Addr):Prop where
 aA:mg "Answer" = some (.ref cA)
 aN:mg "Needed" = some (.ref cN)
 aL:mg "Needless" = some (.ref cL)
 i:∀ b,InsK K (ansC cN cL b)
 n:∀ b,NoAttr K (ansC cN cL b) (ansF b)
 kA:∀ b,PySem.W.kitOne K (.ref (ansC cN cL b)) (.ref cA) = some true
 kN:∀ b,PySem.W.kitOne K (.ref (ansC cN cL b)) (.ref cN) = some b
 kL:∀ b,PySem.W.kitOne K (.ref (ansC cN cL b)) (.ref cL) = some (!b)
 a1:mg "Fixed" = some (.ref c1)
 a2:mg "Follows" = some (.ref c2)
 a3:mg "Free" = some (.ref c3)
 a4:mg "Heights" = some (.ref c4)
 a5:mg "Loose" = some (.ref c5)
 a6:mg "Ring" = some (.ref c6)
 k1:∀ b,PySem.W.kitOne K (.ref (ansC cN cL b)) (.ref c1) = some false
 k2:∀ b,PySem.W.kitOne K (.ref (ansC cN cL b)) (.ref c2) = some false
 k3:∀ b,PySem.W.kitOne K (.ref (ansC cN cL b)) (.ref c3) = some false
 k4:∀ b,PySem.W.kitOne K (.ref (ansC cN cL b)) (.ref c4) = some false
 k5:∀ b,PySem.W.kitOne K (.ref (ansC cN cL b)) (.ref c5) = some false
 k6:∀ b,PySem.W.kitOne K (.ref (ansC cN cL b)) (.ref c6) = some false
def spLDue (cN cL:Addr):Sp:=fun vs H Q _=>∃ (b:Bool) (x l a:Addr) (c at_:Int) (ss:List Say) (xs:List Int),vs = [.int c,.ref a,.int at_,.ref x]∧AnsAt H x (ansC cN cL b) l (ansF b) xs∧SaysAt H a ss∧ss.length ≤ 400∧ss.all (inside c) = true∧cnt ss.length at_ = true ∧
 (b = true→(xs.length:Int) = c)∧xs.length ≤ 1000∧∀ H',Same H H'→Q (.bl (showN b c ss at_ xs)) H'
theorem scLDue:FnScope ["_law_count","_law_sayings_here","_law_at","_law_found","_law_lower","_law_upper","_law_number","_law_total"] ["_law_count","_law_sayings_here","_law_at","_law_found"] (defScope s__law_due):=⟨rfl,rfl,rfl,by decide +kernel,rfl,by decide +kernel,by decide +kernel⟩
theorem ok_lDue {f fs fk cA cN cL c1 c2 c3 c4 c5 c6:Addr} {fd ds dk:FuncData} (D:Def K mg "_law_due" s__law_due ["_law_count","_law_sayings_here","_law_at","_law_found"] f fd) (DS:Def K mg "_law_sum" sLSum ["_law_sayings_here","_law_chain","_law_one","_law_other"] fs ds)
  (DK:Def K mg "_law_kept" sLKept ["_law_count","_law_sayings_here","_law_row"] fk dk) (T:NeedN K mg cA cN cL c1 c2 c3 c4 c5 c6) (G:G1 K mg):FnOk P w K mg base CX0 2 f fd ["_law_count","_law_sayings_here","_law_at","_law_found"] (spLDue cN cL):=by
 have GK:FnOk P w K mg base CX0 1 fk dk ["_law_count","_law_sayings_here","_law_row"] spLKept:=ok_lkept DK G
 have GS:FnOk P w K mg base CX0 1 fs ds ["_law_sayings_here","_law_chain","_law_one","_law_other"] spLSum:=ok_lsum DS G
 refine D.fn.ok scLDue (fun vs H Q E h=>?_) (fun cdv A0 outer s H vs Q X hr h=>?_)
 ·obtain ⟨_,_,_,_,_,_,_,_,rfl,_⟩:=h; rfl
 ·obtain ⟨b,x,l,a,c,at_,ss,xs,rfl,an,ha,hz,hin,hat,hb,hx,k⟩:=h
  refine ⟨_,pss_cons (ps_asg (pe_ix ix_list (pv 1) (pv 2) (fun _ _=>rfl)) (pg_tup rfl (pgs_cons (pg_name (i:=4) scLDue.nd rfl (Or.inl rfl)) (pgs_cons (pg_name (i:=5) scLDue.nd rfl (Or.inl rfl)) (pgs_cons (pg_name (i:=6) scLDue.nd rfl (Or.inl rfl)) pgs_nil)))))
   (pss_cons (ps_if (pt_val (pe_callB call_isinst (by rfl) G.isi boot_isinstance (pa_cons (pv 3) (pa_cons (pe_cls (by rfl) T.aL) pa_nil))))
    (pss_cons (ps_set (i:=7) scLDue.nd rfl (Or.inl rfl) (pe_call GS hr (by rfl) DS.at_ DS.fn.kp DS.bd .nil pass0 (pa_cons (pv 1) (pa_cons (pe_fld (pv 3) rfl) (pa_cons (pv 4) (pa_cons (pv 5) pa_nil))))))
    (pss_one (ps_ret (pe_and (pe_cmpR op_notN (pv 7) pe_non (nomark _)) (pe_and (pe_cmpR op_notIn_seq (pv 2) (pe_fld (pv 3) rfl) (by with_unfolding_all rfl)) (pe_one (pe_cmpR op_le (pv 7) (pv 6) (nomark _)))))))) pss_nil)
   (pss_cons (ps_if (pt_not (pt_val (pe_call GK hr (by rfl) DK.at_ DK.fn.kp DK.bd .nil pass0 (pa_cons (pv 0) (pa_cons (pe_op op_cat (pe_slice sl_list (pv 1) po_none (po_some (pv 2))) (pe_slice sl_list (pv 1) (po_some (pe_op op_add (pv 2) pe_int)) po_none)) (pa_cons (pe_fld (pv 3) rfl) pa_nil)))))) (pss_one (ps_ret pe_bl)) pss_nil)
   (pss_one (ps_ret (pe_cmpR op_gt (pe_op op_sub (pe_ix ix_list (pe_fld (pv 3) rfl) (pv 5) (fun _ _=>rfl)) (pe_ix ix_list (pe_fld (pv 3) rfl) (pv 4) (fun _ _=>rfl))) (pv 6) (nomark _)))))),?_⟩
  obtain ⟨⟨dx,hxo⟩,h1⟩:=id an
  obtain ⟨ps,hq,hS⟩:=ha.ex
  obtain ⟨p,ep,hp⟩:=say_at hS hat
  obtain ⟨c0,c1'⟩:=cnt_iff.mp hat
  have hat':((at_.toNat:Nat):Int) = at_:=by omega
  have hlp:=hS.len
  have hlo:=sy_in hin hat
  refine ⟨_,rfl,_,rfl,a,_,_,_,rfl,rfl,SqL.of hq,ep,p,_,rfl,SqT.of hp,rfl,_,_,rfl,_,_,rfl,_,_,rfl,rfl,?_⟩
  refine ⟨_,rfl,_,_,_,_,_,rfl,an.ty (T.i b),rfl,T.kL b,_,rfl,?_⟩
  unfold showN at k
  cases b with
  | false =>
   refine iteT ?_
   refine ⟨_,rfl,_,rfl,x,cL,dx,_,_,rfl,hxo,(T.i false).cl,T.n false,rfl,_,rfl,_,rfl,a,ss,l,xs,_,_,rfl,ha,h1,?_⟩
   unfold dueSum
   have:=k H (Same.refl _)
   by_cases hw:walk ss xs (sy ss at_).1 = some (sy ss at_).2.1
   ·rw [if_pos hw]
    refine ⟨_,rfl,rfl,_,rfl,iteT ?_⟩
    refine ⟨_,rfl,_,rfl,x,cL,dx,_,_,rfl,hxo,(T.i false).cl,T.n false,rfl,l,_,rfl,.inl (SqL.of h1),rfl,ints_flat xs,_,rfl,?_⟩
    rw [show (if true = true then !inV (V.int at_) (xs.map V.int) else inV (V.int at_) (xs.map V.int)) = !decide (at_ ∈ xs) by rw [if_pos rfl,inV_ints]]
    rw [decide_eq_true hw] at this
    cases hm:decide (at_ ∈ xs) with
    | true=>rw [hm] at this; exact iteF this
    | false =>
     rw [hm] at this
     exact iteT ⟨_,rfl,_,rfl,_,_,rfl,rfl,this⟩
   ·rw [if_neg hw]
    refine ⟨_,rfl,rfl,_,rfl,iteF ?_⟩
    rw [decide_eq_false hw,Bool.false_and,Bool.and_false] at this
    exact this
  | true =>
   have lx:=hb rfl
   have dx1:hDue c xs (wo ss at_) = (wo ss at_).all (keeps xs):=by unfold hDue; rw [decide_eq_true lx]; rfl
   refine iteF ?_
   refine ⟨_,rfl,_,rfl,_,rfl,at_,rfl,a,_,rfl,SqL.of hq,fun L1 hL1=>?_⟩
   rw [← hat',cut_take]
   have u1:=Same.up (o:=.lst ((ps.map V.ref).take at_.toNat)) hL1
   have e1:(upd H L1 (.lst ((ps.map V.ref).take at_.toNat))) L1 = some (.lst ((ps.take at_.toNat).map V.ref)):=by rw [upd_same,List.map_take]
   generalize upd H L1 (.lst ((ps.map V.ref).take at_.toNat)) = H1 at u1 e1
   refine ⟨_,rfl,_,rfl,_,_,rfl,rfl,((at_.toNat:Nat):Int) + 1,rfl,a,_,rfl,SqL.of (u1 _ _ hq),fun L2 hL2=>?_⟩
   rw [show (((at_.toNat:Nat):Int) + 1) = ((at_.toNat + 1:Nat):Int) by omega,cut_drop]
   have u2:=Same.up (o:=.lst ((ps.map V.ref).drop (at_.toNat + 1))) hL2
   have e2:(upd H1 L2 (.lst ((ps.map V.ref).drop (at_.toNat + 1)))) L2 = some (.lst ((ps.drop (at_.toNat + 1)).map V.ref)):=by rw [upd_same,List.map_drop]
   generalize upd H1 L2 (.lst ((ps.map V.ref).drop (at_.toNat + 1))) = H2 at u2 e2
   refine ⟨L1,L2,_,_,rfl,rfl,u2 _ _ e1,e2,by rw [List.length_map,List.length_map,List.length_take,List.length_drop]; exact Nat.le_of_lt (small1000 (by omega)),fun O hO=>?_⟩
   have u3:=Same.up (o:=.lst ((ps.take at_.toNat).map V.ref ++ (ps.drop (at_.toNat + 1)).map V.ref)) hO
   have e3:(upd H2 O (.lst ((ps.take at_.toNat).map V.ref ++ (ps.drop (at_.toNat + 1)).map V.ref))) O = some (.lst ((ps.take at_.toNat ++ ps.drop (at_.toNat + 1)).map V.ref)):=by rw [upd_same,List.map_append]
   have u:=(u1.trans u2).trans u3
   generalize upd H2 O (.lst ((ps.take at_.toNat).map V.ref ++ (ps.drop (at_.toNat + 1)).map V.ref)) = H3 at e3 u
   have hW:SaysAt H3 O (wo ss at_):=⟨_,e3,(hS.wo at_).same u⟩
   have hwl:(wo ss at_).length ≤ 1000:=by unfold wo; rw [List.length_append,List.length_take,List.length_drop]; omega
   rw [dx1] at k
   refine ⟨_,rfl,x,cN,dx,_,_,rfl,u _ _ hxo,(T.i true).cl,T.n true,rfl,c,O,l,wo ss at_,xs,rfl,hW,hwl,wo_in hin,u _ _ h1,lx,hx,fun H4 s4=>⟨_,rfl,?_⟩⟩
   have u4:=u.trans s4
   cases hw:(wo ss at_).all (keeps xs) with
   | false=>rw [hw] at k; exact k H4 u4
   | true =>
    rw [hw] at k
    refine iteF ?_
    have hx4:=u4 _ _ hxo
    have q1:=SqL.of (K:=K) (u4 _ _ h1)
    refine ⟨_,rfl,x,cN,dx,_,_,rfl,hx4,(T.i true).cl,T.n true,rfl,_,rfl,l,_,_,_,rfl,rfl,q1,at_ints (by rw [lx]; exact hlo.2),_,rfl,x,cN,dx,_,_,rfl,hx4,(T.i true).cl,T.n true,rfl,_,rfl,l,_,_,_,rfl,rfl,q1,at_ints (by rw [lx]; exact hlo.1),_,_,rfl,rfl,_,rfl,_,_,rfl,rfl,?_⟩
    have:=k H4 u4
    have e:(!keeps xs (sy ss at_)) = decide (xs.getD (sy ss at_).2.1.toNat 0 - xs.getD (sy ss at_).1.toNat 0 > (sy ss at_).2.2):=by
     unfold keeps
     by_cases h:xs.getD (sy ss at_).2.1.toNat 0 - xs.getD (sy ss at_).1.toNat 0 ≤ (sy ss at_).2.2
     ·rw [decide_eq_true h,decide_eq_false (by omega)]; rfl
     ·rw [decide_eq_false h,decide_eq_true (by omega)]; rfl
    rw [e] at this
    exact this
end
end At
set_option Elab.async false
set_option linter.all false
set_option maxRecDepth 100000
set_option maxHeartbeats 4000000
namespace At
open PySem L2 PyProof.Rows
section
variable {P:Program} {w:World} {K:PySem.W.Frag} {mg:Str→Option Value} {base:Heap}
def spLRing:Sp:=fun vs H Q _=>∃ (a l:Addr) (ss:List Say) (ns:List Int),vs = [.ref a,.ref l]∧SaysAt H a ss∧H l = some (.lst (ns.map V.int))∧∀ H',Same H H'→Q (.bl (rDue ss ns)) H'
theorem scLRing:FnScope ["_law_sayings_here","_law_chain","_law_total"] ["_law_sayings_here","_law_chain"] (defScope s__law_ring):=⟨rfl,rfl,rfl,by decide +kernel,rfl,by decide +kernel,by decide +kernel⟩
theorem ok_lRing {c:Bool} {f fs:Addr} {fd ds:FuncData} (D:Def K mg "_law_ring" s__law_ring ["_law_sayings_here","_law_chain"] f fd) (DS:Def K mg "_law_sum" sLSum ["_law_sayings_here","_law_chain","_law_one","_law_other"] fs ds) (G:G1 K mg):FnOk P w K mg base (CXm c) 2 f fd ["_law_sayings_here","_law_chain"] spLRing:=by
 have GS:FnOk P w K mg base (CXm c) 1 fs ds ["_law_sayings_here","_law_chain","_law_one","_law_other"] spLSum:=ok_lsum DS G
 refine D.fn.ok scLRing (fun vs H Q E h=>?_) (fun cdv A0 outer s H vs Q X hr h=>?_)
 ·obtain ⟨_,_,_,_,rfl,_⟩:=h; rfl
 ·obtain ⟨a,l,ss,ns,rfl,ha,hl,k⟩:=h
  have hu:=hr.units
  refine ⟨_,pss_cons (ps_if (PW.pt (pw_or (pt_not (pt_val (pe_callB call_isinst (by rfl) G.isi boot_isinstance (pa_cons (pv 1) (pa_cons (pe_ty (by rfl) G.list boot_list) pa_nil)))))
    (pw_or (pt_cmpR (op_eqK (K:=K) hu) (pv 1) (pe_lst pa_nil) (nomark _))
    (pw_or1 (pt_not (pt_cmpR op_in_rng (pe_ix ix_list (pv 1) pe_int (fun _ _=>rfl)) (pe_callTy call_rng1 (by rfl) G.range boot_range (pa_cons (pe_callB call_len_seq (by rfl) G.len PySem.boot_len (pa_cons (pv 0) pa_nil)) pa_nil)) (by with_unfolding_all rfl))))))) (pss_one (ps_ret pe_bl)) pss_nil)
   (pss_cons (ps_set (i:=2) scLRing.nd rfl (Or.inl rfl) (pe_call (hcc:=fun z=>z) GS hr (by rfl) DS.at_ DS.fn.kp DS.bd .nil pass0 (pa_cons (pv 0) (pa_cons (pv 1)
    (pa_cons (pe_ix ix_tup (pe_ix ix_list (pv 0) (pe_ix ix_list (pv 1) pe_int (fun _ _=>rfl)) (fun _ _=>rfl)) pe_int (fun _ _=>rfl))
    (pa_cons (pe_ix ix_tup (pe_ix ix_list (pv 0) (pe_ix ix_list (pv 1) pe_int (fun _ _=>rfl)) (fun _ _=>rfl)) pe_int (fun _ _=>rfl)) pa_nil))))))
   (pss_one (ps_ret (pe_and (pe_cmpR op_notN (pv 2) pe_non (nomark _)) (pe_one (pe_cmpR op_lt (pv 2) pe_int (nomark _))))))),?_⟩
  obtain ⟨ps,ha',hS⟩:=ha.ex
  refine ⟨_,rfl,_,_,_,_,_,rfl,.lst hl,rfl,G.kll,true,rfl,iteF ?_⟩
  refine ⟨_,rfl,by show 0 ≤ sizeLine; decide,fun q hq=>?_⟩
  have s1:Same H (upd H q (.lst [])):=Same.up hq
  refine ⟨l,q,ns,[],rfl,rfl,SqL.of (s1 _ _ hl),SqL.of upd_same,_,rfl,?_⟩
  cases ns with
  | nil=>exact k _ s1
  | cons z r =>
   rw [show (if false = true then !decide (z :: r = []) else decide (z :: r = [])) = false from rfl]
   refine iteF ?_
   have hl1:=s1 _ _ hl
   have ha1:=s1 _ _ ha'
   refine ⟨_,rfl,l,_,_,_,rfl,rfl,SqL.of hl1,atI_of (Int.le_refl 0) rfl,_,rfl,a,_,rfl,.inl (SqL.of ha1),_,rfl,fun p hp=>?_⟩
   have s2:Same H (upd (upd H q (.lst [])) p (.rng 0 ((ps.map V.ref).length:Nat))):=s1.trans (Same.up hp)
   refine ⟨z,0,_,p,rfl,rfl,upd_same,_,rfl,?_⟩
   have hl2:=s2 _ _ hl
   have ha2:=s2 _ _ ha'
   have ha2':=ha.same s2
   rw [List.length_map,hS.len]
   rw [List.length_map,hS.len] at s2 hl2 ha2 ha2'
   have ec:(decide ((0:Int) ≤ z) && decide (z < (ss.length:Int))) = cnt ss.length z:=rfl
   rw [ec]
   rw [rDue_cons] at k
   cases hc:cnt ss.length z with
   | false =>
    rw [hc,Bool.false_and] at k
    exact k _ s2
   | true =>
    rw [hc,Bool.true_and] at k
    obtain ⟨qq,eq,hq0⟩:=says_at hS hc
    have hq2:=s2 _ _ hq0
    refine ⟨_,rfl,_,rfl,_,rfl,_,rfl,l,_,_,_,rfl,rfl,SqL.of hl2,atI_of (Int.le_refl 0) rfl,a,_,_,_,rfl,rfl,SqL.of ha2,eq,qq,_,_,_,rfl,rfl,SqT.of hq2,rfl,_,rfl,_,rfl,l,_,_,_,rfl,rfl,SqL.of hl2,atI_of (Int.le_refl 0) rfl,a,_,_,_,rfl,rfl,SqL.of ha2,eq,qq,_,_,_,rfl,rfl,SqT.of hq2,rfl,?_⟩
    refine ⟨a,ss,l,z :: r,_,_,rfl,ha2',hl2,?_⟩
    unfold dueSum
    by_cases hw:walk ss (z :: r) (sy ss z).1 = some (sy ss z).1
    ·rw [if_pos hw]
     rw [decide_eq_true hw,Bool.true_and] at k
     exact ⟨_,rfl,rfl,_,rfl,⟨_,rfl,_,_,rfl,rfl,k _ s2⟩⟩
    ·rw [if_neg hw]
     rw [decide_eq_false hw,Bool.false_and] at k
     exact ⟨_,rfl,rfl,_,rfl,k _ s2⟩
end
end At
set_option Elab.async false
set_option linter.all false
set_option maxRecDepth 100000
set_option maxHeartbeats 4000000
namespace At
open PySem L2 PyProof.Rows
section
variable {P:Program} {w:World} {K:PySem.W.Frag} {mg:Str→Option Value} {base:Heap}
theorem walk_head {ss:List Say} {k p q:Int} {r:List Int} (h:walk ss (k :: r) p = some q):cnt ss.length k = true∧(sy ss k).1 = p:=by
 unfold walk at h
 cases hc:cnt ss.length k with
 | false=>rw [hc] at h; cases h
 | true =>
  rw [hc,if_pos rfl,sy_get hc] at h
  dsimp only at h
  refine ⟨rfl,?_⟩
  split at h
  ·assumption
  ·cases h
theorem ring_due {ss:List Say} {ns:List Int} (g:RingOk ss ns):rDue ss ns = true:=by
 obtain ⟨p,hw⟩:=g.wk
 have hne:=g.ne
 have hneg:=g.neg
 cases ns with
 | nil=>exact absurd rfl hne
 | cons k r =>
  obtain ⟨h1,h2⟩:=walk_head hw
  rw [rDue_cons,h1,h2,decide_eq_true hw,decide_eq_true hneg]; rfl
structure ErrK (K:PySem.W.Frag) (mg:Str→Option Value) (CB c1 c2 c3 c4:Addr):Prop where
 a1:mg "BadCount" = some (.ref c1)
 a2:mg "BadNumber" = some (.ref c2)
 a3:mg "BadPlace" = some (.ref c3)
 a4:mg "BadSayings" = some (.ref c4)
 k1:PySem.W.kitOne K (.ref CB) (.ref c1) = some false
 k2:PySem.W.kitOne K (.ref CB) (.ref c2) = some false
 k3:PySem.W.kitOne K (.ref CB) (.ref c3) = some false
 k4:PySem.W.kitOne K (.ref CB) (.ref c4) = some false
 kB:PySem.W.kitOne K (.ref CB) (.ref CB) = some true
def spLBroken (CB:Addr):Sp:=fun vs H Q _=>∃ (x dx l a:Addr) (ss:List Say) (ns:List Int),vs = [.ref x,.ref a]∧(∃ bx,Held bx H x CB (some dx))∧H dx = some (.xd [("ring",.ref l)])∧H l = some (.lst (ns.map V.int))∧SaysAt H a ss∧RingOk ss ns∧∀ H',Same H H'→Q (.bl true) H'
theorem held_sameX {bx:Bool} {H H':Hp} {x C:Addr} {d:Option Addr} (h:Held bx H x C d) (s:Same H H'):Held bx H' x C d:=by
 obtain ⟨a0,tb,cs,hx,hc⟩:=h
 exact ⟨a0,tb,cs,s _ _ hx,hc.frzs fun b o u e=>s _ _ e⟩
theorem scLBroken:FnScope ["_law_error","_law_sayings_here","_law_others"] ["_law_error","_law_sayings_here"] (defScope s__law_broken):=⟨rfl,rfl,rfl,by decide +kernel,rfl,by decide +kernel,by decide +kernel⟩
theorem ok_lBroken {f fr fs CB C0 fB c1 c2 c3 c4:Addr} {fd dr ds:FuncData} (D:Def K mg "_law_broken" s__law_broken ["_law_error","_law_sayings_here"] f fd) (DR:Def K mg "_law_ring" s__law_ring ["_law_sayings_here","_law_chain"] fr dr) (DS:Def K mg "_law_sum" sLSum ["_law_sayings_here","_law_chain","_law_one","_law_other"] fs ds)
  (T:BK K mg CB C0 fB) (TX:BX K CB) (EK:ErrK K mg CB c1 c2 c3 c4) (G:G1 K mg):FnOk P w K mg base (CXm false) 3 f fd ["_law_error","_law_sayings_here"] (spLBroken CB):=by
 have GR:FnOk P w K mg base (CXm false) 2 fr dr ["_law_sayings_here","_law_chain"] spLRing:=ok_lRing DR DS G
 refine D.fn.ok scLBroken (fun vs H Q E h=>?_) (fun cdv A0 outer s H vs Q X hr h=>?_)
 ·obtain ⟨_,_,_,_,_,_,rfl,_⟩:=h; rfl
 ·obtain ⟨x,dx,l,a,ss,ns,rfl,⟨bx,held⟩,hdx,hl,ha,ring,k⟩:=h
  refine ⟨_,pss_cons (ps_set (i:=2) scLBroken.nd rfl (Or.inl rfl) (pe_lst (pa_cons (pe_callB call_isinstX (by rfl) G.isi boot_isinstance (pa_cons (pv 0) (pa_cons (pe_cls (by rfl) EK.a1) pa_nil)))
    (pa_cons (pe_callB call_isinstX (by rfl) G.isi boot_isinstance (pa_cons (pv 0) (pa_cons (pe_cls (by rfl) EK.a2) pa_nil))) (pa_cons (pe_callB call_isinstX (by rfl) G.isi boot_isinstance (pa_cons (pv 0) (pa_cons (pe_cls (by rfl) EK.a3) pa_nil))) pa_nil)))))
   (pss_cons (ps_if (PW.pt (pw_or (pt_val (pe_callB call_anyH (by rfl) G.any boot_any (pa_cons (pv 2) pa_nil)))
    (pw_or (pt_val (pe_callB call_isinstX (by rfl) G.isi boot_isinstance (pa_cons (pv 0) (pa_cons (pe_cls (by rfl) EK.a4) pa_nil))))
    (pw_or1 (pt_not (pt_val (pe_callB call_isinstX (by rfl) G.isi boot_isinstance (pa_cons (pv 0) (pa_cons (pe_cls (by rfl) T.at_) pa_nil))))))))) (pss_one (ps_ret pe_bl)) pss_nil)
   (pss_one (ps_ret (pe_call GR hr (by rfl) DR.at_ DR.fn.kp DR.bd .nil pass0 (pa_cons (pv 1) (pa_cons (pe_xfld (pv 0) rfl) pa_nil)))))),?_⟩
  refine ⟨_,rfl,x,CB,dx,c1,_,_,rfl,⟨_,held⟩,hdx,TX.look,EK.k1,_,rfl,x,CB,dx,c2,_,_,rfl,⟨_,held⟩,hdx,TX.look,EK.k2,_,rfl,x,CB,dx,c3,_,_,rfl,⟨_,held⟩,hdx,TX.look,EK.k3,by show 3 ≤ sizeLine; decide,fun t ht=>?_⟩
  have u1:=Same.up (o:=.lst [V.bl false,V.bl false,V.bl false]) ht
  have held1:=held_sameX held u1
  have hdx1:=u1 _ _ hdx
  refine ⟨_,rfl,t,[false,false,false],rfl,SqL.of upd_same,_,rfl,iteF ?_⟩
  refine ⟨_,rfl,x,CB,dx,c4,_,_,rfl,⟨_,held1⟩,hdx1,TX.look,EK.k4,_,rfl,iteF ?_⟩
  refine ⟨_,rfl,x,CB,dx,CB,_,_,rfl,⟨_,held1⟩,hdx1,TX.look,EK.kB,_,rfl,iteF ?_⟩
  refine ⟨_,rfl,_,rfl,x,CB,dx,_,_,rfl,⟨_,held1⟩,hdx1,rfl,TX.look,TX.hd,T.n,a,l,ss,ns,rfl,ha.same u1,u1 _ _ hl,fun H' s'=>?_⟩
  rw [ring_due ring]
  exact k H' (u1.trans s')
end
end At
set_option Elab.async false
set_option linter.all false
set_option maxRecDepth 100000
set_option maxHeartbeats 4000000
namespace At
open PySem L2 PyProof.Rows
section
variable {P:Program} {w:World} {K:PySem.W.Frag} {mg:Str→Option Value} {base:Heap}
theorem good_show {b:Bool} {c:Nat} {ss:List Say} {at_:Int} {xs:List Int} (g:GoodN b c ss at_ xs):showN b c ss at_ xs = true:=by
 obtain ⟨_,g⟩:=g
 cases b with
 | true =>
  obtain ⟨h1,h2,h3⟩:=(show xs.length = c∧(wo ss at_).all (keeps xs) = true∧keeps xs (sy ss at_) = false from g)
  show (hDue c xs (wo ss at_) && !keeps xs (sy ss at_)) = true
  unfold hDue
  rw [h2,h3,decide_eq_true (by rw [h1])]; rfl
 | false =>
  obtain ⟨h1,h2,h3,_⟩:=(show walk ss xs (sy ss at_).1 = some (sy ss at_).2.1∧¬ at_ ∈ xs∧sumC ss xs ≤ (sy ss at_).2.2∧xs.length ≤ 400 from g)
  show (!decide (at_ ∈ xs) && (decide _ && decide _)) = true
  rw [decide_eq_false h2,decide_eq_true h1,decide_eq_true h3]; rfl
theorem good_lens {b:Bool} {c:Nat} {ss:List Say} {at_:Int} {xs:List Int} (g:GoodN b c ss at_ xs) (hc:c ≤ 400):xs.length ≤ 400∧(b = true→(xs.length:Int) = c):=by
 obtain ⟨_,g⟩:=g
 cases b with
 | true =>
  obtain ⟨h1,_⟩:=(show xs.length = c∧_ from g)
  exact ⟨by omega,fun _=>by rw [h1]⟩
 | false =>
  obtain ⟨_,_,_,h⟩:=(show walk ss xs (sy ss at_).1 = some (sy ss at_).2.1∧¬ at_ ∈ xs∧sumC ss xs ≤ (sy ss at_).2.2∧xs.length ≤ 400 from g)
  exact ⟨h,fun z=>nomatch z⟩
def extra (b:Bool) (at_:Int):Int:=cond b 0 at_
theorem show_app {b:Bool} {c:Nat} {ss:List Say} {at_:Int} {xs:List Int} (hl:b = true→(xs.length:Int) = c):showN b c ss at_ (xs ++ [extra b at_]) = false:=by
 cases b with
 | true =>
  show (hDue c (xs ++ [0]) (wo ss at_) && _) = false
  have h:hDue c (xs ++ [0]) (wo ss at_) = false:=by
   unfold hDue
   rw [decide_eq_false (by have:=hl rfl; rw [List.length_append,List.length_singleton]; omega),Bool.false_and]
  rw [h,Bool.false_and]
 | false =>
  show (!decide (at_ ∈ xs ++ [at_]) && _) = false
  rw [decide_eq_true (by simp)]; rfl
structure ShowsK (P:Program) (w:World) (K:PySem.W.Frag) (mg:Str→Option Value) (base:Heap) (cN cL gF:Addr) (eF:FuncData) (gL:Addr) (eL:FuncData):Prop where
 mF:Meth K cN "shows" gF
 bF:Binds K eF ["self","count","sayings","at"] []
 gF:FnOk P w K mg base CX0 5 gF eF ["self","count","sayings","at"] (spShowN true cN)
 mL:Meth K cL "shows" gL
 bL:Binds K eL ["self","count","sayings","at"] []
 gL:FnOk P w K mg base CX0 5 gL eL ["self","count","sayings","at"] (spShowN false cL)
def tShows (cN cL:Addr) (te:TE) (t:TA):TE:=fun σ H Q=>te σ H fun v H1=>∃ x b l xs,v = .ref x∧AnsAt H1 x (ansC cN cL b) l (ansF b) xs∧t σ H1 fun vs H2=>∃ c a at_ ss,vs = [.int c,.ref a,.int at_]∧AnsAt H2 x (ansC cN cL b) l (ansF b) xs∧SaysAt H2 a ss∧ss.length ≤ 400∧ss.all (inside c) = true∧xs.length ≤ 1000∧cnt ss.length at_ = true ∧
 ∀ H',Same H2 H'→Q (.bl (showN b c ss at_ xs)) H'
theorem pe_shows {X:Cx} {cN cL gF gL:Addr} {eF eL:FuncData} {o e:Expr} {es:List Expr} {te:TE} {t:TA} {apos pos:Pos} {pl:Sem Bool} (he:PE X o te) (Tc:∀ b,Cls X.K (ansC cN cL b)) (S:ShowsK X.prog X.w X.K X.mg X.base cN cL gF eF gL eL) (hr:Room 5 X.A) (ha:PA X (e :: es) t)
  (hst:starEach (e :: es) X.env = (false,eval e X.env) :: starEach es X.env:=by rfl) (hpl:(backTo pos (starEach es X.env)).any (·.1) = false:=by rfl)
  (ht:eval (.Call (.Attribute o "shows" apos) (e :: es) [] pos) X.env = (do
   let ov ← eval o X.env
   standAt apos.atName
   let (f,first) ← holding [ov] (getMethod ov "shows" pl)
   callWith pos f first (backTo pos (starEach (e :: es) X.env)) (backToKw pos (keywordEach [] X.env))):=by rfl) (hcc:X.calm = true:=by rfl) :
  PE X (.Call (.Attribute o "shows" apos) (e :: es) [] pos) (tShows cN cL te t):=by
 intro pins s σ H Q I h
 refine PySem.W.methodCall_KW (pl:=pl) (thn (he pins s σ H _ I h) fun u s1 ⟨v,H1,I1,rv,x,b,l,xs,ev,an,q⟩=>?_) ht
 subst ev
 obtain rfl:u = Value.ref x:=rv
 obtain ⟨dx,hx⟩:=an.ex
 cases b with
 | true =>
  refine getmeth_ok I1 hx (Tc true) S.mF rfl ?_
  refine PySem.W.callWith_K (first:=[.ref x]) (h₀:=X.base) I.ok.mod.kin S.mF.kp (thn (ha pos pins s1 σ H1 _ I1 q) fun us s2 ⟨vs,H2,I2,r,c,a,at_,ss,ev,an2,ha2,hz,hin,hl,co,q2⟩=>⟨I2.kIn,?_⟩) hst hpl
  subst ev
  exact run_fn (us:=.ref x :: us) (vs:=.ref x :: [.int c,.ref a,.int at_]) S.gF hr S.bF .nil pass0 (fun _=>hcc) I2 (.cons rfl r) ⟨x,l,a,c,at_,ss,xs,rfl,an2,ha2,hz,hin,hl,co,q2⟩
 | false =>
  refine getmeth_ok I1 hx (Tc false) S.mL rfl ?_
  refine PySem.W.callWith_K (first:=[.ref x]) (h₀:=X.base) I.ok.mod.kin S.mL.kp (thn (ha pos pins s1 σ H1 _ I1 q) fun us s2 ⟨vs,H2,I2,r,c,a,at_,ss,ev,an2,ha2,hz,hin,hl,co,q2⟩=>⟨I2.kIn,?_⟩) hst hpl
  subst ev
  exact run_fn (us:=.ref x :: us) (vs:=.ref x :: [.int c,.ref a,.int at_]) S.gL hr S.bL .nil pass0 (fun _=>hcc) I2 (.cons rfl r) ⟨x,l,a,c,at_,ss,xs,rfl,an2,ha2,hz,hin,hl,co,q2⟩
theorem tab_lst {H:Hp} {Pt l:Addr} {xs ys:List V} (h:LamTab H Pt QL) (hl:H l = some (.lst xs)):LamTab (upd H l (.lst ys)) Pt QL:=by
 obtain ⟨qs,q1,q2,q3⟩:=h
 refine ⟨qs,by rw [upd_ne (ne_of q1 hl (by intro y; cases y))]; exact q1,q2,fun pos cv e=>?_⟩
 obtain ⟨cc,e1,e2⟩:=q3 pos cv e
 exact ⟨cc,e1,by rw [upd_ne (ne_of e2 hl (by intro y; cases y))]; exact e2⟩
theorem sameN_lst {H H5:Hp} {l:Addr} {o:HO} (n:SameN H H5) (h0:H l = none):SameN H (upd H5 l o):=by
 refine ⟨fun b' o nt e=>?_,fun b' e=>?_⟩
 ·rw [upd_ne (ne_of_none e h0)]; exact n _ _ nt e
 ·by_cases q:b' = l
  ·rw [q]; exact h0
  ·rw [upd_ne q] at e; exact n.tb _ e
def spLRight (Pt:Addr):Sp:=fun vs H Q _=>∃ (a:Addr) (ss:List Say) (c:Nat) (at_:Int) (bh:Bool),vs = [.int c,.ref a,.int at_,.bl bh]∧1 ≤ c∧c ≤ 400∧SaysAt H a ss∧ss.length < 66∧ss.all (inside c) = true∧cnt ss.length at_ = true∧(bh = true→∃ ns,RingOk ss ns)∧(bh = false→∀ ns,RingOk ss ns→False)∧LamTab H Pt QL ∧
 ∀ H',SameN H H'→LamTab H' Pt QL→Q (.bl true) H'
theorem scLRight:FnScope ["_law_count","_law_sayings_here","_law_at","_law_broken_here","_law_handed","_law_found","_law_error","_law_beside"] ["_law_count","_law_sayings_here","_law_at","_law_broken_here"] (defScope s__law_right):=⟨rfl,rfl,rfl,by decide +kernel,rfl,by decide +kernel,by decide +kernel⟩
theorem ok_lRight {f fx fd' fb cA cN cL c1 c2 c3 c4 c5 c6 gF gL CB C0 fB Pt:Addr} {fd dx dd db eF eL:FuncData} (D:Def K mg "_law_right" s__law_right ["_law_count","_law_sayings_here","_law_at","_law_broken_here"] f fd)
  (DX:Def K mg "needless" s_needless ["count","sayings","at"] fx dx) (GX:FnOk P w K mg base (CXr P w) 5 fx dx ["count","sayings","at"] (spNeedless Pt CB cN cL)) (DD:Def K mg "_law_due" s__law_due ["_law_count","_law_sayings_here","_law_at","_law_found"] fd' dd) (GD:FnOk P w K mg base CX0 5 fd' dd ["_law_count","_law_sayings_here","_law_at","_law_found"] (spLDue cN cL))
  (DB:Def K mg "_law_broken" s__law_broken ["_law_error","_law_sayings_here"] fb db) (GB:FnOk P w K mg base (CXm false) 3 fb db ["_law_error","_law_sayings_here"] (spLBroken CB)) (T:NeedN K mg cA cN cL c1 c2 c3 c4 c5 c6) (S:ShowsK P w K mg base cN cL gF eF gL eL) (TB:BK K mg CB C0 fB) (Z:ExcM K CB C0) (G:G1 K mg) :
  FnOk P w K mg base CX0 6 f fd ["_law_count","_law_sayings_here","_law_at","_law_broken_here"] (spLRight Pt):=by
 have Tc:∀ b,Cls K (ansC cN cL b):=fun b=>(T.i b).cl
 refine D.fn.ok scLRight (fun vs H Q E h=>?_) (fun cdv A0 outer s H vs Q X hr h=>?_)
 ·obtain ⟨_,_,_,_,_,rfl,_⟩:=h; rfl
 ·obtain ⟨a,ss,c,at_,bh,rfl,hc1,hc,ha,hz,hin,hat,hbt,hbf,hL,k⟩:=h
  have hu:=hr.units
  have hr3:Room 3 _:=hr.mono (by decide)
  refine ⟨_,pss_cons (ps_set (i:=4) scLRight.nd rfl (Or.inl rfl) (pe_callTy call_list_of (by rfl) G.list boot_list (pa_cons (pv 1) pa_nil)))
   (pss_cons (ps_tryS (i:=6) (j:=5) (pex_call GX hr (by rfl) DX.at_ DX.fn.kp DX.bd (pa_cons (pv 0) (pa_cons (pv 4) (pa_cons (pv 2) pa_nil))))
     scLRight.nd rfl (Or.inl rfl) rfl rfl (by rfl) TB.at0 (fun x=>pss_one (ps_ret (pe_and (pv 3) (pe_and (pe_call GB ⟨hr3.dp,hr3.un⟩ (by rfl) DB.at_ DB.fn.kp DB.bd .nil pass0 (pa_cons (pv 6) (pa_cons (pv 1) pa_nil))) (pe_one (pe_cmpR (op_eqL hu) (pv 4) (pv 1) (nomark _))))))))
   (pss_cons (ps_if (PW.pt (pw_or (pt_not (pt_val (pe_callB call_isinst (by rfl) G.isi boot_isinstance (pa_cons (pv 5) (pa_cons (pe_cls (by rfl) T.aA) pa_nil)))))
     (pw_or (pt_cmpR op_eq (pe_callB call_isinst (by rfl) G.isi boot_isinstance (pa_cons (pv 5) (pa_cons (pe_cls (by rfl) T.aN) pa_nil))) (pe_callB call_isinst (by rfl) G.isi boot_isinstance (pa_cons (pv 5) (pa_cons (pe_cls (by rfl) T.aL) pa_nil))) (nomark _))
     (pw_or1 (pt_cmpR (op_neL hu) (pv 4) (pv 1) (nomark _)))))) (pss_one (ps_ret pe_bl)) pss_nil)
   (pss_cons (ps_if (pt_val (pe_callB (call_anyL rfl) (by rfl) G.any boot_any (pa_cons (pe_lst (pa_cons (pe_callB call_isinst (by rfl) G.isi boot_isinstance (pa_cons (pv 5) (pa_cons (pe_cls (by rfl) T.a1) pa_nil)))
     (pa_cons (pe_callB call_isinst (by rfl) G.isi boot_isinstance (pa_cons (pv 5) (pa_cons (pe_cls (by rfl) T.a2) pa_nil))) (pa_cons (pe_callB call_isinst (by rfl) G.isi boot_isinstance (pa_cons (pv 5) (pa_cons (pe_cls (by rfl) T.a3) pa_nil))) pa_nil)))) pa_nil))) (pss_one (ps_ret pe_bl)) pss_nil)
   (pss_cons (ps_if (pt_val (pe_callB (call_anyL rfl) (by rfl) G.any boot_any (pa_cons (pe_lst (pa_cons (pe_callB call_isinst (by rfl) G.isi boot_isinstance (pa_cons (pv 5) (pa_cons (pe_cls (by rfl) T.a4) pa_nil)))
     (pa_cons (pe_callB call_isinst (by rfl) G.isi boot_isinstance (pa_cons (pv 5) (pa_cons (pe_cls (by rfl) T.a5) pa_nil))) (pa_cons (pe_callB call_isinst (by rfl) G.isi boot_isinstance (pa_cons (pv 5) (pa_cons (pe_cls (by rfl) T.a6) pa_nil))) pa_nil)))) pa_nil))) (pss_one (ps_ret pe_bl)) pss_nil)
   (pss_cons (ps_if (PW.pt (pw_or (pt_val (pv 3)) (pw_or (pt_not (pt_val (pe_call GD hr (by rfl) DD.at_ DD.fn.kp DD.bd .nil pass0 (pa_cons (pv 0) (pa_cons (pv 1) (pa_cons (pv 2) (pa_cons (pv 5) pa_nil)))))))
     (pw_or1 (pt_cmpR op_isnotB (pe_shows (pv 5) Tc S hr (pa_cons (pv 0) (pa_cons (pv 1) (pa_cons (pv 2) pa_nil)))) pe_bl (nomark _)))))) (pss_one (ps_ret pe_bl)) pss_nil)
   (pss_cons (ps_set (i:=7) scLRight.nd rfl (Or.inl rfl) (pe_op op_mod (pe_op op_add (pv 2) pe_int) (pe_callB call_len_seq (by rfl) G.len PySem.boot_len (pa_cons (pv 1) pa_nil))))
   (pss_cons (ps_if (pt_cmpR op_ne (pe_shows (pv 5) Tc S hr (pa_cons (pv 0) (pa_cons (pv 1) (pa_cons (pv 7) pa_nil)))) (pe_call GD hr (by rfl) DD.at_ DD.fn.kp DD.bd .nil pass0 (pa_cons (pv 0) (pa_cons (pv 1) (pa_cons (pv 7) (pa_cons (pv 5) pa_nil))))) (nomark _)) (pss_one (ps_ret pe_bl)) pss_nil)
   (pss_cons (ps_if (pt_val (pe_callB call_isinst (by rfl) G.isi boot_isinstance (pa_cons (pv 5) (pa_cons (pe_cls (by rfl) T.aN) pa_nil))))
    (pss_one (ps_expr (pe_bm PySem.F.plainAttrs_list PySem.F.slot_list_append PySem.F.type_list_append mt_append (pe_fld (pv 5) rfl) (pa_cons pe_int pa_nil))))
    (pss_one (ps_expr (pe_bm PySem.F.plainAttrs_list PySem.F.slot_list_append PySem.F.type_list_append mt_append (pe_fld (pv 5) rfl) (pa_cons (pv 2) pa_nil)))))
   (pss_one (ps_ret (pe_cmpR op_isB (pe_shows (pv 5) Tc S hr (pa_cons (pv 0) (pa_cons (pv 1) (pa_cons (pv 2) pa_nil)))) pe_bl (nomark _)))))))))))),?_⟩
  obtain ⟨ps,ha',hS⟩:=ha.ex
  have hlp:=hS.len
  refine ⟨_,rfl,a,_,rfl,.inl (SqL.of ha'),fun h hh=>?_⟩
  have s0:Same H (upd H h (.lst (ps.map V.ref))):=Same.up hh
  have hH:SaysAt (upd H h (.lst (ps.map V.ref))) h ss:=⟨ps,upd_same,hS.same s0⟩
  have hhh:(upd H h (.lst (ps.map V.ref))) h = some (.lst (ps.map V.ref)):=upd_same
  generalize upd H h (.lst (ps.map V.ref)) = H0 at s0 hH hhh
  have eqs:∀ (i:Nat) y z,(ps.map V.ref)[i]? = some y→(ps.map V.ref)[i]? = some z→∀ {Hq:Hp},EqD K Hq 8 y z true:=fun i y z ey ez Hq=>by
   rw [ey] at ez; cases ez
   rw [List.getElem?_map] at ey
   cases ep:ps[i]? with
   | none=>rw [ep] at ey; cases ey
   | some p=>rw [ep] at ey; cases ey; exact .same
  refine ⟨_,rfl,_,rfl,_,rfl,h,ss,c,at_,rfl,hc1,hc,hH,hz,hin,hat,hL.same s0,fun b H1 x l xs n1 hL1 hx0 hl0 nxl an good=>?_,fun H1 dx l ns n1 hL1 hl0 hdx hl ring=>?_⟩
  ·have n01:SameN H H1:=s0.n.trans n1
   have a1:=ha.sameN n01
   have h1:=n1 _ _ rfl hhh
   have ha1:=n01 _ _ rfl ha'
   have ty:=an.ty (T.i b)
   have due:=good_show good
   obtain ⟨ln,lns⟩:=good_lens good hc
   have hbh:bh = false:=by
    cases bh with
    | false=>rfl
    | true=>obtain ⟨ns,r⟩:=hbt rfl; exact (good.1 ns r).elim
   subst hbh
   refine ⟨_,rfl,_,_,_,_,_,rfl,ty,rfl,T.kA b,true,rfl,iteF ?_⟩
   refine ⟨_,rfl,_,_,_,_,_,rfl,ty,rfl,T.kN b,_,rfl,_,_,_,_,_,rfl,ty,rfl,T.kL b,rfl,_,rfl,?_⟩
   rw [show decide (V.bl b = V.bl (!b)) = false from by cases b <;> rfl]
   refine iteF ?_
   refine ⟨_,rfl,_,rfl,h,a,_,_,rfl,rfl,SqL.of h1,SqL.of ha1,.inr ⟨rfl,fun _=>true,fun i y z ey ez=>eqs i y z ey ez,_,rfl,?_⟩⟩
   rw [range_allT]
   refine iteF ?_
   refine ⟨_,rfl,_,_,_,_,_,rfl,ty,rfl,T.k1 b,_,rfl,_,_,_,_,_,rfl,ty,rfl,T.k2 b,_,rfl,_,_,_,_,_,rfl,ty,rfl,T.k3 b,by show 3 ≤ sizeLine; decide,fun t1 ht1=>?_⟩
   refine ⟨t1,[false,false,false],rfl,SqL.of upd_same,_,rfl,iteF ?_⟩
   have u1:=Same.up (o:=.lst [V.bl false,V.bl false,V.bl false]) ht1
   have ty:=(an.same u1).ty (T.i b)
   refine ⟨_,rfl,_,_,_,_,_,rfl,ty,rfl,T.k4 b,_,rfl,_,_,_,_,_,rfl,ty,rfl,T.k5 b,_,rfl,_,_,_,_,_,rfl,ty,rfl,T.k6 b,by show 3 ≤ sizeLine; decide,fun t2 ht2=>?_⟩
   refine ⟨t2,[false,false,false],rfl,SqL.of upd_same,_,rfl,iteF ?_⟩
   have u2:=Same.up (o:=.lst [V.bl false,V.bl false,V.bl false]) ht2
   have u12:=u1.trans u2
   generalize upd (upd H1 t1 (.lst [V.bl false,V.bl false,V.bl false])) t2 (.lst [V.bl false,V.bl false,V.bl false]) = H2 at u12
   refine ⟨_,rfl,_,rfl,iteF ?_⟩
   refine ⟨_,rfl,_,rfl,_,rfl,_,rfl,b,x,l,a,c,at_,ss,xs,rfl,an.same u12,a1.same u12,by omega,hin,hat,lns,by omega,fun H3 s3=>⟨_,rfl,?_⟩⟩
   rw [due]
   refine iteF ?_
   have u13:=u12.trans s3
   refine ⟨_,rfl,x,b,l,xs,rfl,an.same u13,_,rfl,_,rfl,_,rfl,c,a,at_,ss,rfl,an.same u13,a1.same u13,by omega,hin,by omega,hat,fun H4 s4=>⟨_,_,rfl,rfl,_,rfl,?_⟩⟩
   rw [due]
   refine iteF ?_
   have u14:=u13.trans s4
   have hl0:0 < ss.length:=by obtain ⟨_,_⟩:=cnt_iff.mp hat; omega
   have ha4:=u14 _ _ ha1
   refine ⟨_,rfl,_,_,rfl,rfl,_,rfl,a,_,rfl,.inl (SqL.of ha4),?_⟩
   rw [List.length_map,hlp]
   refine ⟨_,_,rfl,rfl,(by show (0:Int) < ss.length; omega),?_⟩
   have hbs:cnt ss.length ((at_ + 1) % (ss.length:Int)) = true:=cnt_mod hl0
   refine ⟨_,rfl,x,b,l,xs,rfl,an.same u14,_,rfl,_,rfl,_,rfl,c,a,(at_ + 1) % (ss.length:Int),ss,rfl,an.same u14,a1.same u14,by omega,hin,by omega,hbs,fun H5 s5=>?_⟩
   have u15:=u14.trans s5
   refine ⟨_,rfl,_,rfl,_,rfl,_,rfl,b,x,l,a,c,(at_ + 1) % (ss.length:Int),ss,xs,rfl,an.same u15,a1.same u15,by omega,hin,hbs,lns,by omega,fun H6 s6=>⟨rfl,_,rfl,?_⟩⟩
   rw [decide_eq_true rfl]
   refine iteF ?_
   have u16:=u15.trans s6
   have an6:=an.same u16
   refine ⟨_,rfl,_,_,_,_,_,rfl,an6.ty (T.i b),rfl,T.kN b,_,rfl,?_⟩
   obtain ⟨⟨dx,hx⟩,hxl⟩:=id an6
   have n6:SameN H H6:=n01.trans u16.n
   have hL6:=hL1.same u16
   have hlH:H l = none:=s0.free (show H0 l = none from by assumption)
   have xl:x ≠ l:=nxl
   have last:∀ (e:Int),e = extra b at_→∀ H7,H7 = upd H6 l (.lst (xs.map V.int ++ [V.int e]))→AnsAt H7 x (ansC cN cL b) l (ansF b) (xs ++ [extra b at_])∧SameN H H7∧LamTab H7 Pt QL:=by
    rintro e rfl H7 rfl
    refine ⟨⟨⟨dx,by rw [upd_ne xl]; exact hx⟩,by rw [upd_same,List.map_append]; rfl⟩,sameN_lst n6 hlH,tab_lst hL6 hxl⟩
   have sh:=show_app (ss:=ss) (at_:=at_) lns
   cases b with
   | true =>
    refine iteT ?_
    refine ⟨_,rfl,x,cN,dx,_,_,rfl,hx,(T.i true).cl,T.n true,rfl,.inl ⟨rfl,_,SqL.of hxl⟩,l,_,_,rfl,rfl,hxl,by rw [List.length_map]; exact small1000 (by omega),?_⟩
    obtain ⟨an7,n7,hL7⟩:=last 0 rfl _ rfl
    show tSeq _ _ _ _ (upd H6 l (.lst (xs.map V.int ++ [V.int 0])))
    generalize upd H6 l (.lst (xs.map V.int ++ [V.int 0])) = H7 at an7 n7 hL7
    refine ⟨_,rfl,x,true,l,_,rfl,an7,_,rfl,_,rfl,_,rfl,c,a,at_,ss,rfl,an7,ha.sameN n7,by omega,hin,by rw [List.length_append,List.length_singleton]; omega,hat,fun H8 s8=>⟨_,_,rfl,rfl,?_⟩⟩
    rw [sh]
    exact k H8 (n7.trans s8.n) (hL7.same s8)
   | false =>
    refine iteF ?_
    refine ⟨_,rfl,x,cL,dx,_,_,rfl,hx,(T.i false).cl,T.n false,rfl,.inl ⟨rfl,_,SqL.of hxl⟩,_,rfl,l,_,_,rfl,rfl,hxl,by rw [List.length_map]; exact small1000 (by omega),?_⟩
    obtain ⟨an7,n7,hL7⟩:=last at_ rfl _ rfl
    show tSeq _ _ _ _ (upd H6 l (.lst (xs.map V.int ++ [V.int at_])))
    generalize upd H6 l (.lst (xs.map V.int ++ [V.int at_])) = H7 at an7 n7 hL7
    refine ⟨_,rfl,x,false,l,_,rfl,an7,_,rfl,_,rfl,_,rfl,c,a,at_,ss,rfl,an7,ha.sameN n7,by omega,hin,by rw [List.length_append,List.length_singleton]; omega,hat,fun H8 s8=>⟨_,_,rfl,rfl,?_⟩⟩
    rw [sh]
    exact k H8 (n7.trans s8.n) (hL7.same s8)
  ·have n01:SameN H H1:=s0.n.trans n1
   refine ⟨CB,rfl,Z,fun x H2 hx0 oth held=>?_⟩
   have hbh:bh = true:=by
    cases bh with
    | true=>rfl
    | false=>exact (hbf rfl ns ring).elim
   subst hbh
   have s2:Same H1 H2:=fun b o e=>by rw [oth b (ne_of_none e hx0)]; exact e
   refine ⟨_,rfl,_,rfl,iteT ?_⟩
   refine ⟨_,rfl,_,rfl,x,dx,l,a,ss,ns,rfl,⟨_,held⟩,s2 _ _ hdx,s2 _ _ hl,(ha.sameN n01).same s2,ring,fun H3 s3=>⟨_,rfl,iteT ?_⟩⟩
   have s23:=s2.trans s3
   refine ⟨_,rfl,_,rfl,h,a,_,_,rfl,rfl,SqL.of (s23 _ _ (n1 _ _ rfl hhh)),SqL.of (s23 _ _ (n01 _ _ rfl ha')),.inr ⟨rfl,fun _=>true,fun i y z ey ez=>eqs i y z ey ez,?_⟩⟩
   rw [range_allT]
   exact k H3 (n01.trans s23.n) (hL1.same s23)
end
end At
set_option Elab.async false
set_option linter.all false
set_option maxRecDepth 100000
set_option maxHeartbeats 4000000
namespace At
open PySem L2 PyProof.Rows
section
variable {P:Program} {w:World} {K:PySem.W.Frag} {mg:Str→Option Value} {base:Heap}
def tRng3 (ta:TA):TE:=fun σ H Q=>ta σ H fun vs H1=>∃ (a b c:Int),vs = [.int a,.int b,.int c]∧0 < c∧c ≤ 1000∧0 ≤ a∧a ≤ 1000∧0 ≤ b∧b ≤ 1000∧∀ (l:Addr) (ns:List Int),H1 l = none→(∀ n ∈ ns,a ≤ n∧n < b)→ns.length ≤ 1000→Q (.ref l) (upd H1 l (.lst (ns.map V.int)))
theorem pe_listRng3 {X:Cx} {e:Expr} {es:List Expr} {ta:TA} {p p2 pos pos2:Pos} (hgL:Gl X "list") (hmL:X.mg "list" = none) (hgR:Gl X "range") (hmR:X.mg "range" = none) (ha:PA X (e :: es) ta) (hcalm:X.calm = true:=by rfl) (hs:starEach (e :: es) X.env = (false,eval e X.env) :: starEach es X.env:=by rfl) (hpl:(backTo pos2 (starEach es X.env)).any (·.1) = false:=by rfl)
  (hs2:starEach [.Call (.Name "range" p2) (e :: es) [] pos2] X.env = [(false,eval (.Call (.Name "range" p2) (e :: es) [] pos2) X.env)]:=by rfl) :
  PE X (.Call (.Name "list" p) [.Call (.Name "range" p2) (e :: es) [] pos2] [] pos) (tRng3 ta):=by
 intro pins s σ H Q I h
 refine wpAny_Call_Name_kw (ld_blt I hgL hmL boot_list ?_ (by decide) (by decide))
 refine PyProof.Rows.callWith_type1 ?_ hs2 rfl
 rw [hs2]
 show wpAny _ _ (spliced ((false,eval (.Call (.Name "range" p2) (e :: es) [] pos2) X.env) :: backTo pos [])) _ _ s
 refine Calls.spliced_cons ?_
 refine wpAny_Call_Name_kw (ld_blt I hgR hmR boot_range ?_ (by decide) (by decide))
 refine PyProof.Rows.callWith_type1 ?_ hs hpl
 refine thn (ha pos2 pins s σ H _ I h) fun us s1 ⟨vs,H1,I1,rv,a,b,c,ev,c0,c1,a0,a1,b0,b1,q⟩=>?_
 subst ev
 obtain ⟨u1,us,rfl,r1,rv⟩:∃ u us',us = u :: us'∧RelV (.int a) u∧Vals [.int b,.int c] us':=by cases rv with | cons r t=>exact ⟨_,_,rfl,r,t⟩
 obtain ⟨u2,u3,rfl,r2,r3⟩:=vals2 rv
 obtain ⟨t1,rfl⟩:=r1
 obtain ⟨t2,rfl⟩:=r2
 obtain ⟨t3,rfl⟩:=r3
 refine call_range_3 (show c ≠ 0 by omega) ?_ (Or.inl (PyProof.noPylong_small (by omega)))
 refine Calls.spliced_nil ?_
 have hR:(s1.heap.push { cls:=.type "range",data:=.fields #[.int a t1,.int b t2,.int c t3] }).get? s1.heap.objs.size = some { cls:=.type "range",data:=.fields #[.int a t1,.int b t2,.int c t3] }:=Heap.get?_push_size _ rfl
 have I2:Inv X pins σ H1 { s1 with heap:=s1.heap.push { cls:=.type "range",data:=.fields #[.int a t1,.int b t2,.int c t3] } }:=I1.kept (t':=s1.toks) fun b ob q=>Heap.get?_push_of_some _ q
 have hdiv:∀ i:Nat,a < b→(i:Int) ≤ (b - a - 1) / c→a ≤ a + (i:Int) * c∧a + (i:Int) * c < b:=fun i hab hi=>by
  have h1:(i:Int) * c ≤ (b - a - 1) / c * c:=Int.mul_le_mul_of_nonneg_right hi (by omega)
  have h2:(b - a - 1) / c * c ≤ b - a - 1:=Int.ediv_mul_le _ (by omega)
  have h3:0 ≤ (i:Int) * c:=Int.mul_nonneg (by omega) (by omega)
  omega
 obtain ⟨n,hn,hn1,hns⟩:∃ n:Nat,Builtin.Range.rangeSize a b c = n∧n ≤ 1000∧∀ i:Nat,i < n→a ≤ a + (i:Int) * c∧a + (i:Int) * c < b:=by
  unfold Builtin.Range.rangeSize
  rw [if_pos (show c > 0 from c0)]
  by_cases hab:a < b
  ·rw [if_pos hab]
   have h1:0 ≤ (b - a - 1) / c:=Int.ediv_nonneg (by omega) (by omega)
   have h2:(b - a - 1) / c ≤ b - a - 1:=Int.ediv_le_self _ (by omega)
   exact ⟨((b - a - 1) / c + 1).toNat,by omega,by omega,fun i hi=>hdiv i hab (by omega)⟩
  ·rw [if_neg hab]
   exact ⟨0,rfl,by omega,fun i hi=>by omega⟩
 have hsm:Builtin.Range.small a b c = true:=by
  unfold Builtin.Range.small
  rw [hn]
  simp only [Builtin.Range.rangeFitsLong,Bool.and_eq_true,Bool.or_eq_true,decide_eq_true_eq,beq_iff_eq,show c > 0 from c0,if_true]
  omega
 refine call_list_range (I2.ok.hd hcalm) hR hsm hn (by omega) fun h' tk acc' c' hk hS' hacc=>?_
 have hl:acc'.toList.length = n:=by simpa using hacc.1
 have hv:Vals (((List.range n).map fun (i:Nat)=>a + (i:Int) * c).map V.int) acc'.toList:=by
  refine vals_of_get (by rw [List.length_map,List.length_map,List.length_range,hl]) fun i x u ex eu=>?_
  obtain ⟨t,rfl⟩:=hacc.2 i u (by simpa using eu)
  rw [List.getElem?_map,List.getElem?_map] at ex
  have hi:i < n:=by rw [← hl]; exact (List.getElem?_eq_some_iff.mp eu).1
  rw [List.getElem?_range hi] at ex
  cases ex
  exact ⟨t,rfl⟩
 refine ⟨.ref _,_,I2.laid (t':=tk) hk (Nat.le_refl _) (show ObjOk X.prog X.w _ h' _ (.lst _) from ⟨by rw [List.length_map,List.length_map,List.length_range]; exact Nat.le_of_lt (small1000 hn1),acc'.toList,c',hv,by simpa using hS'⟩),rfl,q _ _ (I2.hok.fresh (Nat.le_refl _)) (fun k hk'=>?_) (by rw [List.length_map,List.length_range]; exact hn1)⟩
 obtain ⟨i,hi,rfl⟩:=List.mem_map.mp hk'
 exact hns i (List.mem_range.mp hi)
end
end At
set_option Elab.async false
set_option linter.all false
set_option maxRecDepth 100000
set_option maxHeartbeats 4000000
namespace At
open PySem L2 PyProof.Rows
section
variable {P:Program} {w:World} {K:PySem.W.Frag} {mg:Str→Option Value} {base:Heap}
def spLaw (K:PySem.W.Frag) (Pt:Addr):Sp:=fun vs H Q _=>∃ (a:Addr) (ns:List Int),vs = [.ref a]∧SqL K H a (ns.map V.int)∧ns.length ≤ 63∧LamTab H Pt QL∧∀ H',Q (.bl true) H'
abbrev LN:List Str:=["_law_script","_law_count","_law_sayings_here","_law_broken_here","_law_lower","_law_upper","_law_number","_law_told","_law_some","_law_at"]
theorem scLaw:FnScope LN ["_law_script"] (defScope sLaw):=⟨rfl,rfl,rfl,by decide +kernel,rfl,by decide +kernel,by decide +kernel⟩
theorem keeps_noRing {ss:List Say} {hs ns:List Int} (h:ss.all (keeps hs) = true) (r:RingOk ss ns):False:=ring_not (fun p=>hs.getD p.toNat 0) (fun s hs=>of_decide_eq_true (List.all_eq_true.mp h s hs)) r
theorem walk_more (t:List Say) {ss:List Say}:∀ (ns:List Int) (p q:Int),walk ss ns p = some q→walk (ss ++ t) ns p = some q∧sumC (ss ++ t) ns = sumC ss ns
 | [],p,q,h=>⟨h,rfl⟩
 | k :: r,p,q,h=>by
  unfold walk at h ⊢
  cases hc:cnt ss.length k with
  | false=>rw [hc] at h; cases h
  | true =>
   obtain ⟨h0,h1⟩:=cnt_iff.mp hc
   have hc2:cnt (ss ++ t).length k = true:=cnt_iff.mpr ⟨h0,by rw [List.length_append]; omega⟩
   have eg:(ss ++ t)[k.toNat]? = ss[k.toNat]?:=List.getElem?_append_left (by omega)
   rw [hc,if_pos rfl,sy_get hc] at h
   rw [hc2,if_pos rfl,eg,sy_get hc]
   dsimp only at h ⊢
   split at h
   ·rename_i hp
    rw [if_pos hp]
    obtain ⟨i1,i2⟩:=walk_more t r _ _ h
    refine ⟨i1,?_⟩
    unfold sumC at i2 ⊢
    rw [List.map_cons,List.map_cons,List.sum_cons,List.sum_cons,i2]
    have:num (ss ++ t) k = num ss k:=by unfold num; rw [eg]
    rw [this]
   ·cases h
theorem RingOk.more {ss:List Say} {ns:List Int} (r:RingOk ss ns) (t:List Say):RingOk (ss ++ t) ns:=by
 obtain ⟨p,hw⟩:=r.wk
 obtain ⟨h1,h2⟩:=walk_more t ns p p hw
 exact ⟨⟨p,h1⟩,by rw [h2]; exact r.neg,r.ne,r.len⟩
structure RingK (K:PySem.W.Frag) (mg:Str→Option Value) (cH cR:Addr):Prop where
 aR:mg "Ring" = some (.ref cR)
 i:∀ b,InsK K (ansC cH cR b)
 kR:∀ b,PySem.W.kitOne K (.ref (ansC cH cR b)) (.ref cR) = some (!b)
theorem mem_cut {xs:List V} {lo hi:Option Int} {v:V} (h:v ∈ cutV xs lo hi):v ∈ xs:=by
 unfold cutV at h
 exact List.mem_of_mem_drop (List.mem_of_mem_take h)
theorem ok_law {f fy fr fh cH cR Pt:Addr} {fd dy dr dh:FuncData} (D:Fun K "law" "law" sLaw f fd) (DY:Def K mg "_law_sayings" sSays ["_law_script"] fy dy) (GY:FnOk P w K mg base CX0 6 fy dy ["_law_script"] (spSays K))
  (DR:Def K mg "_law_right" s__law_right ["_law_count","_law_sayings_here","_law_at","_law_broken_here"] fr dr) (GR:FnOk P w K mg base CX0 6 fr dr ["_law_count","_law_sayings_here","_law_at","_law_broken_here"] (spLRight Pt))
  (DH:Def K mg "heights" s_heights ["count","sayings"] fh dh) (GH:FnOk P w K mg base CX0 6 fh dh ["count","sayings"] (spHts Pt cH cR))
  (T:RingK K mg cH cR) (G:G1 K mg):FnOk P w K mg base CX0 7 f fd ["_law_script"] (spLaw K Pt):=by
 refine D.ok scLaw (fun vs H Q E h=>?_) (fun cdv A outer s H vs Q E hr h=>?_)
 ·obtain ⟨a,ns,rfl,_⟩:=h; rfl
 ·obtain ⟨a,ns,rfl,ha,hz,hL,k⟩:=h
  have hu:=hr.units
  refine ⟨_,pss_cons (ps_asg (pe_call GY hr (by rfl) DY.at_ DY.fn.kp DY.bd .nil pass0 (pa_cons (pv 0) pa_nil)) (pg_tup rfl (pgs_cons (pg_name (i:=1) scLaw.nd rfl (Or.inl rfl)) (pgs_cons (pg_name (i:=2) scLaw.nd rfl (Or.inl rfl)) pgs_nil))))
   (pss_cons (ps_if (pt_cmpR (op_eqL hu) (pv 2) (pe_lst pa_nil) (nomark _)) (pss_one (ps_ret pe_bl)) pss_nil)
   (pss_cons (ps_set (i:=3) scLaw.nd rfl (Or.inl rfl) (pe_callB call_isinst (by rfl) G.isi boot_isinstance (pa_cons (pe_call GH hr (by rfl) DH.at_ DH.fn.kp DH.bd .nil pass0 (pa_cons (pv 1) (pa_cons (pv 2) pa_nil))) (pa_cons (pe_cls (by rfl) T.aR) pa_nil))))
   (pss_cons (ps_asg (pe_ix ix_list (pv 2) (pe_op op_mod (pe_callB (call_sumL rfl) (by rfl) G.sum boot_sum (pa_cons (pv 0) pa_nil)) (pe_callB call_len_seq (by rfl) G.len PySem.boot_len (pa_cons (pv 2) pa_nil))) (fun _ _=>rfl)) (pg_tup rfl (pgs_cons (pg_name (i:=4) scLaw.nd rfl (Or.inl rfl)) (pgs_cons (pg_name (i:=5) scLaw.nd rfl (Or.inl rfl)) (pgs_cons (pg_name (i:=6) scLaw.nd rfl (Or.inl rfl)) pgs_nil)))))
   (pss_cons (ps_set (i:=7) scLaw.nd rfl (Or.inl rfl) (pe_op op_cat (pv 2) (pe_lst (pa_cons (pe_tup (pa_cons (pv 4) (pa_cons (pv 5) (pa_cons (pv 6) pa_nil)))) (pa_cons (pe_tup (pa_cons (pv 4) (pa_cons (pv 5) (pa_cons (pe_op op_add (pe_op op_add (pv 6) pe_int) (pe_op op_mod (pe_callB (call_sumL rfl) (by rfl) G.sum boot_sum (pa_cons (pv 0) pa_nil)) pe_int)) pa_nil)))) pa_nil)))))
   (pss_cons (ps_set (i:=8) scLaw.nd rfl (Or.inl rfl) (pe_op op_cat (pe_lst (pa_cons pe_int (pa_cons (pe_callB call_len_seq (by rfl) G.len PySem.boot_len (pa_cons (pv 2) pa_nil)) (pa_cons (pe_op op_add (pe_callB call_len_seq (by rfl) G.len PySem.boot_len (pa_cons (pv 2) pa_nil)) pe_int) (pa_cons (pe_op op_mod (pe_callB (call_sumL rfl) (by rfl) G.sum boot_sum (pa_cons (pv 0) pa_nil)) (pe_callB call_len_seq (by rfl) G.len PySem.boot_len (pa_cons (pv 2) pa_nil))) pa_nil)))))
     (pe_listRng3 (by rfl) G.list (by rfl) G.range (pa_cons pe_int (pa_cons (pe_callB call_len_seq (by rfl) G.len PySem.boot_len (pa_cons (pv 7) pa_nil)) (pa_cons pe_int pa_nil))))))
   (pss_cons (ps_for PassesOwn.never rfl (pi_list (pe_ifExp (pt_val (pv 3)) (pe_slice sl_list (pv 8) po_none (po_some pe_int)) (pv 8))) (pg_name (i:=9) scLaw.nd rfl (Or.inl rfl))
    (pss_one (ps_if (pt_not (pt_val (pe_call GR hr (by rfl) DR.at_ DR.fn.kp DR.bd .nil pass0 (pa_cons (pv 1) (pa_cons (pv 7) (pa_cons (pv 9) (pa_cons (pv 3) pa_nil))))))) (pss_one (ps_ret pe_bl)) pss_nil)))
   (pss_cons (ps_for PassesOwn.never rfl (pi_list (pe_ifExp (pt_val (pv 3)) (pe_lst (pa_cons (pe_op op_sub (pe_callB call_len_seq (by rfl) G.len PySem.boot_len (pa_cons (pv 2) pa_nil)) pe_int) pa_nil)) (pe_listRng3 (by rfl) G.list (by rfl) G.range (pa_cons pe_int (pa_cons (pe_callB call_len_seq (by rfl) G.len PySem.boot_len (pa_cons (pv 2) pa_nil)) (pa_cons pe_int pa_nil)))))) (pg_name (i:=9) scLaw.nd rfl (Or.inl rfl))
    (pss_one (ps_if (pt_not (pt_val (pe_call GR hr (by rfl) DR.at_ DR.fn.kp DR.bd .nil pass0 (pa_cons (pv 1) (pa_cons (pv 2) (pa_cons (pv 9) (pa_cons (pv 3) pa_nil))))))) (pss_one (ps_ret pe_bl)) pss_nil)))
   (pss_one (ps_ret pe_bl))))))))),?_⟩
  obtain ⟨hc1,hc2⟩:=countOf_bd ns hz
  have hsl:=saysOf_len ns hz
  have hsi:=saysOf_in ns hz
  refine ⟨_,rfl,a,ns,rfl,ha,hz,fun p q H1 hp hq s1 hp1 hs1=>⟨p,_,rfl,SqT.of hp1,rfl,_,_,rfl,_,_,rfl,rfl,?_⟩⟩
  generalize saysOf ns = ss at hsl hsi hs1
  obtain ⟨c,hcn⟩:∃ c:Nat,countOf ns = (c:Int):=⟨(countOf ns).toNat,by omega⟩
  rw [hcn] at hc1 hc2 hsi
  rw [hcn]
  have hc1:1 ≤ c:=by omega
  have hc4:c ≤ 400:=by omega
  have hz6:ss.length < 66:=by omega
  clear hp1 hcn
  obtain ⟨ps,hq1,hS⟩:=hs1.ex
  have hlp:=hS.len
  refine ⟨_,rfl,by show 0 ≤ sizeLine; decide,fun E0 hE0=>?_⟩
  have u2:=Same.up (o:=.lst []) hE0
  have hEE:(upd H1 E0 (.lst [])) E0 = some (.lst []):=upd_same
  generalize upd H1 E0 (.lst []) = H2 at u2 hEE
  refine ⟨q,E0,_,_,rfl,rfl,SqL.of (u2 _ _ hq1),SqL.of hEE,?_⟩
  by_cases hnil:ps = []
  ·subst hnil
   exact .inr ⟨rfl,fun _=>true,fun i x y ex _=>by simp at ex,_,rfl,iteT (k _)⟩
  refine .inl ⟨fun z=>hnil (by simpa using z),_,rfl,iteF ?_⟩
  have hl0:0 < ss.length:=by rw [← hlp]; exact List.length_pos_iff.mpr hnil
  have s12:=s1.trans u2
  have hs2:=hs1.same u2
  refine ⟨_,rfl,_,rfl,q,ss,c,rfl,hc1,hc4,hs2,hz6,hsi,hL.same s12,fun bb H3 x l rs n3 hL3 hx0 hl0' nxl an good=>?_⟩
  refine ⟨_,_,_,_,_,rfl,an.ty (T.i bb),rfl,T.kR bb,?_⟩
  have ha3:=n3.seq (s12.seq ha)
  have hq3:=n3 _ _ rfl (u2 _ _ hq1)
  have hS3:=(hS.same u2).sameN n3
  have hatm:cnt ss.length (ns.sum % (ss.length:Int)) = true:=cnt_mod hl0
  obtain ⟨pp,ep,hpp⟩:=say_at hS3 hatm
  have hsay:=List.mem_of_getElem? (sy_get hatm)
  generalize sy ss (ns.sum % (ss.length:Int)) = say at hpp hsay
  obtain ⟨lo,up,n⟩:=say
  have hpp:H3 pp = some (.tup [.int lo,.int up,.int n]):=hpp
  have hbt:(!bb) = true→∃ ns,RingOk ss ns:=fun z=>by
   cases bb with
   | true=>cases z
   | false=>exact ⟨rs,good⟩
  have hbf:(!bb) = false→ss.all (keeps rs) = true:=fun z=>by
   cases bb with
   | false=>cases z
   | true=>exact (show rs.length = c∧ss.all (keeps rs) = true from good).2
  generalize (!bb) = bh at hbt hbf
  have hlm:((ps.map V.ref).length:Int) = (ss.length:Int):=by rw [List.length_map,hlp]
  refine ⟨_,rfl,_,rfl,a,ns,rfl,ha3,_,rfl,q,_,rfl,.inl (SqL.of hq3),?_⟩
  rw [hlm]
  refine ⟨_,_,rfl,rfl,(by show (0:Int) < ss.length; omega),q,_,_,_,rfl,rfl,SqL.of hq3,ep,pp,_,rfl,SqT.of hpp,rfl,_,_,rfl,_,_,rfl,_,_,rfl,rfl,?_⟩
  refine ⟨_,rfl,_,rfl,_,rfl,_,rfl,by show 3 ≤ sizeLine; decide,fun t1 ht1=>?_⟩
  have w1:=Same.up (o:=.tup [V.int lo,V.int up,V.int n]) ht1
  have e1:(upd H3 t1 (.tup [V.int lo,V.int up,V.int n])) t1 = some (tupOf (lo,up,n)):=upd_same
  generalize upd H3 t1 (.tup [V.int lo,V.int up,V.int n]) = H4 at w1 e1
  have hm3:0 ≤ ns.sum % 3:=Int.emod_nonneg _ (by decide)
  refine ⟨_,rfl,_,rfl,_,rfl,_,_,rfl,rfl,_,rfl,a,ns,rfl,w1.seq ha3,_,_,rfl,rfl,(by show (0:Int) < 3; decide),_,_,rfl,rfl,by show 3 ≤ sizeLine; decide,fun t2 ht2=>?_⟩
  have w2:=Same.up (o:=.tup [V.int lo,V.int up,V.int (n + 1 + ns.sum % 3)]) ht2
  have e2:(upd H4 t2 (.tup [V.int lo,V.int up,V.int (n + 1 + ns.sum % 3)])) t2 = some (tupOf (lo,up,n + 1 + ns.sum % 3)):=upd_same
  generalize upd H4 t2 (.tup [V.int lo,V.int up,V.int (n + 1 + ns.sum % 3)]) = H5 at w2 e2
  refine ⟨by show 2 ≤ sizeLine; decide,fun l2 hl2=>?_⟩
  have w3:=Same.up (o:=.lst [V.ref t1,V.ref t2]) hl2
  have e3:(upd H5 l2 (.lst [V.ref t1,V.ref t2])) l2 = some (.lst ([t1,t2].map V.ref)):=upd_same
  generalize upd H5 l2 (.lst [V.ref t1,V.ref t2]) = H6 at w3 e3
  have w13:=(w1.trans w2).trans w3
  refine ⟨q,l2,_,_,rfl,rfl,w13 _ _ hq3,e3,by rw [List.length_map,List.length_map]; exact Nat.le_of_lt (small1000 (by show _ + 2 ≤ 1000; omega)),fun O hO=>?_⟩
  have w4:=Same.up (o:=.lst (ps.map V.ref ++ [t1,t2].map V.ref)) hO
  have eO:(upd H6 O (.lst (ps.map V.ref ++ [t1,t2].map V.ref))) O = some (.lst ((ps ++ [t1] ++ [t2]).map V.ref)):=by rw [upd_same,List.map_append,List.map_append,List.append_assoc]; rfl
  have w14:=w13.trans w4
  have e1':=(w2.trans (w3.trans w4)) _ _ e1
  have e2':=(w3.trans w4) _ _ e2
  show tSeq _ _ _ _ (upd H6 O (.lst (ps.map V.ref ++ [t1,t2].map V.ref)))
  generalize upd H6 O (.lst (ps.map V.ref ++ [t1,t2].map V.ref)) = H7 at eO w14 e1' e2'
  have hT:SaysAt H7 O (ss ++ [(lo,up,n)] ++ [(lo,up,n + 1 + ns.sum % 3)]):=⟨_,eO,((hS3.same w14).snoc e1').snoc e2'⟩
  have htl:(ss ++ [(lo,up,n)] ++ [(lo,up,n + 1 + ns.sum % 3)]).length = ss.length + 2:=by rw [List.length_append,List.length_append]; rfl
  have hti:(ss ++ [(lo,up,n)] ++ [(lo,up,n + 1 + ns.sum % 3)]).all (inside c) = true:=by
   have:=List.all_eq_true.mp hsi _ hsay
   rw [List.all_append,List.all_append,hsi]
   show (true && (inside c (lo,up,n) && true) && ((cnt c lo && cnt c up) && true)) = true
   rw [this]
   unfold inside at this
   rw [show (cnt c lo && cnt c up) = true from this]; rfl
  have ht1:bh = true→∃ ns',RingOk (ss ++ [(lo,up,n)] ++ [(lo,up,n + 1 + ns.sum % 3)]) ns':=fun z=>by
   obtain ⟨r,h⟩:=hbt z
   exact ⟨r,(h.more _).more _⟩
  have ht2:bh = false→∀ ns',RingOk (ss ++ [(lo,up,n)] ++ [(lo,up,n + 1 + ns.sum % 3)]) ns'→False:=fun z ns' r=>by
   have hk:=hbf z
   have h1:=of_decide_eq_true (List.all_eq_true.mp hk _ hsay)
   refine keeps_noRing (hs:=rs) ?_ r
   rw [List.all_append,List.all_append,hk]
   show (true && (keeps rs (lo,up,n) && true) && (keeps rs (lo,up,n + 1 + ns.sum % 3) && true)) = true
   unfold keeps
   rw [decide_eq_true h1,decide_eq_true (by have h1:rs.getD up.toNat 0 - rs.getD lo.toNat 0 ≤ n:=h1; show rs.getD up.toNat 0 - rs.getD lo.toNat 0 ≤ n + 1 + ns.sum % 3; omega)]; rfl
  have hs1':bh = false→∀ ns',RingOk ss ns'→False:=fun z ns' r=>keeps_noRing (hbf z) r
  have hL7:=hL3.same w14
  have hq7:=w14 _ _ hq3
  have ha7:=w14.seq ha3
  have hsS:SaysAt H7 q ss:=⟨ps,hq7,hS3.same w14⟩
  generalize (ss ++ [(lo,up,n)] ++ [(lo,up,n + 1 + ns.sum % 3)]) = tt at hT htl hti ht1 ht2
  obtain ⟨qs,eO',hTS⟩:=hT.ex
  have hqs:(qs.map V.ref).length = ss.length + 2:=by rw [List.length_map,hTS.len,htl]
  have hlpos:(0:Int) < ((ps.map V.ref).length:Int):=by rw [hlm]; omega
  refine ⟨_,rfl,q,_,rfl,.inl (SqL.of hq7),_,rfl,q,_,rfl,.inl (SqL.of hq7),_,_,rfl,rfl,_,rfl,a,ns,rfl,ha7,_,rfl,q,_,rfl,.inl (SqL.of hq7),_,_,rfl,rfl,hlpos,by show 4 ≤ sizeLine; decide,fun m1 hm1=>?_⟩
  rw [hlm]
  have v1:=Same.up (o:=.lst [V.int 0,V.int (ss.length:Int),V.int ((ss.length:Int) + 1),V.int (ns.sum % (ss.length:Int))]) hm1
  have f1:(upd H7 m1 (.lst [V.int 0,V.int (ss.length:Int),V.int ((ss.length:Int) + 1),V.int (ns.sum % (ss.length:Int))])) m1 = some (.lst (([0,(ss.length:Int),(ss.length:Int) + 1,ns.sum % (ss.length:Int)]:List Int).map V.int)):=upd_same
  generalize upd H7 m1 (.lst [V.int 0,V.int (ss.length:Int),V.int ((ss.length:Int) + 1),V.int (ns.sum % (ss.length:Int))]) = H8 at v1 f1
  refine ⟨_,rfl,O,_,rfl,.inl (SqL.of (v1 _ _ eO')),1,_,31,rfl,by decide,by decide,by decide,by decide,by omega,by rw [hqs]; omega,fun m2 ks hm2 hks hkl=>?_⟩
  have v2:=Same.up (o:=.lst (ks.map V.int)) hm2
  have f2:(upd H8 m2 (.lst (ks.map V.int))) m2 = some (.lst (ks.map V.int)):=upd_same
  generalize upd H8 m2 (.lst (ks.map V.int)) = H9 at v2 f2
  refine ⟨m1,m2,_,_,rfl,rfl,v2 _ _ f1,f2,by rw [List.length_map,List.length_map]; exact Nat.le_of_lt (Nat.lt_of_le_of_lt (show 4 + ks.length ≤ 1004 by omega) (by decide)),fun M hM=>?_⟩
  have v3:=Same.up (o:=.lst (([0,(ss.length:Int),(ss.length:Int) + 1,ns.sum % (ss.length:Int)]:List Int).map V.int ++ ks.map V.int)) hM
  have fM:(upd H9 M (.lst (([0,(ss.length:Int),(ss.length:Int) + 1,ns.sum % (ss.length:Int)]:List Int).map V.int ++ ks.map V.int))) M = some (.lst (([0,(ss.length:Int),(ss.length:Int) + 1,ns.sum % (ss.length:Int)] ++ ks).map V.int)):=by rw [upd_same,List.map_append]
  have v13:=(v1.trans v2).trans v3
  show tSeq _ _ _ _ (upd H9 M (.lst (([0,(ss.length:Int),(ss.length:Int) + 1,ns.sum % (ss.length:Int)]:List Int).map V.int ++ ks.map V.int)))
  generalize upd H9 M (.lst (([0,(ss.length:Int),(ss.length:Int) + 1,ns.sum % (ss.length:Int)]:List Int).map V.int ++ ks.map V.int)) = Ha at fM v13
  have hall:∀ v ∈ ([0,(ss.length:Int),(ss.length:Int) + 1,ns.sum % (ss.length:Int)] ++ ks).map V.int,∃ i,v = .int i∧cnt tt.length i = true:=by
   intro v hv
   obtain ⟨i,hi,rfl⟩:=List.mem_map.mp hv
   refine ⟨i,rfl,cnt_iff.mpr ?_⟩
   rw [htl]
   rcases List.mem_append.mp hi with h | h
   ·obtain ⟨c0,c1⟩:=cnt_iff.mp hatm
    simp only [List.mem_cons,List.not_mem_nil,or_false] at h
    rcases h with rfl | rfl | rfl | rfl <;> exact ⟨by omega,by omega⟩
   ·obtain ⟨h1,h2⟩:=hks i h
    rw [hqs] at h2
    exact ⟨by omega,by omega⟩
  generalize ([0,(ss.length:Int),(ss.length:Int) + 1,ns.sum % (ss.length:Int)] ++ ks).map V.int = sm at fM hall
  have hTa:=hT.same v13
  have hsSa:=hsS.same v13
  have hLa:=hL7.same v13
  have hqa:=v13 _ _ hq7
  refine ⟨_,rfl,_,rfl,?_⟩
  cases bh with
  | true =>
   refine iteT ?_
   refine ⟨_,rfl,1,rfl,M,_,rfl,SqL.of fM,fun L1 hL10=>?_⟩
   have x1:=Same.up (o:=.lst (cutV sm none (some 1))) hL10
   have hL1:(upd Ha L1 (.lst (cutV sm none (some 1)))) L1 = some (.lst (cutV sm none (some 1))):=upd_same
   have nL1:SameN Ha (upd Ha L1 (.lst (cutV sm none (some 1)))):=x1.n
   have hLL1:=hLa.same x1
   generalize upd Ha L1 (.lst (cutV sm none (some 1))) = Hc at hL1 nL1 hLL1
   refine ⟨L1,rfl,⟨_,SqL.of hL1⟩,for_list (K:=K) (a:=L1) (xs:=cutV sm none (some 1)) (fun i σ Hd=>∃ v9,σ = [some (.ref a),some (.int c),some (.ref q),some (.bl true),some (.int lo),some (.int up),some (.int n),some (.ref O),some (.ref M),v9]∧SameN Ha Hd∧LamTab Hd Pt QL∧Hd L1 = some (.lst (cutV sm none (some 1)))) ⟨_,rfl,nL1,hLL1,hL1⟩ (fun i σ Hd _ ⟨_,_,_,_,nd⟩=>SqL.of nd) ?_ ?_⟩
   ·rintro i y σ Hd hi ⟨v9,rfl,nd,hLd,hld⟩
    obtain ⟨at_,rfl,hat⟩:=hall y (mem_cut (List.mem_of_getElem? hi))
    exact ⟨_,rfl,_,rfl,_,rfl,_,rfl,O,tt,c,at_,true,rfl,hc1,hc4,hTa.sameN nd,by omega,hti,hat,ht1,ht2,hLd,fun He ne hLe=>⟨_,rfl,iteF ⟨_,rfl,nd.trans ne,hLe,ne _ _ rfl hld⟩⟩⟩
   ·rintro σ Hd ⟨v9,rfl,nd,hLd,hld⟩
    refine ⟨_,rfl,_,rfl,iteT ?_⟩
    have hqd:=nd _ _ rfl hqa
    refine ⟨_,rfl,q,_,rfl,.inl (SqL.of hqd),_,_,rfl,rfl,by show 1 ≤ sizeLine; decide,fun L2 hL20=>?_⟩
    rw [hlm]
    have x2:=Same.up (o:=.lst [V.int ((ss.length:Int) - 1)]) hL20
    have hL2:(upd Hd L2 (.lst [V.int ((ss.length:Int) - 1)])) L2 = some (.lst [V.int ((ss.length:Int) - 1)]):=upd_same
    have nL2:SameN Ha (upd Hd L2 (.lst [V.int ((ss.length:Int) - 1)])):=nd.trans x2.n
    have hLL2:=hLd.same x2
    generalize upd Hd L2 (.lst [V.int ((ss.length:Int) - 1)]) = Hf at hL2 nL2 hLL2
    refine ⟨L2,rfl,⟨_,SqL.of hL2⟩,for_list (K:=K) (a:=L2) (xs:=[V.int ((ss.length:Int) - 1)]) (fun i σ Hd=>∃ v9,σ = [some (.ref a),some (.int c),some (.ref q),some (.bl true),some (.int lo),some (.int up),some (.int n),some (.ref O),some (.ref M),v9]∧SameN Ha Hd∧LamTab Hd Pt QL∧Hd L2 = some (.lst ([V.int ((ss.length:Int) - 1)]))) ⟨_,rfl,nL2,hLL2,hL2⟩ (fun i σ Hd _ ⟨_,_,_,_,nd⟩=>SqL.of nd) ?_ ?_⟩
    ·rintro i y σ Hd hi ⟨v9,rfl,nd,hLd,hld⟩
     obtain ⟨at_,rfl,hat⟩:=(show ∃ i,y = V.int i∧cnt ss.length i = true by
      have:=List.mem_of_getElem? hi
      simp only [List.mem_cons,List.not_mem_nil,or_false] at this
      exact ⟨_,this,cnt_iff.mpr ⟨by omega,by omega⟩⟩)
     exact ⟨_,rfl,_,rfl,_,rfl,_,rfl,q,ss,c,at_,true,rfl,hc1,hc4,hsSa.sameN nd,by omega,hsi,hat,fun z=>hbt z,hs1',hLd,fun He ne hLe=>⟨_,rfl,iteF ⟨_,rfl,nd.trans ne,hLe,ne _ _ rfl hld⟩⟩⟩
    ·rintro σ Hd ⟨v9,rfl,nd,hLd,hld⟩
     exact k Hd
  | false =>
   refine iteF ?_
   have hM:Ha M = some (.lst sm):=fM
   have nM:SameN Ha Ha:=SameN.refl _
   have hLM:=hLa
   refine ⟨_,rfl,?_⟩
   refine ⟨M,rfl,⟨_,SqL.of hM⟩,for_list (K:=K) (a:=M) (xs:=sm) (fun i σ Hd=>∃ v9,σ = [some (.ref a),some (.int c),some (.ref q),some (.bl false),some (.int lo),some (.int up),some (.int n),some (.ref O),some (.ref M),v9]∧SameN Ha Hd∧LamTab Hd Pt QL∧Hd M = some (.lst (sm))) ⟨_,rfl,nM,hLM,hM⟩ (fun i σ Hd _ ⟨_,_,_,_,nd⟩=>SqL.of nd) ?_ ?_⟩
   ·rintro i y σ Hd hi ⟨v9,rfl,nd,hLd,hld⟩
    obtain ⟨at_,rfl,hat⟩:=hall y (List.mem_of_getElem? hi)
    exact ⟨_,rfl,_,rfl,_,rfl,_,rfl,O,tt,c,at_,false,rfl,hc1,hc4,hTa.sameN nd,by omega,hti,hat,ht1,ht2,hLd,fun He ne hLe=>⟨_,rfl,iteF ⟨_,rfl,nd.trans ne,hLe,ne _ _ rfl hld⟩⟩⟩
   ·rintro σ Hd ⟨v9,rfl,nd,hLd,hld⟩
    refine ⟨_,rfl,_,rfl,iteF ?_⟩
    have hqd:=nd _ _ rfl hqa
    refine ⟨_,rfl,q,_,rfl,.inl (SqL.of hqd),0,_,23,rfl,by decide,by decide,by decide,by decide,by omega,by rw [hlm]; omega,fun L2 ks2 hL20 hks2 hkl2=>?_⟩
    rw [hlm] at hks2
    have x2:=Same.up (o:=.lst (ks2.map V.int)) hL20
    have hL2:(upd Hd L2 (.lst (ks2.map V.int))) L2 = some (.lst (ks2.map V.int)):=upd_same
    have nL2:SameN Ha (upd Hd L2 (.lst (ks2.map V.int))):=nd.trans x2.n
    have hLL2:=hLd.same x2
    generalize upd Hd L2 (.lst (ks2.map V.int)) = Hf at hL2 nL2 hLL2
    refine ⟨L2,rfl,⟨_,SqL.of hL2⟩,for_list (K:=K) (a:=L2) (xs:=ks2.map V.int) (fun i σ Hd=>∃ v9,σ = [some (.ref a),some (.int c),some (.ref q),some (.bl false),some (.int lo),some (.int up),some (.int n),some (.ref O),some (.ref M),v9]∧SameN Ha Hd∧LamTab Hd Pt QL∧Hd L2 = some (.lst (ks2.map V.int))) ⟨_,rfl,nL2,hLL2,hL2⟩ (fun i σ Hd _ ⟨_,_,_,_,nd⟩=>SqL.of nd) ?_ ?_⟩
    ·rintro i y σ Hd hi ⟨v9,rfl,nd,hLd,hld⟩
     obtain ⟨at_,rfl,hat⟩:=(show ∃ i,y = V.int i∧cnt ss.length i = true by
      obtain ⟨i,hi',e⟩:=List.mem_map.mp (List.mem_of_getElem? hi)
      obtain ⟨g1,g2⟩:=hks2 i hi'
      exact ⟨i,e.symm,cnt_iff.mpr ⟨g1,g2⟩⟩)
     exact ⟨_,rfl,_,rfl,_,rfl,_,rfl,q,ss,c,at_,false,rfl,hc1,hc4,hsSa.sameN nd,by omega,hsi,hat,fun z=>hbt z,hs1',hLd,fun He ne hLe=>⟨_,rfl,iteF ⟨_,rfl,nd.trans ne,hLe,ne _ _ rfl hld⟩⟩⟩
    ·rintro σ Hd ⟨v9,rfl,nd,hLd,hld⟩
     exact k Hd
end
end At
set_option Elab.async false
set_option linter.all false
set_option maxRecDepth 100000
set_option maxHeartbeats 4000000
namespace At
open PySem L2 PyProof.Rows
section
variable {P:Program} {w:World} {K:PySem.W.Frag} {mg:Str→Option Value} {base:Heap}
section
variable {h:Heap}
theorem def_mk (X:K.In h) (G:h.Ns mainGlobals mg) {x:Str} {st:Stmt} {ps:List Str} {f:Addr} {oc:Value} {od an:Option Addr} {sl:Array (Option Value)} {kV dc pm cd ct:Value}
  (a:PySem.W.nsIn K mainGlobals x = some (some (.ref f))) (l:K.lookup f = some ⟨oc,od,.func (PySem.W.fnOf x x (defArgs st) (defBody st) (defScope st) .none kV dc pm an cd ct),sl⟩) (c:PySem.W.codeIn K cd x = true) (k:PySem.W.keepIn K (.ref f) = true)
  (hb:∀ (kV doc pm:Value) (an:Option Addr) (cdv ct:Value) (us:List Value),us.length = ps.length→bindArgs (PySem.W.fnOf x x (defArgs st) (defBody st) (defScope st) .none kV doc pm an cdv ct) ⟨us,[]⟩ = pure (ps.zip us)):∃ f fd,Def K mg x st ps f fd :=
 ⟨f,_,fun_mk l c k,PySem.W.mg_of X G a,(fun_mk l c k).binds hb⟩
def strs1 (es:Array DictEntry):Bool:=es.toList.all fun e=>match e.key with
 | .str _ _=>true
 | _=>false
theorem ns_mk {N:Addr} {c1:Value} {d1:Option Addr} {es:Array DictEntry} {ep:Nat} {sl1:Array (Option Value)} (l:K.lookup N = some ⟨c1,d1,.dict es ep,sl1⟩) (hk:strs1 es = true) (hi:PySem.W.nsIn K N "__init__" = some none) :
  ∃ mN:Str→Option Value,(∀ h:Heap,K.In h→h.Ns N mN)∧mN "__init__" = none:=by
 refine ⟨fun n=>nsFind es n,fun h X=>⟨_,es,ep,X _ _ l,rfl,fun e he=>?_,fun _=>rfl⟩,?_⟩
 ·have:=List.all_eq_true.mp hk e (Array.mem_toList_iff.mpr he)
  cases hk:e.key <;> rw [hk] at this <;> first | exact ⟨_,_,rfl⟩ | cases this
 ·unfold PySem.W.nsIn at hi
  rw [l] at hi
  dsimp only at hi
  show nsFind es (Str.ofString "__init__") = none
  unfold nsFind findBy
  rw [← Array.find?_toList]
  split at hi
  ·cases hi
  ·rename_i e; rw [e]; rfl
theorem g1_mk (X:K.In h) (G:h.Ns mainGlobals mg) (n0:PySem.W.nsIn K mainGlobals "isinstance" = some none) (n1:PySem.W.nsIn K mainGlobals "int" = some none) (n2:PySem.W.nsIn K mainGlobals "bool" = some none) (n3:PySem.W.nsIn K mainGlobals "tuple" = some none) (n4:PySem.W.nsIn K mainGlobals "list" = some none)
  (n5:PySem.W.nsIn K mainGlobals "len" = some none) (n6:PySem.W.nsIn K mainGlobals "all" = some none) (n7:PySem.W.nsIn K mainGlobals "any" = some none) (n8:PySem.W.nsIn K mainGlobals "sum" = some none) (n9:PySem.W.nsIn K mainGlobals "range" = some none)
  (m1:PySem.W.nsIn K mainGlobals "enumerate" = some none) (m2:PySem.W.nsIn K mainGlobals "sorted" = some none) (m3:PySem.W.nsIn K mainGlobals "max" = some none) (m4:PySem.W.nsIn K mainGlobals "min" = some none)
  (k1:PySem.W.kitOne K (.type "int") (.type "int") = some true) (k2:PySem.W.kitOne K (.type "int") (.type "bool") = some false) (k3:PySem.W.kitOne K (.type "tuple") (.type "tuple") = some true) (k4:PySem.W.kitOne K (.type "list") (.type "list") = some true) (k5:PySem.W.kitOne K (.type "bool") (.type "bool") = some true):G1 K mg :=
 ⟨PySem.W.mg_none_of X G n0,PySem.W.mg_none_of X G n1,PySem.W.mg_none_of X G n2,PySem.W.mg_none_of X G n3,PySem.W.mg_none_of X G n4,PySem.W.mg_none_of X G n5,PySem.W.mg_none_of X G n6,PySem.W.mg_none_of X G n7,PySem.W.mg_none_of X G n8,PySem.W.mg_none_of X G n9,
  PySem.W.mg_none_of X G m1,PySem.W.mg_none_of X G m2,PySem.W.mg_none_of X G m3,PySem.W.mg_none_of X G m4,k1,k2,k3,k4,k5⟩
theorem Fun.codeT {x:Str} {st:Stmt} {f c Pt:Addr} {fd:FuncData} (F:Fun K x x st f fd) (at_:mg x = some (.ref f)) (X:K.In h) (G:h.Ns mainGlobals mg) (ht:PySem.W.tabIn K x = some (c,Pt)):fd.code = .ref c:=by
 obtain ⟨oc,od,kV,doc,pm,an,cdv,ct,osl,rfl,lk,hcd⟩:=F.ex
 exact PySem.W.law_code X G ht at_ (X _ _ lk) rfl
end
theorem tabIn_mk {x:Str} {f c Pt:Addr} {oc oc2:Value} {od od2:Option Addr} {fd:FuncData} {sl sl2:Array (Option Value)} {vs:Array Value} (a:PySem.W.nsIn K mainGlobals x = some (some (.ref f))) (l:K.lookup f = some ⟨oc,od,.func fd,sl⟩) (hc:fd.code = .ref c)
  (l2:K.lookup c = some ⟨oc2,od2,.fields vs,sl2⟩) (hv:vs[11]? = some (.ref Pt)):PySem.W.tabIn K x = some (c,Pt):=by
 unfold PySem.W.tabIn
 rw [a]; dsimp only
 rw [l]; dsimp only
 rw [hc]; dsimp only
 rw [l2]; dsimp only
 rw [hv]
end
end At
set_option Elab.async false
set_option linter.all false
set_option maxRecDepth 100000
set_option maxHeartbeats 4000000
namespace At
open PySem L2 PyProof.Rows
section
variable {P:Program} {w:World} {K:PySem.W.Frag} {mg:Str→Option Value} {base:Heap}
section
variable {h:Heap}
theorem walkF_mk (X:K.In h) (G:h.Ns mainGlobals mg) {C f0 f1 f2 f3 f4:Addr} {od0 an0 od1 an1 od2 an2 od3 an3 od4 an4:Option Addr} {sl0 sl1 sl2 sl3 sl4:Array (Option Value)}
  {oc0 kV0 dc0 pm0 cd0 ct0 oc1 kV1 dc1 pm1 cd1 ct1 oc2 kV2 dc2 pm2 cd2 ct2 oc3 kV3 dc3 pm3 cd3 ct3 oc4 kV4 dc4 pm4 cd4 ct4:Value}
  (aC:PySem.W.nsIn K mainGlobals "Walk" = some (some (.ref C)))
  (pg:PySem.W.plainGet K C Str.empty = true) (hd:PySem.W.hasDictIn K C = true) (po:PySem.W.plainOver K C = true) (sa:PySem.W.findIn K (.ref C) "__setattr__" = some (some (.builtin "object.__setattr__"))) (mk:PySem.W.makesIn K C = true) (kc:PySem.W.keepIn K (.ref C) = true)
  (n1:PySem.W.findIn K (.ref C) "sayings" = some none) (n2:PySem.W.findIn K (.ref C) "sums" = some none) (n3:PySem.W.findIn K (.ref C) "last" = some none)
  (a0:PySem.W.findIn K (.ref C) "__init__" = some (some (.ref f0))) (i0:PySem.W.isFn K (.ref f0) = true) (l0:K.lookup f0 = some ⟨oc0,od0,.func (PySem.W.fnOf "__init__" "Walk.__init__" (defArgs m_Walk___init__) (defBody m_Walk___init__) (defScope m_Walk___init__) .none kV0 dc0 pm0 an0 cd0 ct0),sl0⟩) (c0:PySem.W.codeIn K cd0 "Walk.__init__" = true) (k0:PySem.W.keepIn K (.ref f0) = true)
  (a1:PySem.W.findIn K (.ref C) "go_along" = some (some (.ref f1))) (i1:PySem.W.isFn K (.ref f1) = true) (l1:K.lookup f1 = some ⟨oc1,od1,.func (PySem.W.fnOf "go_along" "Walk.go_along" (defArgs m_Walk_go_along) (defBody m_Walk_go_along) (defScope m_Walk_go_along) .none kV1 dc1 pm1 an1 cd1 ct1),sl1⟩) (c1:PySem.W.codeIn K cd1 "Walk.go_along" = true) (k1:PySem.W.keepIn K (.ref f1) = true)
  (a2:PySem.W.findIn K (.ref C) "place_ahead" = some (some (.ref f2))) (i2:PySem.W.isFn K (.ref f2) = true) (l2:K.lookup f2 = some ⟨oc2,od2,.func (PySem.W.fnOf "place_ahead" "Walk.place_ahead" (defArgs m_Walk_place_ahead) (defBody m_Walk_place_ahead) (defScope m_Walk_place_ahead) .none kV2 dc2 pm2 an2 cd2 ct2),sl2⟩) (c2:PySem.W.codeIn K cd2 "Walk.place_ahead" = true) (k2:PySem.W.keepIn K (.ref f2) = true)
  (a3:PySem.W.findIn K (.ref C) "chain_between" = some (some (.ref f3))) (i3:PySem.W.isFn K (.ref f3) = true) (l3:K.lookup f3 = some ⟨oc3,od3,.func (PySem.W.fnOf "chain_between" "Walk.chain_between" (defArgs m_Walk_chain_between) (defBody m_Walk_chain_between) (defScope m_Walk_chain_between) .none kV3 dc3 pm3 an3 cd3 ct3),sl3⟩) (c3:PySem.W.codeIn K cd3 "Walk.chain_between" = true) (k3:PySem.W.keepIn K (.ref f3) = true)
  (a4:PySem.W.findIn K (.ref C) "place_on_ring" = some (some (.ref f4))) (i4:PySem.W.isFn K (.ref f4) = true) (l4:K.lookup f4 = some ⟨oc4,od4,.func (PySem.W.fnOf "place_on_ring" "Walk.place_on_ring" (defArgs m_Walk_place_on_ring) (defBody m_Walk_place_on_ring) (defScope m_Walk_place_on_ring) .none kV4 dc4 pm4 an4 cd4 ct4),sl4⟩) (c4:PySem.W.codeIn K cd4 "Walk.place_on_ring" = true) (k4:PySem.W.keepIn K (.ref f4) = true) :
  ∃ C f0 d0 f1 d1 f2 d2 f3 d3 f4 d4,WalkF K mg C f0 d0 f1 d1 f2 d2 f3 d3 f4 d4:=by
 have F0:=fun_mk (st:=m_Walk___init__) l0 c0 k0
 have F1:=fun_mk (st:=m_Walk_go_along) l1 c1 k1
 have F2:=fun_mk (st:=m_Walk_place_ahead) l2 c2 k2
 have F3:=fun_mk (st:=m_Walk_chain_between) l3 c3 k3
 have F4:=fun_mk (st:=m_Walk_place_on_ring) l4 c4 k4
 exact ⟨C,f0,_,f1,_,f2,_,f3,_,f4,_,⟨⟨⟨pg,hd,po,sa⟩,n1,n2,n3,PySem.W.mg_of X G aC⟩,⟨mk,a0,i0,kc⟩,F0,F0.binds fun _ _ _ _ _ _ us hl=>match us,hl with | [_,_,_],_=>rfl,
  ⟨F1,⟨a1,i1,k1⟩,F1.binds fun _ _ _ _ _ _ us hl=>match us,hl with | [_,_],_=>rfl⟩,⟨F2,⟨a2,i2,k2⟩,F2.binds fun _ _ _ _ _ _ us hl=>match us,hl with | [_,_],_=>rfl⟩,
  ⟨F3,⟨a3,i3,k3⟩,F3.binds fun _ _ _ _ _ _ us hl=>match us,hl with | [_,_,_],_=>rfl⟩,⟨F4,⟨a4,i4,k4⟩,F4.binds fun _ _ _ _ _ _ us hl=>match us,hl with | [_],_=>rfl⟩⟩⟩
end
end
end At
set_option Elab.async false
set_option linter.all false
set_option maxRecDepth 100000
set_option maxHeartbeats 4000000
namespace At
open PySem L2 PyProof.Rows
section
variable {P:Program} {w:World} {K:PySem.W.Frag} {mg:Str→Option Value} {base:Heap}
structure BrokenF (K:PySem.W.Frag) (mg:Str→Option Value) (C C0 f:Addr) (fd:FuncData) (c1 c2 c3 c4:Addr):Prop where
 k:BK K mg C C0 f
 x:BX K C
 fn:Fun K "__init__" "Broken.__init__" m_Broken___init__ f fd
 bd:Binds K fd ["self","ring"] []
 z:ExcM K C C0
 e:ErrK K mg C c1 c2 c3 c4
section
variable {h:Heap}
theorem brokenF_mk (X:K.In h) (G:h.Ns mainGlobals mg) {C C0 f N N0 c1 c2 c3 c4:Addr} {nm q nm0 q0:Str} {bs bs0:List Value} {hd0:Bool} {sn sn0:List Str} {sub sub0:List Value} {ab ab0:Bool} {col col0:Option Bool} {dd dd0:Option Addr} {k0 k1 k2 k3 k5 j0 j1 j2 j3 j5:Option Value}
  {x0:Value} {y0:Option Addr} {es0:Array DictEntry} {ep0:Nat} {z0:Array (Option Value)} {od an:Option Addr} {sl:Array (Option Value)} {oc kV dc pm cd ct:Value}
  (aB:PySem.W.nsIn K mainGlobals "Broken" = some (some (.ref C))) (a0:PySem.W.nsIn K mainGlobals "SayError" = some (some (.ref C0)))
  (lB:K.lookup C = some (excClassObj nm q C N bs (.ref C0 :: lineV) true sn sub ab col dd k0 k1 k2 k3 k5 "ValueError.__new__")) (l0:K.lookup C0 = some (excClassObj nm0 q0 C0 N0 bs0 lineV hd0 sn0 sub0 ab0 col0 dd0 j0 j1 j2 j3 j5 "ValueError.__new__"))
  (n0:K.lookup N0 = some ⟨x0,y0,.dict es0 ep0,z0⟩) (s0:strs1 es0 = true) (i0:PySem.W.nsIn K N0 "__init__" = some none)
  (ini:PySem.W.findIn K (.ref C) "__init__" = some (some (.ref f))) (isf:PySem.W.isFn K (.ref f) = true) (kpC:PySem.W.keepIn K (.ref C) = true) (sa:PySem.W.findIn K (.ref C) "__setattr__" = some (some (.builtin "object.__setattr__"))) (mo:PySem.W.mroIn K C (.type "object") = some true) (nr:PySem.W.findIn K (.ref C) "ring" = some none)
  (bga:PySem.W.specialIn K (.ref C0) "__getattribute__" = some (some (.builtin "type.__getattribute__"))) (brd:PySem.W.readsIn K C0 (.type "type") = true) (bfi:PySem.W.findCls K (.ref C0) (.type "type") "__init__" = some (.val (.builtin "ValueError.__init__")))
  (lf:K.lookup f = some ⟨oc,od,.func (PySem.W.fnOf "__init__" "Broken.__init__" (defArgs m_Broken___init__) (defBody m_Broken___init__) (defScope m_Broken___init__) .none kV dc pm an cd ct),sl⟩) (cf:PySem.W.codeIn K cd "Broken.__init__" = true) (kf:PySem.W.keepIn K (.ref f) = true)
  (ga:PySem.W.findIn K (.ref C) "__getattribute__" = some (some (.builtin "BaseException.__getattribute__"))) (gr:PySem.W.findIn K (.ref C) "__getattr__" = some none) (cl:PySem.W.findIn K (.ref C) "__class__" = some (some (.builtin "object.__class__")))
  (get:PySem.W.specialIn K (.builtin "object.__class__") "__get__" = some (some (.builtin "getset_descriptor.__get__"))) (tk:PySem.W.takesIn K (.builtin "object.__class__") = some true) (bexc:PySem.W.mroIn K C (.type "BaseException") = some true) (hdC:PySem.W.hasDictIn K C = true)
  (b1:PySem.W.nsIn K mainGlobals "BadCount" = some (some (.ref c1))) (b2:PySem.W.nsIn K mainGlobals "BadNumber" = some (some (.ref c2))) (b3:PySem.W.nsIn K mainGlobals "BadPlace" = some (some (.ref c3))) (b4:PySem.W.nsIn K mainGlobals "BadSayings" = some (some (.ref c4)))
  (e1:PySem.W.kitOne K (.ref C) (.ref c1) = some false) (e2:PySem.W.kitOne K (.ref C) (.ref c2) = some false) (e3:PySem.W.kitOne K (.ref C) (.ref c3) = some false) (e4:PySem.W.kitOne K (.ref C) (.ref c4) = some false) (eB:PySem.W.kitOne K (.ref C) (.ref C) = some true) :
  ∃ C C0 f fd c1 c2 c3 c4,BrokenF K mg C C0 f fd c1 c2 c3 c4:=by
 obtain ⟨m0,hm0,hi0⟩:=ns_mk n0 s0 i0
 have F:=fun_mk (st:=m_Broken___init__) lf cf kf
 refine ⟨C,C0,f,_,c1,c2,c3,c4,⟨⟨⟨⟨_,_,_,_,_,_,_,_,_,_,_,_,_,_,_,lB,fun h X=>.own (X _ _ l0) (hm0 h X) hi0 .base,fun self=>?_⟩,ini,isf,kpC,sa,mo⟩,nr,⟨bga,brd,bfi⟩,PySem.W.mg_of X G aB,PySem.W.mg_of X G a0⟩,
  ⟨⟨⟨_,by unfold PySem.W.clsIn; rw [lB]⟩,ga,gr,cl,get,tk,mo,bexc⟩,hdC,⟨⟨_,_,_,_,_,_,_,_,_,_,_,_,_,_,_,_,_,lB,by simp⟩,⟨_,_,_,_,_,_,_,_,_,_,_,_,_,_,_,_,_,lB,by simp⟩⟩⟩,F,F.binds fun _ _ _ _ _ _ us hl=>match us,hl with | [_,_],_=>rfl,⟨⟨_,_,_,_,_,_,_,_,_,_,_,_,_,_,_,_,_,lB,by simp⟩,⟨_,_,_,_,_,_,_,_,_,_,_,_,_,_,_,_,_,l0,by decide +kernel⟩⟩,
  ⟨PySem.W.mg_of X G b1,PySem.W.mg_of X G b2,PySem.W.mg_of X G b3,PySem.W.mg_of X G b4,e1,e2,e3,e4,eB⟩⟩⟩
 rw [refuseLoop_ref]
 exact PySem.F.store_ValueError.passes self
end
end
end At
set_option Elab.async false
set_option linter.all false
set_option maxRecDepth 100000
set_option maxHeartbeats 4000000
namespace At
open PySem L2 PyProof.Rows
section
variable {P:Program} {w:World} {K:PySem.W.Frag} {mg:Str→Option Value} {base:Heap}
structure AnsFn (K:PySem.W.Frag) (mg:Str→Option Value) (cA cH cR cN cL c1 c2 c3 c5:Addr) (fH:Addr) (dH:FuncData) (fR:Addr) (dR:FuncData) (fN:Addr) (dN:FuncData) (fL:Addr) (dL:FuncData) (gN:Addr) (eN:FuncData) (gL:Addr) (eL:FuncData):Prop where
 oH:OneK K mg "Heights" "heights" cH fH
 iH:Fun K "__init__" "Heights.__init__" m_Heights___init__ fH dH
 bH:Binds K dH ["self","heights"] []
 oR:OneK K mg "Ring" "chain" cR fR
 iR:Fun K "__init__" "Ring.__init__" m_Ring___init__ fR dR
 bR:Binds K dR ["self","chain"] []
 oN:OneK K mg "Needed" "heights" cN fN
 iN:Fun K "__init__" "Needed.__init__" m_Needed___init__ fN dN
 bN:Binds K dN ["self","heights"] []
 oL:OneK K mg "Needless" "chain" cL fL
 iL:Fun K "__init__" "Needless.__init__" m_Needless___init__ fL dL
 bL:Binds K dL ["self","chain"] []
 sN:MDef K cN "shows" "Needed.shows" m_Needed_shows ["self","count","sayings","at"] gN eN
 sL:MDef K cL "shows" "Needless.shows" m_Needless_shows ["self","count","sayings","at"] gL eL
 r:RingK K mg cH cR
 n:NeedN K mg cA cN cL c1 c2 c3 cH c5 cR
section
variable {h:Heap}
theorem ansF_mk (X:K.In h) (G:h.Ns mainGlobals mg) {cA cH cR cN cL c1 c2 c3 c5 fH fR fN fL gN gL:Addr} {od0 an0 od1 an1 od2 an2 od3 an3 od4 an4 od5 an5:Option Addr} {sl0 sl1 sl2 sl3 sl4 sl5:Array (Option Value)}
  {oc0 kV0 dc0 pm0 cd0 ct0 oc1 kV1 dc1 pm1 cd1 ct1 oc2 kV2 dc2 pm2 cd2 ct2 oc3 kV3 dc3 pm3 cd3 ct3 oc4 kV4 dc4 pm4 cd4 ct4 oc5 kV5 dc5 pm5 cd5 ct5:Value}
  (aA:PySem.W.nsIn K mainGlobals "Answer" = some (some (.ref cA)))
  (aH:PySem.W.nsIn K mainGlobals "Heights" = some (some (.ref cH)))
  (aR:PySem.W.nsIn K mainGlobals "Ring" = some (some (.ref cR)))
  (aN:PySem.W.nsIn K mainGlobals "Needed" = some (some (.ref cN)))
  (aL:PySem.W.nsIn K mainGlobals "Needless" = some (some (.ref cL)))
  (a1:PySem.W.nsIn K mainGlobals "Fixed" = some (some (.ref c1)))
  (a2:PySem.W.nsIn K mainGlobals "Follows" = some (some (.ref c2)))
  (a3:PySem.W.nsIn K mainGlobals "Free" = some (some (.ref c3)))
  (a5:PySem.W.nsIn K mainGlobals "Loose" = some (some (.ref c5)))
  (pgH:PySem.W.plainGet K cH Str.empty = true) (hdH:PySem.W.hasDictIn K cH = true) (poH:PySem.W.plainOver K cH = true) (saH:PySem.W.findIn K (.ref cH) "__setattr__" = some (some (.builtin "object.__setattr__"))) (mkH:PySem.W.makesIn K cH = true) (kcH:PySem.W.keepIn K (.ref cH) = true) (nH0:PySem.W.findIn K (.ref cH) "heights" = some none)
  (pgR:PySem.W.plainGet K cR Str.empty = true) (hdR:PySem.W.hasDictIn K cR = true) (poR:PySem.W.plainOver K cR = true) (saR:PySem.W.findIn K (.ref cR) "__setattr__" = some (some (.builtin "object.__setattr__"))) (mkR:PySem.W.makesIn K cR = true) (kcR:PySem.W.keepIn K (.ref cR) = true) (nR0:PySem.W.findIn K (.ref cR) "chain" = some none)
  (pgN:PySem.W.plainGet K cN Str.empty = true) (hdN:PySem.W.hasDictIn K cN = true) (poN:PySem.W.plainOver K cN = true) (saN:PySem.W.findIn K (.ref cN) "__setattr__" = some (some (.builtin "object.__setattr__"))) (mkN:PySem.W.makesIn K cN = true) (kcN:PySem.W.keepIn K (.ref cN) = true) (nN0:PySem.W.findIn K (.ref cN) "heights" = some none)
  (pgL:PySem.W.plainGet K cL Str.empty = true) (hdL:PySem.W.hasDictIn K cL = true) (poL:PySem.W.plainOver K cL = true) (saL:PySem.W.findIn K (.ref cL) "__setattr__" = some (some (.builtin "object.__setattr__"))) (mkL:PySem.W.makesIn K cL = true) (kcL:PySem.W.keepIn K (.ref cL) = true) (nL0:PySem.W.findIn K (.ref cL) "chain" = some none)
  (f0:PySem.W.findIn K (.ref cH) "__init__" = some (some (.ref fH))) (i0:PySem.W.isFn K (.ref fH) = true) (l0:K.lookup fH = some ⟨oc0,od0,.func (PySem.W.fnOf "__init__" "Heights.__init__" (defArgs m_Heights___init__) (defBody m_Heights___init__) (defScope m_Heights___init__) .none kV0 dc0 pm0 an0 cd0 ct0),sl0⟩) (d0:PySem.W.codeIn K cd0 "Heights.__init__" = true) (k0:PySem.W.keepIn K (.ref fH) = true)
  (f1:PySem.W.findIn K (.ref cR) "__init__" = some (some (.ref fR))) (i1:PySem.W.isFn K (.ref fR) = true) (l1:K.lookup fR = some ⟨oc1,od1,.func (PySem.W.fnOf "__init__" "Ring.__init__" (defArgs m_Ring___init__) (defBody m_Ring___init__) (defScope m_Ring___init__) .none kV1 dc1 pm1 an1 cd1 ct1),sl1⟩) (d1:PySem.W.codeIn K cd1 "Ring.__init__" = true) (k1:PySem.W.keepIn K (.ref fR) = true)
  (f2:PySem.W.findIn K (.ref cN) "__init__" = some (some (.ref fN))) (i2:PySem.W.isFn K (.ref fN) = true) (l2:K.lookup fN = some ⟨oc2,od2,.func (PySem.W.fnOf "__init__" "Needed.__init__" (defArgs m_Needed___init__) (defBody m_Needed___init__) (defScope m_Needed___init__) .none kV2 dc2 pm2 an2 cd2 ct2),sl2⟩) (d2:PySem.W.codeIn K cd2 "Needed.__init__" = true) (k2:PySem.W.keepIn K (.ref fN) = true)
  (f3:PySem.W.findIn K (.ref cL) "__init__" = some (some (.ref fL))) (i3:PySem.W.isFn K (.ref fL) = true) (l3:K.lookup fL = some ⟨oc3,od3,.func (PySem.W.fnOf "__init__" "Needless.__init__" (defArgs m_Needless___init__) (defBody m_Needless___init__) (defScope m_Needless___init__) .none kV3 dc3 pm3 an3 cd3 ct3),sl3⟩) (d3:PySem.W.codeIn K cd3 "Needless.__init__" = true) (k3:PySem.W.keepIn K (.ref fL) = true)
  (f4:PySem.W.findIn K (.ref cN) "shows" = some (some (.ref gN))) (i4:PySem.W.isFn K (.ref gN) = true) (l4:K.lookup gN = some ⟨oc4,od4,.func (PySem.W.fnOf "shows" "Needed.shows" (defArgs m_Needed_shows) (defBody m_Needed_shows) (defScope m_Needed_shows) .none kV4 dc4 pm4 an4 cd4 ct4),sl4⟩) (d4:PySem.W.codeIn K cd4 "Needed.shows" = true) (k4:PySem.W.keepIn K (.ref gN) = true)
  (f5:PySem.W.findIn K (.ref cL) "shows" = some (some (.ref gL))) (i5:PySem.W.isFn K (.ref gL) = true) (l5:K.lookup gL = some ⟨oc5,od5,.func (PySem.W.fnOf "shows" "Needless.shows" (defArgs m_Needless_shows) (defBody m_Needless_shows) (defScope m_Needless_shows) .none kV5 dc5 pm5 an5 cd5 ct5),sl5⟩) (d5:PySem.W.codeIn K cd5 "Needless.shows" = true) (k5:PySem.W.keepIn K (.ref gL) = true)
  (haH:PySem.W.findIn K (.ref cH) "__class__" = some (some (.builtin "object.__class__"))) (moH:PySem.W.mroIn K cH (.type "object") = some true)
  (haR:PySem.W.findIn K (.ref cR) "__class__" = some (some (.builtin "object.__class__"))) (moR:PySem.W.mroIn K cR (.type "object") = some true)
  (haN:PySem.W.findIn K (.ref cN) "__class__" = some (some (.builtin "object.__class__"))) (moN:PySem.W.mroIn K cN (.type "object") = some true)
  (haL:PySem.W.findIn K (.ref cL) "__class__" = some (some (.builtin "object.__class__"))) (moL:PySem.W.mroIn K cL (.type "object") = some true)
  (get:PySem.W.specialIn K (.builtin "object.__class__") "__get__" = some (some (.builtin "getset_descriptor.__get__"))) (tk:PySem.W.takesIn K (.builtin "object.__class__") = some true)
  (kHR:PySem.W.kitOne K (.ref cH) (.ref cR) = some false) (kRR:PySem.W.kitOne K (.ref cR) (.ref cR) = some true)
  (kNA:PySem.W.kitOne K (.ref cN) (.ref cA) = some true) (kNN:PySem.W.kitOne K (.ref cN) (.ref cN) = some true) (kNL:PySem.W.kitOne K (.ref cN) (.ref cL) = some false) (kN1:PySem.W.kitOne K (.ref cN) (.ref c1) = some false) (kN2:PySem.W.kitOne K (.ref cN) (.ref c2) = some false) (kN3:PySem.W.kitOne K (.ref cN) (.ref c3) = some false) (kNH:PySem.W.kitOne K (.ref cN) (.ref cH) = some false) (kN5:PySem.W.kitOne K (.ref cN) (.ref c5) = some false) (kNR:PySem.W.kitOne K (.ref cN) (.ref cR) = some false)
  (kLA:PySem.W.kitOne K (.ref cL) (.ref cA) = some true) (kLN:PySem.W.kitOne K (.ref cL) (.ref cN) = some false) (kLL:PySem.W.kitOne K (.ref cL) (.ref cL) = some true) (kL1:PySem.W.kitOne K (.ref cL) (.ref c1) = some false) (kL2:PySem.W.kitOne K (.ref cL) (.ref c2) = some false) (kL3:PySem.W.kitOne K (.ref cL) (.ref c3) = some false) (kLH:PySem.W.kitOne K (.ref cL) (.ref cH) = some false) (kL5:PySem.W.kitOne K (.ref cL) (.ref c5) = some false) (kLR:PySem.W.kitOne K (.ref cL) (.ref cR) = some false) :
  ∃ cA cH cR cN cL c1 c2 c3 c5 fH dH fR dR fN dN fL dL gN eN gL eL,AnsFn K mg cA cH cR cN cL c1 c2 c3 c5 fH dH fR dR fN dN fL dL gN eN gL eL:=by
 have F0:=fun_mk (st:=m_Heights___init__) l0 d0 k0
 have F1:=fun_mk (st:=m_Ring___init__) l1 d1 k1
 have F2:=fun_mk (st:=m_Needed___init__) l2 d2 k2
 have F3:=fun_mk (st:=m_Needless___init__) l3 d3 k3
 have F4:=fun_mk (st:=m_Needed_shows) l4 d4 k4
 have F5:=fun_mk (st:=m_Needless_shows) l5 d5 k5
 have gH':=PySem.W.mg_of X G aH
 have gR':=PySem.W.mg_of X G aR
 have gN':=PySem.W.mg_of X G aN
 have gL':=PySem.W.mg_of X G aL
 have CH:Cls K cH:=⟨pgH,hdH,poH,saH⟩
 have CR:Cls K cR:=⟨pgR,hdR,poR,saR⟩
 have CN:Cls K cN:=⟨pgN,hdN,poN,saN⟩
 have CL:Cls K cL:=⟨pgL,hdL,poL,saL⟩
 refine ⟨cA,cH,cR,cN,cL,c1,c2,c3,c5,fH,_,fR,_,fN,_,fL,_,gN,_,gL,_,⟨⟨CH,nH0,gH',⟨mkH,f0,i0,kcH⟩⟩,F0,F0.binds fun _ _ _ _ _ _ us hl=>match us,hl with | [_,_],_=>rfl,
  ⟨CR,nR0,gR',⟨mkR,f1,i1,kcR⟩⟩,F1,F1.binds fun _ _ _ _ _ _ us hl=>match us,hl with | [_,_],_=>rfl,
  ⟨CN,nN0,gN',⟨mkN,f2,i2,kcN⟩⟩,F2,F2.binds fun _ _ _ _ _ _ us hl=>match us,hl with | [_,_],_=>rfl,
  ⟨CL,nL0,gL',⟨mkL,f3,i3,kcL⟩⟩,F3,F3.binds fun _ _ _ _ _ _ us hl=>match us,hl with | [_,_],_=>rfl,
  ⟨F4,⟨f4,i4,k4⟩,F4.binds fun _ _ _ _ _ _ us hl=>match us,hl with | [_,_,_,_],_=>rfl⟩,⟨F5,⟨f5,i5,k5⟩,F5.binds fun _ _ _ _ _ _ us hl=>match us,hl with | [_,_,_,_],_=>rfl⟩,
  ⟨gR',fun b=>?_,fun b=>?_⟩,⟨PySem.W.mg_of X G aA,gN',gL',fun b=>?_,fun b=>?_,fun b=>?_,fun b=>?_,fun b=>?_,PySem.W.mg_of X G a1,PySem.W.mg_of X G a2,PySem.W.mg_of X G a3,gH',PySem.W.mg_of X G a5,gR',fun b=>?_,fun b=>?_,fun b=>?_,fun b=>?_,fun b=>?_,fun b=>?_⟩⟩⟩
 ·cases b
  ·exact ⟨CR,haR,get,tk,moR⟩
  ·exact ⟨CH,haH,get,tk,moH⟩
 ·cases b <;> assumption
 ·cases b
  ·exact ⟨CL,haL,get,tk,moL⟩
  ·exact ⟨CN,haN,get,tk,moN⟩
 ·cases b
  ·exact nL0
  ·exact nN0
 all_goals (cases b <;> assumption)
end
end
end At
set_option Elab.async false
set_option linter.all false
set_option maxRecDepth 100000
set_option maxHeartbeats 4000000
namespace At
open PySem L2 PyProof.Rows
section
variable {P:Program} {w:World} {K:PySem.W.Frag} {mg:Str→Option Value} {base:Heap}
structure Defs2 (K:PySem.W.Frag) (mg:Str→Option Value):Prop where
 g:G1 K mg
 d1:∃ f fd,Def K mg "is_whole" sWhole ["value"] f fd
 d2:∃ f fd,Def K mg "is_counted" sCounted ["count","value"] f fd
 d3:∃ f fd,Def K mg "is_saying" sSaying ["count","value"] f fd
 d4:∃ f fd,Def K mg "are_heights" sHeights ["count","value"] f fd
 d5:∃ f fd,Def K mg "is_chain" sChain ["sayings","value","one","other"] f fd
 d6:∃ f fd,Def K mg "check_sayings" sCheckS ["count","sayings"] f fd
 d7:∃ f fd,Def K mg "above" sAbove ["heights","one","other"] f fd
 d8:∃ f fd,Def K mg "keep_one" sKeepOne ["saying","heights"] f fd
 d9:∃ f fd,Def K mg "keep_all" sKeepAll ["sayings","heights"] f fd
 d10:∃ f fd,Def K mg "chain_sum" sChainSum ["sayings","chain"] f fd
 d11:∃ f fd,Def K mg "are_kept" s_are_kept ["count","sayings","heights"] f fd
 d12:∃ f fd,Def K mg "finish_from" s_finish_from ["start","uppers","entered","finished"] f fd
 d13:∃ f fd,Def K mg "finishing_order" s_finishing_order ["sayings"] f fd
 d14:∃ f fd,Def K mg "walking_order" s_walking_order ["sayings"] f fd
 d15:∃ f fd,Def K mg "least_sums" s_least_sums ["sayings","order"] f fd
 d16:∃ f fd,Def K mg "walk_from" s_walk_from ["sayings","order","one"] f fd
 d17:∃ f fd,Def K mg "leading_to" s_leading_to ["sayings","order","other"] f fd
 d18:∃ f fd,Def K mg "level" s_level ["count","sums"] f fd
 d19:∃ f fd,Def K mg "level_of_walk" s_level_of_walk ["count","sums","walk"] f fd
 d20:∃ f fd,Def K mg "moved_up" s_moved_up ["ground","places","by"] f fd
 d21:∃ f fd,Def K mg "heights" s_heights ["count","sayings"] f fd
 d22:∃ f fd,Def K mg "needless" s_needless ["count","sayings","at"] f fd
 d23:∃ f fd,Def K mg "_law_drawn" sDrawn ["_law_script","_law_count"] f fd
 d24:∃ f fd,Def K mg "_law_sayings" sSays ["_law_script"] f fd
 d25:∃ f fd,Def K mg "_law_sum" sLSum ["_law_sayings_here","_law_chain","_law_one","_law_other"] f fd
 d26:∃ f fd,Def K mg "_law_kept" sLKept ["_law_count","_law_sayings_here","_law_row"] f fd
 d27:∃ f fd,Def K mg "_law_ring" s__law_ring ["_law_sayings_here","_law_chain"] f fd
 d28:∃ f fd,Def K mg "_law_broken" s__law_broken ["_law_error","_law_sayings_here"] f fd
 d29:∃ f fd,Def K mg "_law_due" s__law_due ["_law_count","_law_sayings_here","_law_at","_law_found"] f fd
 d30:∃ f fd,Def K mg "_law_right" s__law_right ["_law_count","_law_sayings_here","_law_at","_law_broken_here"] f fd
 w:∃ C f0 d0 f1 d1 f2 d2 f3 d3 f4 d4,WalkF K mg C f0 d0 f1 d1 f2 d2 f3 d3 f4 d4
 b:∃ C C0 f fd c1 c2 c3 c4,BrokenF K mg C C0 f fd c1 c2 c3 c4
 a:∃ cA cH cR cN cL c1 c2 c3 c5 fH dH fR dR fN dN fL dL gN eN gL eL,AnsFn K mg cA cH cR cN cL c1 c2 c3 c5 fH dH fR dR fN dN fL dL gN eN gL eL
theorem law_fn {f c Pt:Addr} {fd:FuncData} (F:Fun K "law" "law" sLaw f fd) (M:Defs2 K mg) (ht:PySem.W.tabIn K "walking_order" = some (c,Pt)) (X:K.In base) (N:base.Ns mainGlobals mg) (hC:PySem.W.CodeHd base c Pt) (hB:base.BuiltinsAt mg Pt):FnOk P w K mg base CX0 7 f fd ["_law_script"] (spLaw K Pt):=by
 have G:=M.g
 obtain ⟨_,_,q_is_whole⟩:=M.d1
 obtain ⟨_,_,q_is_counted⟩:=M.d2
 obtain ⟨_,_,q_is_saying⟩:=M.d3
 obtain ⟨_,_,q_are_heights⟩:=M.d4
 obtain ⟨_,_,q_is_chain⟩:=M.d5
 obtain ⟨_,_,q_check_sayings⟩:=M.d6
 obtain ⟨_,_,q_above⟩:=M.d7
 obtain ⟨_,_,q_keep_one⟩:=M.d8
 obtain ⟨_,_,q_keep_all⟩:=M.d9
 obtain ⟨_,_,q_chain_sum⟩:=M.d10
 obtain ⟨_,_,q_are_kept⟩:=M.d11
 obtain ⟨_,_,q_finish_from⟩:=M.d12
 obtain ⟨_,_,q_finishing_order⟩:=M.d13
 obtain ⟨_,_,q_walking_order⟩:=M.d14
 obtain ⟨_,_,q_least_sums⟩:=M.d15
 obtain ⟨_,_,q_walk_from⟩:=M.d16
 obtain ⟨_,_,q_leading_to⟩:=M.d17
 obtain ⟨_,_,q_level⟩:=M.d18
 obtain ⟨_,_,q_level_of_walk⟩:=M.d19
 obtain ⟨_,_,q_moved_up⟩:=M.d20
 obtain ⟨_,_,q_heights⟩:=M.d21
 obtain ⟨_,_,q_needless⟩:=M.d22
 obtain ⟨_,_,q__law_drawn⟩:=M.d23
 obtain ⟨_,_,q__law_sayings⟩:=M.d24
 obtain ⟨_,_,q__law_sum⟩:=M.d25
 obtain ⟨_,_,q__law_kept⟩:=M.d26
 obtain ⟨_,_,q__law_ring⟩:=M.d27
 obtain ⟨_,_,q__law_broken⟩:=M.d28
 obtain ⟨_,_,q__law_due⟩:=M.d29
 obtain ⟨_,_,q__law_right⟩:=M.d30
 obtain ⟨_,_,_,_,_,_,_,_,_,_,_,W⟩:=M.w
 obtain ⟨CB,_,_,_,_,_,_,_,B⟩:=M.b
 obtain ⟨cA,cH,cR,cN,cL,_,_,_,_,_,_,_,_,_,_,_,_,_,_,_,_,A⟩:=M.a
 have L:LamIn base mg _ Pt:=⟨⟨c,Fun.codeT q_walking_order.fn q_walking_order.at_ X N ht,hC,hB⟩⟩
 have GO:=ok_walkOrd (P:=P) (w:=w) q_walking_order q_finishing_order q_finish_from G L
 have GS:=ok_least (P:=P) (w:=w) (base:=base) q_least_sums W B.k B.fn B.bd G
 have GC:=ok_checkS (P:=P) (w:=w) (base:=base) q_check_sayings q_is_saying q_is_counted q_is_whole G
 have GH:=(ok_heightsF q_heights q_check_sayings GC q_least_sums GS q_level q_walking_order GO B.k B.x A.oH A.iH A.bH A.oR A.iR A.bR G).mono (show 5 ≤ 6 by decide)
 have GX:=ok_needless q_needless q_check_sayings GC q_is_counted q_is_whole q_least_sums GS q_level q_walking_order GO q_leading_to q_moved_up q_walk_from q_level_of_walk q_above W A.oN A.iN A.bN A.oL A.iL A.bL G
 have GI:=(ok_chain (P:=P) (w:=w) (base:=base) q_is_chain q_is_counted q_is_whole G).mono (show 3 ≤ 4 by decide)
 have GM:=(ok_chainSum (P:=P) (w:=w) (base:=base) q_chain_sum G).mono (show 1 ≤ 4 by decide)
 have GE:=(ok_heights (P:=P) (w:=w) (base:=base) q_are_heights q_is_whole G).mono (show 2 ≤ 3 by decide)
 have GA:=ok_keepAll (P:=P) (w:=w) (base:=base) q_keep_all q_keep_one q_above G
 have GK:=ok_areKept (k1:=0) q_are_kept q_are_heights GE q_keep_all GA
 have G1':=(ok_keepOne (P:=P) (w:=w) (base:=base) q_keep_one q_above).mono (show 2 ≤ 4 by decide)
 have gN:=ok_ndShows A.sN.fn A.oN q_are_kept GK q_keep_one G1'
 have gL:=ok_nlShows A.sL.fn A.oL q_is_chain GI q_chain_sum GM
 have GB:=ok_lBroken (P:=P) (w:=w) (base:=base) q__law_broken q__law_ring q__law_sum B.k B.x B.e G
 have GD:=(ok_lDue (P:=P) (w:=w) (base:=base) q__law_due q__law_sum q__law_kept A.n G).mono (show 2 ≤ 5 by decide)
 have GR:=ok_lRight q__law_right q_needless GX q__law_due GD q__law_broken GB A.n ⟨A.sN.me,A.sN.bd,gN,A.sL.me,A.sL.bd,gL⟩ B.k B.z G
 have GY:=(ok_says (P:=P) (w:=w) (base:=base) q__law_sayings q__law_drawn G).mono (show 2 ≤ 6 by decide)
 exact ok_law F q__law_sayings GY q__law_right GR q_heights GH A.r G
theorem walk2 {l:PySem.W.OpenLaw} {q:Program} {loose:List Str} {XP:(Str→Option Value)→Heap→Prop} {YP:World→Heap→Prop} {d d0:DefRec} {K:Params→PySem.W.Frag} {c Pt:Addr} (hn:l.most = some 63) (hdf:d.params.defaults = [])
  (hY:∀ (w:World) (h:Heap),YP w h→(K w.params).In h) (hrec:(recsOf q).find? (fun e=>e.name == ("walking_order":Str)) = some d0) (htab:∀ w:World,PySem.W.tabIn (K w.params) "walking_order" = some (c,Pt)) (hno:∀ w:World,(K w.params).lookup Pt = none)
  (F:∀ (w:World) (mg:Str→Option Value) (fa:Addr) (h:Heap),(K w.params).In h→h.Ns mainGlobals mg→mg d.name = some (.ref fa) →
   ∃ fd:FuncData,(∀ (s:Shared) (u:Value),BindsTo s fd ⟨[u],[]⟩ [("_law_script",u)])∧∀ base:Heap,(K w.params).In base→base.Ns mainGlobals mg→PySem.W.CodeHd base c Pt→base.BuiltinsAt mg Pt→FnOk l.prog w (K w.params) mg base CX0 7 fa fd ["_law_script"] (spLaw (K w.params) Pt)) :
  PySem.W.WalkO q loose XP YP l.row.toRowW d [] (fun f vs=>PySem.call f vs) :=
 L2.walk_tab (n:=63) (k:=7) (x:="_law_script") (CX:=fun _=>CX0) (sp:=fun w=>spLaw (K w.params) Pt) hn (by decide) hdf ⟨by decide,by decide⟩ hY hrec htab hno F
  (fun _ _ a ns hl hS hT=>⟨a,ns,rfl,hS,hl,⟨#[],hT,by simp [TriplesOk],fun pos cv e=>by simp [codeAmong] at e⟩,fun _=>rfl⟩) fun _ _ _ _ _ z=>z
section
variable {h:Heap}
theorem law_mk (X:K.In h) (G:h.Ns mainGlobals mg) {fa f c0 Pt:Addr} (hfa:mg "law" = some (.ref fa)) {oc:Value} {od an:Option Addr} {sl:Array (Option Value)} {kV dc pm cd ct:Value}
  (a:PySem.W.nsIn K mainGlobals "law" = some (some (.ref f))) (l:K.lookup f = some ⟨oc,od,.func (PySem.W.fnOf "law" "law" (defArgs sLaw) (defBody sLaw) (defScope sLaw) .none kV dc pm an cd ct),sl⟩) (c:PySem.W.codeIn K cd "law" = true) (k:PySem.W.keepIn K (.ref f) = true)
  (ht:PySem.W.tabIn K "walking_order" = some (c0,Pt)) (M:Defs2 K mg) (P:Program) (w:World) :
  ∃ fd:FuncData,(∀ (s:Shared) (v:Value),BindsTo s fd ⟨[v],[]⟩ [("_law_script",v)])∧∀ base:Heap,K.In base→base.Ns mainGlobals mg→PySem.W.CodeHd base c0 Pt→base.BuiltinsAt mg Pt→FnOk P w K mg base CX0 7 fa fd ["_law_script"] (spLaw K Pt):=by
 have e:=hfa.symm.trans (PySem.W.mg_of X G a)
 cases e
 exact ⟨PySem.W.fnOf "law" "law" (defArgs sLaw) (defBody sLaw) (defScope sLaw) .none kV dc pm an cd ct,fun s v=>.of_eq rfl,fun base X N hC hB=>law_fn (fun_mk l c k) M ht X N hC hB⟩
end
end
end At
set_option Elab.async false
set_option linter.all false
open PySem PySem.W PyProof.Rows
def PySem.W.Fast.tw10650710128057606820:Unit:=()
def PySem.W.Fast.tw3000679697290108832:Unit:=()
def PySem.W.Fast.tw11848612793240574775:Unit:=()
def PySem.W.Fast.tw11948723665298870385:Unit:=()
def PySem.W.Fast.tw13573980943846801582:Unit:=()
def PySem.W.Fast.tw4770230107397970009:Unit:=()
def PySem.W.Fast.tw9477494607514188005:Unit:=()
def PySem.W.Fast.tw15016719557767598213:Unit:=()
def PySem.W.Fast.tw8835880174892567082:Unit:=()
def PySem.W.Fast.tw17821545578558335491:Unit:=()
def PySem.W.Fast.tw3914481162425072885:Unit:=()
def PySem.W.Fast.tw15594409348493958140:Unit:=()
def PySem.W.Fast.tw16668667720853042471:Unit:=()
def PySem.W.Fast.tw16194085889070430106:Unit:=()
def PySem.W.Fast.tw4610402196977462009:Unit:=()
def PySem.W.Fast.tw1512632879359352533:Unit:=()
def PySem.W.Fast.tw12833603740720021039:Unit:=()
def PySem.W.Fast.tw5409584977509320649:Unit:=()
def PySem.W.Fast.tw8045045337423152712:Unit:=()
def PySem.W.Fast.tw6807586648951284079:Unit:=()
def PySem.W.Fast.tw8657129719117287947:Unit:=()
def PySem.W.Fast.tw3479906047857815862:Unit:=()
def PySem.W.Fast.tw684409024760442458:Unit:=()
def PySem.W.Fast.tw13214433074135042336:Unit:=()
def PySem.W.Fast.tw14006330924591347015:Unit:=()
def PySem.W.Fast.tw4603062329842583336:Unit:=()
def PySem.W.Fast.tw11325866621778207086:Unit:=()
def PySem.W.Fast.tw8160289209428019845:Unit:=()
def PySem.W.Fast.tw10413780505124968337:Unit:=()
def PySem.W.Fast.tw13870651361967360093:Unit:=()
def PySem.W.Fast.tw9518393316708680310:Unit:=()
def PySem.W.Fast.tw1293627082131776256:Unit:=()
def PySem.W.Fast.tw17847573115116533579:Unit:=()
def PySem.W.Fast.tw6380834975848661196:Unit:=()
def PySem.W.Fast.tw4727781191829680063:Unit:=()
def PySem.W.Fast.tw7409653440442308947:Unit:=()
def PySem.W.Fast.tw2225961968438110253:Unit:=()
def PySem.W.Fast.tw4918582066669337034:Unit:=()
def PySem.W.Fast.tw7621909435402081765:Unit:=()
def PySem.W.Fast.tw3377654950339278565:Unit:=()
def PySem.W.Fast.tw18414440547561532566:Unit:=()
def PySem.W.Fast.tw6631961287209273402:Unit:=()
def PySem.W.Fast.tw3717420356032688000:Unit:=()
def PySem.W.Fast.tw4796381558859396631:Unit:=()
def PySem.W.Fast.tw1106085742836083224:Unit:=()
def PySem.W.Fast.tw1778502673075647945:Unit:=()
def PySem.W.Fast.tw17751332420181204166:Unit:=()
def PySem.W.Fast.tw13222987804292895237:Unit:=()
def PySem.W.Fast.tw5385912279735378322:Unit:=()
def PySem.W.Fast.tw11971388781943216556:Unit:=()
def PySem.W.Fast.tw6317601048197559758:Unit:=()
def PySem.W.Fast.tw6659997606434599162:Unit:=()
def PySem.W.Fast.tw10771628815233874555:Unit:=()
def PySem.W.Fast.tw16402505964039376433:Unit:=()
def PySem.W.Fast.tw16985621365458367327:Unit:=()
def PySem.W.Fast.tw9195075393159644630:Unit:=()
def PySem.W.Fast.tw13158679251530201412:Unit:=()
def PySem.W.Fast.tw2389208086821249415:Unit:=()
def PySem.W.Fast.tw17065677605384078166:Unit:=()
def PySem.W.Fast.tw8624838877093874493:Unit:=()
def PySem.W.Fast.tw17210341923452139460:Unit:=()
def PySem.W.Fast.tw10891311772339652069:Unit:=()
def PySem.W.Fast.tw15513334713509024108:Unit:=()
def PySem.W.Fast.tw8099156769955077726:Unit:=()
def PySem.W.Fast.tw7276876570762522175:Unit:=()
def PySem.W.Fast.tw9535865486005225879:Unit:=()
def PySem.W.Fast.tw6811399336160487156:Unit:=()
def PySem.W.Fast.tw14791347328502087651:Unit:=()
def PySem.W.Fast.tw14867903273563295616:Unit:=()
def PySem.W.Fast.tw12431617131655223982:Unit:=()
def PySem.W.Fast.tw13260955103425840932:Unit:=()
def PySem.W.Fast.tw8792137859825418697:Unit:=()
def PySem.W.Fast.tw18193558772736693482:Unit:=()
def PySem.W.Fast.tw14862257201235445682:Unit:=()
def PySem.W.Fast.tw16132221132955570645:Unit:=()
def PySem.W.Fast.tw11124471886991037090:Unit:=()
def PySem.W.Fast.tw2747545594806902018:Unit:=()
def PySem.W.Fast.tw16321982762049184532:Unit:=()
def PySem.W.Fast.tw5816794449799798829:Unit:=()
def PySem.W.Fast.tw1183096739787348812:Unit:=()
set_option maxRecDepth 100000 in
set_option maxHeartbeats 0 in
theorem PySem.Challenge.cw_atmost_k04_whole_needless_holds : PySem.Challenge.rw_atmost_k04_whole_needless.Holds := by
 w_on; o_law; k_head; (case hw=>w_witness2)
 k_fill
 refine' At.walk2 (l:=PySem.Challenge.rw_atmost_k04_whole_needless) rfl rfl (fun w h Y=>PySem.W.km_in_of Y) ?hRec ?hTab ?hNo ?hFF
 case hRec=>rfl
 case hTab =>
  intro w
  refine' At.tabIn_mk ?ta ?tl ?th ?tm ?tv
  (case ta=>k_is); (case tl=>k_is); (case th=>rfl); (case tm=>k_is); (case tv=>rfl)
 case hNo=>intro w; kernel_rfl
 case hFF =>
  intro w mg fa h KX G hmg
  have h_g:At.G1 (L2.KOf KX) mg:=by
   dsimp only [L2.KOf]
   refine' At.g1_mk KX G ?g_n0 ?g_n1 ?g_n2 ?g_n3 ?g_n4 ?g_n5 ?g_n6 ?g_n7 ?g_n8 ?g_n9 ?g_m1 ?g_m2 ?g_m3 ?g_m4 ?g_k1 ?g_k2 ?g_k3 ?g_k4 ?g_k5
   (case g_n0=>k_is)
   (case g_n1=>k_is)
   (case g_n2=>k_is)
   (case g_n3=>k_is)
   (case g_n4=>k_is)
   (case g_n5=>k_is)
   (case g_n6=>k_is)
   (case g_n7=>k_is)
   (case g_n8=>k_is)
   (case g_n9=>k_is)
   (case g_m1=>k_is)
   (case g_m2=>k_is)
   (case g_m3=>k_is)
   (case g_m4=>k_is)
   (case g_k1=>kit_is)
   (case g_k2=>kit_is)
   (case g_k3=>kit_is)
   (case g_k4=>kit_is)
   (case g_k5=>kit_is)
  have h_d1:∃ f fd,At.Def (L2.KOf KX) mg "is_whole" At.sWhole ["value"] f fd:=by
   dsimp only [L2.KOf]
   refine' At.def_mk KX G ?a ?l ?c ?k (fun _ _ _ _ _ _ us hl=>match us,hl with | [_],_=>rfl)
   (case a=>k_is); (case l=>k_is); (case c=>k_is); (case k=>k_is)
  have h_d2:∃ f fd,At.Def (L2.KOf KX) mg "is_counted" At.sCounted ["count","value"] f fd:=by
   dsimp only [L2.KOf]
   refine' At.def_mk KX G ?a ?l ?c ?k (fun _ _ _ _ _ _ us hl=>match us,hl with | [_,_],_=>rfl)
   (case a=>k_is); (case l=>k_is); (case c=>k_is); (case k=>k_is)
  have h_d3:∃ f fd,At.Def (L2.KOf KX) mg "is_saying" At.sSaying ["count","value"] f fd:=by
   dsimp only [L2.KOf]
   refine' At.def_mk KX G ?a ?l ?c ?k (fun _ _ _ _ _ _ us hl=>match us,hl with | [_,_],_=>rfl)
   (case a=>k_is); (case l=>k_is); (case c=>k_is); (case k=>k_is)
  have h_d4:∃ f fd,At.Def (L2.KOf KX) mg "are_heights" At.sHeights ["count","value"] f fd:=by
   dsimp only [L2.KOf]
   refine' At.def_mk KX G ?a ?l ?c ?k (fun _ _ _ _ _ _ us hl=>match us,hl with | [_,_],_=>rfl)
   (case a=>k_is); (case l=>k_is); (case c=>k_is); (case k=>k_is)
  have h_d5:∃ f fd,At.Def (L2.KOf KX) mg "is_chain" At.sChain ["sayings","value","one","other"] f fd:=by
   dsimp only [L2.KOf]
   refine' At.def_mk KX G ?a ?l ?c ?k (fun _ _ _ _ _ _ us hl=>match us,hl with | [_,_,_,_],_=>rfl)
   (case a=>k_is); (case l=>k_is); (case c=>k_is); (case k=>k_is)
  have h_d6:∃ f fd,At.Def (L2.KOf KX) mg "check_sayings" At.sCheckS ["count","sayings"] f fd:=by
   dsimp only [L2.KOf]
   refine' At.def_mk KX G ?a ?l ?c ?k (fun _ _ _ _ _ _ us hl=>match us,hl with | [_,_],_=>rfl)
   (case a=>k_is); (case l=>k_is); (case c=>k_is); (case k=>k_is)
  have h_d7:∃ f fd,At.Def (L2.KOf KX) mg "above" At.sAbove ["heights","one","other"] f fd:=by
   dsimp only [L2.KOf]
   refine' At.def_mk KX G ?a ?l ?c ?k (fun _ _ _ _ _ _ us hl=>match us,hl with | [_,_,_],_=>rfl)
   (case a=>k_is); (case l=>k_is); (case c=>k_is); (case k=>k_is)
  have h_d8:∃ f fd,At.Def (L2.KOf KX) mg "keep_one" At.sKeepOne ["saying","heights"] f fd:=by
   dsimp only [L2.KOf]
   refine' At.def_mk KX G ?a ?l ?c ?k (fun _ _ _ _ _ _ us hl=>match us,hl with | [_,_],_=>rfl)
   (case a=>k_is); (case l=>k_is); (case c=>k_is); (case k=>k_is)
  have h_d9:∃ f fd,At.Def (L2.KOf KX) mg "keep_all" At.sKeepAll ["sayings","heights"] f fd:=by
   dsimp only [L2.KOf]
   refine' At.def_mk KX G ?a ?l ?c ?k (fun _ _ _ _ _ _ us hl=>match us,hl with | [_,_],_=>rfl)
   (case a=>k_is); (case l=>k_is); (case c=>k_is); (case k=>k_is)
  have h_d10:∃ f fd,At.Def (L2.KOf KX) mg "chain_sum" At.sChainSum ["sayings","chain"] f fd:=by
   dsimp only [L2.KOf]
   refine' At.def_mk KX G ?a ?l ?c ?k (fun _ _ _ _ _ _ us hl=>match us,hl with | [_,_],_=>rfl)
   (case a=>k_is); (case l=>k_is); (case c=>k_is); (case k=>k_is)
  have h_d11:∃ f fd,At.Def (L2.KOf KX) mg "are_kept" At.s_are_kept ["count","sayings","heights"] f fd:=by
   dsimp only [L2.KOf]
   refine' At.def_mk KX G ?a ?l ?c ?k (fun _ _ _ _ _ _ us hl=>match us,hl with | [_,_,_],_=>rfl)
   (case a=>k_is); (case l=>k_is); (case c=>k_is); (case k=>k_is)
  have h_d12:∃ f fd,At.Def (L2.KOf KX) mg "finish_from" At.s_finish_from ["start","uppers","entered","finished"] f fd:=by
   dsimp only [L2.KOf]
   refine' At.def_mk KX G ?a ?l ?c ?k (fun _ _ _ _ _ _ us hl=>match us,hl with | [_,_,_,_],_=>rfl)
   (case a=>k_is); (case l=>k_is); (case c=>k_is); (case k=>k_is)
  have h_d13:∃ f fd,At.Def (L2.KOf KX) mg "finishing_order" At.s_finishing_order ["sayings"] f fd:=by
   dsimp only [L2.KOf]
   refine' At.def_mk KX G ?a ?l ?c ?k (fun _ _ _ _ _ _ us hl=>match us,hl with | [_],_=>rfl)
   (case a=>k_is); (case l=>k_is); (case c=>k_is); (case k=>k_is)
  have h_d14:∃ f fd,At.Def (L2.KOf KX) mg "walking_order" At.s_walking_order ["sayings"] f fd:=by
   dsimp only [L2.KOf]
   refine' At.def_mk KX G ?a ?l ?c ?k (fun _ _ _ _ _ _ us hl=>match us,hl with | [_],_=>rfl)
   (case a=>k_is); (case l=>k_is); (case c=>k_is); (case k=>k_is)
  have h_d15:∃ f fd,At.Def (L2.KOf KX) mg "least_sums" At.s_least_sums ["sayings","order"] f fd:=by
   dsimp only [L2.KOf]
   refine' At.def_mk KX G ?a ?l ?c ?k (fun _ _ _ _ _ _ us hl=>match us,hl with | [_,_],_=>rfl)
   (case a=>k_is); (case l=>k_is); (case c=>k_is); (case k=>k_is)
  have h_d16:∃ f fd,At.Def (L2.KOf KX) mg "walk_from" At.s_walk_from ["sayings","order","one"] f fd:=by
   dsimp only [L2.KOf]
   refine' At.def_mk KX G ?a ?l ?c ?k (fun _ _ _ _ _ _ us hl=>match us,hl with | [_,_,_],_=>rfl)
   (case a=>k_is); (case l=>k_is); (case c=>k_is); (case k=>k_is)
  have h_d17:∃ f fd,At.Def (L2.KOf KX) mg "leading_to" At.s_leading_to ["sayings","order","other"] f fd:=by
   dsimp only [L2.KOf]
   refine' At.def_mk KX G ?a ?l ?c ?k (fun _ _ _ _ _ _ us hl=>match us,hl with | [_,_,_],_=>rfl)
   (case a=>k_is); (case l=>k_is); (case c=>k_is); (case k=>k_is)
  have h_d18:∃ f fd,At.Def (L2.KOf KX) mg "level" At.s_level ["count","sums"] f fd:=by
   dsimp only [L2.KOf]
   refine' At.def_mk KX G ?a ?l ?c ?k (fun _ _ _ _ _ _ us hl=>match us,hl with | [_,_],_=>rfl)
   (case a=>k_is); (case l=>k_is); (case c=>k_is); (case k=>k_is)
  have h_d19:∃ f fd,At.Def (L2.KOf KX) mg "level_of_walk" At.s_level_of_walk ["count","sums","walk"] f fd:=by
   dsimp only [L2.KOf]
   refine' At.def_mk KX G ?a ?l ?c ?k (fun _ _ _ _ _ _ us hl=>match us,hl with | [_,_,_],_=>rfl)
   (case a=>k_is); (case l=>k_is); (case c=>k_is); (case k=>k_is)
  have h_d20:∃ f fd,At.Def (L2.KOf KX) mg "moved_up" At.s_moved_up ["ground","places","by"] f fd:=by
   dsimp only [L2.KOf]
   refine' At.def_mk KX G ?a ?l ?c ?k (fun _ _ _ _ _ _ us hl=>match us,hl with | [_,_,_],_=>rfl)
   (case a=>k_is); (case l=>k_is); (case c=>k_is); (case k=>k_is)
  have h_d21:∃ f fd,At.Def (L2.KOf KX) mg "heights" At.s_heights ["count","sayings"] f fd:=by
   dsimp only [L2.KOf]
   refine' At.def_mk KX G ?a ?l ?c ?k (fun _ _ _ _ _ _ us hl=>match us,hl with | [_,_],_=>rfl)
   (case a=>k_is); (case l=>k_is); (case c=>k_is); (case k=>k_is)
  have h_d22:∃ f fd,At.Def (L2.KOf KX) mg "needless" At.s_needless ["count","sayings","at"] f fd:=by
   dsimp only [L2.KOf]
   refine' At.def_mk KX G ?a ?l ?c ?k (fun _ _ _ _ _ _ us hl=>match us,hl with | [_,_,_],_=>rfl)
   (case a=>k_is); (case l=>k_is); (case c=>k_is); (case k=>k_is)
  have h_d23:∃ f fd,At.Def (L2.KOf KX) mg "_law_drawn" At.sDrawn ["_law_script","_law_count"] f fd:=by
   dsimp only [L2.KOf]
   refine' At.def_mk KX G ?a ?l ?c ?k (fun _ _ _ _ _ _ us hl=>match us,hl with | [_,_],_=>rfl)
   (case a=>k_is); (case l=>k_is); (case c=>k_is); (case k=>k_is)
  have h_d24:∃ f fd,At.Def (L2.KOf KX) mg "_law_sayings" At.sSays ["_law_script"] f fd:=by
   dsimp only [L2.KOf]
   refine' At.def_mk KX G ?a ?l ?c ?k (fun _ _ _ _ _ _ us hl=>match us,hl with | [_],_=>rfl)
   (case a=>k_is); (case l=>k_is); (case c=>k_is); (case k=>k_is)
  have h_d25:∃ f fd,At.Def (L2.KOf KX) mg "_law_sum" At.sLSum ["_law_sayings_here","_law_chain","_law_one","_law_other"] f fd:=by
   dsimp only [L2.KOf]
   refine' At.def_mk KX G ?a ?l ?c ?k (fun _ _ _ _ _ _ us hl=>match us,hl with | [_,_,_,_],_=>rfl)
   (case a=>k_is); (case l=>k_is); (case c=>k_is); (case k=>k_is)
  have h_d26:∃ f fd,At.Def (L2.KOf KX) mg "_law_kept" At.sLKept ["_law_count","_law_sayings_here","_law_row"] f fd:=by
   dsimp only [L2.KOf]
   refine' At.def_mk KX G ?a ?l ?c ?k (fun _ _ _ _ _ _ us hl=>match us,hl with | [_,_,_],_=>rfl)
   (case a=>k_is); (case l=>k_is); (case c=>k_is); (case k=>k_is)
  have h_d27:∃ f fd,At.Def (L2.KOf KX) mg "_law_ring" At.s__law_ring ["_law_sayings_here","_law_chain"] f fd:=by
   dsimp only [L2.KOf]
   refine' At.def_mk KX G ?a ?l ?c ?k (fun _ _ _ _ _ _ us hl=>match us,hl with | [_,_],_=>rfl)
   (case a=>k_is); (case l=>k_is); (case c=>k_is); (case k=>k_is)
  have h_d28:∃ f fd,At.Def (L2.KOf KX) mg "_law_broken" At.s__law_broken ["_law_error","_law_sayings_here"] f fd:=by
   dsimp only [L2.KOf]
   refine' At.def_mk KX G ?a ?l ?c ?k (fun _ _ _ _ _ _ us hl=>match us,hl with | [_,_],_=>rfl)
   (case a=>k_is); (case l=>k_is); (case c=>k_is); (case k=>k_is)
  have h_d29:∃ f fd,At.Def (L2.KOf KX) mg "_law_due" At.s__law_due ["_law_count","_law_sayings_here","_law_at","_law_found"] f fd:=by
   dsimp only [L2.KOf]
   refine' At.def_mk KX G ?a ?l ?c ?k (fun _ _ _ _ _ _ us hl=>match us,hl with | [_,_,_,_],_=>rfl)
   (case a=>k_is); (case l=>k_is); (case c=>k_is); (case k=>k_is)
  have h_d30:∃ f fd,At.Def (L2.KOf KX) mg "_law_right" At.s__law_right ["_law_count","_law_sayings_here","_law_at","_law_broken_here"] f fd:=by
   dsimp only [L2.KOf]
   refine' At.def_mk KX G ?a ?l ?c ?k (fun _ _ _ _ _ _ us hl=>match us,hl with | [_,_,_,_],_=>rfl)
   (case a=>k_is); (case l=>k_is); (case c=>k_is); (case k=>k_is)
  have h_w:∃ C f0 d0 f1 d1 f2 d2 f3 d3 f4 d4,At.WalkF (L2.KOf KX) mg C f0 d0 f1 d1 f2 d2 f3 d3 f4 d4:=by
   dsimp only [L2.KOf]
   refine' At.walkF_mk KX G ?w_aC ?w_pg ?w_hd ?w_po ?w_sa ?w_mk ?w_kc ?w_n1 ?w_n2 ?w_n3 ?w_a0 ?w_i0 ?w_l0 ?w_c0 ?w_k0 ?w_a1 ?w_i1 ?w_l1 ?w_c1 ?w_k1 ?w_a2 ?w_i2 ?w_l2 ?w_c2 ?w_k2 ?w_a3 ?w_i3 ?w_l3 ?w_c3 ?w_k3 ?w_a4 ?w_i4 ?w_l4 ?w_c4 ?w_k4
   (case w_aC=>k_is)
   (case w_pg=>k_is)
   (case w_hd=>k_is)
   (case w_po=>k_is)
   (case w_sa=>k_is)
   (case w_mk=>k_is)
   (case w_kc=>k_is)
   (case w_n1=>k_is)
   (case w_n2=>k_is)
   (case w_n3=>k_is)
   (case w_a0=>k_is)
   (case w_i0=>k_is)
   (case w_l0=>k_is)
   (case w_c0=>k_is)
   (case w_k0=>k_is)
   (case w_a1=>k_is)
   (case w_i1=>k_is)
   (case w_l1=>k_is)
   (case w_c1=>k_is)
   (case w_k1=>k_is)
   (case w_a2=>k_is)
   (case w_i2=>k_is)
   (case w_l2=>k_is)
   (case w_c2=>k_is)
   (case w_k2=>k_is)
   (case w_a3=>k_is)
   (case w_i3=>k_is)
   (case w_l3=>k_is)
   (case w_c3=>k_is)
   (case w_k3=>k_is)
   (case w_a4=>k_is)
   (case w_i4=>k_is)
   (case w_l4=>k_is)
   (case w_c4=>k_is)
   (case w_k4=>k_is)
  have h_b:∃ C C0 f fd c1 c2 c3 c4,At.BrokenF (L2.KOf KX) mg C C0 f fd c1 c2 c3 c4:=by
   dsimp only [L2.KOf]
   refine' At.brokenF_mk KX G ?b_aB ?b_a0 ?b_lB ?b_l0 ?b_n0 ?b_s0 ?b_i0 ?b_ini ?b_isf ?b_kpC ?b_sa ?b_mo ?b_nr ?b_bga ?b_brd ?b_bfi ?b_lf ?b_cf ?b_kf ?b_ga ?b_gr ?b_cl ?b_get ?b_tk ?b_bexc ?b_hdC ?b_b1 ?b_b2 ?b_b3 ?b_b4 ?b_e1 ?b_e2 ?b_e3 ?b_e4 ?b_eB
   (case b_aB=>k_is)
   (case b_a0=>k_is)
   (case b_lB=>k_is)
   (case b_l0=>k_is)
   (case b_n0=>k_is)
   (case b_s0=>rfl)
   (case b_i0=>k_is)
   (case b_ini=>k_is)
   (case b_isf=>k_is)
   (case b_kpC=>k_is)
   (case b_sa=>k_is)
   (case b_mo=>k_is)
   (case b_nr=>k_is)
   (case b_bga=>k_is)
   (case b_brd=>k_is)
   (case b_bfi=>k_is)
   (case b_lf=>k_is)
   (case b_cf=>k_is)
   (case b_kf=>k_is)
   (case b_ga=>k_is)
   (case b_gr=>k_is)
   (case b_cl=>k_is)
   (case b_get=>k_is)
   (case b_tk=>k_is)
   (case b_bexc=>k_is)
   (case b_hdC=>k_is)
   (case b_b1=>k_is)
   (case b_b2=>k_is)
   (case b_b3=>k_is)
   (case b_b4=>k_is)
   (case b_e1=>kit_is)
   (case b_e2=>kit_is)
   (case b_e3=>kit_is)
   (case b_e4=>kit_is)
   (case b_eB=>kit_is)
  have h_a:∃ cA cH cR cN cL c1 c2 c3 c5 fH dH fR dR fN dN fL dL gN eN gL eL,At.AnsFn (L2.KOf KX) mg cA cH cR cN cL c1 c2 c3 c5 fH dH fR dR fN dN fL dL gN eN gL eL:=by
   dsimp only [L2.KOf]
   refine' At.ansF_mk KX G ?a_aA ?a_aH ?a_aR ?a_aN ?a_aL ?a_a1 ?a_a2 ?a_a3 ?a_a5 ?a_pgH ?a_hdH ?a_poH ?a_saH ?a_mkH ?a_kcH ?a_nH0 ?a_pgR ?a_hdR ?a_poR ?a_saR ?a_mkR ?a_kcR ?a_nR0 ?a_pgN ?a_hdN ?a_poN ?a_saN ?a_mkN ?a_kcN ?a_nN0 ?a_pgL ?a_hdL ?a_poL ?a_saL ?a_mkL ?a_kcL ?a_nL0 ?a_f0 ?a_i0 ?a_l0 ?a_d0 ?a_k0 ?a_f1 ?a_i1 ?a_l1 ?a_d1 ?a_k1 ?a_f2 ?a_i2 ?a_l2 ?a_d2 ?a_k2 ?a_f3 ?a_i3 ?a_l3 ?a_d3 ?a_k3 ?a_f4 ?a_i4 ?a_l4 ?a_d4 ?a_k4 ?a_f5 ?a_i5 ?a_l5 ?a_d5 ?a_k5 ?a_haH ?a_moH ?a_haR ?a_moR ?a_haN ?a_moN ?a_haL ?a_moL ?a_get ?a_tk ?a_kHR ?a_kRR ?a_kNA ?a_kNN ?a_kNL ?a_kN1 ?a_kN2 ?a_kN3 ?a_kNH ?a_kN5 ?a_kNR ?a_kLA ?a_kLN ?a_kLL ?a_kL1 ?a_kL2 ?a_kL3 ?a_kLH ?a_kL5 ?a_kLR
   (case a_aA=>k_is)
   (case a_aH=>k_is)
   (case a_aR=>k_is)
   (case a_aN=>k_is)
   (case a_aL=>k_is)
   (case a_a1=>k_is)
   (case a_a2=>k_is)
   (case a_a3=>k_is)
   (case a_a5=>k_is)
   (case a_pgH=>k_is)
   (case a_hdH=>k_is)
   (case a_poH=>k_is)
   (case a_saH=>k_is)
   (case a_mkH=>k_is)
   (case a_kcH=>k_is)
   (case a_nH0=>k_is)
   (case a_pgR=>k_is)
   (case a_hdR=>k_is)
   (case a_poR=>k_is)
   (case a_saR=>k_is)
   (case a_mkR=>k_is)
   (case a_kcR=>k_is)
   (case a_nR0=>k_is)
   (case a_pgN=>k_is)
   (case a_hdN=>k_is)
   (case a_poN=>k_is)
   (case a_saN=>k_is)
   (case a_mkN=>k_is)
   (case a_kcN=>k_is)
   (case a_nN0=>k_is)
   (case a_pgL=>k_is)
   (case a_hdL=>k_is)
   (case a_poL=>k_is)
   (case a_saL=>k_is)
   (case a_mkL=>k_is)
   (case a_kcL=>k_is)
   (case a_nL0=>k_is)
   (case a_f0=>k_is)
   (case a_i0=>k_is)
   (case a_l0=>k_is)
   (case a_d0=>k_is)
   (case a_k0=>k_is)
   (case a_f1=>k_is)
   (case a_i1=>k_is)
   (case a_l1=>k_is)
   (case a_d1=>k_is)
   (case a_k1=>k_is)
   (case a_f2=>k_is)
   (case a_i2=>k_is)
   (case a_l2=>k_is)
   (case a_d2=>k_is)
   (case a_k2=>k_is)
   (case a_f3=>k_is)
   (case a_i3=>k_is)
   (case a_l3=>k_is)
   (case a_d3=>k_is)
   (case a_k3=>k_is)
   (case a_f4=>k_is)
   (case a_i4=>k_is)
   (case a_l4=>k_is)
   (case a_d4=>k_is)
   (case a_k4=>k_is)
   (case a_f5=>k_is)
   (case a_i5=>k_is)
   (case a_l5=>k_is)
   (case a_d5=>k_is)
   (case a_k5=>k_is)
   (case a_haH=>k_is)
   (case a_moH=>k_is)
   (case a_haR=>k_is)
   (case a_moR=>k_is)
   (case a_haN=>k_is)
   (case a_moN=>k_is)
   (case a_haL=>k_is)
   (case a_moL=>k_is)
   (case a_get=>k_is)
   (case a_tk=>k_is)
   (case a_kHR=>kit_is)
   (case a_kRR=>kit_is)
   (case a_kNA=>kit_is)
   (case a_kNN=>kit_is)
   (case a_kNL=>kit_is)
   (case a_kN1=>kit_is)
   (case a_kN2=>kit_is)
   (case a_kN3=>kit_is)
   (case a_kNH=>kit_is)
   (case a_kN5=>kit_is)
   (case a_kNR=>kit_is)
   (case a_kLA=>kit_is)
   (case a_kLN=>kit_is)
   (case a_kLL=>kit_is)
   (case a_kL1=>kit_is)
   (case a_kL2=>kit_is)
   (case a_kL3=>kit_is)
   (case a_kLH=>kit_is)
   (case a_kL5=>kit_is)
   (case a_kLR=>kit_is)
  have M:At.Defs2 (L2.KOf KX) mg:=⟨h_g,h_d1,h_d2,h_d3,h_d4,h_d5,h_d6,h_d7,h_d8,h_d9,h_d10,h_d11,h_d12,h_d13,h_d14,h_d15,h_d16,h_d17,h_d18,h_d19,h_d20,h_d21,h_d22,h_d23,h_d24,h_d25,h_d26,h_d27,h_d28,h_d29,h_d30,h_w,h_b,h_a⟩
  dsimp only [L2.KOf] at M
  refine' At.law_mk KX G hmg ?a ?l ?c ?k ?t M _ w
  (case a=>k_is); (case l=>k_is); (case c=>k_is); (case k=>k_is); (case t=>refine' At.tabIn_mk ?ta ?tl ?th ?tm ?tv; (case ta=>k_is); (case tl=>k_is); (case th=>rfl); (case tm=>k_is); (case tv=>rfl))
