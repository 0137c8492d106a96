import Derived.WalkKit
set_option linter.unusedSimpArgs false
set_option linter.unusedVariables false
namespace Go.Proofs.YtpifffkkgnbfpaaGreat.Tree
variable {a b c hi k:ByteArray} {α:Type}
theorem It:∀ (a:List UInt8),Op.bytesLess a a=false
 | []=>rfl
 | x :: a=>by simp [Op.bytesLess,It a]
theorem Pd:∀ {a b c:List UInt8},Op.bytesLess a b=true→Op.bytesLess b c=true→Op.bytesLess a c=true
 | _,[],_,h,_=>by simp [Op.bytesLess] at h
 | _,_ :: _,[],_,h=>by simp [Op.bytesLess] at h
 | [],_ :: _,_ :: _,_,_=>rfl
 | x :: a,y :: b,z :: c,h,k=>by
  simp only [Op.bytesLess,Bool.or_eq_true,Bool.and_eq_true,decide_eq_true_eq,beq_iff_eq] at h k ⊢
  rcases h with h|⟨rfl,h⟩
  ·rcases k with k|⟨rfl,k⟩
   ·exact .inl (UInt8.lt_trans h k)
   ·exact .inl h
  ·rcases k with k|⟨rfl,k⟩
   ·exact .inl k
   ·exact .inr ⟨rfl,Pd h k⟩
theorem Pe:∀ (a b:List UInt8),Op.bytesLess a b=false→Op.bytesLess b a=false→a=b
 | [],[],_,_=>rfl
 | [],_ :: _,h,_=>by simp [Op.bytesLess] at h
 | _ :: _,[],_,h=>by simp [Op.bytesLess] at h
 | x :: a,y :: b,h,k=>by
  simp only [Op.bytesLess,Bool.or_eq_false_iff,Bool.and_eq_false_iff,decide_eq_false_iff_not,beq_eq_false_iff_ne] at h k
  obtain⟨h1,h2⟩:=h
  obtain⟨k1,k2⟩:=k
  have e:x=y:=by
   have:=UInt8.lt_or_lt_of_ne (a:=x) (b:=y)
   by_cases c:x=y
   ·exact c
   ·rcases this c with l|l
    ·exact absurd l h1
    ·exact absurd l k1
  subst e
  have h2':Op.bytesLess a b=false:=by exact h2.elim (fun h=>absurd rfl h) id
  have k2':Op.bytesLess b a=false:=by exact k2.elim (fun h=>absurd rfl h) id
  rw [Pe a b h2' k2']
def lt (a b:ByteArray):Bool:=Op.bytesLess a.toList b.toList
theorem pR (h:a.toList=b.toList):a=b:=by
 have ha:a.data.toList=b.data.toList:=by rw [← ByteArray.toList_eq,← ByteArray.toList_eq,h]
 exact ByteArray.ext (Array.toList_inj.1 ha)
theorem bU (a:ByteArray):lt a a=false:=It _
theorem gB (h:lt a b=true) (k:lt b c=true):lt a c=true:=Pd h k
theorem vE (h:lt a b=true):lt b a=false:=by
 cases k:lt b a
 ·rfl
 ·have:=gB h k;rw [bU] at this;cases this
theorem mQ (h:lt a b=false) (k:lt b a=false):a=b:=pR (Pe _ _ h k)
def le (a b:ByteArray):Bool:=!lt b a
theorem bF (a:ByteArray):le a a=true:=by simp [le,bU]
theorem kJ (h:lt a b=true):le a b=true:=by simp [le,vE h]
theorem gC (h:le a b=true) (k:lt b c=true):lt a c=true:=by
 cases e:lt a b
 ·have:lt b a=false:=by simpa [le] using h
  rw [mQ e this];exact k
 ·exact gB e k
theorem cD (h:lt a b=true) (k:le b c=true):lt a c=true:=by
 cases e:lt b c
 ·have:lt c b=false:=by simpa [le] using k
  rw [← mQ e this];exact h
 ·exact gB h e
theorem bO (h:le a b=true) (k:le b c=true):le a c=true:=by
 cases e:lt c a
 ·simp [le,e]
 ·have h1:lt b a=false:=by simpa [le] using h
  have:=gC k e
  rw [h1] at this;cases this
theorem Mj (h:le a b=true) (k:le b a=true):a=b:=mQ (by simpa [le] using k) (by simpa [le] using h)
theorem Mi (a b:ByteArray):le a b=true∨lt b a=true:=by cases h:lt b a<;>simp [le,h]
theorem Me (a b:ByteArray):lt a b=true∨le b a=true:=(Mi b a).symm
theorem Ci:lt a b=false↔le b a=true:=by simp [le]
theorem To (h:lt a b=true):a≠b:=fun e=>by subst e;rw [bU] at h;cases h
theorem Cl (a:ByteArray):le ⟨#[]⟩ a=true:=by
 have:(⟨#[]⟩:ByteArray).toList=[]:=by rw [ByteArray.toList_eq]
 unfold le lt
 rw [this]
 cases a.toList<;>rfl
theorem qAi (a:ByteArray):lt a ⟨#[]⟩=false:=Ci.2 (Cl a)
theorem oQ (h:a.size=0):a=⟨#[]⟩:=by
 have:a.data.size=0:=h
 exact ByteArray.ext (Array.size_eq_zero_iff.1 this)
theorem Up:∀ (a b:List UInt8),Op.bytesLess b (a++[0])=true→Op.bytesLess b a=true∨b=a
 | [],[],_=>.inr rfl
 | [],y :: b,h=>by
  simp only [List.nil_append,Op.bytesLess,Bool.or_eq_true,Bool.and_eq_true,decide_eq_true_eq,beq_iff_eq] at h
  rcases h with h|⟨_,h⟩
  ·have:=UInt8.lt_iff_toNat_lt.1 h;simp at this
  ·cases b<;>simp [Op.bytesLess] at h
 | x :: a,[],_=>.inl rfl
 | x :: a,y :: b,h=>by
  simp only [List.cons_append,Op.bytesLess,Bool.or_eq_true,Bool.and_eq_true,decide_eq_true_eq,beq_iff_eq] at h ⊢
  rcases h with h|⟨rfl,h⟩
  ·exact .inl (.inl h)
  ·rcases Up a b h with h|h
   ·exact .inl (.inr ⟨rfl,h⟩)
   ·exact .inr (by rw [h])
theorem Uo:∀ (a:List UInt8),Op.bytesLess a (a++[0])=true
 | []=>rfl
 | x :: a=>by simp [Op.bytesLess,Uo a]
structure Sp where
 lo:ByteArray
 hi:ByteArray
def isNil (a:ByteArray):Bool:=a.toList.isEmpty
def Sp.below (hi k:ByteArray):Bool:=isNil hi||lt k hi
def Sp.has (s:Sp) (k:ByteArray):Bool:=le s.lo k&&Sp.below s.hi k
def Sp.meets (s o:Sp):Bool:=Sp.below s.hi o.lo&&Sp.below o.hi s.lo
def Rn (a b:ByteArray):Bool:=isNil b||(!isNil a&&le a b)
theorem mB:isNil a=true↔a=⟨#[]⟩:=⟨fun h=>by
  have h':a.toList=[]:=by simpa [isNil] using h
  rw [ByteArray.toList_eq] at h'
  exact oQ (by show a.data.size=0;rw [← Array.length_toList,h'];rfl),fun h=>by subst h;simp [isNil,ByteArray.toList_eq]⟩
theorem Mz:isNil a=false↔a≠⟨#[]⟩:=by rw [Ne,← mB];simp
theorem fH:Sp.below hi k=true↔hi=⟨#[]⟩∨lt k hi=true:=by simp [Sp.below,mB]
theorem Di:Rn a b=true↔b=⟨#[]⟩∨(a≠⟨#[]⟩∧le a b=true):=by simp [Rn,mB,Mz]
theorem Xm (a:ByteArray):Rn a a=true:=by
 rw [Di]
 by_cases h:a=⟨#[]⟩
 ·exact .inl h
 ·exact .inr ⟨h,bF a⟩
theorem Ss (h:Rn a b=true) (hk:Sp.below a k=true):Sp.below b k=true:=by
 rw [fH] at *
 rw [Di] at h
 rcases h with h|⟨h1,h2⟩
 ·exact .inl h
 ·rcases hk with hk|hk
  ·exact absurd hk h1
  ·exact .inr (cD hk h2)
theorem below_le {hi j k:ByteArray} (h:le j k=true) (hk:Sp.below hi k=true):Sp.below hi j=true:=by
 rw [fH] at *
 exact hk.imp id (gC h)
theorem Fj (hk:Sp.below hi k=true) (hne:k≠⟨#[]⟩):Rn k hi=true:=by
 rw [fH] at hk
 rw [Di]
 exact hk.imp id (fun h=>⟨hne,kJ h⟩)
def parts {α:Type} (s:Sp):List ByteArray→List α→List (α×Sp)
 | _,[]=>[]
 | [],k :: kids=>(k,s) :: parts ⟨s.hi,s.hi⟩ [] kids
 | q :: ks,k :: kids=>(k,⟨s.lo,q⟩) :: parts ⟨q,s.hi⟩ ks kids
theorem fL:∀ (s:Sp) (ks:List ByteArray) (kids:List α),(parts s ks kids).length=kids.length
 | _,_,[]=>by simp [parts]
 | s,[],k :: kids=>by simp [parts,fL ⟨s.hi,s.hi⟩ [] kids]
 | s,q :: ks,k :: kids=>by simp [parts,fL ⟨q,s.hi⟩ ks kids]
def oG (s:Sp) (ks:List ByteArray) (j:Nat):ByteArray:=if j=0 then s.lo else (ks[j-1]?).getD s.hi
def nI (s:Sp) (ks:List ByteArray) (j:Nat):ByteArray:=(ks[j]?).getD s.hi
theorem Hg (s:Sp) (ks:List ByteArray) (j:Nat):oG s ks (j+1)=nI s ks j:=by simp [oG,nI]
theorem iP:∀ (s:Sp) (ks:List ByteArray) (kids:List α) (j:Nat) (hj:j<kids.length),(parts s ks kids)[j]?=some (kids[j],⟨oG s ks j,nI s ks j⟩)
 | _,_,[],j,hj=>by simp at hj
 | s,[],k :: kids,j,hj=>by
  cases j with
  | zero=>simp [parts,oG,nI]
  | succ j =>
   have:=iP ⟨s.hi,s.hi⟩ [] kids j (by simpa using hj)
   simp only [parts,List.getElem?_cons_succ,this,List.getElem_cons_succ]
   cases j<;>simp [oG,nI]
 | s,q :: ks,k :: kids,j,hj=>by
  cases j with
  | zero=>simp [parts,oG,nI]
  | succ j =>
   have:=iP ⟨q,s.hi⟩ ks kids j (by simpa using hj)
   simp only [parts,List.getElem?_cons_succ,this,List.getElem_cons_succ]
   cases j<;>simp [oG,nI]
theorem pB {α β:Type} (f:α→β):∀ (s:Sp) (ks:List ByteArray) (kids:List α),parts s ks (kids.map f)=(parts s ks kids).map (fun x=>(f x.1,x.2))
 | _,_,[]=>by simp [parts]
 | s,[],k :: kids=>by simp [parts,pB f ⟨s.hi,s.hi⟩ [] kids]
 | s,q :: ks,k :: kids=>by simp [parts,pB f ⟨q,s.hi⟩ ks kids]
theorem uQ {l:List α} {j:Nat} {x:α} (h:l[j]?=some x):l=l.take j++x :: l.drop (j+1):=by
 obtain⟨hj,rfl⟩:=List.getElem?_eq_some_iff.1 h
 rw [← List.drop_eq_getElem_cons hj,List.take_append_drop]
theorem tJ {l:List α} {j:Nat} {x:α} (h:l[j]?=some x):l.take (j+1)=l.take j++[x]:=by
 obtain⟨hj,rfl⟩:=List.getElem?_eq_some_iff.1 h
 exact List.take_succ_eq_append_getElem hj
