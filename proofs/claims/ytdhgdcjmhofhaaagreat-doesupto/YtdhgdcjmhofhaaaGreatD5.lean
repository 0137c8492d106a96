import Derived.Test.YtdhgdcjmhofhaaaGreatD1
import Derived.WalkKit
set_option linter.all false
namespace Go.Proofs.YtdhgdcjmhofhaaaGreat.Tree
variable {a b c hi k:ByteArray}
theorem Jl:∀(a:List UInt8),Op.bytesLess a a=false
 |[]=>rfl
 |x :: a=>by simp[Op.bytesLess,Jl a]
theorem Rq:∀{a b c:List UInt8},Op.bytesLess a b=true->Op.bytesLess b c=true->Op.bytesLess a c=true
 |_,[],_,d,_=>by simp[Op.bytesLess]at d
 |_,_ :: _,[],_,d=>by simp[Op.bytesLess]at d
 |[],_ :: _,_ :: _,_,_=>rfl
 |x :: a,y :: b,z :: c,d,e=>by
  simp only[Op.bytesLess,DN,AN,BQ,CP]at d e⊢;rcases d with d|⟨rfl,d⟩
  ·grind
  ·rcases e with e|⟨rfl,e⟩
   ·grind
   ·exact .inr ⟨rfl,Rq d e⟩
theorem Rr:∀(a b:List UInt8),Op.bytesLess a b=false->Op.bytesLess b a=false->a=b
 |[],[],_,_=>rfl
 |[],_ :: _,d,_=>by simp[Op.bytesLess]at d
 |_ :: _,[],_,d=>by simp[Op.bytesLess]at d
 |x :: a,y :: b,d,k=>by
  simp only[Op.bytesLess,Bool.or_eq_false_iff,Bool.and_eq_false_iff,FD,DH]at d k;have⟨g,h⟩:=d;have⟨j,l⟩:=k;have f:x=y:=by
   grind
  subst f;have i:Op.bytesLess a b=false:=by grind
  have m:Op.bytesLess b a=false:=by grind
  rw[Rr a b i m]
def lt(a b:ByteArray):Bool:=Op.bytesLess a.toList b.toList
theorem iB (h:a.toList=b.toList):a=b:=by
 have c:a.data.toList=b.data.toList:=by rw[<-ByteArray.toList_eq,<-ByteArray.toList_eq,h]
 exact GO (Array.toList_inj.1 c)
theorem cF(a):lt a a=false:=Jl _
theorem eV (h:lt a b=true)(k:lt b c=true):lt a c=true:=Rq h k
theorem Dv (h:lt a b=true):lt b a=false:=by
 cases k:lt b a
 ·rfl
 ·have:=eV h k;rw[cF]at this;cases this
theorem kU (h:lt a b=false)(k:lt b a=false):a=b:=iB (Rr _ _ h k)
def le(a b:ByteArray):Bool:=!lt b a
theorem bI(a):le a a=true:=by simp[le,cF]
theorem gN (h:lt a b=true):le a b=true:=by simp[le,Dv h]
theorem dS (h:le a b=true)(k:lt b c=true):lt a c=true:=by
 cases e:lt a b
 ·have:lt b a=false:=by simpa[le] using h
  rw[kU e this];exact k
 ·exact eV e k
theorem bT (h:lt a b=true)(k:le b c=true):lt a c=true:=by
 cases e:lt b c
 ·have:lt c b=false:=by simpa[le] using k
  rw[<-kU e this];exact h
 ·exact eV h e
theorem bF (h:le a b=true)(k:le b c=true):le a c=true:=by
 cases e:lt c a
 ·simp[le,e]
 ·have d:lt b a=false:=by simpa[le] using h
  have:=dS k e;grind
theorem Nx (h:le a b=true)(k:le b a=true):a=b:=kU (by simpa[le] using k) (by simpa[le] using h)
theorem Nw(a b):le a b=true\/lt b a=true:=by cases h:lt b a<;>simp[le,h]
theorem sL(a b):lt a b=true\/le b a=true:=(Nw b a).symm
theorem Di:lt a b=false↔le b a=true:=by simp[le]
theorem Np (h:lt a b=true):a≠b:=λc=>by subst c;rw[cF]at h;cases h
theorem xS(a):le ⟨#[]⟩ a=true:=by
 have:(⟨#[]⟩:ByteArray).toList=[]:=by rw[ByteArray.toList_eq]
 unfold le lt;rw[this];cases a.toList<;>rfl
theorem Tq(a):lt a ⟨#[]⟩=false:=Di.2 (xS a)
theorem tJ (h:a.size=0):a=⟨#[]⟩:=by
 have:=h;exact GO (Array.size_eq_zero_iff.1 this)
theorem Ya:∀(a b:List UInt8),Op.bytesLess b (a++[0])=true->Op.bytesLess b a=true\/b=a
 |[],[],_=>.inr rfl
 |[],y :: b,c=>by
  simp only[List.nil_append,Op.bytesLess,DN,AN,BQ,CP]at c;grind
 |x :: a,[],_=>.inl rfl
 |x :: a,y :: b,c=>by
  simp only[List.cons_append,Op.bytesLess,DN,AN,BQ,CP]at c⊢;rcases c with c|⟨rfl,c⟩
  ·grind
  ·rcases Ya a b c with c|c
   ·grind
   grind
theorem Xz:∀(a:List UInt8),Op.bytesLess a (a++[0])=true
 |[]=>rfl
 |x :: a=>by simp[Op.bytesLess,Xz a]
structure Sp where
 lo:ByteArray
 hi:ByteArray
def isNil(a:ByteArray):Bool:=a.toList.isEmpty
def Sp.below(hi k:ByteArray):Bool:=isNil hi||lt k hi
def Sp.has(s:Sp)(k:ByteArray):Bool:=le s.lo k&&Sp.below s.hi k
def Sp.meets(s o:Sp):Bool:=Sp.below s.hi o.lo&&Sp.below o.hi s.lo
def Un(a b:ByteArray):Bool:=isNil b||(!isNil a&&le a b)
theorem lN:isNil a=true↔a=⟨#[]⟩:=⟨λb=>by
  have c:a.toList=[]:=by simpa[isNil] using b
  rw[ByteArray.toList_eq]at c;exact tJ (by show a.data.size=0;simp_all),λb=>by subst b;simp[isNil,ByteArray.toList_eq]⟩
theorem Oy:isNil a=false↔a≠⟨#[]⟩:=by rw[Ne,<-lN];simp
theorem fW:Sp.below hi k=true↔hi=⟨#[]⟩\/lt k hi=true:=by simp[Sp.below,lN]
theorem Ek:Un a b=true↔b=⟨#[]⟩\/(a≠⟨#[]⟩/\le a b=true):=by simp[Un,lN,Oy]
theorem qAm(a):Un a a=true:=by
 rw[Ek];by_cases h:a=⟨#[]⟩
 ·grind
 ·exact .inr ⟨h,bI a⟩
theorem Vr (h:Un a b=true)(c:Sp.below a k=true):Sp.below b k=true:=by
 rw[fW]at *;rw[Ek]at h;rcases h with h|⟨d,e⟩
 ·grind
 ·rcases c with c|c
  ·grind
  ·exact .inr (bT c e)
theorem below_le{hi j k}(h:le j k=true)(a:Sp.below hi k=true):Sp.below hi j=true:=by
 rw[fW]at *;exact a.imp id (dS h)
theorem Gr (a:Sp.below hi k=true)(c:k≠⟨#[]⟩):Un k hi=true:=by
 rw[fW]at a;rw[Ek];exact a.imp id (λb=>⟨c,gN b⟩)
def parts{α:Type}(s:Sp):List ByteArray->List α->List (α×Sp)
 |_,[]=>[]
 |[],k :: kids=>(k,s):: parts ⟨s.hi,s.hi⟩ [] kids
 |q :: ks,k :: kids=>(k,⟨s.lo,q⟩):: parts ⟨q,s.hi⟩ ks kids
theorem cI{b}:∀(s:Sp) (ks:List ByteArray) (a:List b),(parts s ks a).length=a.length
 |_,_,[]=>by simp[parts]
 |s,[],k :: a=>by simp[parts,cI ⟨s.hi,s.hi⟩ [] a]
 |s,q :: ks,k :: a=>by simp[parts,cI ⟨q,s.hi⟩ ks a]
def kV(s:Sp)(ks:List ByteArray)(j:Nat):ByteArray:=if j=0 then s.lo else (ks[j-1]?).getD s.hi
def pF(s:Sp)(ks:List ByteArray)(j:Nat):ByteArray:=(ks[j]?).getD s.hi
theorem Ih(s ks j):kV s ks (j+1)=pF s ks j:=by rfl
theorem fH{c}:∀(s:Sp) (ks:List ByteArray) (a:List c) (j:Nat) (b:j<a.length),(parts s ks a)[j]?=some (a[j],⟨kV s ks j,pF s ks j⟩)
 |_,_,[],j,b=>by simp at b
 |s,[],k :: a,j,b=>by
  cases j with
  |zero=>rfl
  |succ j =>
   have:=fH ⟨s.hi,s.hi⟩ [] a j (by grind);simp only[parts,JQ,this,DE];cases j<;>simp[kV,pF]
 |s,q :: ks,k :: a,j,b=>by
  cases j with
  |zero=>rfl
  |succ j =>
   have:=fH ⟨q,s.hi⟩ ks a j (by grind);simp only[parts,JQ,this,DE];cases j<;>simp[kV,pF]
theorem mR{b β}(f:b->β):∀(s:Sp) (ks:List ByteArray) (a:List b),parts s ks (a.map f)=(parts s ks a).map (λx=>(f x.1,x.2))
 |_,_,[]=>by simp[parts]
 |s,[],k :: a=>by simp[parts,mR f ⟨s.hi,s.hi⟩ [] a]
 |s,q :: ks,k :: a=>by simp[parts,mR f ⟨q,s.hi⟩ ks a]
theorem rT{a:Type}{l:List a}{j x}(h:l[j]?=some x):l=l.take j++x :: l.drop (j+1):=by
 obtain⟨b,rfl⟩:=AD.1 h;rw[<-CC b,CB]
theorem nG{a:Type}{l:List a}{j x}(h:l[j]?=some x):l.take (j+1)=l.take j++[x]:=by
 obtain⟨b,rfl⟩:=AD.1 h;simp
