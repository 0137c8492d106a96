import Derived.Test.YtdhgdcjmhofhaaaGreatD1
import Derived.WalkKit
set_option linter.all false
namespace Go.Proofs.YtdhgdcjmhofhaaaGreat.Tree
variable {a b c hi k:ByteArray}
theorem Nm:∀(a:List UInt8),Op.bytesLess a a=false
 |[]=>rfl
 |x :: a=>by simp[Op.bytesLess,Nm a]
theorem Wl:∀{a b c:List UInt8},Op.bytesLess a b=true->Op.bytesLess b c=true->Op.bytesLess a c=true
 |_,[],_,d,_=>by simp[Op.bytesLess]at d
 |_,_ :: _,[],_,d=>by simp[Op.bytesLess]at d
 |[],_ :: _,_ :: _,_,_=>rfl
 |x :: a,y :: b,z :: c,d,e=>by
  simp only[Op.bytesLess,DZ,AM,BO,CU]at d e⊢;rcases d with d|⟨rfl,d⟩
  .grind
  .rcases e with e|⟨rfl,e⟩
   .grind
   .exact .inr ⟨rfl,Wl d e⟩
theorem Wm:∀(a b:List UInt8),Op.bytesLess a b=false->Op.bytesLess b a=false->a=b
 |[],[],_,_=>rfl
 |[],_ :: _,d,_=>by simp[Op.bytesLess]at d
 |_ :: _,[],_,d=>by simp[Op.bytesLess]at d
 |x :: a,y :: b,d,k=>by
  simp only[Op.bytesLess,Bool.or_eq_false_iff,Bool.and_eq_false_iff,EW,DP]at d k;have⟨g,h⟩:=d;have⟨j,l⟩:=k;have f:x=y:=by
   grind
  subst f;have i:Op.bytesLess a b=false:=ζ
  have m:Op.bytesLess b a=false:=ζ
  rw[Wm a b i m]
def lt(a b:ByteArray):Bool:=Op.bytesLess a.toList b.toList
theorem iV (h:a.toList=b.toList):a=b:=by
 have c:a.data.toList=b.data.toList:=by rw[<-ByteArray.toList_eq,<-ByteArray.toList_eq,h]
 exact FZ (Array.toList_inj.1 c)
theorem cP(a):lt a a=false:=Nm _
theorem fG (h:lt a b=true)(k:lt b c=true):lt a c=true:=Wl h k
theorem Hh (h:lt a b=true):lt b a=false:=by
 cases k:lt b a
 .rfl
 .have:=fG h k;rw[cP]at this;cases this
theorem lQ (h:lt a b=false)(k:lt b a=false):a=b:=iV (Wm _ _ h k)
def le(a b:ByteArray):Bool:=!lt b a
theorem bG(a):le a a=true:=by simp[le,cP]
theorem iF (h:lt a b=true):le a b=true:=by simp[le,Hh h]
theorem eB (h:le a b=true)(k:lt b c=true):lt a c=true:=by
 cases e:lt a b
 .have:=by simpa[le] using h
  rw[lQ e this];exact k
 .exact fG e k
theorem cD (h:lt a b=true)(k:le b c=true):lt a c=true:=by
 cases e:lt b c
 .have:=by simpa[le] using k
  rw[<-lQ e this];exact h
 .exact fG h e
theorem bH (h:le a b=true)(k:le b c=true):le a c=true:=by
 cases e:lt c a
 .simp[le,e]
 .have d:=by simpa[le] using h
  have:=eB k e;grind
theorem Su (h:le a b=true)(k:le b a=true):a=b:=lQ (by simpa[le] using k) (by simpa[le] using h)
theorem Ss(a b):le a b=true\/lt b a=true:=by cases h:lt b a<;>simp[le,h]
theorem pC(a b):lt a b=true\/le b a=true:=(Ss b a).symm
theorem Gx:lt a b=false↔le b a=true:=by simp[le]
theorem Si (h:lt a b=true):a≠b:=λc=>by subst c;rw[cP]at h;cases h
theorem Be(a):le ⟨#[]⟩ a=true:=by
 have:(⟨#[]⟩:ByteArray).toList=[]:=by rw[ByteArray.toList_eq]
 unfold le lt;rw[this];cases a.toList<;>rfl
theorem Yv(a):lt a ⟨#[]⟩=false:=Gx.2 (Be a)
theorem vQ (h:a.size=0):a=⟨#[]⟩:=by
 have:=h;exact FZ (Array.size_eq_zero_iff.1 this)
theorem qDe:∀(a b:List UInt8),Op.bytesLess b (a++[0])=true->Op.bytesLess b a=true\/b=a
 |[],[],_=>.inr rfl
 |[],y :: b,c=>by
  simp only[List.nil_append,Op.bytesLess,DZ,AM,BO,CU]at c;grind
 |x :: a,[],_=>.inl rfl
 |x :: a,y :: b,c=>by
  simp only[List.cons_append,Op.bytesLess,DZ,AM,BO,CU]at c⊢;rcases c with c|⟨rfl,c⟩
  .grind
  .rcases qDe a b c with c|c
   .grind
   grind
theorem qDd:∀(a:List UInt8),Op.bytesLess a (a++[0])=true
 |[]=>rfl
 |x :: a=>by simp[Op.bytesLess,qDd a]
structure Sp where
 lo:ByteArray
 hi:ByteArray
def isNil(a:ByteArray):Bool:=a.toList.isEmpty
def Sp.below(hi k:ByteArray):Bool:=isNil hi||lt k hi
def Sp.has(s:Sp)(k:ByteArray):Bool:=le s.lo k&&Sp.below s.hi k
def Sp.meets(s o:Sp):Bool:=Sp.below s.hi o.lo&&Sp.below o.hi s.lo
def Zq(a b:ByteArray):Bool:=isNil b||(!isNil a&&le a b)
theorem mN:isNil a=true↔a=⟨#[]⟩:=⟨λb=>by
  have c:=by simpa[isNil] using b
  rw[ByteArray.toList_eq]at c;exact vQ (by show a.data.size=0;simp_all),λb=>by subst b;simp[isNil,ByteArray.toList_eq]⟩
theorem Tt:isNil a=false↔a≠⟨#[]⟩:=by rw[Ne,<-mN];simp
theorem gK:Sp.below hi k=true↔hi=⟨#[]⟩\/lt k hi=true:=by simp[Sp.below,mN]
theorem Hx:Zq a b=true↔b=⟨#[]⟩\/(a≠⟨#[]⟩/\le a b=true):=by simp[Zq,mN,Tt]
theorem qGk(a):Zq a a=true:=by
 rw[Hx];by_cases h:a=⟨#[]⟩
 .grind
 .exact .inr ⟨h,bG a⟩
theorem qAv (h:Zq a b=true)(c:Sp.below a k=true):Sp.below b k=true:=by
 rw[gK]at *;rw[Hx]at h;rcases h with h|⟨d,e⟩
 .grind
 .rcases c with c|c
  .grind
  .exact .inr (cD c e)
theorem below_le{hi j k}(h:le j k=true)(a:Sp.below hi k=true):Sp.below hi j=true:=by
 rw[gK]at *;exact a.imp id (eB h)
theorem Kf (a:Sp.below hi k=true)(c:k≠⟨#[]⟩):Zq k hi=true:=by
 rw[gK]at a;rw[Hx];exact a.imp id (λb=>⟨c,iF b⟩)
def parts{α:Type}(s:Sp):List ByteArray->List α->List (α×Sp)
 |_,[]=>[]
 |[],k :: kids=>(k,s):: parts ⟨s.hi,s.hi⟩ [] kids
 |q :: ks,k :: kids=>(k,⟨s.lo,q⟩):: parts ⟨q,s.hi⟩ ks kids
theorem dA{b:Type}:∀(s:Sp) (ks:List ByteArray) (a:List b),(parts s ks a).length=a
 |_,_,[]=>by simp[parts]
 |s,[],k :: a=>by simp[parts,dA ⟨s.hi,s.hi⟩ [] a]
 |s,q :: ks,k :: a=>by simp[parts,dA ⟨q,s.hi⟩ ks a]
def kQ(s:Sp)(ks:List ByteArray)(j:Nat):ByteArray:=if j=0 then s.lo else (ks[j-1]?).getD s.hi
def rO(s:Sp)(ks:List ByteArray)(j:Nat):ByteArray:=(ks[j]?).getD s.hi
theorem qFz(s ks j):kQ s ks (j+1)=rO s ks j:=by rfl
theorem fF{c:Type}:∀(s:Sp) (ks:List ByteArray) (a:List c) (j:Nat) (b:j<a),(parts s ks a)[j]?=some (a[j],⟨kQ s ks j,rO s ks j⟩)
 |_,_,[],j,b=>by simp at b
 |s,[],k :: a,j,b=>by
  cases j with
  |zero=>rfl
  |succ j =>
   have:=fF ⟨s.hi,s.hi⟩ [] a j ζ;simp only[parts,KU,this,DL];cases j<;>simp[kQ,rO]
 |s,q :: ks,k :: a,j,b=>by
  cases j with
  |zero=>rfl
  |succ j =>
   have:=fF ⟨q,s.hi⟩ ks a j ζ;simp only[parts,KU,this,DL];cases j<;>simp[kQ,rO]
theorem rA{b β}(f:b->β):∀(s:Sp) (ks:List ByteArray) (a:List b),parts s ks (a.map f)=(parts s ks a).map (λx=>(f x.1,x.2))
 |_,_,[]=>by simp[parts]
 |s,[],k :: a=>by simp[parts,rA f ⟨s.hi,s.hi⟩ [] a]
 |s,q :: ks,k :: a=>by simp[parts,rA f ⟨q,s.hi⟩ ks a]
theorem yL{a:Type}{l:List a}{j x}(h:l[j]?=some x):l=l.take j++x :: l.drop (j+1):=by
 obtain⟨b,rfl⟩:=AD.1 h;rw[<-BZ b,BU]
theorem sB{a:Type}{l:List a}{j x}(h:l[j]?=some x):l.take (j+1)=l.take j++[x]:=by
 obtain⟨b,rfl⟩:=AD.1 h;simp
