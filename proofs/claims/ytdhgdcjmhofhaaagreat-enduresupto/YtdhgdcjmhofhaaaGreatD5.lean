import Derived.Test.YtdhgdcjmhofhaaaGreatD1
import Derived.WalkKit
set_option linter.all false
namespace Go.Proofs.YtdhgdcjmhofhaaaGreat.Tree
variable {a b c hi k:ByteArray}
def Kt:∀(a:List UInt8),Op.bytesLess a a=false
 |[]=>rfl
 |x :: a=>by simp[Op.bytesLess,Kt a]
def Sy:∀{a b c:List UInt8},Op.bytesLess a b=true->Op.bytesLess b c=true->Op.bytesLess a c=true
 |_,[],_,d,_=>by simp[Op.bytesLess]at d
 |_,_ :: _,[],_,d=>by simp[Op.bytesLess]at d
 |[],_ :: _,_ :: _,_,_=>rfl
 |x :: a,y :: b,z :: c,d,e=>by
  simp only[Op.bytesLess,DR,AP,BT,CT]at d e⊢;rcases d with d|⟨rfl,d⟩
  .grind
  .rcases e with e|⟨rfl,e⟩
   .grind
   .exact .inr ⟨rfl,Sy d e⟩
def Sz:∀(a b:List UInt8),Op.bytesLess a b=false->Op.bytesLess b a=false->a=b
 |[],[],_,_=>rfl
 |[],_ :: _,d,_=>by simp[Op.bytesLess]at d
 |_ :: _,[],_,d=>by simp[Op.bytesLess]at d
 |x :: a,y :: b,d,k=>by
  simp only[Op.bytesLess,Bool.or_eq_false_iff,Bool.and_eq_false_iff,FL,DK]at d k;have⟨g,h⟩:=d;have⟨j,l⟩:=k;have f:x=y:=by
   grind
  subst f;have i:Op.bytesLess a b=false:=by grind
  have m:Op.bytesLess b a=false:=by grind
  rw[Sz a b i m]
def lt(a b:ByteArray):Bool:=Op.bytesLess a.toList b.toList
def iM (h:a.toList=b.toList):a=b:=by
 have c:a.data.toList=b.data.toList:=by rw[<-ByteArray.toList_eq,<-ByteArray.toList_eq,h]
 exact FO (Array.toList_inj.1 c)
def cI(a):lt a a=false:=Kt _
def eY (h:lt a b=true)(k:lt b c=true):lt a c=true:=Sy h k
def Ex (h:lt a b=true):lt b a=false:=by
 cases k:lt b a
 .rfl
 .have:=eY h k;rw[cI]at this;cases this
def lE (h:lt a b=false)(k:lt b a=false):a=b:=iM (Sz _ _ h k)
def le(a b:ByteArray):Bool:=!lt b a
def bD(a):le a a=true:=by simp[le,cI]
def gV (h:lt a b=true):le a b=true:=by simp[le,Ex h]
def dZ (h:le a b=true)(k:lt b c=true):lt a c=true:=by
 cases e:lt a b
 .have:lt b a=false:=by simpa[le] using h
  rw[lE e this];exact k
 .exact eY e k
def cA (h:lt a b=true)(k:le b c=true):lt a c=true:=by
 cases e:lt b c
 .have:lt c b=false:=by simpa[le] using k
  rw[<-lE e this];exact h
 .exact eY h e
def bG (h:le a b=true)(k:le b c=true):le a c=true:=by
 cases e:lt c a
 .simp[le,e]
 .have d:lt b a=false:=by simpa[le] using h
  have:=dZ k e;grind
def Pl (h:le a b=true)(k:le b a=true):a=b:=lE (by simpa[le] using k) (by simpa[le] using h)
def Pk(a b):le a b=true\/lt b a=true:=by cases h:lt b a<;>simp[le,h]
def qK(a b):lt a b=true\/le b a=true:=(Pk b a).symm
def El:lt a b=false↔le b a=true:=by simp[le]
def Pa (h:lt a b=true):a≠b:=λc=>by subst c;rw[cI]at h;cases h
def yY(a):le ⟨#[]⟩ a=true:=by
 have:(⟨#[]⟩:ByteArray).toList=[]:=by rw[ByteArray.toList_eq]
 unfold le lt;rw[this];cases a.toList<;>rfl
def Vb(a):lt a ⟨#[]⟩=false:=El.2 (yY a)
def uC (h:a.size=0):a=⟨#[]⟩:=by
 have:=h;exact FO (Array.size_eq_zero_iff.1 this)
def Zm:∀(a b:List UInt8),Op.bytesLess b (a++[0])=true->Op.bytesLess b a=true\/b=a
 |[],[],_=>.inr rfl
 |[],y :: b,c=>by
  simp only[List.nil_append,Op.bytesLess,DR,AP,BT,CT]at c;grind
 |x :: a,[],_=>.inl rfl
 |x :: a,y :: b,c=>by
  simp only[List.cons_append,Op.bytesLess,DR,AP,BT,CT]at c⊢;rcases c with c|⟨rfl,c⟩
  .grind
  .rcases Zm a b c with c|c
   .grind
   grind
def Zl:∀(a:List UInt8),Op.bytesLess a (a++[0])=true
 |[]=>rfl
 |x :: a=>by simp[Op.bytesLess,Zl a]
structure Sp where
 lo:ByteArray
 hi:ByteArray
def isNil(a:ByteArray):Bool:=a.toList.isEmpty
def Sp.below(hi k:ByteArray):Bool:=isNil hi||lt k hi
def Sp.has(s:Sp)(k:ByteArray):Bool:=le s.lo k&&Sp.below s.hi k
def Sp.meets(s o:Sp):Bool:=Sp.below s.hi o.lo&&Sp.below o.hi s.lo
def Vw(a b:ByteArray):Bool:=isNil b||(!isNil a&&le a b)
def lZ:isNil a=true↔a=⟨#[]⟩:=⟨λb=>by
  have c:a.toList=[]:=by simpa[isNil] using b
  rw[ByteArray.toList_eq]at c;exact uC (by show a.data.size=0;simp_all),λb=>by subst b;simp[isNil,ByteArray.toList_eq]⟩
def Qk:isNil a=false↔a≠⟨#[]⟩:=by rw[Ne,<-lZ];simp
def gD:Sp.below hi k=true↔hi=⟨#[]⟩\/lt k hi=true:=by simp[Sp.below,lZ]
def Fu:Vw a b=true↔b=⟨#[]⟩\/(a≠⟨#[]⟩/\le a b=true):=by simp[Vw,lZ,Qk]
def qCi(a):Vw a a=true:=by
 rw[Fu];by_cases h:a=⟨#[]⟩
 .grind
 .exact .inr ⟨h,bD a⟩
def Xk (h:Vw a b=true)(c:Sp.below a k=true):Sp.below b k=true:=by
 rw[gD]at *;rw[Fu]at h;rcases h with h|⟨d,e⟩
 .grind
 .rcases c with c|c
  .grind
  .exact .inr (cA c e)
def below_le{hi j k}(h:le j k=true)(a:Sp.below hi k=true):Sp.below hi j=true:=by
 rw[gD]at *;exact a.imp id (dZ h)
def Hv (a:Sp.below hi k=true)(c:k≠⟨#[]⟩):Vw k hi=true:=by
 rw[gD]at a;rw[Fu];exact a.imp id (λb=>⟨c,gV b⟩)
def parts{α:Type}(s:Sp):List ByteArray->List α->List (α×Sp)
 |_,[]=>[]
 |[],k :: kids=>(k,s):: parts ⟨s.hi,s.hi⟩ [] kids
 |q :: ks,k :: kids=>(k,⟨s.lo,q⟩):: parts ⟨q,s.hi⟩ ks kids
def cO{b}:∀(s:Sp) (ks:List ByteArray) (a:List b),(parts s ks a).length=a.length
 |_,_,[]=>by simp[parts]
 |s,[],k :: a=>by simp[parts,cO ⟨s.hi,s.hi⟩ [] a]
 |s,q :: ks,k :: a=>by simp[parts,cO ⟨q,s.hi⟩ ks a]
def lF(s:Sp)(ks:List ByteArray)(j:Nat):ByteArray:=if j=0 then s.lo else (ks[j-1]?).getD s.hi
def pZ(s:Sp)(ks:List ByteArray)(j:Nat):ByteArray:=(ks[j]?).getD s.hi
def Jo(s ks j):lF s ks (j+1)=pZ s ks j:=by rfl
def fL{c}:∀(s:Sp) (ks:List ByteArray) (a:List c) (j:Nat) (b:j<a.length),(parts s ks a)[j]?=some (a[j],⟨lF s ks j,pZ s ks j⟩)
 |_,_,[],j,b=>by simp at b
 |s,[],k :: a,j,b=>by
  cases j with
  |zero=>rfl
  |succ j =>
   have:=fL ⟨s.hi,s.hi⟩ [] a j (by grind);simp only[parts,JZ,this,DI];cases j<;>simp[lF,pZ]
 |s,q :: ks,k :: a,j,b=>by
  cases j with
  |zero=>rfl
  |succ j =>
   have:=fL ⟨q,s.hi⟩ ks a j (by grind);simp only[parts,JZ,this,DI];cases j<;>simp[lF,pZ]
def nL{b β}(f:b->β):∀(s:Sp) (ks:List ByteArray) (a:List b),parts s ks (a.map f)=(parts s ks a).map (λx=>(f x.1,x.2))
 |_,_,[]=>by simp[parts]
 |s,[],k :: a=>by simp[parts,nL f ⟨s.hi,s.hi⟩ [] a]
 |s,q :: ks,k :: a=>by simp[parts,nL f ⟨q,s.hi⟩ ks a]
def sM{a:Type}{l:List a}{j x}(h:l[j]?=some x):l=l.take j++x :: l.drop (j+1):=by
 obtain⟨b,rfl⟩:=AD.1 h;rw[<-CA b,CD]
def oD{a:Type}{l:List a}{j x}(h:l[j]?=some x):l.take (j+1)=l.take j++[x]:=by
 obtain⟨b,rfl⟩:=AD.1 h;simp
