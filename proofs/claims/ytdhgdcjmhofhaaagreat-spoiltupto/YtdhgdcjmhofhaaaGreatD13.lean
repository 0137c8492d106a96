import Derived.Test.YtdhgdcjmhofhaaaGreatD7
import Derived.Test.YtdhgdcjmhofhaaaGreatD10
set_option linter.all false
set_option maxHeartbeats 8000000
namespace Go.Proofs.YtdhgdcjmhofhaaaGreat.Tree
open Go.RowKit Pages Tryz
variable {B n z β:Nat} {e:TypeId} {l:List (Nat×ByteArray)} {lv sv v:Value} {w:World} {xs:List Value}
structure Fs where
 safe:List ByteArray
 late:List (Nat×ByteArray)
 wait:Int
 life:Int
 failed:Int
def dY(x:Nat×ByteArray):List Value:=[.int .i64 x.1,.string x.2]
structure aA (w:World) (β:Nat) (sv lv:Value) (fs:Fs):Prop where
 box:w.1[β]?=some (.cells #[sv,lv,.int .i64 fs.wait,.int .i64 fs.life,.int .i64 fs.failed] 63)
 safe:w.ownsRow 0 9 1 sv fs.safe.length (fs.safe.map .string)
 late:w.ownsRow 0 104 2 lv fs.late.length (fs.late.flatMap dY)
 small:fs.safe.length<=4096
 few:fs.late.length<=1000000
def fpF(β:Nat)(sv lv:Value):Bl:=λk=>k=β\/sv.ownBlock=some k\/lv.ownBlock=some k
theorem aS {w w' Y}(h:w.ownsRow B e z v n xs)(j:On Y w w')(l:∀k,v.ownBlock=some k->Y k):w'.ownsRow B e z v n xs:=by
 have⟨d,a⟩:=h;refine⟨d,?_⟩;rcases a with a|⟨g,b,c,rfl,f,i,r⟩
 .exact .inl a
 .exact .inr ⟨g,b,c,rfl,f,j.heap i (l g rfl),r⟩
theorem aA.on {w w' fs}(h:aA w β sv lv fs)(b:On (fpF β sv lv) w w'):aA w' β sv lv fs :=
 ⟨b.heap h.box (.inl rfl),aS h.safe b (λc a=>.inr (.inl a)),aS h.late b (λc a=>.inr (.inr a)),h.small,h.few⟩
theorem aL (h:w.ownsRow B e z v n xs){k:Nat}(a:v.ownBlock=some k):k<w:=(EQ (w:=w) h k a).2
theorem aA.lies {fs:Fs}(h:aA w β sv lv fs):∀k,fpF β sv lv k->k<w:=by
 rintro k (rfl|a|a)
 .exact(gL h.box)
 .exact aL h.safe a
 .exact aL h.late a
theorem aA.bl {w x:World}{fs:Fs}(h:aA w β sv lv fs)(d:bW w x):aA x β sv lv fs:=h.on (vV d h.lies)
theorem cS {a b c d e t}(h:cW w β #[a,b,c,d,e] t):
  w.c β 0=some a/\w.c β 1=some b/\w.c β 2=some c/\w.c β 3=some d/\w.c β 4=some e:=by
 simp[World.cell?,h]
theorem aG (h:w.ownsRow B e z v n xs):∃a c,v=.s a n c:=by
 have⟨_,b⟩:=h;rcases b with⟨rfl,rfl⟩|⟨g,d,f,rfl,_⟩
 .exact⟨none,0,rfl⟩
 .exact⟨_,_,rfl⟩
theorem gU {a:Option Addr}{c:Nat}(h:w.ownsRow B e z (.s a n c) n xs){j:Nat}{u:Value}(d:xs[j]?=some u):∃g,a=some (aD g 0)/\g<w/\n<=c/\w.c g j=some u:=by
 have⟨i,k⟩:=id h;have b:j<n * z:=by rw[<-i];exact(AD.1 d).1
 rcases k with⟨f,rfl⟩|⟨g,o,p,f,_,m,l,_⟩
 .simp at b
 .cases f;exact⟨g,rfl,(gL m),l,(World.ownsRow.cellAt (w:=w) h j b).t d⟩
theorem Oe{a a' b c}(d:a=a')(e:b=c):Ending.returned (.tuple #[.t a,.bool b])=.r (.tuple #[.t a',.bool c]):=by rw[d,e]
theorem mI(β sv lv fs w)(h:aA w β sv lv fs):
  cL 31 #[.p β 0] w λe w'=>e=.r (.i fs.safe.length)/\w'=w:=by
 have⟨b,d,f,g,i⟩:=cS h.box;obtain⟨a,c,rfl⟩:=aG h.safe;go_enter func31,ntmps31;go_wp2;go_ret;exact⟨rfl,rfl⟩
theorem fH(β sv lv fs w)(h:aA w β sv lv fs):
  cL 49 #[.p β 0] w λe w'=>e=.r (.bool (fs.life==0))/\w'=w:=by
 have⟨a,b,c,d,f⟩:=cS h.box;go_enter func49,ntmps49;go_wp2;go_ret;exact⟨rfl,rfl⟩
def rJ(late:List (Nat×ByteArray))(p:Nat):Option ByteArray:=(late.reverse.find? λx=>x.1==p).map (·.2)
def Fs.at(fs:Fs)(p:Nat):ByteArray:=(rJ fs.late p).getD (fs.safe.getD p ⟨#[]⟩)
def Fs.readS(fs:Fs)(p:Nat):ByteArray:=if decide (p<fs.safe.length)&&!(fs.life==0) then fs.at p else ⟨#[]⟩
theorem qGc {p i:Nat}(hi:i<l)(d:(l[i]).1=p)(c:∀x∈l.drop (i+1),x.1≠p):rJ l p=some (l[i]).2:=by
 have a:l=l.take i++l[i]:: l.drop (i+1):=by rw[<-BZ hi,BU]
 unfold rJ;have b:l.reverse=(l.drop (i+1)).reverse++(l[i]:: (l.take i).reverse):=by
  conv=>lhs;rw[a]
  simp
 rw[b,List.find?_append,MB.2 (λx e=>by simpa using c x (by simpa using e))];simp[d]
theorem sS {p}(a:∀x∈l,x.1≠p):rJ l p=none:=by
 unfold rJ;rw[MB.2 (λx b=>by simpa using a x (by simpa using b))];rfl
theorem vI {j:Nat}(a:j<l):(l.flatMap dY)[j * 2]?=some (.i (l[j]).1)/\(l.flatMap dY)[j * 2+1]?=some (.t (l[j]).2):=by
 induction l generalizing j with
 |nil=>simp at a
 |cons x l ih =>
  cases j with
  |zero=>simp[dY]
  |succ j =>
   have:=ih (j:=j) (by simpa using a);have b:(j+1) * 2=j * 2+2:=ω;have c:(j+1) * 2+1=j * 2+1+2:=ω;rw[c,b];simpa[dY] using this
theorem lH(β sv lv fs)(p:Nat)(w)(h:aA w β sv lv fs):
  cL 142 #[.p β 0,.i p] w λe w'=>e=.r (.tuple #[.t (fs.readS p),.bool (decide (p<fs.safe)&&!(fs.life==0))])/\w'=w:=by
 have⟨z,A,B,C,D⟩:=cS h.box;obtain⟨L,M,rfl⟩:=aG h.safe;obtain⟨J,K,rfl⟩:=aG h.late;have F:=h.few;by_cases hp:p<fs.safe
 .cases hl:(fs.life==0)
  .have c:Hid (fs.readS p=fs.at p):=by show _=_;simp[Fs.readS,hp,hl]
   have n:Hid ((decide (p<fs.safe)&&!false)=true):=by show _=_;simp[hp]
   have o:(p:Int)<(fs.safe.length:Int):=ω
   go_enter func142,ntmps142;go_wp2;go_loop [6] (λm=>∃b:Nat,b<=fs.late/\m=.i ((b:Int)-1)/\Hid (∀f∈fs.late.drop b,f.1≠p)) (λm=>(intOf m+1).toNat)
   case atStart=>exact⟨fs.late,jU _,rfl,by show ∀_,_;simp⟩
   case round =>
    obtain⟨b,H,rfl,i⟩:=hrel;cases b with
    |zero =>
     have⟨g,j,t,s,v⟩:=gU h.safe (j:=p) (u:=.t fs.safe[p]) (by simp[hp]);subst j;go_wp2;go_ret2;exact⟨Oe (a:=fs.safe[p]) (by rw[c.o];simp[Fs.at,sS (λf d=>i.o f (by simpa using d)),hp]) (by simp[hp]),rfl⟩
    |succ b =>
     have⟨x,y⟩:=vI (l:=fs.late) (j:=b) ω;have⟨g,j,t,s,v⟩:=gU h.late x;have⟨E,r,_,_,G⟩:=gU h.late y;subst j;cases r;by_cases he:(fs.late[b]).1=p
     .have q:((fs.late[b]).1:Int)=(p:Int):=ω
      go_wp2;go_ret2;exact⟨Oe (a:=(fs.late[b]).2) (by rw[c.o];simp[Fs.at,qGc ω he i.o]) (by simp[hp]),rfl⟩
     .have q:¬((fs.late[b]).1:Int)=(p:Int):=ω
      go_wp2;go_round
      case rel=>exact⟨b,ω,ν,by
       intro f d;rw[BZ (by omega:b<fs.late.length)]at d;rcases AS.1 d with rfl|d
       .exact he
       .exact i f d⟩
      case measure=>simp[intOf]
  .have c:Hid (fs.readS p=⟨#[]⟩):=by show _=_;simp[Fs.readS,hp,hl]
   have o:(p:Int)<(fs.safe.length:Int):=ω
   go_enter func142,ntmps142;go_wp2;go_ret2;exact⟨Oe c.symm σ,rfl⟩
 .have c:Hid (fs.readS p=⟨#[]⟩):=by show _=_;simp[Fs.readS,hp]
  have n:Hid ((decide (p<fs.safe)&&!(fs.life==0))=false):=by show _=_;simp[hp]
  have o:(fs.safe.length:Int)<=(p:Int):=ω
  go_enter func142,ntmps142;go_wp2;go_ret2;exact⟨Oe c.symm n.symm,rfl⟩
