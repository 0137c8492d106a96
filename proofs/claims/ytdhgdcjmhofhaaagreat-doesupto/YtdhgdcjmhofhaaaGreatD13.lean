import Derived.Test.YtdhgdcjmhofhaaaGreatD7
import Derived.Test.YtdhgdcjmhofhaaaGreatD10
set_option linter.all false
set_option maxHeartbeats 8000000
namespace Go.Proofs.YtdhgdcjmhofhaaaGreat.Tree
open Go.RowKit Pages
variable {B n z β:Nat} {e:TypeId} {l:List (Nat×ByteArray)} {v:Value} {w:World} {xs:List Value}
structure Fs where
 safe:List ByteArray
 late:List (Nat×ByteArray)
 wait:Int
 life:Int
 failed:Int
def dD(x:Nat×ByteArray):List Value:=[.int .i64 x.1,.string x.2]
structure aH (w:World) (β:Nat) (sv lv:Value) (fs:Fs):Prop where
 box:w.heap[β]?=some (.cells #[sv,lv,.int .i64 fs.wait,.int .i64 fs.life,.int .i64 fs.failed] 63)
 safe:w.ownsRow 0 9 1 sv fs.safe.length (fs.safe.map .string)
 late:w.ownsRow 0 104 2 lv fs.late.length (fs.late.flatMap dD)
 small:fs.safe.length<=4096
 few:fs.late.length<=1000000
def fpF(β:Nat)(sv lv:Value):Bl:=λk=>k=β\/sv.ownBlock=some k\/lv.ownBlock=some k
theorem aS {w w' Y}(h:w.ownsRow B e z v n xs)(j:On Y w w')(l:∀k,v.ownBlock=some k->Y k):w'.ownsRow B e z v n xs:=by
 have⟨d,a⟩:=h;refine⟨d,?_⟩;rcases a with a|⟨g,b,c,rfl,f,i,r⟩
 ·exact .inl a
 ·exact .inr ⟨g,b,c,rfl,f,j.heap i (l g rfl),r⟩
theorem aH.on {w w' sv lv fs}(h:aH w β sv lv fs)(b:On (fpF β sv lv) w w'):aH w' β sv lv fs :=
 ⟨b.heap h.box (.inl rfl),aS h.safe b (λc a=>.inr (.inl a)),aS h.late b (λc a=>.inr (.inr a)),h.small,h.few⟩
theorem aM (h:w.ownsRow B e z v n xs){k}(a:v.ownBlock=some k):k<w.heap.size:=(ED (w:=w) h k a).2
theorem aH.lies {sv lv fs}(h:aH w β sv lv fs):∀k,fpF β sv lv k->k<w.heap.size:=by
 rintro k (rfl|a|a)
 ·exact(gL h.box)
 ·exact aM h.safe a
 ·exact aM h.late a
theorem cU {a b c d e t}(h:w.heap[β]?=some (.cells #[a,b,c,d,e] t)):
  w.c β 0=some a/\w.c β 1=some b/\w.c β 2=some c/\w.c β 3=some d/\w.c β 4=some e:=by
 simp[World.cell?,h]
theorem aF (h:w.ownsRow B e z v n xs):∃a c,v=.slice a n c:=by
 have⟨_,b⟩:=h;rcases b with⟨rfl,rfl⟩|⟨g,d,f,rfl,_⟩
 ·exact⟨none,0,rfl⟩
 ·exact⟨_,_,rfl⟩
theorem kP {a c}(h:w.ownsRow B e z (.slice a n c) n xs){j u}(d:xs[j]?=some u):∃g,a=some ⟨g,0,none⟩/\g<w.heap.size/\n<=c/\w.c g j=some u:=by
 have⟨i,k⟩:=id h;have b:j<n * z:=by rw[<-i];exact(AD.1 d).1
 rcases k with⟨f,rfl⟩|⟨g,o,p,f,_,m,l,_⟩
 ·simp at b
 ·cases f
  exact⟨g,rfl,(gL m),l,(World.ownsRow.cellAt (w:=w) h j b).trans d⟩
theorem Kc{a a' b c}(d:a=a')(e:b=c):Ending.returned (.tuple #[.string a,.bool b])=.returned (.tuple #[.string a',.bool c]):=by rw[d,e]
theorem mS(β sv lv fs w)(h:aH w β sv lv fs):
  cL 31 #[.p β 0] w λe w'=>e=.returned (.i fs.safe.length)/\w'=w:=by
 have⟨b,d,f,g,i⟩:=cU h.box;obtain⟨a,c,rfl⟩:=aF h.safe;go_enter Tryz.func31,Tryz.ntmps31;go_wp2;go_ret;exact⟨rfl,rfl⟩
theorem iL(β sv lv fs w)(h:aH w β sv lv fs):
  cL 49 #[.p β 0] w λe w'=>e=.returned (.bool (fs.life==0))/\w'=w:=by
 have⟨a,b,c,d,f⟩:=cU h.box;go_enter Tryz.func49,Tryz.ntmps49;go_wp2;go_ret;exact⟨rfl,rfl⟩
def uD(late:List (Nat×ByteArray))(p:Nat):Option ByteArray:=(late.reverse.find? λx=>x.1==p).map (·.2)
def Fs.at(fs:Fs)(p:Nat):ByteArray:=(uD fs.late p).getD (fs.safe.getD p ⟨#[]⟩)
def Fs.readS(fs:Fs)(p:Nat):ByteArray:=if decide (p<fs.safe.length)&&!(fs.life==0) then fs.at p else ⟨#[]⟩
theorem qAe {p i}(hi:i<l.length)(d:(l[i]).1=p)(c:∀x∈l.drop (i+1),x.1≠p):uD l p=some (l[i]).2:=by
 have a:l=l.take i++l[i]:: l.drop (i+1):=by rw[<-CC hi,CB]
 unfold uD;have b:l.reverse=(l.drop (i+1)).reverse++(l[i]:: (l.take i).reverse):=by
  conv=>lhs;rw[a]
  simp
 rw[b,List.find?_append,KR.2 (λx e=>by simpa using c x (by simpa using e))];simp[d]
theorem Ub {p}(a:∀x∈l,x.1≠p):uD l p=none:=by
 unfold uD;rw[KR.2 (λx b=>by simpa using a x (by simpa using b))];rfl
theorem xC {j}(a:j<l.length):(l.flatMap dD)[j * 2]?=some (.i (l[j]).1)/\(l.flatMap dD)[j * 2+1]?=some (.string (l[j]).2):=by
 induction l generalizing j with
 |nil=>simp at a
 |cons x l ih =>
  cases j with
  |zero=>simp[dD]
  |succ j =>
   have:=ih (j:=j) (by simpa using a);have b:(j+1) * 2=j * 2+2:=by omega
   have c:(j+1) * 2+1=j * 2+1+2:=by omega
   rw[c,b];simpa[dD] using this
theorem pO(β sv lv fs)(p:Nat)(w)(h:aH w β sv lv fs):
  cL 142 #[.p β 0,.i p] w λe w'=>e=.returned (.tuple #[.string (fs.readS p),.bool (decide (p<fs.safe.length)&&!(fs.life==0))])/\w'=w:=by
 have⟨z,A,B,C,D⟩:=cU h.box;obtain⟨L,M,rfl⟩:=aF h.safe;obtain⟨J,K,rfl⟩:=aF h.late;have I:=h.small;have F:=h.few;by_cases hp:p<fs.safe.length
 ·cases hl:(fs.life==0)
  ·have c:Hid (fs.readS p=fs.at p):=by show _=_;simp[Fs.readS,hp,hl]
   have n:Hid ((decide (p<fs.safe.length)&&!false)=true):=by show _=_;simp[hp]
   have o:(p:Int)<(fs.safe.length:Int):=by omega
   go_enter Tryz.func142,Tryz.ntmps142;go_wp2;go_loop [6] (λm=>∃b:Nat,b<=fs.late.length/\m=.i ((b:Int)-1)/\Hid (∀f∈fs.late.drop b,f.1≠p)) (λm=>(intOf m+1).toNat)
   case atStart=>exact⟨fs.late.length,jU _,rfl,by show ∀_,_;simp⟩
   case round =>
    obtain⟨b,H,rfl,i⟩:=hrel;cases b with
    |zero =>
     have⟨g,j,t,s,v⟩:=kP h.safe (j:=p) (u:=.string fs.safe[p]) (by simp[hp]);subst j;go_wp2;go_ret2;exact⟨Kc (a:=fs.safe[p]) (by rw[c.out];simp[Fs.at,Ub (λf d=>i.out f (by simpa using d)),hp]) (by simp[hp]),rfl⟩
    |succ b =>
     have⟨x,y⟩:=xC (l:=fs.late) (j:=b) (by omega);have⟨g,j,t,s,v⟩:=kP h.late x;have⟨E,r,_,_,G⟩:=kP h.late y;subst j;cases r
     by_cases he:(fs.late[b]).1=p
     ·have q:((fs.late[b]).1:Int)=(p:Int):=by omega
      go_wp2;go_ret2;exact⟨Kc (a:=(fs.late[b]).2) (by rw[c.out];simp[Fs.at,qAe (by omega) he i.out]) (by simp[hp]),rfl⟩
     ·have q:¬((fs.late[b]).1:Int)=(p:Int):=by omega
      go_wp2;go_round
      case rel=>exact⟨b,by omega,by go_num,by
       intro f d;rw[CC (by omega:b<fs.late.length)]at d;rcases AR.1 d with rfl|d
       ·exact he
       ·exact i f d⟩
      case measure=>simp[intOf]
  ·have c:Hid (fs.readS p=⟨#[]⟩):=by show _=_;simp[Fs.readS,hp,hl]
   have o:(p:Int)<(fs.safe.length:Int):=by omega
   go_enter Tryz.func142,Tryz.ntmps142;go_wp2;go_ret2;exact⟨Kc c.symm (by simp),rfl⟩
 ·have c:Hid (fs.readS p=⟨#[]⟩):=by show _=_;simp[Fs.readS,hp]
  have n:Hid ((decide (p<fs.safe.length)&&!(fs.life==0))=false):=by show _=_;simp[hp]
  have o:(fs.safe.length:Int)<=(p:Int):=by omega
  go_enter Tryz.func142,Tryz.ntmps142;go_wp2;go_ret2;exact⟨Kc c.symm n.symm,rfl⟩
