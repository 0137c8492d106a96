import Derived.Test.YtdhgdcjmhofhaaaGreatD7
import Derived.Test.YtdhgdcjmhofhaaaGreatD10
set_option linter.all false
set_option maxHeartbeats 8000000
namespace Go.Proofs.YtdhgdcjmhofhaaaGreat.Tree
open Go.RowKit Pages
variable {B n z β:Nat} {e:TypeId} {l:List (Nat×ByteArray)} {v:Value} {w:World} {xs:List Value}
structure Fs where
 safe:List ByteArray
 late:List (Nat×ByteArray)
 wait:Int
 life:Int
 failed:Int
def dQ(x:Nat×ByteArray):List Value:=[.int .i64 x.1,.string x.2]
structure aF (w:World) (β:Nat) (sv lv:Value) (fs:Fs):Prop where
 box:w.heap[β]?=some (.cells #[sv,lv,.int .i64 fs.wait,.int .i64 fs.life,.int .i64 fs.failed] 63)
 safe:w.ownsRow 0 9 1 sv fs.safe.length (fs.safe.map .string)
 late:w.ownsRow 0 104 2 lv fs.late.length (fs.late.flatMap dQ)
 small:fs.safe.length<=4096
 few:fs.late.length<=1000000
def fpF(β:Nat)(sv lv:Value):Bl:=λk=>k=β\/sv.ownBlock=some k\/lv.ownBlock=some k
def aS {w w' Y}(h:w.ownsRow B e z v n xs)(j:On Y w w')(l:∀k,v.ownBlock=some k->Y k):w'.ownsRow B e z v n xs:=by
 have⟨d,a⟩:=h;refine⟨d,?_⟩;rcases a with a|⟨g,b,c,rfl,f,i,r⟩
 .exact .inl a
 .exact .inr ⟨g,b,c,rfl,f,j.heap i (l g rfl),r⟩
def aF.on {w w' sv lv fs}(h:aF w β sv lv fs)(b:On (fpF β sv lv) w w'):aF w' β sv lv fs :=
 ⟨b.heap h.box (.inl rfl),aS h.safe b (λc a=>.inr (.inl a)),aS h.late b (λc a=>.inr (.inr a)),h.small,h.few⟩
def aK (h:w.ownsRow B e z v n xs){k}(a:v.ownBlock=some k):k<w.heap.size:=(EK (w:=w) h k a).2
def aF.lies {sv lv fs}(h:aF w β sv lv fs):∀k,fpF β sv lv k->k<w.heap.size:=by
 rintro k (rfl|a|a)
 .exact(gL h.box)
 .exact aK h.safe a
 .exact aK h.late a
def cV {a b c d e t}(h:cW w β #[a,b,c,d,e] t):
  w.c β 0=some a/\w.c β 1=some b/\w.c β 2=some c/\w.c β 3=some d/\w.c β 4=some e:=by
 simp[World.cell?,h]
def aG (h:w.ownsRow B e z v n xs):∃a c,v=.s a n c:=by
 have⟨_,b⟩:=h;rcases b with⟨rfl,rfl⟩|⟨g,d,f,rfl,_⟩
 .exact⟨none,0,rfl⟩
 .exact⟨_,_,rfl⟩
def iO {a c}(h:w.ownsRow B e z (.s a n c) n xs){j u}(d:xs[j]?=some u):∃g,a=some (aD g 0)/\g<w.heap.size/\n<=c/\w.c g j=some u:=by
 have⟨i,k⟩:=id h;have b:j<n * z:=by rw[<-i];exact(AD.1 d).1
 rcases k with⟨f,rfl⟩|⟨g,o,p,f,_,m,l,_⟩
 .simp at b
 .cases f
  exact⟨g,rfl,(gL m),l,(World.ownsRow.cellAt (w:=w) h j b).t d⟩
def Ln{a a' b c}(d:a=a')(e:b=c):Ending.returned (.tuple #[.t a,.bool b])=.r (.tuple #[.t a',.bool c]):=by rw[d,e]
def nN(β sv lv fs w)(h:aF w β sv lv fs):
  cL 31 #[.p β 0] w λe w'=>e=.r (.i fs.safe.length)/\w'=w:=by
 have⟨b,d,f,g,i⟩:=cV h.box;obtain⟨a,c,rfl⟩:=aG h.safe;go_enter Tryz.func31,Tryz.ntmps31;go_wp2;go_ret;exact⟨rfl,rfl⟩
def fU(β sv lv fs w)(h:aF w β sv lv fs):
  cL 49 #[.p β 0] w λe w'=>e=.r (.bool (fs.life==0))/\w'=w:=by
 have⟨a,b,c,d,f⟩:=cV h.box;go_enter Tryz.func49,Tryz.ntmps49;go_wp2;go_ret;exact⟨rfl,rfl⟩
def qM(late:List (Nat×ByteArray))(p:Nat):Option ByteArray:=(late.reverse.find? λx=>x.1==p).map (·.2)
def Fs.at(fs:Fs)(p:Nat):ByteArray:=(qM fs.late p).getD (fs.safe.getD p ⟨#[]⟩)
def Fs.readS(fs:Fs)(p:Nat):ByteArray:=if decide (p<fs.safe.length)&&!(fs.life==0) then fs.at p else ⟨#[]⟩
def qCa {p i}(hi:i<l.length)(d:(l[i]).1=p)(c:∀x∈l.drop (i+1),x.1≠p):qM l p=some (l[i]).2:=by
 have a:l=l.take i++l[i]:: l.drop (i+1):=by rw[<-CA hi,CD]
 unfold qM;have b:l.reverse=(l.drop (i+1)).reverse++(l[i]:: (l.take i).reverse):=by
  conv=>lhs;rw[a]
  simp
 rw[b,List.find?_append,LG.2 (λx e=>by simpa using c x (by simpa using e))];simp[d]
def rO {p}(a:∀x∈l,x.1≠p):qM l p=none:=by
 unfold qM;rw[LG.2 (λx b=>by simpa using a x (by simpa using b))];rfl
def tU {j}(a:j<l.length):(l.flatMap dQ)[j * 2]?=some (.i (l[j]).1)/\(l.flatMap dQ)[j * 2+1]?=some (.t (l[j]).2):=by
 induction l generalizing j with
 |nil=>simp at a
 |cons x l ih =>
  cases j with
  |zero=>simp[dQ]
  |succ j =>
   have:=ih (j:=j) (by simpa using a);have b:(j+1) * 2=j * 2+2:=by omega
   have c:(j+1) * 2+1=j * 2+1+2:=by omega
   rw[c,b];simpa[dQ] using this
def mH(β sv lv fs)(p:Nat)(w)(h:aF w β sv lv fs):
  cL 142 #[.p β 0,.i p] w λe w'=>e=.r (.tuple #[.t (fs.readS p),.bool (decide (p<fs.safe.length)&&!(fs.life==0))])/\w'=w:=by
 have⟨z,A,B,C,D⟩:=cV h.box;obtain⟨L,M,rfl⟩:=aG h.safe;obtain⟨J,K,rfl⟩:=aG h.late;have I:=h.small;have F:=h.few;by_cases hp:p<fs.safe.length
 .cases hl:(fs.life==0)
  .have c:Hid (fs.readS p=fs.at p):=by show _=_;simp[Fs.readS,hp,hl]
   have n:Hid ((decide (p<fs.safe.length)&&!false)=true):=by show _=_;simp[hp]
   have o:(p:Int)<(fs.safe.length:Int):=by omega
   go_enter Tryz.func142,Tryz.ntmps142;go_wp2;go_loop [6] (λm=>∃b:Nat,b<=fs.late.length/\m=.i ((b:Int)-1)/\Hid (∀f∈fs.late.drop b,f.1≠p)) (λm=>(intOf m+1).toNat)
   case atStart=>exact⟨fs.late.length,jU _,rfl,by show ∀_,_;simp⟩
   case round =>
    obtain⟨b,H,rfl,i⟩:=hrel;cases b with
    |zero =>
     have⟨g,j,t,s,v⟩:=iO h.safe (j:=p) (u:=.t fs.safe[p]) (by simp[hp]);subst j;go_wp2;go_ret2;exact⟨Ln (a:=fs.safe[p]) (by rw[c.o];simp[Fs.at,rO (λf d=>i.o f (by simpa using d)),hp]) (by simp[hp]),rfl⟩
    |succ b =>
     have⟨x,y⟩:=tU (l:=fs.late) (j:=b) (by omega);have⟨g,j,t,s,v⟩:=iO h.late x;have⟨E,r,_,_,G⟩:=iO h.late y;subst j;cases r;by_cases he:(fs.late[b]).1=p
     .have q:((fs.late[b]).1:Int)=(p:Int):=by omega
      go_wp2;go_ret2;exact⟨Ln (a:=(fs.late[b]).2) (by rw[c.o];simp[Fs.at,qCa (by omega) he i.o]) (by simp[hp]),rfl⟩
     .have q:¬((fs.late[b]).1:Int)=(p:Int):=by omega
      go_wp2;go_round
      case rel=>exact⟨b,by omega,by go_num,by
       intro f d;rw[CA (by omega:b<fs.late.length)]at d;rcases AS.1 d with rfl|d
       .exact he
       .exact i f d⟩
      case measure=>simp[intOf]
  .have c:Hid (fs.readS p=⟨#[]⟩):=by show _=_;simp[Fs.readS,hp,hl]
   have o:(p:Int)<(fs.safe.length:Int):=by omega
   go_enter Tryz.func142,Tryz.ntmps142;go_wp2;go_ret2;exact⟨Ln c.symm (by simp),rfl⟩
 .have c:Hid (fs.readS p=⟨#[]⟩):=by show _=_;simp[Fs.readS,hp]
  have n:Hid ((decide (p<fs.safe.length)&&!(fs.life==0))=false):=by show _=_;simp[hp]
  have o:(fs.safe.length:Int)<=(p:Int):=by omega
  go_enter Tryz.func142,Tryz.ntmps142;go_wp2;go_ret2;exact⟨Ln c.symm n.symm,rfl⟩
