import Derived.Test.YtpifffkkgnbfpaaGreatP5
import Derived.Test.YtpifffkkgnbfpaaGreatP8
set_option linter.unusedSimpArgs false
set_option linter.unusedVariables false
set_option maxHeartbeats 8000000
namespace Go.Proofs.YtpifffkkgnbfpaaGreat.Tree
open Go.RowKit Pages
variable {B n z β:Nat} {e:TypeId} {l:List (Nat×ByteArray)} {v:Value} {w:World} {xs:List Value}
structure Fs where
 safe:List ByteArray
 late:List (Nat×ByteArray)
 wait:Int
 life:Int
 failed:Int
def dE (x:Nat×ByteArray):List Value:=[.int .i64 x.1,.string x.2]
structure aG (w:World) (β:Nat) (sv lv:Value) (fs:Fs):Prop where
 box:w.heap[β]?=some (.cells #[sv,lv,.int .i64 fs.wait,.int .i64 fs.life,.int .i64 fs.failed] 73)
 safe:w.ownsRow 0 9 1 sv fs.safe.length (fs.safe.map .string)
 late:w.ownsRow 0 75 2 lv fs.late.length (fs.late.flatMap dE)
 small:fs.safe.length≤4096
 few:fs.late.length≤1000000
def fpF (β:Nat) (sv lv:Value):Bl:=fun k=>k=β∨sv.ownBlock=some k∨lv.ownBlock=some k
theorem bK {w w':World} {Y:Bl}       (h:w.ownsRow B e z v n xs) (ho:On Y w w') (hy:∀ k,v.ownBlock=some k→Y k):w'.ownsRow B e z v n xs:=by
 obtain⟨h1,h2⟩:=h
 refine⟨h1,?_⟩
 rcases h2 with h2|⟨g,cap,cur,rfl,hb,hg,r⟩
 ·exact .inl h2
 ·exact .inr ⟨g,cap,cur,rfl,hb,ho.heap hg (hy g rfl),r⟩
theorem aG.on {w w':World}  {sv lv:Value} {fs:Fs} (h:aG w β sv lv fs) (ho:On (fpF β sv lv) w w'):aG w' β sv lv fs :=
 ⟨ho.heap h.box (.inl rfl),bK h.safe ho (fun k hk=>.inr (.inl hk)),bK h.late ho (fun k hk=>.inr (.inr hk)),h.small,h.few⟩
theorem aX (h:w.ownsRow B e z v n xs) {k:Nat} (hk:v.ownBlock=some k):k<w.heap.size:=(World.ownsRow.lt (w:=w) h k hk).2
theorem aG.lies {sv lv:Value} {fs:Fs} (h:aG w β sv lv fs):∀ k,fpF β sv lv k→k<w.heap.size:=by
 rintro k (rfl|hk|hk)
 ·exact(gL h.box)
 ·exact aX h.safe hk
 ·exact aX h.late hk
theorem dR {a b c d e:Value} {t:TypeId} (h:w.heap[β]?=some (.cells #[a,b,c,d,e] t)) :
  w.cell? ⟨β,0,none⟩=some a∧w.cell? ⟨β,1,none⟩=some b∧w.cell? ⟨β,2,none⟩=some c∧w.cell? ⟨β,3,none⟩=some d∧w.cell? ⟨β,4,none⟩=some e:=by
 simp [World.cell?,h]
theorem aO (h:w.ownsRow B e z v n xs):∃ a c,v=.slice a n c:=by
 obtain⟨_,h2⟩:=h
 rcases h2 with⟨rfl,rfl⟩|⟨g,cap,cur,rfl,_⟩
 ·exact⟨none,0,rfl⟩
 ·exact⟨_,_,rfl⟩
theorem lC {a:Option Addr} {c:Nat}   (h:w.ownsRow B e z (.slice a n c) n xs) {j:Nat} {u:Value} (hu:xs[j]?=some u):∃ g,a=some ⟨g,0,none⟩∧g<w.heap.size∧n≤c∧w.cell? ⟨g,j,none⟩=some u:=by
 obtain⟨h1,h2⟩:=id h
 have hj:j<n * z:=by rw [← h1];exact(List.getElem?_eq_some_iff.1 hu).1
 rcases h2 with⟨hv,rfl⟩|⟨g,cap,cur,hv,_,hg,hc,_⟩
 ·simp at hj
 ·cases hv
  exact⟨g,rfl,(gL hg),hc,(World.ownsRow.cellAt (w:=w) h j hj).trans hu⟩
theorem Jg {a a':ByteArray} {b b':Bool} (h1:a=a') (h2:b=b'):Ending.returned (.tuple #[.string a,.bool b])=.returned (.tuple #[.string a',.bool b']):=by rw [h1,h2]
theorem Gt (β:Nat) (sv lv:Value) (fs:Fs) (w:World) (h:aG w β sv lv fs) :
  Calls Tryz.prog 34 #[.pointer (some ⟨β,0,none⟩)] w fun e w'=>e=.returned (.int .i64 fs.safe.length)∧w'=w:=by
 obtain⟨c0,c1,c2,c3,c4⟩:=dR h.box
 obtain⟨a,c,rfl⟩:=aO h.safe
 go_enter Tryz.func34,Tryz.ntmps34
 go_wp2
 go_ret
 exact⟨rfl,rfl⟩
theorem rP (β:Nat) (sv lv:Value) (fs:Fs) (w:World) (h:aG w β sv lv fs) :
  Calls Tryz.prog 61 #[.pointer (some ⟨β,0,none⟩)] w fun e w'=>e=.returned (.bool (fs.life==0))∧w'=w:=by
 obtain⟨c0,c1,c2,c3,c4⟩:=dR h.box
 go_enter Tryz.func61,Tryz.ntmps61
 go_wp2
 go_ret
 exact⟨rfl,rfl⟩
def qL (late:List (Nat×ByteArray)) (p:Nat):Option ByteArray:=(late.reverse.find? fun x=>x.1==p).map (·.2)
def Fs.at (fs:Fs) (p:Nat):ByteArray:=(qL fs.late p).getD (fs.safe.getD p ⟨#[]⟩)
def Fs.readS (fs:Fs) (p:Nat):ByteArray:=if decide (p<fs.safe.length)&&!(fs.life==0) then fs.at p else ⟨#[]⟩
theorem Ww {p i:Nat} (hi:i<l.length) (hp:(l[i]).1=p) (hn:∀ x∈l.drop (i+1),x.1≠p):qL l p=some (l[i]).2:=by
 have e:l=l.take i++l[i] :: l.drop (i+1):=by rw [← List.drop_eq_getElem_cons hi,List.take_append_drop]
 unfold qL
 have e2:l.reverse=(l.drop (i+1)).reverse++(l[i] :: (l.take i).reverse):=by
  conv=>lhs;rw [e]
  simp
 rw [e2,List.find?_append,List.find?_eq_none.2 (fun x hx=>by simpa using hn x (by simpa using hx))]
 simp [hp]
theorem Qx {p:Nat} (hn:∀ x∈l,x.1≠p):qL l p=none:=by
 unfold qL
 rw [List.find?_eq_none.2 (fun x hx=>by simpa using hn x (by simpa using hx))]
 rfl
theorem rX {j:Nat} (hj:j<l.length):(l.flatMap dE)[j * 2]?=some (.int .i64 (l[j]).1)∧(l.flatMap dE)[j * 2+1]?=some (.string (l[j]).2):=by
 induction l generalizing j with
 | nil=>simp at hj
 | cons x l ih =>
  cases j with
  | zero=>simp [dE]
  | succ j =>
   have:=ih (j:=j) (by simpa using hj)
   have e1:(j+1) * 2=j * 2+2:=by omega
   have e2:(j+1) * 2+1=j * 2+1+2:=by omega
   rw [e2,e1]
   simpa [dE] using this
theorem mI (β:Nat) (sv lv:Value) (fs:Fs) (p:Nat) (w:World) (h:aG w β sv lv fs) :
  Calls Tryz.prog 115 #[.pointer (some ⟨β,0,none⟩),.int .i64 p] w fun e w'=>e=.returned (.tuple #[.string (fs.readS p),.bool (decide (p<fs.safe.length)&&!(fs.life==0))])∧w'=w:=by
 obtain⟨c0,c1,c2,c3,c4⟩:=dR h.box
 obtain⟨sa,sc,rfl⟩:=aO h.safe
 obtain⟨la,lc,rfl⟩:=aO h.late
 have hsm:=h.small
 have hfw:=h.few
 by_cases hp:p<fs.safe.length
 ·cases hl:(fs.life==0)
  ·have HR:Hid (fs.readS p=fs.at p):=by show _=_;simp [Fs.readS,hp,hl]
   have HB:Hid ((decide (p<fs.safe.length)&&!false)=true):=by show _=_;simp [hp]
   have hpi:(p:Int)<(fs.safe.length:Int):=by omega
   go_enter Tryz.func115,Tryz.ntmps115
   go_wp2
   go_loop [6] (fun i=>∃ j:Nat,j≤fs.late.length∧i=.int .i64 ((j:Int)-1)∧Hid (∀ x∈fs.late.drop j,x.1≠p)) (fun i=>(intOf i+1).toNat)
   case atStart=>exact⟨fs.late.length,jU _,rfl,by show ∀ _,_;simp⟩
   case round =>
    obtain⟨j,hj,rfl,HN⟩:=hrel
    cases j with
    | zero =>
     obtain⟨g,hg,hglt,hgc,hgv⟩:=lC h.safe (j:=p) (u:=.string fs.safe[p]) (by simp [hp])
     subst hg
     go_wp2
     go_ret2
     have hn:qL fs.late p=none:=Qx (fun x hx=>HN.out x (by simpa using hx))
     exact⟨Jg (a:=fs.safe[p]) (by rw [HR.out];simp [Fs.at,hn,hp]) (by simp [hp]),rfl⟩
    | succ j =>
     obtain⟨w1,w2⟩:=rX (l:=fs.late) (j:=j) (by omega)
     obtain⟨g,hg,hglt,hgc,hgv⟩:=lC h.late w1
     obtain⟨g',hg',_,_,hgv'⟩:=lC h.late w2
     subst hg
     cases hg'
     by_cases he:(fs.late[j]).1=p
     ·have he':((fs.late[j]).1:Int)=(p:Int):=by omega
      go_wp2
      go_ret2
      have hn:qL fs.late p=some (fs.late[j]).2:=Ww (by omega) he HN.out
      exact⟨Jg (a:=(fs.late[j]).2) (by rw [HR.out];simp [Fs.at,hn]) (by simp [hp]),rfl⟩
     ·have he':¬ ((fs.late[j]).1:Int)=(p:Int):=by omega
      go_wp2
      go_round
      case rel=>exact⟨j,by omega,by go_num,by
       intro x hx
       rw [List.drop_eq_getElem_cons (by omega:j<fs.late.length)] at hx
       rcases List.mem_cons.1 hx with rfl|hx
       ·exact he
       ·exact HN.out x hx⟩
      case measure=>simp [intOf]
  ·have HR:Hid (fs.readS p=⟨#[]⟩):=by show _=_;simp [Fs.readS,hp,hl]
   have hpi:(p:Int)<(fs.safe.length:Int):=by omega
   go_enter Tryz.func115,Tryz.ntmps115
   go_wp2
   go_ret2
   exact⟨Jg HR.out.symm (by simp),rfl⟩
 ·have HR:Hid (fs.readS p=⟨#[]⟩):=by show _=_;simp [Fs.readS,hp]
  have HB:Hid ((decide (p<fs.safe.length)&&!(fs.life==0))=false):=by show _=_;simp [hp]
  have hpi:(fs.safe.length:Int)≤(p:Int):=by omega
  go_enter Tryz.func115,Tryz.ntmps115
  go_wp2
  go_ret2
  exact⟨Jg HR.out.symm HB.out.symm,rfl⟩
