import Derived.Test.YtdhgdcjmhofhaaaGreatD10
import Derived.Deep.DeepCutAuto
import Derived.Test.YtdhgdcjmhofhaaaGreatD8
set_option linter.all false
set_option maxRecDepth 100000
set_option maxHeartbeats 8000000
namespace Go.Proofs.YtdhgdcjmhofhaaaGreat.Pages
open Go.RowKit
variable {B c g k n β ρ:Nat} {a w w':World} {b:List UInt8} {e:TypeId} {es:List Ent} {o:Obj} {v:Value} {xs:List Value}
def eA.alloc (h:eA ρ a w)(o):eA ρ a (w.alloc o):=
 h.t ⟨rfl,rfl,rfl,by simp,λc b _=>DA _ _ _ b⟩
def eA.keep (h:eA ρ w w')(b:k≠ρ)(a:w.heap[k]?=some o):w'.heap[k]?=some o:=by
 rw[h.block k (CP.1 a).1 b];exact a
def eV {o x}(a:w.heap[k]?=some o):(w.alloc x).heap[k]?=some o:=by
 rw[DA _ _ _ (CP.1 a).1];exact a
def Rd.alloc {a}(h:Rd w ρ g c b a)(o):Rd (w.alloc o) ρ g c b a :=
 h.only ((eA.refl ρ w).alloc o) (eV h.box) h.le
def Rd.lt' {a}(h:Rd w ρ g c b a):ρ<w.heap.size:=(CP.1 h.box).1
def tB(ρ g c b a w)(h:Rd w ρ g c b a):
  cL 177 #[.p ρ 0,.i 2] w λe w'=>e=.r (.i (iI b a 2:Nat))/\Rd w' ρ g c b (aZ b a 2)/\eA ρ w w':=by
 refine(vO ρ g c b a 2 w h (by omega)).m λe w' ⟨d,i,f⟩=>⟨?_,i,f⟩;rw[d];refine Al (CI (Value.int .i64) ?_);have:=Yn b a 2;unfold wrap64;omega
def Rd.set {d a}(h:Rd w ρ g c d a)(j:β≠ρ)(e:β≠g)(i v):Rd (w.setCell (aD β i) v) ρ g c d a :=
 ⟨by rw[CY _ _ _ _ (λb=>j b.symm)];exact h.box,λk f=>by rw[CK (w:=w) (CY _ _ _ _ (λb=>e b.symm))];exact h.bytes k f,h.ne,by have:=h.lt;simpa[World.setCell] using this,h.le,h.len,h.cap⟩
def eA.set (h:eA ρ a w)(e:a.heap.size<=β)(i v):eA ρ a (w.setCell (aD β i) v):=
 ⟨h.os,h.tape,h.output,by have:=h.size;simpa[World.setCell] using this,λd b c=>by rw[CY _ _ _ _ (by simp;omega)];exact h.block d b c⟩
def kE (b:w.heap[k]?=some o)(a:k≠β)(i v):(w.setCell (aD β i) v).heap[k]?=some o:=by
 rw[CY _ _ _ _ a];exact b
def qMg {u:World}{d e f g t}(h:cW u β #[d,e,f,g] t)(a b c v3):((((u.setCell (aD β 0) a).setCell (aD β 1) b).setCell (aD β 2) c).setCell (aD β 3) v3).heap[β]?=some (.cells #[a,b,c,v3] t):=by
 have:=aB (aB (aB (aB h 0 a) 1 b) 2 c) 3 v3;simpa using this
def sF(bs:List UInt8)(a:Nat):Ent :=
 if bs.getD (iH bs a) 0=0 then ⟨⟨(nZ bs a).toArray⟩,⟨(nZ bs (aZ bs (iH bs a) 1)).toArray⟩,(nZ bs (aZ bs (iH bs a) 1)).length,0⟩
 else ⟨⟨(nZ bs a).toArray⟩,⟨#[]⟩,iI bs (aZ bs (iH bs a) 1) 2,iI bs (aZ bs (aZ bs (iH bs a) 1) 2) 2⟩
def Cg(bs:List UInt8)(a:Nat):Nat :=
 if bs.getD (iH bs a) 0=0 then iH bs (aZ bs (iH bs a) 1) else aZ bs (aZ bs (aZ bs (iH bs a) 1) 2) 2
def Wq(ρ g c b a w)(h:Rd w ρ g c b a):
  cL 179 #[.p ρ 0] w λe w'=>e=.r (.agg #[.t (sF b a).key,.t (sF b a).val,.i (sF b a).size,.i (sF b a).over])/\Rd w' ρ g c b (Cg b a)/\eA ρ w w':=by
 have ax:=h.lt';have f:w.heap.size≠ρ:=by omega
 have⟨K,s⟩:∃K,K=(⟨(nZ b a).toArray⟩:ByteArray):=⟨_,rfl⟩;have N:=tZ ρ g c b a (w.alloc (.cells #[.e,.e,.i 0,.i 0] 69)) (h.alloc _);rw[<-s]at N;have a6:=aC w (.cells #[.e,.e,.i 0,.i 0] 69);have a7:=(eA.refl ρ w).alloc (.cells #[.e,.e,.i 0,.i 0] 69);have I:=λw' (ae:Rd w' ρ g c b (iH b a))=>lB ρ g c b (iH b a) w' ae;have⟨C,y⟩:∃C,C=b.getD (iH b a) 0:=⟨_,rfl⟩;rw[<-y]at I;cases hm:(C.toNat==0)
 .have n:¬b.getD (iH b a) 0=0:=by rw[<-y];intro e;rw[e]at hm;simp at hm
  have ak:((C.toNat:Int)==0)=false:=by simpa using hm
  have⟨j,S⟩:∃j,j=iI b (aZ b (iH b a) 1) 2:=⟨_,rfl⟩;have⟨l,T⟩:∃l,l=iI b (aZ b (aZ b (iH b a) 1) 2) 2:=⟨_,rfl⟩;have F:Hid (sF b a=⟨K,⟨#[]⟩,j,l⟩):=by show _=_;unfold sF;rw[AR n,s,S,T]
  have E:Hid (Cg b a=aZ b (aZ b (aZ b (iH b a) 1) 2) 2):=by show _=_;unfold Cg;rw[AR n]
  have a2:=λm (r:Rd m ρ g c b (aZ b (iH b a) 1))=>tB ρ g c b (aZ b (iH b a) 1) m r;have a3:=λm (r:Rd m ρ g c b (aZ b (aZ b (iH b a) 1) 2))=>tB ρ g c b (aZ b (aZ b (iH b a) 1) 2) m r;rw[<-S]at a2;rw[<-T]at a3;have aj:=h.lt;clear hm n s S T y;go_enter Tryz.func179,Tryz.ntmps179;go_wp2_with (go_at_call 180;apply N.m;rintro e i ⟨rfl,A,z⟩;have t:=z.keep f a6;have k:i.heap.size≠ρ:=DL A.lt';have B:w.heap.size<i.heap.size:=(CP.1 t).1;have G:=aC i (.cells #[.t K,.e,.i 0,.i 0] 69);have P:=eV (x:=.cells #[.t K,.e,.i 0,.i 0] 69) t);go_upto_region 6 with(go_at_call 177;apply(I _ (A.alloc _)).m;rintro e m ⟨rfl,V,o⟩;have H:=o.keep k G;have Q:=o.keep f P);go_upto_region 7 with(go_at_call 177;apply(a2 _ V).m;rintro e a9 ⟨rfl,W,p⟩;have q:=p.keep k H;have u:=p.keep f Q;have⟨aa,ab,ac,ad⟩:=kA q;have ah:=aA q;have M:i.heap.size≠g:=by omega);have af:(a9.setCell (aD i.heap.size 2) (.i (j:Int))).heap[i.heap.size]?=some (.cells #[.t K,.e,.i (j:Int),.i 0] 69):=by have:=aB q 2 (.i (j:Int));simpa using this
  go_wp2_with (go_at_call 177;apply(a3 _ (W.set k M 2 _)).m;rintro e ay ⟨rfl,al,U⟩;have a1:=U.keep k af;have R:=U.keep f (kE u (FG B) 2 (.i (j:Int)));have⟨aq,ar,au,av⟩:=kA a1;have⟨am,an,ao,ap⟩:=kA R;have ai:=aA a1;have aw:=aA R);have⟨X,Y,Z,L⟩:=kA (qMg (kE R (FG B) 3 (.i (l:Int))) (.t K) .e (.i (j:Int)) (.i (l:Int)));refine BI (v:=.agg #[.t K,.e,.i (j:Int),.i (l:Int)]) ?_ rfl ⟨by rw[F.o],?_,(((((((((((a7.t z).alloc (.cells #[.t K,.e,.i 0,.i 0] 69)).t o).t p).set (β:=i.heap.size) (by omega) 2 (.i (j:Int)))).t U).set (β:=i.heap.size) (by omega) 3 (.i (l:Int))).set (β:=w.heap.size) (by omega) 0 (.t K)).set (β:=w.heap.size) (by omega) 1 .e).set (β:=w.heap.size) (by omega) 2 (.i (j:Int))).set (β:=w.heap.size) (by omega) 3 (.i (l:Int))⟩
  .simp[results,Tryz.results179,go_sem,X,Y,Z,L]
  .rw[E.o];exact (((((al.set k M 3 (.i (l:Int))).set f (by omega) 0 (.t K)).set f (by omega) 1 .e).set f (by omega) 2 (.i (j:Int))).set f (by omega) 3 (.i (l:Int)))
 .have n:b.getD (iH b a) 0=0:=by rw[<-y];apply UInt8.toNat_inj.1;simpa using hm
  have ak:((C.toNat:Int)==0)=true:=by simpa using hm
  have⟨d,D⟩:∃d,d=(⟨(nZ b (aZ b (iH b a) 1)).toArray⟩:ByteArray):=⟨_,rfl⟩;have a5:d.size=(nZ b (aZ b (iH b a) 1)).length:=by rw[D];show(nZ b (aZ b (iH b a) 1)).toArray.size=_;simp
  have F:Hid (sF b a=⟨K,d,d.size,0⟩):=by show _=_;unfold sF;rw[AU n,s,a5,D]
  have E:Hid (Cg b a=iH b (aZ b (iH b a) 1)):=by show _=_;unfold Cg;rw[AU n]
  have a4:=λm (r:Rd m ρ g c b (aZ b (iH b a) 1))=>tZ ρ g c b (aZ b (iH b a) 1) m r;rw[<-D]at a4;clear a5 hm n s D y;go_enter Tryz.func179,Tryz.ntmps179;go_wp2_with (go_at_call 180;apply N.m;rintro e i ⟨rfl,A,z⟩;have t:=z.keep f a6;have k:i.heap.size≠ρ:=DL A.lt';have B:w.heap.size<i.heap.size:=(CP.1 t).1;have G:=aC i (.cells #[.t K,.e,.i 0,.i 0] 69);have P:=eV (x:=.cells #[.t K,.e,.i 0,.i 0] 69) t);go_wp2_with (first|(go_at_call 177;apply(I _ (A.alloc _)).m;rintro e m ⟨rfl,V,o⟩;have H:=o.keep k G;have Q:=o.keep f P)|(go_at_call 180;apply(a4 _ V).m;rintro e a9 ⟨rfl,W,p⟩;have q:=p.keep k H;have u:=p.keep f Q;have⟨aa,ab,ac,ad⟩:=kA q;have⟨am,an,ao,ap⟩:=kA u;have ah:=aA q;have ai:=aA u));have aj:=h.lt;have⟨X,Y,Z,L⟩:=kA (qMg (kE (kE u (FG B) 1 (.t d)) (FG B) 2 (.i (d.size:Int))) (.t K) (.t d) (.i (d.size:Int)) (.i 0));refine BI (v:=.agg #[.t K,.t d,.i (d.size:Int),.i 0]) ?_ rfl ⟨by rw[F.o],?_,((((((((((a7.t z).alloc (.cells #[.t K,.e,.i 0,.i 0] 69)).t o).t p).set (β:=i.heap.size) (by omega) 1 (.t d)).set (β:=i.heap.size) (by omega) 2 (.i (d.size:Int)))).set (β:=w.heap.size) (by omega) 0 (.t K)).set (β:=w.heap.size) (by omega) 1 (.t d)).set (β:=w.heap.size) (by omega) 2 (.i (d.size:Int))).set (β:=w.heap.size) (by omega) 3 (.i 0)⟩
  .simp[results,Tryz.results179,go_sem,X,Y,Z,L]
  .rw[E.o];exact ((((((W.set k (by omega) 1 (.t d)).set k (by omega) 2 (.i (d.size:Int))).set f (by omega) 0 (.t K)).set f (by omega) 1 (.t d)).set f (by omega) 2 (.i (d.size:Int))).set f (by omega) 3 (.i 0))
def lD(ver root:Int):Bool:=ver==0&&root==0
def fR(keys:List ByteArray)(kids:List Int):Bool:=(keys.length:Int)==0&&(kids.length:Int)==0
def lT(ents:List Ent):Bool:=(ents.length:Int)==0
def lC(next:Int)(data:ByteArray):Bool:=next==0&&data.toList.isEmpty
def eF(kind ver root next:Int)(keys:List ByteArray)(kids:List Int)(ents:List Ent)(data:ByteArray):Bool :=
 if kind=1 then fR keys kids&&lT ents&&lC next data&&Jl ver root
 else if kind=2 then lD ver root&&lT ents&&lC next data&&gY keys kids
 else if kind=3 then lD ver root&&fR keys kids&&lC next data&&(decide (ents.length≠0)&&gC ⟨#[]⟩ ents)
 else if kind=4 then lD ver root&&fR keys kids&&lT ents&&Ek next data
 else false
def yQ(kind ver root next h g f l k j data b c a w)(t:fB w w.heap.size h (b.map .string))(r:fB w w.heap.size g (c.map (.int .i64)))(p:fB w w.heap.size f (a.flatMap Ent.cells))(y:b.length<=1073741824)(x:c.length<=1073741824)(v:a.length<=1073741824):
  cL 168 #[.agg #[.i kind,.i ver,.i root,.i next,.s h b.length l,.s g c.length k,.s f a.length j,.t data]] w λe w'=>e=.r (.bool (eF kind ver root next b c a data))/\bW w w':=by
 have d:=(AC w.heap.size w).alloc (BZ _) (.cells #[.i kind,.i ver,.i root,.i next,.s h b.length l,.s g c.length k,.s f a.length j,.t data] 80);go_enter Tryz.func168,Tryz.ntmps168;go_upto_region 1 with fail;go_cut [3] (λD n=>D=.bool (lD ver root)/\n=(w.alloc (.cells #[.i kind,.i ver,.i root,.i next,.s h b.length l,.s g c.length k,.s f a.length j,.t data] 80)))
 case first =>
  cases hq:(ver==0)
  all_goals (go_wp2_with fail;go_meet;exact⟨CI Value.bool (by simp only[lD,hq,LC,ME]),rfl⟩)
 case rest =>
 obtain⟨rfl,rfl⟩:=hcut;go_upto_region 2 with fail;go_cut [4] (λE n=>E=.bool (fR b c)/\n=(w.alloc (.cells #[.i kind,.i ver,.i root,.i next,.s h b.length l,.s g c.length k,.s f a.length j,.t data] 80)))
 case first =>
  cases hq:((b.length:Int)==0)
  all_goals (go_wp2_with fail;go_meet;exact⟨CI Value.bool (by simp only[fR,hq,LC,ME]),rfl⟩)
 case rest =>
 obtain⟨rfl,rfl⟩:=hcut;go_upto_region 3 with fail;go_cut [5] (λF n=>F=.bool (lT a)/\n=(w.alloc (.cells #[.i kind,.i ver,.i root,.i next,.s h b.length l,.s g c.length k,.s f a.length j,.t data] 80)))
 case first =>
  go_wp2_with fail
  all_goals (go_meet;exact⟨rfl,rfl⟩)
 case rest =>
 obtain⟨rfl,rfl⟩:=hcut;go_upto_region 4 with fail;go_cut [6] (λG n=>G=.bool (lC next data)/\n=(w.alloc (.cells #[.i kind,.i ver,.i root,.i next,.s h b.length l,.s g c.length k,.s f a.length j,.t data] 80)))
 case first =>
  cases hq:(next==0)
  all_goals (go_wp2_with fail;go_meet;exact⟨CI Value.bool (by simp only[lC,hq,LC,ME]),rfl⟩)
 case rest =>
 obtain⟨rfl,rfl⟩:=hcut;by_cases k1:kind=1
 .have i:Hid (eF kind ver root next b c a data=(fR b c&&lT a&&lC next data&&Jl ver root)):=by show _=_;unfold eF;rw[AU k1]
  have z:(kind==1)=true:=CT.2 k1;clear k1;go_wp2_with (go_at_call 181;apply(Hp _ _ _ _ _ _ _ _ _ _ _ _ _ _ _ ).m;rintro e o ⟨rfl,m⟩)
  all_goals go_ret
  all_goals first|refine⟨bZ ?_,d⟩|refine⟨bZ ?_,d.t (m.m (by simp))⟩
  all_goals (rw[i.o];simp[*])
 have z:=DK.2 k1;by_cases k2:kind=2
 .have i:Hid (eF kind ver root next b c a data=(lD ver root&&lT a&&lC next data&&gY b c)):=by show _=_;unfold eF;rw[AR k1,AU k2]
  have A:(kind==2)=true:=CT.2 k2;clear k1 k2;go_wp2_with (go_at_call 182;apply(Ce _ _ _ _ _ _ _ _ _ _ _ _ _ _ _ ((t.below d).m (show w.heap.size<=(w.alloc (.cells #[.i kind,.i ver,.i root,.i next,.s h b.length l,.s g c.length k,.s f a.length j,.t data] 80)).heap.size by simp)) ((r.below d).m (show w.heap.size<=(w.alloc (.cells #[.i kind,.i ver,.i root,.i next,.s h b.length l,.s g c.length k,.s f a.length j,.t data] 80)).heap.size by simp)) y x).m;rintro e o ⟨rfl,m⟩)
  all_goals go_ret
  all_goals first|refine⟨bZ ?_,d⟩|refine⟨bZ ?_,d.t (m.m (by simp))⟩
  all_goals (rw[i.o];simp[*])
 have A:=DK.2 k2;by_cases k3:kind=3
 .have i:Hid (eF kind ver root next b c a data=(lD ver root&&fR b c&&lC next data&&(decide (a.length≠0)&&gC ⟨#[]⟩ a))):=by show _=_;unfold eF;rw[AR k1,AR k2,AU k3]
  have B:(kind==3)=true:=CT.2 k3;clear k1 k2 k3;go_wp2_with (go_at_call 183;apply(Hq _ _ _ _ _ _ _ _ _ _ _ _ _ _ _ ((p.below d).m (show w.heap.size<=(w.alloc (.cells #[.i kind,.i ver,.i root,.i next,.s h b.length l,.s g c.length k,.s f a.length j,.t data] 80)).heap.size by simp)) v).m;rintro e o ⟨rfl,m⟩)
  all_goals go_ret
  all_goals first|refine⟨bZ ?_,d⟩|refine⟨bZ ?_,d.t (m.m (by simp))⟩
  all_goals (rw[i.o];simp[*])
 have B:=DK.2 k3;by_cases k4:kind=4
 .have i:Hid (eF kind ver root next b c a data=(lD ver root&&fR b c&&lT a&&Ek next data)):=by show _=_;unfold eF;rw[AR k1,AR k2,AR k3,AU k4]
  have C:(kind==4)=true:=CT.2 k4;clear k1 k2 k3 k4;go_wp2_with (go_at_call 184;apply(Ho _ _ _ _ _ _ _ _ _ _ _ _ _ _ _ ).m;rintro e o ⟨rfl,m⟩)
  all_goals go_ret
  all_goals first|refine⟨bZ ?_,d⟩|refine⟨bZ ?_,d.t (m.m (by simp))⟩
  all_goals (rw[i.o];simp[*])
 have C:=DK.2 k4;have i:Hid (eF kind ver root next b c a data=false):=by show _=_;unfold eF;rw[AR k1,AR k2,AR k3,AR k4]
 go_wp2;go_ret;exact⟨bZ (by rw[i.o]),d⟩
def fieldsB(kind ver root next:Int)(keys:List ByteArray)(kids:List Int)(ents:List Ent)(data:ByteArray):List UInt8 :=
 if kind=1 then beB 1 1++beB 8 ver++beB 2 root
 else if kind=2 then beB 1 2++eS keys kids
 else if kind=3 then beB 1 3++mS ents
 else beB 1 4++beB 2 next++dX data
def Hr(bs:List UInt8):List UInt8:=bs++List.replicate (252-bs.length) 0
def uY(bs:List UInt8):List UInt8:=Hr bs++beB 4 (Crc.crc (Hr bs):Nat)
def encS(kind ver root next:Int)(keys:List ByteArray)(kids:List Int)(ents:List Ent)(data:ByteArray):ByteArray :=
 if (eF kind ver root next keys kids ents data&&decide ((fieldsB kind ver root next keys kids ents data).length<=252))=true then ⟨(uY (fieldsB kind ver root next keys kids ents data)).toArray⟩ else ⟨#[]⟩
def dL(kind ver root next:Int)(keys:List ByteArray)(kids:List Int)(ents:List Ent)(data:ByteArray):Int :=
 if (eF kind ver root next keys kids ents data&&decide ((fieldsB kind ver root next keys kids ents data).length<=252))=true then 0 else 2
structure Small (keys:List ByteArray) (kids:List Int) (ents:List Ent) (data:ByteArray):Prop where
 nKeys:keys.length<=1073741824
 nKids:kids.length<=1073741824
 nEnts:ents.length<=1073741824
 each:∀e∈ents,e.key.size<=1073741824/\e.val.size<=1073741824
 lBranch:(eS keys kids).length<=34359738368
 lLeaf:(mS ents).length<=34359738368
 lData:data.size<=1073741824
def Buf.string {a}(h:Buf w B v a):(convert 108 9 v).run Tryz.prog w=.ok (.t ⟨a.toArray⟩) w:=by
 have⟨p,e⟩:=id h;rcases e with⟨rfl,c⟩|⟨g,b,i,rfl,j,m,n,k,l,o⟩
 .obtain rfl:=AH c
  exact run_convert_bytes_nil w 108 5 Tryz.underlying108 Tryz.underlying5 0 0 9 Tryz.underlying9
 .refine run_convert_bytes_back w 108 9 5 (aD g 0) b a Tryz.underlying108 Tryz.underlying5 Tryz.underlying9 λf d=>?_
  exact DG (w:=w) h (g:=g) rfl f _ (by simp[GH d,fO])
def Buf.shape (h:Buf w B v b):∃a c,v=.s a b.length c:=by
 have⟨_,e⟩:=id h;rcases e with⟨rfl,d⟩|⟨g,c,f,rfl,_⟩
 .exact⟨none,0,by rw[d]⟩
 .exact⟨_,_,rfl⟩
def Uh{a a' b c}(d:a=a')(e:b=c):Ending.returned (.tuple #[.t a,.i b])=.r (.tuple #[.t a',.i c]):=by rw[d,e]
def qFk{a}(h:a.length<=252):(Hr a).length=252:=by simp[Hr];omega
def Nz{kind ver root next b c a data}(h:eF kind ver root next b c a data=true):kind=1\/kind=2\/kind=3\/kind=4:=by
 unfold eF at h;by_cases k1:kind=1
 .exact .inl k1
 by_cases k2:kind=2
 .exact .inr (.inl k2)
 by_cases k3:kind=3
 .exact .inr (.inr (.inl k3))
 by_cases k4:kind=4
 .exact .inr (.inr (.inr k4))
 rw[AR k1,AR k2,AR k3,AR k4]at h;cases h
def Gh(kind ver root next h g f k j i data b c a w B)(l:B<=w.heap.size)(p:fB w B h (b.map .string))(o:fB w B g (c.map (.int .i64)))(n:fB w B f (a.flatMap Ent.cells))(d:Small b c a data)(q:kind=1\/kind=2\/kind=3\/kind=4):
  cL 169 #[.agg #[.i kind,.i ver,.i root,.i next,.s h b.length k,.s g c.length j,.s f a.length i,.t data]] w λe w'=>∃m,e=.r m/\Buf w' B m (fieldsB kind ver root next b c a data)/\cY B w w':=by
 have r:=d.lBranch;have s:=d.lLeaf;have t:=d.lData;rcases q with rfl|rfl|rfl|rfl
 .simpa[fieldsB] using Rf ver root next h g f k j i data b c a B w l
 .simpa[fieldsB] using Hw ver root next h g f k j i data b c a B w l p o d.nKeys d.nKids (by omega)
 .simpa[fieldsB] using Rh ver root next h g f k j i data b c a B w l n d.nEnts d.each (by omega)
 .simpa[fieldsB] using Rb ver root next h g f k j i data b c a B w l (by omega)
def Ri{kind ver root next c d a data}(b:Small c d a data):(fieldsB kind ver root next c d a data).length<=34359738400/\1<=(fieldsB kind ver root next c d a data).length:=by
 have e:=b.lBranch;have f:=b.lLeaf;have g:=b.lData;unfold fieldsB;split
 .simp[aL]
 split
 .simp[aL];omega
 split
 .simp[aL];omega
 .simp[aL,dX];omega
def rW(kind ver root next j i g q p l data b c a w)(O:fB w w.heap.size j (b.map .string))(N:fB w w.heap.size i (c.map (.int .i64)))(M:fB w w.heap.size g (a.flatMap Ent.cells))(o:Small b c a data):
  cL 146 #[.agg #[.i kind,.i ver,.i root,.i next,.s j b.length q,.s i c.length p,.s g a.length l,.t data]] w λe w'=>e=.r (.tuple #[.t (encS kind ver root next b c a data),.i (dL kind ver root next b c a data)])/\bW w w':=by
 have m:=(AC w.heap.size w).alloc (BZ _) (.cells #[.i kind,.i ver,.i root,.i next,.s j b.length q,.s i c.length p,.s g a.length l,.t data] 80);have B:=aC w (.cells #[.i kind,.i ver,.i root,.i next,.s j b.length q,.s i c.length p,.s g a.length l,.t data] 80);have y:=(O.below m).m (show w.heap.size<=(w.alloc (.cells #[.i kind,.i ver,.i root,.i next,.s j b.length q,.s i c.length p,.s g a.length l,.t data] 80)).heap.size by simp);have x:=(N.below m).m (show w.heap.size<=(w.alloc (.cells #[.i kind,.i ver,.i root,.i next,.s j b.length q,.s i c.length p,.s g a.length l,.t data] 80)).heap.size by simp);have v:=(M.below m).m (show w.heap.size<=(w.alloc (.cells #[.i kind,.i ver,.i root,.i next,.s j b.length q,.s i c.length p,.s g a.length l,.t data] 80)).heap.size by simp);have S:=o.nKeys;have R:=o.nKids;have P:=o.nEnts;obtain⟨a3,K⟩:=Ri (kind:=kind) (ver:=ver) (root:=root) (next:=next) o;cases hr:eF kind ver root next b c a data
 .have s:Hid (encS kind ver root next b c a data=⟨#[]⟩):=by show _=_;simp[encS,hr]
  have r:Hid (dL kind ver root next b c a data=2):=by show _=_;simp[dL,hr]
  go_enter Tryz.func146,Tryz.ntmps146;go_wp2_with (go_at_call 168;refine(yQ _ _ _ _ _ _ _ _ _ _ _ _ _ _ _ y x v S R P).m ?_;rintro e A ⟨rfl,f⟩);go_ret2;exact⟨Uh s.o.symm r.o.symm,m.t (f.m (by simp))⟩
 .have V:=Nz hr
  obtain⟨fs,Q⟩:∃fs,fs=fieldsB kind ver root next b c a data:=⟨_,rfl⟩;rw[<-Q]at a3 K;have k:Hid (fs=fieldsB kind ver root next b c a data):=Q;clear Q;by_cases hlen:fs.length<=252
  .have s:Hid (encS kind ver root next b c a data=⟨(uY fs).toArray⟩):=by show _=_;unfold encS;rw[<-k.o];simp[hr,hlen]
   have r:Hid (dL kind ver root next b c a data=0):=by show _=_;unfold dL;rw[<-k.o];simp[hr,hlen]
   have W:252-(fs.length:Int)=((252-fs.length:Nat):Int):=by omega
   have a7:fs≠[]:=by intro h;rw[h]at K;simp at K
   have aa:fs.length+(252-fs.length)<=140737488355328:=by omega
   have X:=qFk hlen;have a9:(Hr fs).length+8<=140737488355328:=by omega
   have a8:(⟨(Hr fs).toArray⟩:ByteArray).size<=maxLen:=by show(Hr fs).toArray.size<=_;rw[List.size_toArray,X];decide
   have Z:Hid (252-(fs.length:Int)=((252-fs.length:Nat):Int)):=W;clear W X;go_enter Tryz.func146,Tryz.ntmps146;go_wp2_with (first
    |(go_at_call 168;refine(yQ _ _ _ _ _ _ _ _ _ _ _ _ _ _ _ y x v S R P).m ?_;rintro e A ⟨rfl,f⟩;have z:=(cY.of_below f (BZ _)).other _ _ B rfl;obtain⟨C,D,E,F,G,H,I,J⟩:=bO z;have d:bW w A:=m.t (f.m (by simp));have u:w.heap.size<=A.heap.size:=d.size;clear f y x v B)
    |(go_at_call 169;refine(Gh _ _ _ _ _ _ _ _ _ _ _ _ _ _ _ w.heap.size u (O.below d) (N.below d) (M.below d) o V).m ?_;rintro e Y ⟨a1,rfl,n,t⟩;rw[<-k.o]at n;obtain⟨a0,a2,rfl⟩:=n.shape;have L:w.heap.size<=Y.heap.size:=CF u t.size;clear C D E F G H I J z)
    |(at_builtin;refine Cc _ rfl (.tmp 16) (.tmp 17) rfl w.heap.size fs _ rfl n a7 L (252-fs.length) _ Z.o rfl aa ?_;intro ac ab U T;have ae:=U.string;have a5:w.heap.size<=ab.heap.size:=CF L T.size)
    |(go_at_call 171;refine(Crc.qFi _ _ a8).m ?_;rintro e w' ⟨rfl,rfl⟩)
    |(go_at_call 170;refine(eU _ _ _ _ w.heap.size _ U a5 (by decide) (by decide) a9).m ?_;rintro e ag ⟨ad,rfl,a6,a4⟩;have af:=a6.string))
   go_ret2;exact⟨Uh (s.o.t (by simp[uY,Hr])).symm r.o.symm,d.t (t.below.t (T.below.t a4.below))⟩
  .have s:Hid (encS kind ver root next b c a data=⟨#[]⟩):=by show _=_;unfold encS;rw[<-k.o];simp[hr,hlen]
   have r:Hid (dL kind ver root next b c a data=2):=by show _=_;unfold dL;rw[<-k.o];simp[hr,hlen]
   go_enter Tryz.func146,Tryz.ntmps146;go_wp2_with (first
    |(go_at_call 168;refine(yQ _ _ _ _ _ _ _ _ _ _ _ _ _ _ _ y x v S R P).m ?_;rintro e A ⟨rfl,f⟩;have z:=(cY.of_below f (BZ _)).other _ _ B rfl;obtain⟨C,D,E,F,G,H,I,J⟩:=bO z;have d:bW w A:=m.t (f.m (by simp));have u:=d.size;clear f y x v B)
    |(go_at_call 169;refine(Gh _ _ _ _ _ _ _ _ _ _ _ _ _ _ _ w.heap.size u (O.below d) (N.below d) (M.below d) o V).m ?_;rintro e Y ⟨a1,rfl,n,t⟩;rw[<-k.o]at n;obtain⟨a0,a2,rfl⟩:=n.shape;have L:=CF u t.size;clear C D E F G H I J z))
   go_ret2;exact⟨Uh s.o.symm r.o.symm,d.t t.below⟩
def qMn:(Tryz.prog.info? 9).map (λi=>(i.zero,i.size,i.bytes))=some (some .e,1,16):=by kernel_rfl
def Keys(w:World)(B:Nat)(v:Value)(ks:List ByteArray):Prop:=w.ownsRow B 9 1 v ks.length (ks.map .string)
def Keys.nil(w B):Keys w B .n []:=AL _ _ _ _
def Keys.alloc {ks}(h:Keys w B v ks)(o):Keys (w.alloc o) B v ks:=CH (w:=w) h o
def Keys.below {ks}(h:Keys w B v ks)(a:bW w w'):Keys w' B v ks :=
 JN (row:=none) h ⟨a.os,a.tape,a.output,a.size,λc b _=>a.block c b⟩ (by cases v.ownBlock<;>simp)
def Hk{ops e o a Q}(w)(i:o.guard=none)(b x)(m:o.op=.call {callee:=.builtin .append,args:=#[b,x],argTypes:=#[60,60]})(B ks v)(p:a.eval b=v)(d:Keys w B v ks)(f:B<=w.heap.size)(k)(q:a.eval x=.q w.heap.size 1 1)(C:ks.length+1<=4294967296)(h:∀v' w',Keys w' B v' (ks++[k])->Below B w w'->wpList Tryz.prog ops Q e (a.put o.dst v') w'):
  wpList Tryz.prog ops Q (o :: e) a (w.alloc (.cells #[.t k] 9)):=by
 have⟨u,j,r,s,t⟩:=info_parts qMn;apply LS _ i b x 60 m B 9 u .e 1 16 Tryz.underlying60 j r s t rfl (by decide) v ks.length (ks.map .string) p (d.alloc _) (aD w.heap.size 0) 1 1 [.t k] q rfl (one_cell _ _) (by intro D c;simp at c;subst c;rfl) (by unfold maxLen;omega) (by omega) (by simp;omega);intro z A n g _;refine h z A ?_ (((AC B w).alloc f _).grown g (by simp;omega) (λy l=>(EK (w:=w) d y l).1));unfold Keys;grind
def qLm:(Tryz.prog.info? 3).map (λi=>(i.zero,i.size,i.bytes))=some (some (.i 0),1,8):=by kernel_rfl
def Ints(w:World)(B:Nat)(v:Value)(ks:List Int):Prop:=w.ownsRow B 3 1 v ks.length (ks.map (.int .i64))
def Ints.nil(w B):Ints w B .n []:=AL _ _ _ _
def Ints.alloc {ks}(h:Ints w B v ks)(o):Ints (w.alloc o) B v ks:=CH (w:=w) h o
def sX (h:w.ownsRow B e 1 v n xs)(a:eA ρ w w')(f:ρ<B):w'.ownsRow B e 1 v n xs :=
 JN (row:=some ρ) h ⟨a.os,a.tape,a.output,a.size,λb c d=>a.block b c (λe=>d (by rw[e]))⟩ (by
  cases hv:v.ownBlock with
  |none=>exact .inl rfl
  |some b=>exact .inr (λe=>by have:=(EK (w:=w) h b hv).1;simp at e;omega))
def sZ {B B'}(h:w.ownsRow B e 1 v n xs)(j:B'<=B):w.ownsRow B' e 1 v n xs:=by
 obtain⟨a,c|⟨g,b,i,f,k,d⟩⟩:=h
 .exact⟨a,.inl c⟩
 .exact⟨a,.inr ⟨g,b,i,f,by omega,d⟩⟩
def eA.below (h:eA ρ a w)(b:Below B w w')(f:a.heap.size<=B):eA ρ a w' :=
 ⟨b.os.t h.os,b.tape.t h.tape,b.output.t h.output,CF h.size b.size,λc d e=>(b.block c (by omega)).t (h.block c d e)⟩
def Rd.below {d a}(h:Rd w ρ g c d a)(b:Below B w w')(j:ρ<B)(f:g<B):Rd w' ρ g c d a :=
 ⟨(b.block ρ j).t h.box,λe i=>by rw[b.cell (p:=(aD g e)) f];exact h.bytes e i,h.ne,JI h.lt b.size,h.le,h.len,h.cap⟩
def Hl{ops e o a Q}(w)(i:o.guard=none)(b x)(m:o.op=.call {callee:=.builtin .append,args:=#[b,x],argTypes:=#[44,44]})(B ks v)(p:a.eval b=v)(d:Ints w B v ks)(f:B<=w.heap.size)(k)(q:a.eval x=.q w.heap.size 1 1)(C:ks.length+1<=4294967296)(h:∀v' w',Ints w' B v' (ks++[k])->Below B w w'->wpList Tryz.prog ops Q e (a.put o.dst v') w'):
  wpList Tryz.prog ops Q (o :: e) a (w.alloc (.cells #[.i k] 3)):=by
 have⟨u,j,r,s,t⟩:=info_parts qLm;apply LS _ i b x 44 m B 3 u (.i 0) 1 8 Tryz.underlying44 j r s t rfl (by decide) v ks.length (ks.map .i) p (d.alloc _) (aD w.heap.size 0) 1 1 [.i k] q rfl (one_cell _ _) (by intro D c;simp at c;subst c;rfl) (by unfold maxLen;omega) (by omega) (by simp;omega);intro z A n g _;refine h z A ?_ (((AC B w).alloc f _).grown g (by simp;omega) (λy l=>(EK (w:=w) d y l).1));unfold Ints;rw[BM,CG];exact n
def kD(bs:List UInt8)(a n:Nat):List Int:=(List.range n).map λi=>(iI bs (aZ bs a (2 * i)) 2:Int)
def lX(bs:List UInt8)(a:Nat):Nat->Nat
 |0=>a
 |j+1=>iH bs (lX bs a j)
def jS(bs:List UInt8)(a n:Nat):List ByteArray:=(List.range n).map λj=>(⟨(nZ bs (lX bs a j)).toArray⟩:ByteArray)
def Jc(b a i k):aZ b (aZ b a i) k=aZ b a (i+k):=by unfold aZ;omega
def Vm(b a n):kD b a (n+1)=kD b a n++[(iI b (aZ b a (2 * n)) 2:Int)]:=by simp[kD,LV]
def Vo(b a n):jS b a (n+1)=jS b a n++[(⟨(nZ b (lX b a n)).toArray⟩:ByteArray)]:=by simp[jS,LV]
def Sv(ρ g c bs a w)(h:Rd w ρ g c bs a):
  cL 178 #[.p ρ 0] w λe w'=>∃vk vi,e=.r (.tuple #[vk,vi]) /\
   Keys w' w.heap.size vk (jS bs (aZ bs (aZ bs a 1) (2 * ((bs.getD a 0).toNat+1))) (bs.getD a 0).toNat)/\Ints w' w.heap.size vi (kD bs (aZ bs a 1) ((bs.getD a 0).toNat+1)) /\
   Rd w' ρ g c bs (lX bs (aZ bs (aZ bs a 1) (2 * ((bs.getD a 0).toNat+1))) (bs.getD a 0).toNat)/\eA ρ w w':=by
 have F:=h.lt';have L:=h.lt;have hN:=lB ρ g c bs a w h;have a3:=(bs.getD a 0).toNat_lt;have⟨m,hm⟩:∃m,m=(bs.getD a 0).toNat:=⟨_,rfl⟩;have⟨p,hp⟩:∃p,p=aZ bs a 1:=⟨_,rfl⟩;rw[<-hm]at hN a3⊢;rw[<-hp]at hN⊢;have R:p<=bs.length:=by rw[hp];unfold aZ;omega
 clear hm hp;have⟨P,hP⟩:∃P,P=aZ bs p (2 * (m+1)):=⟨_,rfl⟩;rw[<-hP];have HP:Hid (P=aZ bs p (2 * (m+1))):=hP;clear hP;go_enter Tryz.func178,Tryz.ntmps178;go_wp2_with (go_at_call 177;apply hN.m;rintro e w1 ⟨rfl,W,M⟩);go_loopw [3,9] (λu i wr=>∃j:Nat,j<=m+1/\i=.i j/\Ints wr w.heap.size u (kD bs p j)/\Rd wr ρ g c bs (aZ bs p (2 * j))/\eA ρ w wr) (λ_ i _=>m+1-(intOf i).toNat)
 case atStart=>exact⟨0,AG _,rfl,Ints.nil _ _,by rw[Jb R];exact W,M⟩
 case round =>
  clear W M;obtain⟨j,hj,rfl,hi,I,Z⟩:=hrel;have O:w.heap.size<=wr.heap.size:=Z.size;by_cases hlt:j<m+1
  .have H:=tB ρ g c bs (aZ bs p (2 * j)) wr I
   have lk:(kD bs p j).length+1<=4294967296:=by simp[kD];omega
   have t:=Vm bs p j;rw[Jc]at H;have⟨G,D⟩:∃G,G=iI bs (aZ bs p (2 * j)) 2:=⟨_,rfl⟩;rw[<-D]at H t;have U:Hid (kD bs p (j+1)=kD bs p j++[(G:Int)]):=t;clear D t;have Y:2 * j+2=2 * (j+1):=by omega
   rw[Y]at H;clear Y;go_wp2_with (first|(go_at_call 177;apply H.m;rintro e J ⟨rfl,A,s⟩;have a2:Ints J w.heap.size u3 (kD bs p j):=sX hi s F;have K:w.heap.size<=J.heap.size:=CF O s.size)|(at_builtin;apply Hl J rfl (.tmp 11) (.tmp 14) rfl w.heap.size _ u3 rfl a2 K (G:Int) rfl lk;intro v3 w3 X l));go_roundw
   case rel=>first|exact⟨j+1,by omega,by go_num,by rw[U.o];exact X,A.below l F L,(Z.t s).below l (BZ _)⟩|((repeat apply Exists.intro);exact⟨⟨j+1,by omega,by go_num,by rw[U.o];exact X,A.below l F L,(Z.t s).below l (BZ _)⟩,rfl⟩)
   case measure=>simp[intOf];omega
  .obtain rfl:j=m+1:=by omega
   have⟨E,a1⟩:∃E,E=wr:=⟨_,rfl⟩;subst a1;rw[<-HP.o]at I;clear HP hlt hj;have y:ρ<E.heap.size:=by omega
   have V:g<E.heap.size:=by omega
   go_wp2;go_loopw [2,18] (λu i wr=>∃j:Nat,j<=m/\i=.i j/\Keys wr E.heap.size u (jS bs P j)/\Rd wr ρ g c bs (lX bs P j)/\eA ρ E wr) (λ_ i _=>m-(intOf i).toNat)
   case atStart=>exact⟨0,AG _,rfl,Keys.nil _ _,I,eA.refl _ _⟩
   case round =>
    clear I;obtain⟨j,hj,rfl,hk,I,z⟩:=hrel;have T:E.heap.size<=wr.heap.size:=z.size;by_cases hlt:j<m
    .have H:=tZ ρ g c bs (lX bs P j) wr I
     have lk:(jS bs P j).length+1<=4294967296:=by simp[jS];omega
     have t:=Vo bs P j;have S:iH bs (lX bs P j)=lX bs P (j+1):=rfl;rw[S]at H;have⟨G,D⟩:∃G,G=(⟨(nZ bs (lX bs P j)).toArray⟩:ByteArray):=⟨_,rfl⟩;rw[<-D]at H t;have U:Hid (jS bs P (j+1)=jS bs P j++[G]):=t;clear D t S;go_wp2_with (first|(go_at_call 180;apply H.m;rintro e J ⟨rfl,A,s⟩;have a0:Keys J E.heap.size u2 (jS bs P j):=sX hk s y;have K:E.heap.size<=J.heap.size:=CF T s.size)|(at_builtin;apply Hk J rfl (.tmp 20) (.tmp 23) rfl E.heap.size _ u2 rfl a0 K G rfl lk;intro v3 w3 N l));go_roundw
     case rel=>first|exact⟨j+1,by omega,by go_num,by rw[U.o];exact N,A.below l y V,(z.t s).below l (BZ _)⟩|((repeat apply Exists.intro);exact⟨⟨j+1,by omega,by go_num,by rw[U.o];exact N,A.below l y V,(z.t s).below l (BZ _)⟩,rfl⟩)
     case measure=>simp[intOf];omega
    .obtain rfl:j=m:=by omega
     go_wp2;go_ret2;exact⟨u2,u3,rfl,sZ hk O,sX hi z F,I,Z.t z⟩
def Ww(s u):∃c v,(convert 9 108 (.t s)).run Tryz.prog u=.ok (.q u.heap.size s.size c) v/\v.heap.size=u.heap.size+1/\bW u v /\
  (∀(j:Nat) (a:j<s.data.toList.length),v.c u.heap.size j=some (fO s.data.toList[j]))/\s.size<=c:=by
 refine⟨_,_,run_bytes_of_string u 9 108 5 s Tryz.underlying9 Tryz.underlying108 Tryz.underlying5,by simp,((AC u.heap.size u).drew).alloc (by simp) _,?_,MF _ _ _ _⟩
 .intro j a
  have b:j<s.data.size:=by simpa using a
  have d:(u.drew.alloc (.cells (bytesRow s (grownCap u s.size 0 5)) 5 ((bytesRow s (grownCap u s.size 0 5)).size,(bytesRow s (grownCap u s.size 0 5)).size+1))).heap[u.heap.size]?=some (.cells (bytesRow s (grownCap u s.size 0 5)) 5 ((bytesRow s (grownCap u s.size 0 5)).size,(bytesRow s (grownCap u s.size 0 5)).size+1)):=aC u.drew _;simp only[World.cell?,d];have e:j<s.size:=b;simp[bytesRow,fO,Array.getElem?_append,b,e]
def qFv(ρ g c b a w)(h:Rd w ρ g c b a):
  cL 177 #[.p ρ 0,.i 8] w λe w'=>e=.r (.i (wrap64 (iI b a 8)))/\Rd w' ρ g c b (aZ b a 8)/\eA ρ w w' :=
 vO ρ g c b a 8 w h (by omega)
def wL {u:World}{i j k l m n o p t}(h:cW u β #[i,j,k,l,m,n,o,p] t)(a b c v3 d e f g):
  ((((((((u.setCell (aD β 0) a).setCell (aD β 1) b).setCell (aD β 2) c).setCell (aD β 3) v3).setCell (aD β 4) d).setCell (aD β 5) e).setCell (aD β 6) f).setCell (aD β 7) g).heap[β]?=some (.cells #[a,b,c,v3,d,e,f,g] t):=by
 have:=aB (aB (aB (aB (aB (aB (aB (aB h 0 a) 1 b) 2 c) 3 v3) 4 d) 5 e) 6 f) 7 g;simpa using this
def oV (h:Below B w a)(b:eA ρ a w')(f:B<=ρ)(d:B<=a.heap.size):Below B w w' :=
 h.t ⟨b.os,b.tape,b.output,b.size,λc e=>b.block c (by omega) (by omega)⟩
def pK (h:Below B w a)(b:B<=β)(c d e v3 f g i j):
  Below B w ((((((((a.setCell (aD β 0) c).setCell (aD β 1) d).setCell (aD β 2) e).setCell (aD β 3) v3).setCell (aD β 4) f).setCell (aD β 5) g).setCell (aD β 6) i).setCell (aD β 7) j):=
 (((((((h.setCell b c).setCell b d).setCell b e).setCell b v3).setCell b f).setCell b g).setCell b i).setCell b j
def fJ(w:World)(o):(w.alloc o).heap.size=w.heap.size+1:=by simp
abbrev gT:Obj:=.cells #[.int .i64 0,.int .i64 0,.int .i64 0,.int .i64 0,.slice none 0 0,.slice none 0 0,.slice none 0 0,.string ⟨#[]⟩] 80
abbrev kY(k:Int):Obj:=.cells #[.int .i64 k,.int .i64 0,.int .i64 0,.int .i64 0,.slice none 0 0,.slice none 0 0,.slice none 0 0,.string ⟨#[]⟩] 80
def qF(s w)(o:s.size=256):∃c v,(convert 9 108 (.t s)).run Tryz.prog (w.alloc gT)=.ok (.s (some (aD (w.heap.size+1) 0)) s.size c) v/\v.heap.size=w.heap.size+1+1 /\
  Rd (v.alloc (.cells #[.s (some (aD (w.heap.size+1) 0)) s.size c,.i 0] 247)) (w.heap.size+1+1) (w.heap.size+1) c s.data.toList 0 /\
  (v.alloc (.cells #[.s (some (aD (w.heap.size+1) 0)) s.size c,.i 0] 247)).heap[w.heap.size]?=some gT /\
  bW w (v.alloc (.cells #[.s (some (aD (w.heap.size+1) 0)) s.size c,.i 0] 247)):=by
 have⟨c,v,d,b,a,f,n⟩:=Ww s (w.alloc gT);have g:(w.alloc gT).heap.size=w.heap.size+1:=fJ w gT;unfold bW at a;rw[g]at d b a f;have k:s.data.toList.length=s.size:=by rw[GG];rfl
 have h:bW w (w.alloc gT):=(AC _ w).alloc (BZ _) _;have i:=h.t (a.m (by omega));have e:=aC v (.cells #[.s (some (aD (w.heap.size+1) 0)) s.size c,.i 0] 247);rw[b]at e;refine⟨c,v,d,b,⟨by rw[k];exact e,?_,by omega,by rw[fJ];omega,AG _,by omega,by omega⟩,eV ((a.block w.heap.size (by omega)).t (aC w gT)),i.alloc (by omega) _⟩
 .intro m j
  rw[CK (w:=v) (DA _ _ _ (by show w.heap.size+1<v.heap.size;omega))];exact f m j
def qAq(s w)(F:s.size=256)(m:(s.data.toList.getD 0 0).toNat=1):
  cL 166 #[.t s] w λe w'=>e=.r (.agg #[.i 1,.i (wrap64 (iI s.data.toList (aZ s.data.toList 0 1) 8)),.i (iI s.data.toList (aZ s.data.toList (aZ s.data.toList 0 1) 8) 2:Nat),.i 0,.n,.n,.n,.e])/\bW w w':=by
 have⟨c,v,ar,ay,E,T,R⟩:=qF s w F;have⟨a,B⟩:∃a,a=s.data.toList:=⟨_,rfl⟩;rw[<-B]at E m⊢;have y:=lB _ _ _ _ _ _ E;have⟨p,q⟩:∃p,p=aZ a 0 1:=⟨_,rfl⟩;rw[m,<-q]at y;rw[<-q];have t:=λi (j:Rd i (w.heap.size+1+1) (w.heap.size+1) c a p)=>qFv _ _ _ _ _ _ j;have u:=λi (j:Rd i (w.heap.size+1+1) (w.heap.size+1) c a (aZ a p 8))=>tB _ _ _ _ _ _ j;have⟨b,C⟩:∃b,b=wrap64 (iI a p 8):=⟨_,rfl⟩;have⟨d,D⟩:∃d,d=iI a (aZ a p 8) 2:=⟨_,rfl⟩;rw[<-C]at t⊢;rw[<-D]at u⊢;clear F C D q m B;go_enter Tryz.func166,Tryz.ntmps166;go_upto_region 4 with(go_at_call 177;apply y.m;rintro e h ⟨rfl,g,f⟩);have r:=DL g.lt';have G:w.heap.size<h.heap.size:=by have:=g.lt;omega
 go_upto_region 6 with(go_at_call 177;apply(t _ (g.alloc _)).m;rintro e i ⟨rfl,S,n⟩;have k:=n.keep r (aC h (kY 1));have P:=n.keep (by omega) (eV (x:=kY 1) (f.keep (by omega) T));have⟨a3,a4,a5,a6,a7,a8,a9,aa⟩:=bO k;have au:=aA k);go_upto_region 17 with(go_at_call 177;apply(u _ (S.set r (DL g.lt) 1 _)).m;rintro e az ⟨rfl,ax,o⟩;have l:=o.keep r (aB k 1 (.i b));have z:=o.keep (by omega) (kE P (FG G) 1 (.i b));have⟨ab,ac,ad,ae,af,ag,ah,ai⟩:=bO l;have av:=aA l);have A:=kE z (FG G) 2 (.i (d:Int));have⟨aj,ak,al,am,an,ao,ap,aq⟩:=bO (aB l 2 (.i (d:Int)));have aw:=aA A;have⟨b0,b1,b2,b3,b4,b5,b6,b7⟩:=bO z;have⟨V,W,X,Y,Z,a0,a1,a2⟩:=bO (wL A (.i 1) (.i b) (.i (d:Int)) (.i 0) .n .n .n .e);go_wp2;refine BI (v:=.agg #[.i 1,.i b,.i (d:Int),.i 0,.n,.n,.n,.e]) ?_ rfl ⟨rfl,pK (oV R (((((f.alloc (kY 1)).t n).set (β:=h.heap.size) f.size 1 (.i b)).t o).set (β:=h.heap.size) f.size 2 (.i (d:Int))) (by omega) (by rw[fJ];omega)) (β:=w.heap.size) (BZ _) (.i 1) (.i b) (.i (d:Int)) (.i 0) .n .n .n .e⟩;simp[results,Tryz.results166,go_sem,V,W,X,Y,Z,a0,a1,a2]
def qAo(s w)(F:s.size=256)(m:(s.data.toList.getD 0 0).toNat=4):
  cL 166 #[.t s] w λe w'=>e=.r (.agg #[.i 4,.i 0,.i 0,.i (iI s.data.toList (aZ s.data.toList 0 1) 2:Nat),.n,.n,.n,.t ⟨(nZ s.data.toList (aZ s.data.toList (aZ s.data.toList 0 1) 2)).toArray⟩])/\bW w w':=by
 have⟨c,v,ar,ay,E,T,R⟩:=qF s w F;have⟨a,B⟩:∃a,a=s.data.toList:=⟨_,rfl⟩;rw[<-B]at E m⊢;have y:=lB _ _ _ _ _ _ E;have⟨p,q⟩:∃p,p=aZ a 0 1:=⟨_,rfl⟩;rw[m,<-q]at y;rw[<-q];have t:=λi (j:Rd i (w.heap.size+1+1) (w.heap.size+1) c a p)=>tB _ _ _ _ _ _ j;have u:=λi (j:Rd i (w.heap.size+1+1) (w.heap.size+1) c a (aZ a p 2))=>tZ _ _ _ _ _ _ j;have⟨b,C⟩:∃b,b=iI a p 2:=⟨_,rfl⟩;have⟨d,D⟩:∃d,d=(⟨(nZ a (aZ a p 2)).toArray⟩:ByteArray):=⟨_,rfl⟩;rw[<-C]at t⊢;rw[<-D]at u⊢;clear F C D q m B;go_enter Tryz.func166,Tryz.ntmps166;go_upto_region 4 with(go_at_call 177;apply y.m;rintro e h ⟨rfl,g,f⟩);have r:=DL g.lt';have G:w.heap.size<h.heap.size:=by have:=g.lt;omega
 go_upto_region 16 with(go_at_call 177;apply(t _ (g.alloc _)).m;rintro e i ⟨rfl,S,n⟩;have k:=n.keep r (aC h (kY 4));have P:=n.keep (by omega) (eV (x:=kY 4) (f.keep (by omega) T));have⟨a3,a4,a5,a6,a7,a8,a9,aa⟩:=bO k;have au:=aA k);go_upto_region 17 with(go_at_call 180;apply(u _ (S.set r (DL g.lt) 3 _)).m;rintro e az ⟨rfl,ax,o⟩;have l:=o.keep r (aB k 3 (.i (b:Int)));have z:=o.keep (by omega) (kE P (FG G) 3 (.i (b:Int)));have⟨ab,ac,ad,ae,af,ag,ah,ai⟩:=bO l;have av:=aA l);have A:=kE z (FG G) 7 (.t d);have⟨aj,ak,al,am,an,ao,ap,aq⟩:=bO (aB l 7 (.t d));have aw:=aA A;have⟨b0,b1,b2,b3,b4,b5,b6,b7⟩:=bO z;have⟨V,W,X,Y,Z,a0,a1,a2⟩:=bO (wL A (.i 4) (.i 0) (.i 0) (.i (b:Int)) .n .n .n (.t d));go_wp2;refine BI (v:=.agg #[.i 4,.i 0,.i 0,.i (b:Int),.n,.n,.n,.t d]) ?_ rfl ⟨rfl,pK (oV R (((((f.alloc (kY 4)).t n).set (β:=h.heap.size) f.size 3 (.i (b:Int))).t o).set (β:=h.heap.size) f.size 7 (.t d)) (by omega) (by rw[fJ];omega)) (β:=w.heap.size) (BZ _) (.i 4) (.i 0) (.i 0) (.i (b:Int)) .n .n .n (.t d)⟩;simp[results,Tryz.results166,go_sem,V,W,X,Y,Z,a0,a1,a2]
def qAp(s:ByteArray)(w)(m:s.size=256)(k)(b:(s.data.toList.getD 0 0).toNat=k)(n:k≠1)(o:k≠2)(p:k≠3)(q:k≠4):
  cL 166 #[.t s] w λe w'=>e=.r (.agg #[.i k,.i 0,.i 0,.i 0,.n,.n,.n,.e])/\bW w w':=by
 obtain⟨c,v,V,X,l,A,y⟩:=qF s w m;obtain⟨f,i⟩:∃f,f=s.data.toList:=⟨_,rfl⟩;rw[<-i]at l b;have g:=lB _ _ _ _ _ _ l;rw[b]at g;have J:((k:Int)==1)=false:=by simp;omega
 have K:((k:Int)==2)=false:=by simp;omega
 have L:((k:Int)==3)=false:=by simp;omega
 have M:((k:Int)==4)=false:=by simp;omega
 clear m b i n o p q;go_enter Tryz.func166,Tryz.ntmps166;go_upto_region 4 with(go_at_call 177;refine g.m ?_;rintro e d ⟨rfl,z,j⟩);have a:=eV (x:=kY k) (j.keep (by omega) A);have t:=aC d (kY k);generalize hw2:d.alloc (kY k)=w2 at *;have Y:w.heap.size<d.heap.size:=by have:=z.lt;omega
 obtain⟨N,O,P,Q,R,S,T,U⟩:=bO t;have W:=aA a;obtain⟨Z,a0,a1,a2,a3,a4,a5,a6⟩:=bO a;have u:=wL a (.i k) (.i 0) (.i 0) (.i 0) .n .n .n .e;obtain⟨B,C,D,E,F,G,H,I⟩:=bO u;have h:=j.alloc (kY k);rw[hw2]at h;have r:=pK (oV y h (by omega) (by rw[fJ];omega)) (β:=w.heap.size) (BZ _) (.i k) (.i 0) (.i 0) (.i 0) .n .n .n .e;go_wp2;refine BI (v:=.agg #[.i k,.i 0,.i 0,.i 0,.n,.n,.n,.e]) ?_ rfl ⟨rfl,r⟩;simp[results,Tryz.results166,go_sem,B,C,D,E,F,G,H,I]
def dR (h:w.ownsRow B e 1 v n xs)(a:β<B)(i u):(w.setCell (aD β i) u).ownsRow B e 1 v n xs :=
 sX h ((eA.refl β w).setCell i u) a
def wZ (h:w.ownsRow B e 1 v n xs)(a:β<B)(b c d v3 f g i j):
  ((((((((w.setCell (aD β 0) b).setCell (aD β 1) c).setCell (aD β 2) d).setCell (aD β 3) v3).setCell (aD β 4) f).setCell (aD β 5) g).setCell (aD β 6) i).setCell (aD β 7) j).ownsRow B e 1 v n xs :=
 dR (dR (dR (dR (dR (dR (dR (dR h a 0 b) a 1 c) a 2 d) a 3 v3) a 4 f) a 5 g) a 6 i) a 7 j
def Je (h:w.ownsRow B e 1 v n xs):∃a c,v=.s a n c:=by
 obtain⟨g,⟨rfl,rfl⟩|⟨i,d,j,b,f⟩⟩:=h
 .exact⟨_,_,rfl⟩
 .exact⟨_,_,b⟩
def Oc(s w)(L:s.size=256)(u:(s.data.toList.getD 0 0).toNat=2)(p)(B:p=aZ s.data.toList 0 1)(m)(z:m=(s.data.toList.getD p 0).toNat)(P)(q:P=aZ s.data.toList (aZ s.data.toList p 1) (2 * (m+1))):
  cL 166 #[.t s] w λe w'=>∃D C,e=.r (.agg #[.i 2,.i 0,.i 0,.i 0,D,C,.n,.e]) /\
   Keys w' w.heap.size D (jS s.data.toList P m)/\Ints w' w.heap.size C (kD s.data.toList (aZ s.data.toList p 1) (m+1))/\bW w w':=by
 have⟨c,v,av,az,K,a3,a1⟩:=qF s w L;have⟨i,J⟩:∃i,i=s.data.toList:=⟨_,rfl⟩;rw[<-J]at K u z B q⊢;have I:=lB _ _ _ _ _ _ K;rw[u,<-B]at I;have o:=λE (M:Rd E (w.heap.size+1+1) (w.heap.size+1) c i p)=>Sv _ _ _ _ _ _ M;rw[<-z,<-q]at o;have⟨a,y⟩:∃a,a=jS i P m:=⟨_,rfl⟩;have⟨is,t⟩:∃is,is=kD i (aZ i p 1) (m+1):=⟨_,rfl⟩;rw[<-y,<-t]at o;rw[<-y,<-t];clear L B u J z q y t;go_enter Tryz.func166,Tryz.ntmps166;go_upto_region 4 with(go_at_call 177;apply I.m;rintro e h ⟨rfl,k,j⟩);have b0:=DL k.lt;have l:w.heap.size<h.heap.size:=by have:=k.lt;omega
 have H:=o _ (k.alloc (kY 2));rw[fJ h (kY 2)]at H;go_upto_region 17 with(go_at_call 178;apply H.m;rintro e E ⟨D,C,rfl,G,F,ay,A⟩;obtain⟨f,g,rfl⟩:=Je G;obtain⟨b,d,rfl⟩:=Je F;have n:=A.keep (DL k.lt') (aC h (kY 2));have Z:=A.keep (by omega) (eV (x:=kY 2) (j.keep (by omega) a3));have⟨ad,ae,af,ag,ah,ai,aj,ak⟩:=bO n;have aw:=aA n);have R:=aB (aB n 4 (.s f a.length g)) 5 (.s b is.length d);have r:=kE (kE Z (FG l) 4 (.s f a.length g)) (FG l) 5 (.s b is.length d);have W:=(((j.alloc (kY 2)).t A).set (β:=h.heap.size) j.size 4 (.s f a.length g)).set (β:=h.heap.size) j.size 5 (.s b is.length d);have U:=dR (dR G (DH _) 4 (.s f a.length g)) (DH _) 5 (.s b is.length d);have S:=dR (dR F (DH _) 4 (.s f a.length g)) (DH _) 5 (.s b is.length d);generalize hw5:(E.setCell (aD h.heap.size 4) (.s f a.length g)).setCell (aD h.heap.size 5) (.s b is.length d)=w5 at *;have⟨al,am,an,ao,ap,aq,ar,au⟩:=bO R;have ax:=aA r;have⟨b1,b2,b3,b4,b5,b6,b7,b8⟩:=bO r;have⟨a5,a6,a7,a8,a9,aa,ab,ac⟩:=bO (wL r (.i 2) (.i 0) (.i 0) (.i 0) (.s f a.length g) (.s b is.length d) .n .e);go_wp2;refine BI (v:=.agg #[.i 2,.i 0,.i 0,.i 0,.s f a.length g,.s b is.length d,.n,.e]) ?_ rfl ⟨_,_,rfl,sZ (wZ U (Nat.lt_succ_of_lt l) (.i 2) (.i 0) (.i 0) (.i 0) (.s f a.length g) (.s b is.length d) .n .e) (B':=w.heap.size) (by omega),sZ (wZ S (Nat.lt_succ_of_lt l) (.i 2) (.i 0) (.i 0) (.i 0) (.s f a.length g) (.s b is.length d) .n .e) (B':=w.heap.size) (by omega),pK (oV a1 W (by omega) (by rw[fJ];omega)) (β:=w.heap.size) (BZ _) (.i 2) (.i 0) (.i 0) (.i 0) (.s f a.length g) (.s b is.length d) .n .e⟩;simp[results,Tryz.results166,go_sem,a5,a6,a7,a8,a9,aa,ab,ac]
def Za:(Tryz.prog.info? 69).map (λi=>(i.zero,i.size,i.bytes))=some (some (.agg #[.e,.e,.i 0,.i 0]),4,48):=by kernel_rfl
def fY(w:World)(B:Nat)(v:Value)(es:List Ent):Prop:=w.ownsRow B 69 4 v es.length (es.flatMap Ent.cells)
def fY.nil(w B):fY w B .n []:=AL _ _ _ _
def fY.alloc (h:fY w B v es)(o):fY (w.alloc o) B v es:=CH (w:=w) h o
def fY.only (h:fY w B v es)(a:eA ρ w w')(f:ρ<B):fY w' B v es :=
 JN (row:=some ρ) h ⟨a.os,a.tape,a.output,a.size,λc d e=>a.block c d (λb=>e (by rw[b]))⟩ (by
  cases hv:v.ownBlock with
  |none=>simp
  |some c=>exact .inr (λb=>by have:=(EK (w:=w) h c hv).1;grind))
def fY.set (h:fY w B v es)(a:β<B)(i u):fY (w.setCell (aD β i) u) B v es :=
 h.only ((eA.refl β w).setCell i u) a
def fY.m {B B':Nat}(h:fY w B v es)(i:B'<=B):fY w B' v es:=by
 obtain⟨a,c|⟨f,b,g,e,j,d⟩⟩:=h
 .exact⟨a,.inl c⟩
 .exact⟨a,.inr ⟨f,b,g,e,by omega,d⟩⟩
def fY.slice (h:fY w B v es):∃a c,v=.s a es.length c:=by
 obtain⟨g,⟨rfl,b⟩|⟨i,e,j,d,f⟩⟩:=h
 .simp_all
 grind
def Wj(w:World)(a b c d t):∀j u,[a,b,c,d][j]?=some u->(w.alloc (.cells #[a,b,c,d] t)).cell? (((aD w.heap.size 0):Addr).add j)=some u:=by
 intro j u e;have h:j<4:=by grind
 have f:((aD w.heap.size 0):Addr).add j=(aD w.heap.size j):=by unfold Addr.add;split<;>simp_all
 rw[f];simp only[World.cell?,aC w (.cells #[a,b,c,d] t)];have:j=0\/j=1\/j=2\/j=3:=by omega
 rcases this with rfl|rfl|rfl|rfl<;>simpa using e
def mR(bs:List UInt8)(a:Nat):Nat->Nat
 |0=>a
 |j+1=>Cg bs (mR bs a j)
def fN(bs:List UInt8)(a n:Nat):List Ent:=(List.range n).map λj=>sF bs (mR bs a j)
def Wo(b a n):fN b a (n+1)=fN b a n++[sF b (mR b a n)]:=by simp[fN,LV]
