import Derived.Test.YtdhgdcjmhofhaaaGreatD10
import Derived.Deep.DeepCutAuto
import Derived.Test.YtdhgdcjmhofhaaaGreatD8
set_option linter.all false
set_option maxRecDepth 100000
set_option maxHeartbeats 8000000
namespace Go.Proofs.YtdhgdcjmhofhaaaGreat.Pages
open Go.RowKit Tryz
variable {B c g k n β ρ:Nat} {a u w w':World} {b:List UInt8} {e:TypeId} {es:List Ent} {o:Obj} {v:Value} {xs:List Value}
theorem eD.alloc (h:eD ρ a w)(o):eD ρ a (w.alloc o):=
 h.t ⟨rfl,rfl,rfl,σ,λc b _=>CY _ _ _ b⟩
theorem eD.keep (h:eD ρ w w')(b:k≠ρ)(a:w.1[k]?=some o):w'.1[k]?=some o:=by
 rw[h.block k (CK.1 a).1 b];exact a
theorem eZ {o x}(a:w.1[k]?=some o):(w.alloc x).1[k]?=some o:=by
 rw[CY _ _ _ (CK.1 a).1];exact a
theorem Rd.alloc {a}(h:Rd w ρ g c b a)(o):Rd (w.alloc o) ρ g c b a :=
 h.only ((eD.refl ρ w).alloc o) (eZ h.box) h.le
theorem Rd.lt' {a:Nat}(h:Rd w ρ g c b a):ρ<w:=(CK.1 h.box).1
theorem uL(ρ g c b a w)(h:Rd w ρ g c b a):
  cL 177 #[.p ρ 0,.i 2] w λe w'=>e=.r (.i (iR b a 2:Nat))/\Rd w' ρ g c b (bD b a 2)/\eD ρ w w':=by
 refine(xM ρ g c b a 2 w h ω).m λe w' ⟨d,i,f⟩=>⟨?_,i,f⟩;rw[d];refine Gf (BR (Value.int .i64) ?_);have:=qCb b a 2;unfold wrap64;omega
theorem Rd.set {d a}(h:Rd w ρ g c d a)(j:β≠ρ)(e:β≠g)(i v):Rd (w.setCell (aD β i) v) ρ g c d a :=
 ⟨by rw[DI _ _ _ _ (λb=>j b.symm)];exact h.box,λk f=>by rw[CP (w:=w) (DI _ _ _ _ (λb=>e b.symm))];exact h.bytes k f,h.ne,by have:=h.lt;simpa[World.setCell] using this,h.le,h.len,h.cap⟩
theorem eD.set (h:eD ρ a w)(e:a<=β)(i v):eD ρ a (w.setCell (aD β i) v):=
 ⟨h.os,h.tape,h.output,by have:=h.size;simpa[World.setCell] using this,λd b c=>by rw[DI _ _ _ _ χ];exact h.block d b c⟩
theorem kM (b:w.1[k]?=some o)(a:k≠β)(i v):(w.setCell (aD β i) v).1[k]?=some o:=by
 rw[DI _ _ _ _ a];exact b
theorem qRi {d e f g t}(h:cW u β #[d,e,f,g] t)(a b c v3):((((u.setCell (aD β 0) a).setCell (aD β 1) b).setCell (aD β 2) c).setCell (aD β 3) v3).1[β]?=some (.cells #[a,b,c,v3] t):=by
 have:=aC (aC (aC (aC h 0 a) 1 b) 2 c) 3 v3;simpa using this
def tM(bs:List UInt8)(a:Nat):Ent :=
 if bs.getD (iP bs a) 0=0 then ⟨⟨(oO bs a).toArray⟩,⟨(oO bs (bD bs (iP bs a) 1)).toArray⟩,(oO bs (bD bs (iP bs a) 1)).length,0⟩
 else ⟨⟨(oO bs a).toArray⟩,⟨#[]⟩,iR bs (bD bs (iP bs a) 1) 2,iR bs (bD bs (bD bs (iP bs a) 1) 2) 2⟩
def Eg(bs:List UInt8)(a:Nat):Nat :=
 if bs.getD (iP bs a) 0=0 then iP bs (bD bs (iP bs a) 1) else bD bs (bD bs (bD bs (iP bs a) 1) 2) 2
theorem qAe(ρ g c b a w)(h:Rd w ρ g c b a):
  cL 179 #[.p ρ 0] w λe w'=>e=.r (.agg #[.t (tM b a).key,.t (tM b a).val,.i (tM b a).size,.i (tM b a).over])/\Rd w' ρ g c b (Eg b a)/\eD ρ w w':=by
 have ax:=h.lt';have f:w≠ρ:=ω
 have⟨K,s⟩:∃K,K=(⟨(oO b a).toArray⟩:ByteArray):=⟨_,rfl⟩;have N:=vN ρ g c b a (w.alloc (.cells #[.e,.e,.i 0,.i 0] 69)) (h.alloc _);rw[<-s]at N;have a6:=aB w (.cells #[.e,.e,.i 0,.i 0] 69);have a7:=(eD.refl ρ w).alloc (.cells #[.e,.e,.i 0,.i 0] 69);have I:=λw' (ae:Rd w' ρ g c b (iP b a))=>lN ρ g c b (iP b a) w' ae;have⟨C,y⟩:∃C,C=b.getD (iP b a) 0:=⟨_,rfl⟩;rw[<-y]at I;cases hm:(C.toNat==0)
 .have n:¬b.getD (iP b a) 0=0:=by rw[<-y];intro e;rw[e]at hm;simp at hm
  have ak:((C.toNat:Int)==0)=false:=by simpa using hm
  have⟨j,S⟩:∃j,j=iR b (bD b (iP b a) 1) 2:=⟨_,rfl⟩;have⟨l,T⟩:∃l,l=iR b (bD b (bD b (iP b a) 1) 2) 2:=⟨_,rfl⟩;have F:Hid (tM b a=⟨K,⟨#[]⟩,j,l⟩):=by show _=_;unfold tM;rw[AQ n,s,S,T]
  have E:Hid (Eg b a=bD b (bD b (bD b (iP b a) 1) 2) 2):=by show _=_;unfold Eg;rw[AQ n]
  have a2:=λm (r:Rd m ρ g c b (bD b (iP b a) 1))=>uL ρ g c b (bD b (iP b a) 1) m r;have a3:=λm (r:Rd m ρ g c b (bD b (bD b (iP b a) 1) 2))=>uL ρ g c b (bD b (bD b (iP b a) 1) 2) m r;rw[<-S]at a2;rw[<-T]at a3;have aj:=h.lt;clear hm n s S T y;go_enter func179,ntmps179;go_wp2_with (apply N.m;rintro e i ⟨rfl,A,z⟩;have t:=z.keep f a6;have k:=DT A.lt';have B:=(CK.1 t).1;have G:=aB i (.cells #[.t K,.e,.i 0,.i 0] 69);have P:=eZ (x:=.cells #[.t K,.e,.i 0,.i 0] 69) t);go_upto_region 6 with(go_at_call 177;apply(I _ (A.alloc _)).m;rintro e m ⟨rfl,V,o⟩;have H:=o.keep k G;have Q:=o.keep f P);go_upto_region 7 with(go_at_call 177;apply(a2 _ V).m;rintro e a9 ⟨rfl,W,p⟩;have q:=p.keep k H;have u:=p.keep f Q;have⟨aa,ab,ac,ad⟩:=kI q;have ah:=aF q;have M:i≠g:=by omega);have af:=by have:=aC q 2 (.i (j:Int));simpa using this
  go_wp2_with (go_at_call 177;apply(a3 _ (W.set k M 2 _)).m;rintro e ay ⟨rfl,al,U⟩;have a1:=U.keep k af;have R:=U.keep f (kM u (FS B) 2 (.i (j:Int)));have⟨aq,ar,au,av⟩:=kI a1;have⟨am,an,ao,ap⟩:=kI R;have ai:=aF a1;have aw:=aF R);have⟨X,Y,Z,L⟩:=kI (qRi (kM R (FS B) 3 (.i (l:Int))) (.t K) .e (.i (j:Int)) (.i (l:Int)));refine BH (v:=.agg #[.t K,.e,.i (j:Int),.i (l:Int)]) ?_ rfl ⟨by rw[F.o],?_,(((((((((((a7.t z).alloc (.cells #[.t K,.e,.i 0,.i 0] 69)).t o).t p).set (β:=i) ω 2 (.i (j:Int)))).t U).set (β:=i) ω 3 (.i (l:Int))).set (β:=w) ω 0 (.t K)).set (β:=w) ω 1 .e).set (β:=w) ω 2 (.i (j:Int))).set (β:=w) ω 3 (.i (l:Int))⟩
  .simp[results,results179,go_sem,X,Y,Z,L]
  .rw[E.o];exact (((((al.set k M 3 (.i (l:Int))).set f ω 0 (.t K)).set f ω 1 .e).set f ω 2 (.i (j:Int))).set f ω 3 (.i (l:Int)))
 .have n:b.getD (iP b a) 0=0:=by rw[<-y];apply FO.1;simpa using hm
  have ak:((C.toNat:Int)==0)=true:=by simpa using hm
  have⟨d,D⟩:∃d,d=(⟨(oO b (bD b (iP b a) 1)).toArray⟩:ByteArray):=⟨_,rfl⟩;have a5:d.size=(oO b (bD b (iP b a) 1)):=by rw[D];show(oO b (bD b (iP b a) 1)).toArray.size=_;simp
  have F:Hid (tM b a=⟨K,d,d.size,0⟩):=by show _=_;unfold tM;rw[AU n,s,a5,D]
  have E:Hid (Eg b a=iP b (bD b (iP b a) 1)):=by show _=_;unfold Eg;rw[AU n]
  have O:=λm (r:Rd m ρ g c b (bD b (iP b a) 1))=>vN ρ g c b (bD b (iP b a) 1) m r;rw[<-D]at O;clear a5 hm n s D y;go_enter func179,ntmps179;go_wp2_with (apply N.m;rintro e i ⟨rfl,A,z⟩;have t:=z.keep f a6;have k:=DT A.lt';have B:=(CK.1 t).1;have G:=aB i (.cells #[.t K,.e,.i 0,.i 0] 69);have P:=eZ (x:=.cells #[.t K,.e,.i 0,.i 0] 69) t);go_wp2_with (first|(go_at_call 177;apply(I _ (A.alloc _)).m;rintro e m ⟨rfl,V,o⟩;have H:=o.keep k G;have Q:=o.keep f P)|(go_at_call 180;apply(O _ V).m;rintro e a9 ⟨rfl,W,p⟩;have q:=p.keep k H;have u:=p.keep f Q;have⟨aa,ab,ac,ad⟩:=kI q;have⟨am,an,ao,ap⟩:=kI u;have ah:=aF q;have ai:=aF u));have aj:=h.lt;have⟨X,Y,Z,L⟩:=kI (qRi (kM (kM u (FS B) 1 (.t d)) (FS B) 2 (.i (d.size:Int))) (.t K) (.t d) (.i (d.size:Int)) (.i 0));refine BH (v:=.agg #[.t K,.t d,.i (d.size:Int),.i 0]) ?_ rfl ⟨by rw[F.o],?_,((((((((((a7.t z).alloc (.cells #[.t K,.e,.i 0,.i 0] 69)).t o).t p).set (β:=i) ω 1 (.t d)).set (β:=i) ω 2 (.i (d.size:Int)))).set (β:=w) ω 0 (.t K)).set (β:=w) ω 1 (.t d)).set (β:=w) ω 2 (.i (d.size:Int))).set (β:=w) ω 3 (.i 0)⟩
  .simp[results,results179,go_sem,X,Y,Z,L]
  .rw[E.o];exact ((((((W.set k ω 1 (.t d)).set k ω 2 (.i (d.size:Int))).set f ω 0 (.t K)).set f ω 1 (.t d)).set f ω 2 (.i (d.size:Int))).set f ω 3 (.i 0))
def lP(ver root:Int):Bool:=ver==0&&root==0
def fW(keys:List ByteArray)(kids:List Int):Bool:=(keys.length:Int)==0&&(kids.length:Int)==0
def mK(ents:List Ent):Bool:=(ents.length:Int)==0
def lO(next:Int)(data:ByteArray):Bool:=next==0&&data.toList.isEmpty
def dV(kind ver root next:Int)(keys:List ByteArray)(kids:List Int)(ents:List Ent)(data:ByteArray):Bool :=
 if kind=1 then fW keys kids&&mK ents&&lO next data&&Ly ver root
 else if kind=2 then lP ver root&&mK ents&&lO next data&&iH keys kids
 else if kind=3 then lP ver root&&fW keys kids&&lO next data&&(decide (ents.length≠0)&&gJ ⟨#[]⟩ ents)
 else if kind=4 then lP ver root&&fW keys kids&&mK ents&&Gv next data
 else false
theorem Aw(kind ver root next h g f l k j data b c a w)(t:fI w w h (b.map .string))(r:fI w w g (c.map (.int .i64)))(p:fI w w f (a.flatMap Ent.cells))(y:b.length<=1073741824)(x:c.length<=1073741824)(v:a.length<=1073741824):
  cL 168 #[.agg #[.i kind,.i ver,.i root,.i next,.s h b.length l,.s g c.length k,.s f a.length j,.t data]] w λe w'=>e=.r (.bool (dV kind ver root next b c a data))/\bW w w':=by
 have d:=(AC w w).alloc (CB _) (.cells #[.i kind,.i ver,.i root,.i next,.s h b l,.s g c k,.s f a j,.t data] 80);go_enter func168,ntmps168;go_upto_region 1 with fail;go_cut [3] (λD n=>D=.bool (lP ver root)/\n=(w.alloc (.cells #[.i kind,.i ver,.i root,.i next,.s h b l,.s g c k,.s f a j,.t data] 80)))
 case first =>
  cases hq:(ver==0)
  all_goals (go_wp2_with fail;go_meet;exact⟨BR Value.bool (by simp only[lP,hq,LZ,NC]),rfl⟩)
 case rest =>
 obtain⟨rfl,rfl⟩:=hcut;go_upto_region 2 with fail;go_cut [4] (λE n=>E=.bool (fW b c)/\n=(w.alloc (.cells #[.i kind,.i ver,.i root,.i next,.s h b l,.s g c k,.s f a j,.t data] 80)))
 case first =>
  cases hq:((b.length:Int)==0)
  all_goals (go_wp2_with fail;go_meet;exact⟨BR Value.bool (by simp only[fW,hq,LZ,NC]),rfl⟩)
 case rest =>
 obtain⟨rfl,rfl⟩:=hcut;go_upto_region 3 with fail;go_cut [5] (λF n=>F=.bool (mK a)/\n=(w.alloc (.cells #[.i kind,.i ver,.i root,.i next,.s h b l,.s g c k,.s f a j,.t data] 80)))
 case first =>
  go_wp2_with fail
  all_goals (go_meet;exact⟨rfl,rfl⟩)
 case rest =>
 obtain⟨rfl,rfl⟩:=hcut;go_upto_region 4 with fail;go_cut [6] (λG n=>G=.bool (lO next data)/\n=(w.alloc (.cells #[.i kind,.i ver,.i root,.i next,.s h b l,.s g c k,.s f a j,.t data] 80)))
 case first =>
  cases hq:(next==0)
  all_goals (go_wp2_with fail;go_meet;exact⟨BR Value.bool (by simp only[lO,hq,LZ,NC]),rfl⟩)
 case rest =>
 obtain⟨rfl,rfl⟩:=hcut;by_cases k1:kind=1
 .have i:Hid (dV kind ver root next b c a data=(fW b c&&mK a&&lO next data&&Ly ver root)):=by show _=_;unfold dV;rw[AU k1]
  have z:=CU.2 k1;clear k1;go_wp2_with (go_at_call 181;apply(Ka _ _ _ _ _ _ _ _ _ _ _ _ _ _ _ ).m;rintro e o ⟨rfl,m⟩)
  all_goals go_ret
  all_goals first|refine⟨cF ?_,d⟩|refine⟨cF ?_,d.t (m.m σ)⟩
  all_goals (rw[i.o];simp[*])
 have z:=DP.2 k1;by_cases k2:kind=2
 .have i:Hid (dV kind ver root next b c a data=(lP ver root&&mK a&&lO next data&&iH b c)):=by show _=_;unfold dV;rw[AQ k1,AU k2]
  have A:=CU.2 k2;clear k1 k2;go_wp2_with (go_at_call 182;apply(Ef _ _ _ _ _ _ _ _ _ _ _ _ _ _ _ ((t.below d).m (show w.1.size<=(w.alloc (.cells #[.i kind,.i ver,.i root,.i next,.s h b l,.s g c k,.s f a j,.t data] 80)) by simp)) ((r.below d).m (show w.1.size<=(w.alloc (.cells #[.i kind,.i ver,.i root,.i next,.s h b l,.s g c k,.s f a j,.t data] 80)) by simp)) y x).m;rintro e o ⟨rfl,m⟩)
  all_goals go_ret
  all_goals first|refine⟨cF ?_,d⟩|refine⟨cF ?_,d.t (m.m σ)⟩
  all_goals (rw[i.o];simp[*])
 have A:=DP.2 k2;by_cases k3:kind=3
 .have i:Hid (dV kind ver root next b c a data=(lP ver root&&fW b c&&lO next data&&(decide (a.length≠0)&&gJ ⟨#[]⟩ a))):=by show _=_;unfold dV;rw[AQ k1,AQ k2,AU k3]
  have B:=CU.2 k3;clear k1 k2 k3;go_wp2_with (go_at_call 183;apply(Kb _ _ _ _ _ _ _ _ _ _ _ _ _ _ _ ((p.below d).m (show w.1.size<=(w.alloc (.cells #[.i kind,.i ver,.i root,.i next,.s h b l,.s g c k,.s f a j,.t data] 80)) by simp)) v).m;rintro e o ⟨rfl,m⟩)
  all_goals go_ret
  all_goals first|refine⟨cF ?_,d⟩|refine⟨cF ?_,d.t (m.m σ)⟩
  all_goals (rw[i.o];simp[*])
 have B:=DP.2 k3;by_cases k4:kind=4
 .have i:Hid (dV kind ver root next b c a data=(lP ver root&&fW b c&&mK a&&Gv next data)):=by show _=_;unfold dV;rw[AQ k1,AQ k2,AQ k3,AU k4]
  have C:=CU.2 k4;clear k1 k2 k3 k4;go_wp2_with (go_at_call 184;apply(Jz _ _ _ _ _ _ _ _ _ _ _ _ _ _ _ ).m;rintro e o ⟨rfl,m⟩)
  all_goals go_ret
  all_goals first|refine⟨cF ?_,d⟩|refine⟨cF ?_,d.t (m.m σ)⟩
  all_goals (rw[i.o];simp[*])
 have C:=DP.2 k4;have i:Hid (dV kind ver root next b c a data=false):=by show _=_;unfold dV;rw[AQ k1,AQ k2,AQ k3,AQ k4]
 go_wp2;go_ret;exact⟨cF (by rw[i.o]),d⟩
def fieldsB(kind ver root next:Int)(keys:List ByteArray)(kids:List Int)(ents:List Ent)(data:ByteArray):List UInt8 :=
 if kind=1 then beB 1 1++beB 8 ver++beB 2 root
 else if kind=2 then beB 1 2++eU keys kids
 else if kind=3 then beB 1 3++nI ents
 else beB 1 4++beB 2 next++eF data
def iQ(bs:List UInt8):List UInt8:=bs++List.replicate (252-bs.length) 0
def kN(bs:List UInt8):List UInt8:=iQ bs++beB 4 (Crc.crc (iQ bs):Nat)
def encS(kind ver root next:Int)(keys:List ByteArray)(kids:List Int)(ents:List Ent)(data:ByteArray):ByteArray :=
 if (dV kind ver root next keys kids ents data&&decide ((fieldsB kind ver root next keys kids ents data).length<=252))=true then ⟨(kN (fieldsB kind ver root next keys kids ents data)).toArray⟩ else ⟨#[]⟩
def cV(kind ver root next:Int)(keys:List ByteArray)(kids:List Int)(ents:List Ent)(data:ByteArray):Int :=
 if (dV kind ver root next keys kids ents data&&decide ((fieldsB kind ver root next keys kids ents data).length<=252))=true then 0 else 2
structure Small (keys:List ByteArray) (kids:List Int) (ents:List Ent) (data:ByteArray):Prop where
 nKeys:keys.length<=1073741824
 nKids:kids.length<=1073741824
 nEnts:ents.length<=1073741824
 each:∀e∈ents,e.key.size<=1073741824/\e.val.size<=1073741824
 lBranch:(eU keys kids).length<=34359738368
 lLeaf:(nI ents).length<=34359738368
 lData:data.size<=1073741824
theorem Buf.string {a}(h:Buf w B v a):(convert 108 9 v).run prog w=.ok (.t ⟨a.toArray⟩) w:=by
 have⟨p,e⟩:=id h;rcases e with⟨rfl,c⟩|⟨g,b,i,rfl,j,m,n,k,l,o⟩
 .obtain rfl:=AH c;exact run_convert_bytes_nil w 108 5 underlying108 underlying5 0 0 9 underlying9
 .refine run_convert_bytes_back w 108 9 5 (aD g 0) b a underlying108 underlying5 underlying9 λf d=>?_;exact DH (w:=w) h (g:=g) rfl f _ (by simp[FX d,eO])
theorem Buf.shape (h:Buf w B v b):∃a c,v=.s a b c:=by
 have⟨_,e⟩:=id h;rcases e with⟨rfl,d⟩|⟨g,c,f,rfl,_⟩
 .exact⟨none,0,by rw[d]⟩
 .exact⟨_,_,rfl⟩
theorem Yb{a a' b c}(d:a=a')(e:b=c):Ending.returned (.tuple #[.t a,.i b])=.r (.tuple #[.t a',.i c]):=by rw[d,e]
theorem Gr{a}(h:a.length<=252):(iQ a).length=252:=by simp[iQ];omega
theorem Rm{kind ver root next b c a data}(h:dV kind ver root next b c a data=true):kind=1\/kind=2\/kind=3\/kind=4:=by
 unfold dV at h;by_cases k1:kind=1
 .exact .inl k1
 by_cases k2:kind=2
 .exact .inr (.inl k2)
 by_cases k3:kind=3
 .exact .inr (.inr (.inl k3))
 by_cases k4:kind=4
 .exact .inr (.inr (.inr k4))
 rw[AQ k1,AQ k2,AQ k3,AQ k4]at h;cases h
theorem Io(kind ver root next h g f k j i data b c a w B)(l:B<=w.1.size)(p:fI w B h (b.map .string))(o:fI w B g (c.map (.int .i64)))(n:fI w B f (a.flatMap Ent.cells))(d:Small b c a data)(q:kind=1\/kind=2\/kind=3\/kind=4):
  cL 169 #[.agg #[.i kind,.i ver,.i root,.i next,.s h b k,.s g c j,.s f a i,.t data]] w λe w'=>∃m,e=.r m/\Buf w' B m (fieldsB kind ver root next b c a data)/\dD B w w':=by
 have r:=d.lBranch;have s:=d.lLeaf;have t:=d.lData;rcases q with rfl|rfl|rfl|rfl
 .simpa[fieldsB] using Uo ver root next h g f k j i data b c a B w l
 .simpa[fieldsB] using Kg ver root next h g f k j i data b c a B w l p o d.nKeys d.nKids ω
 .simpa[fieldsB] using Uq ver root next h g f k j i data b c a B w l n d.nEnts d.each ω
 .simpa[fieldsB] using Un ver root next h g f k j i data b c a B w l ω
theorem Ur{kind ver root next c d a data}(b:Small c d a data):(fieldsB kind ver root next c d a data).length<=34359738400/\1<=(fieldsB kind ver root next c d a data).length:=by
 have e:=b.lBranch;have f:=b.lLeaf;have g:=b.lData;unfold fieldsB;split
 .simp[aK]
 split
 .simp[aK];omega
 split
 .simp[aK];omega
 .simp[aK,eF];omega
theorem sZ(kind ver root next j i g q p l data b c a w)(O:fI w w j (b.map .string))(N:fI w w i (c.map (.int .i64)))(M:fI w w g (a.flatMap Ent.cells))(o:Small b c a data):
  cL 146 #[.agg #[.i kind,.i ver,.i root,.i next,.s j b q,.s i c p,.s g a l,.t data]] w λe w'=>e=.r (.tuple #[.t (encS kind ver root next b c a data),.i (cV kind ver root next b c a data)])/\bW w w':=by
 have m:=(AC w w).alloc (CB _) (.cells #[.i kind,.i ver,.i root,.i next,.s j b q,.s i c p,.s g a l,.t data] 80);have B:=aB w (.cells #[.i kind,.i ver,.i root,.i next,.s j b q,.s i c p,.s g a l,.t data] 80);have y:=(O.below m).m (show w.1.size<=(w.alloc (.cells #[.i kind,.i ver,.i root,.i next,.s j b q,.s i c p,.s g a l,.t data] 80)) by simp);have x:=(N.below m).m (show w.1.size<=(w.alloc (.cells #[.i kind,.i ver,.i root,.i next,.s j b q,.s i c p,.s g a l,.t data] 80)) by simp);have v:=(M.below m).m (show w.1.size<=(w.alloc (.cells #[.i kind,.i ver,.i root,.i next,.s j b q,.s i c p,.s g a l,.t data] 80)) by simp);have S:=o.nKeys;have R:=o.nKids;have P:=o.nEnts;obtain⟨a3,K⟩:=Ur (kind:=kind) (ver:=ver) (root:=root) (next:=next) o;cases hr:dV kind ver root next b c a data
 .have s:Hid (encS kind ver root next b c a data=⟨#[]⟩):=by show _=_;simp[encS,hr]
  have r:Hid (cV kind ver root next b c a data=2):=by show _=_;simp[cV,hr]
  go_enter func146,ntmps146;go_wp2_with (go_at_call 168;refine(Aw _ _ _ _ _ _ _ _ _ _ _ _ _ _ _ y x v S R P).m ?_;rintro e A ⟨rfl,f⟩);go_ret2;exact⟨Yb s.o.symm r.o.symm,m.t (f.m σ)⟩
 .have V:=Rm hr
  obtain⟨fs,Q⟩:∃fs,fs=fieldsB kind ver root next b c a data:=⟨_,rfl⟩;rw[<-Q]at a3 K;have k:Hid (fs=fieldsB kind ver root next b c a data):=Q;clear Q;by_cases hlen:fs.length<=252
  .have s:Hid (encS kind ver root next b c a data=⟨(kN fs).toArray⟩):=by show _=_;unfold encS;rw[<-k.o];simp[hr,hlen]
   have r:Hid (cV kind ver root next b c a data=0):=by show _=_;unfold cV;rw[<-k.o];simp[hr,hlen]
   have W:252-(fs.length:Int)=((252-fs:Nat):Int):=ω
   have a7:fs≠[]:=by intro h;rw[h]at K;simp at K
   have aa:fs.length+(252-fs)<=140737488355328:=ω
   have X:=Gr hlen;have a9:(iQ fs).length+8<=140737488355328:=ω
   have a8:(⟨(iQ fs).toArray⟩:ByteArray)<=maxLen:=by show(iQ fs).toArray.size<=_;rw[List.size_toArray,X];decide
   have Z:Hid (252-(fs.length:Int)=((252-fs:Nat):Int)):=W;clear W X;go_enter func146,ntmps146;go_wp2_with (first
    |(go_at_call 168;refine(Aw _ _ _ _ _ _ _ _ _ _ _ _ _ _ _ y x v S R P).m ?_;rintro e A ⟨rfl,f⟩;have z:=(dD.of_below f (CB _)).other _ _ B rfl;obtain⟨C,D,E,F,G,H,I,J⟩:=bU z;have d:=m.t (f.m σ);have u:=d.size;clear f y x v B)
    |(go_at_call 169;refine(Io _ _ _ _ _ _ _ _ _ _ _ _ _ _ _ w u (O.below d) (N.below d) (M.below d) o V).m ?_;rintro e Y ⟨a1,rfl,n,t⟩;rw[<-k.o]at n;obtain⟨a0,a2,rfl⟩:=n.shape;have L:=CF u t.size;clear C D E F G H I J z)
    |(at_builtin;refine Ed _ rfl (.tmp 16) (.tmp 17) rfl w fs _ rfl n a7 L (252-fs) _ Z.o rfl aa ?_;intro ac ab U T;have ae:=U.string;have a5:=CF L T.size)
    |(go_at_call 171;refine(Crc.qJm _ _ a8).m ?_;rintro e w' ⟨rfl,rfl⟩)
    |(go_at_call 170;refine(eW _ _ _ _ w _ U a5 δ δ a9).m ?_;rintro e ag ⟨ad,rfl,a6,a4⟩;have af:=a6.string))
   go_ret2;exact⟨Yb (s.o.t (by simp[kN,iQ])).symm r.o.symm,d.t (t.below.t (T.below.t a4.below))⟩
  .have s:Hid (encS kind ver root next b c a data=⟨#[]⟩):=by show _=_;unfold encS;rw[<-k.o];simp[hr,hlen]
   have r:Hid (cV kind ver root next b c a data=2):=by show _=_;unfold cV;rw[<-k.o];simp[hr,hlen]
   go_enter func146,ntmps146;go_wp2_with (first
    |(go_at_call 168;refine(Aw _ _ _ _ _ _ _ _ _ _ _ _ _ _ _ y x v S R P).m ?_;rintro e A ⟨rfl,f⟩;have z:=(dD.of_below f (CB _)).other _ _ B rfl;obtain⟨C,D,E,F,G,H,I,J⟩:=bU z;have d:=m.t (f.m σ);have u:=d.size;clear f y x v B)
    |(go_at_call 169;refine(Io _ _ _ _ _ _ _ _ _ _ _ _ _ _ _ w u (O.below d) (N.below d) (M.below d) o V).m ?_;rintro e Y ⟨a1,rfl,n,t⟩;rw[<-k.o]at n;obtain⟨a0,a2,rfl⟩:=n.shape;have L:=CF u t.size;clear C D E F G H I J z))
   go_ret2;exact⟨Yb s.o.symm r.o.symm,d.t t.below⟩
theorem qRs:(prog.info? 9).map (λi=>(i.zero,i.size,i.bytes))=some (some .e,1,16):=by kernel_rfl
def Keys(w:World)(B:Nat)(v:Value)(ks:List ByteArray):Prop:=w.ownsRow B 9 1 v ks.length (ks.map .string)
theorem Keys.nil(w B):Keys w B .n []:=AO _ _ _ _
theorem Keys.alloc {ks}(h:Keys w B v ks)(o):Keys (w.alloc o) B v ks:=CG (w:=w) h o
theorem Keys.below {ks}(h:Keys w B v ks)(a:bW w w'):Keys w' B v ks :=
 KF (row:=none) h ⟨a.os,a.tape,a.output,a.size,λc b _=>a.block c b⟩ (by cases v.ownBlock<;>simp)
theorem Jt{ops:Array Oper}{e:List Oper}{o:Oper}{a:Act}{Q:Exit->Act->World->Prop}(w)(i:o.guard=none)(b x)(m:o.op=.call {callee:=.builtin .append,args:=#[b,x],argTypes:=#[60,60]})(B ks v)(p:a.eval b=v)(d:Keys w B v ks)(f:B<=w)(k)(q:a.eval x=.q w 1 1)(C:ks.length+1<=4294967296)(h:∀v' w',Keys w' B v' (ks++[k])->Below B w w'->wpList prog ops Q e (a.put o.dst v') w'):
  wpList prog ops Q (o :: e) a (w.alloc (.cells #[.t k] 9)):=by
 have⟨u,j,r,s,t⟩:=info_parts qRs;apply MR _ i b x 60 m B 9 u .e 1 16 underlying60 j r s t rfl δ v ks (ks.map .string) p (d.alloc _) (aD w 0) 1 1 [.t k] q rfl (one_cell _ _) (by intro D c;simp at c;subst c;rfl) (by unfold maxLen;omega) ω χ;intro z A n g _;refine h z A ?_ (((AC B w).alloc f _).grown g χ (λy l=>(EQ (w:=w) d y l).1));unfold Keys;grind
theorem qQp:(prog.info? 3).map (λi=>(i.zero,i.size,i.bytes))=some (some (.i 0),1,8):=by kernel_rfl
def Ints(w:World)(B:Nat)(v:Value)(ks:List Int):Prop:=w.ownsRow B 3 1 v ks.length (ks.map (.int .i64))
theorem Ints.nil(w B):Ints w B .n []:=AO _ _ _ _
theorem Ints.alloc {ks}(h:Ints w B v ks)(o):Ints (w.alloc o) B v ks:=CG (w:=w) h o
theorem uH (h:w.ownsRow B e 1 v n xs)(a:eD ρ w w')(f:ρ<B):w'.ownsRow B e 1 v n xs :=
 KF (row:=some ρ) h ⟨a.os,a.tape,a.output,a.size,λb c d=>a.block b c (λe=>d (by rw[e]))⟩ (by
  cases hv:v.ownBlock with
  |none=>exact .inl rfl
  |some b=>exact .inr (λe=>by have:=(EQ (w:=w) h b hv).1;simp at e;omega))
theorem uJ {B B'}(h:w.ownsRow B e 1 v n xs)(j:B'<=B):w.ownsRow B' e 1 v n xs:=by
 obtain⟨a,c|⟨g,b,i,f,k,d⟩⟩:=h
 .exact⟨a,.inl c⟩
 .exact⟨a,.inr ⟨g,b,i,f,ω,d⟩⟩
theorem eD.below (h:eD ρ a w)(b:Below B w w')(f:a<=B):eD ρ a w' :=
 ⟨b.os.t h.os,b.tape.t h.tape,b.output.t h.output,CF h.size b.size,λc d e=>(b.block c ω).t (h.block c d e)⟩
theorem Rd.below {d a}(h:Rd w ρ g c d a)(b:Below B w w')(j:ρ<B)(f:g<B):Rd w' ρ g c d a :=
 ⟨(b.block ρ j).t h.box,λe i=>by rw[b.cell (p:=(aD g e)) f];exact h.bytes e i,h.ne,GZ h.lt b.size,h.le,h.len,h.cap⟩
theorem Ju{ops:Array Oper}{e:List Oper}{o:Oper}{a:Act}{Q:Exit->Act->World->Prop}(w)(i:o.guard=none)(b x)(m:o.op=.call {callee:=.builtin .append,args:=#[b,x],argTypes:=#[44,44]})(B ks v)(p:a.eval b=v)(d:Ints w B v ks)(f:B<=w)(k)(q:a.eval x=.q w 1 1)(C:ks.length+1<=4294967296)(h:∀v' w',Ints w' B v' (ks++[k])->Below B w w'->wpList prog ops Q e (a.put o.dst v') w'):
  wpList prog ops Q (o :: e) a (w.alloc (.cells #[.i k] 3)):=by
 have⟨u,j,r,s,t⟩:=info_parts qQp;apply MR _ i b x 44 m B 3 u (.i 0) 1 8 underlying44 j r s t rfl δ v ks (ks.map .i) p (d.alloc _) (aD w 0) 1 1 [.i k] q rfl (one_cell _ _) (by intro D c;simp at c;subst c;rfl) (by unfold maxLen;omega) ω χ;intro z A n g _;refine h z A ?_ (((AC B w).alloc f _).grown g χ (λy l=>(EQ (w:=w) d y l).1));unfold Ints;rw[BL,CC];exact n
def mE(bs:List UInt8)(a n:Nat):List Int:=(List.range n).map λi=>(iR bs (bD bs a (2 * i)) 2:Int)
def mM(bs:List UInt8)(a:Nat):Nat->Nat
 |0=>a
 |j+1=>iP bs (mM bs a j)
def lS(bs:List UInt8)(a n:Nat):List ByteArray:=(List.range n).map λj=>(⟨(oO bs (mM bs a j)).toArray⟩:ByteArray)
theorem Lj(b a i k):bD b (bD b a i) k=bD b a (i+k):=by unfold bD;omega
theorem Zg(b a n):mE b a (n+1)=mE b a n++[(iR b (bD b a (2 * n)) 2:Int)]:=by simp[mE,MU]
theorem Zi(b a n):lS b a (n+1)=lS b a n++[(⟨(oO b (mM b a n)).toArray⟩:ByteArray)]:=by simp[lS,MU]
theorem Wi(ρ g c bs a w)(h:Rd w ρ g c bs a):
  cL 178 #[.p ρ 0] w λe w'=>∃vk vi,e=.r (.tuple #[vk,vi]) /\
   Keys w' w vk (lS bs (bD bs (bD bs a 1) (2 * ((bs.getD a 0).toNat+1))) (bs.getD a 0).toNat)/\Ints w' w vi (mE bs (bD bs a 1) ((bs.getD a 0).toNat+1)) /\
   Rd w' ρ g c bs (mM bs (bD bs (bD bs a 1) (2 * ((bs.getD a 0).toNat+1))) (bs.getD a 0).toNat)/\eD ρ w w':=by
 have F:=h.lt';have L:=h.lt;have hN:=lN ρ g c bs a w h;have a3:=(bs.getD a 0).toNat_lt;have⟨m,hm⟩:∃m,m=(bs.getD a 0).toNat:=⟨_,rfl⟩;have⟨p,hp⟩:∃p,p=bD bs a 1:=⟨_,rfl⟩;rw[<-hm]at hN a3⊢;rw[<-hp]at hN⊢;have R:p<=bs:=by rw[hp];unfold bD;omega
 clear hm hp;have⟨P,hP⟩:∃P,P=bD bs p (2 * (m+1)):=⟨_,rfl⟩;rw[<-hP];have HP:Hid (P=bD bs p (2 * (m+1))):=hP;clear hP;go_enter func178,ntmps178;go_wp2_with (apply hN.m;rintro e w1 ⟨rfl,W,M⟩);go_loopw [3,9] (λu i wr=>∃j:Nat,j<=m+1/\i=.i j/\Ints wr w u (mE bs p j)/\Rd wr ρ g c bs (bD bs p (2 * j))/\eD ρ w wr) (λ_ i _=>m+1-(intOf i).toNat)
 case atStart=>exact⟨0,AG _,rfl,Ints.nil _ _,by rw[Li R];exact W,M⟩
 case round =>
  clear W M;obtain⟨j,hj,rfl,hi,I,Z⟩:=hrel;have O:=Z.size;by_cases hlt:j<m+1
  .have H:=uL ρ g c bs (bD bs p (2 * j)) wr I;have lk:(mE bs p j).length+1<=4294967296:=by simp[mE];omega
   have t:=Zg bs p j;rw[Lj]at H;have⟨G,D⟩:∃G,G=iR bs (bD bs p (2 * j)) 2:=⟨_,rfl⟩;rw[<-D]at H t;have U:Hid _:=t;clear D t;have Y:2 * j+2=2 * (j+1):=ω;rw[Y]at H;clear Y;go_wp2_with (first|(apply H.m;rintro e J ⟨rfl,A,s⟩;have a2:=uH hi s F;have K:=CF O s.size)|(at_builtin;apply Ju J rfl (.tmp 11) (.tmp 14) rfl w _ u3 rfl a2 K (G:Int) rfl lk;intro v3 w3 X l));go_roundw
   case rel=>first|exact⟨j+1,ω,ν,U.o▸X,A.below l F L,(Z.t s).below l (CB _)⟩|((repeat apply Exists.intro);exact⟨⟨j+1,ω,ν,U.o▸X,A.below l F L,(Z.t s).below l (CB _)⟩,rfl⟩)
   case measure=>simp[intOf];omega
  .obtain rfl:j=m+1:=ω;have⟨E,a1⟩:∃E,E=wr:=⟨_,rfl⟩;subst a1;rw[<-HP.o]at I;clear HP hlt hj;have y:ρ<E:=ω;have V:g<E:=ω;go_wp2;go_loopw [2,18] (λu i wr=>∃j:Nat,j<=m/\i=.i j/\Keys wr E u (lS bs P j)/\Rd wr ρ g c bs (mM bs P j)/\eD ρ E wr) (λ_ i _=>m-(intOf i).toNat)
   case atStart=>exact⟨0,AG _,rfl,Keys.nil _ _,I,eD.refl _ _⟩
   case round =>
    clear I;obtain⟨j,hj,rfl,hk,I,z⟩:=hrel;have T:=z.size;by_cases hlt:j<m
    .have H:=vN ρ g c bs (mM bs P j) wr I;have lk:(lS bs P j).length+1<=4294967296:=by simp[lS];omega
     have t:=Zi bs P j;have S:iP bs (mM bs P j)=mM bs P (j+1):=rfl;rw[S]at H;have⟨G,D⟩:∃G,G=(⟨(oO bs (mM bs P j)).toArray⟩:ByteArray):=⟨_,rfl⟩;rw[<-D]at H t;have U:Hid _:=t;clear D t S;go_wp2_with (first|(apply H.m;rintro e J ⟨rfl,A,s⟩;have a0:=uH hk s y;have K:=CF T s.size)|(at_builtin;apply Jt J rfl (.tmp 20) (.tmp 23) rfl E _ u2 rfl a0 K G rfl lk;intro v3 w3 N l));go_roundw
     case rel=>first|exact⟨j+1,ω,ν,U.o▸N,A.below l y V,(z.t s).below l (CB _)⟩|((repeat apply Exists.intro);exact⟨⟨j+1,ω,ν,U.o▸N,A.below l y V,(z.t s).below l (CB _)⟩,rfl⟩)
     case measure=>simp[intOf];omega
    .obtain rfl:j=m:=ω;go_wp2;go_ret2;exact⟨u2,u3,rfl,uJ hk O,uH hi z F,I,Z.t z⟩
theorem qAl(s u):∃c v,(convert 9 108 (.t s)).run prog u=.ok (.q u s c) v/\v.1.size=u+1/\bW u v /\
  (∀(j:Nat) (a:j<s.data.toList),v.c u j=some (eO s.data.toList[j]))/\s<=c:=by
 refine⟨_,_,run_bytes_of_string u 9 108 5 s underlying9 underlying108 underlying5,σ,((AC u u).drew).alloc σ _,?_,ND _ _ _ _⟩
 .intro j a;have b:j<s.data.size:=by simpa using a
  have d:(u.drew.alloc (.cells (bytesRow s (grownCap u s 0 5)) 5 ((bytesRow s (grownCap u s 0 5)).size,(bytesRow s (grownCap u s 0 5)).size+1))).1[u.1.size]?=some (.cells (bytesRow s (grownCap u s 0 5)) 5 ((bytesRow s (grownCap u s 0 5)).size,(bytesRow s (grownCap u s 0 5)).size+1)):=aB u.drew _;simp only[World.cell?,d];have e:j<s:=b;simp[bytesRow,eO,Array.getElem?_append,b,e]
theorem qJz(ρ g c b a w)(h:Rd w ρ g c b a):
  cL 177 #[.p ρ 0,.i 8] w λe w'=>e=.r (.i (wrap64 (iR b a 8)))/\Rd w' ρ g c b (bD b a 8)/\eD ρ w w' :=
 xM ρ g c b a 8 w h ω
theorem yN {i j k l m n o p t}(h:cW u β #[i,j,k,l,m,n,o,p] t)(a b c v3 d e f g):
  ((((((((u.setCell (aD β 0) a).setCell (aD β 1) b).setCell (aD β 2) c).setCell (aD β 3) v3).setCell (aD β 4) d).setCell (aD β 5) e).setCell (aD β 6) f).setCell (aD β 7) g).1[β]?=some (.cells #[a,b,c,v3,d,e,f,g] t):=by
 have:=aC (aC (aC (aC (aC (aC (aC (aC h 0 a) 1 b) 2 c) 3 v3) 4 d) 5 e) 6 f) 7 g;simpa using this
theorem pJ (h:Below B w a)(b:eD ρ a w')(f:B<=ρ)(d:B<=a):Below B w w' :=
 h.t ⟨b.os,b.tape,b.output,b.size,λc e=>b.block c ω ω⟩
theorem qC (h:Below B w a)(b:B<=β)(c d e v3 f g i j):
  Below B w ((((((((a.setCell (aD β 0) c).setCell (aD β 1) d).setCell (aD β 2) e).setCell (aD β 3) v3).setCell (aD β 4) f).setCell (aD β 5) g).setCell (aD β 6) i).setCell (aD β 7) j):=
 (((((((h.setCell b c).setCell b d).setCell b e).setCell b v3).setCell b f).setCell b g).setCell b i).setCell b j
theorem fV(w:World)(o):(w.alloc o).1.size=w+1:=σ
abbrev iN:Obj:=.cells #[.int .i64 0,.int .i64 0,.int .i64 0,.int .i64 0,.slice none 0 0,.slice none 0 0,.slice none 0 0,.string ⟨#[]⟩] 80
abbrev mD(k:Int):Obj:=.cells #[.int .i64 k,.int .i64 0,.int .i64 0,.int .i64 0,.slice none 0 0,.slice none 0 0,.slice none 0 0,.string ⟨#[]⟩] 80
theorem qY(s w)(o:s.size=256):∃c v,(convert 9 108 (.t s)).run prog (w.alloc iN)=.ok (.s (some (aD (w.1.size+1) 0)) s.size c) v/\v.1.size=w.1.size+1+1 /\
  Rd (v.alloc (.cells #[.s (some (aD (w.1.size+1) 0)) s.size c,.i 0] 247)) (w.1.size+1+1) (w.1.size+1) c s.data.toList 0 /\
  (v.alloc (.cells #[.s (some (aD (w.1.size+1) 0)) s.size c,.i 0] 247)).1[w.1.size]?=some iN /\
  bW w (v.alloc (.cells #[.s (some (aD (w.1.size+1) 0)) s.size c,.i 0] 247)):=by
 have⟨c,v,d,b,a,f,n⟩:=qAl s (w.alloc iN);have g:=fV w iN;unfold bW at a;rw[g]at d b a f;have k:s.data.toList=s.size:=by rw[GA];rfl
 have h:bW w (w.alloc iN):=(AC _ w).alloc (CB _) _;have i:=h.t (a.m ω);have e:=aB v (.cells #[.s (some (aD (w.1.size+1) 0)) s.size c,.i 0] 247);rw[b]at e;refine⟨c,v,d,b,⟨by rw[k];exact e,?_,ω,by rw[fV];omega,AG _,ω,ω⟩,eZ ((a.block w.1.size ω).t (aB w iN)),i.alloc ω _⟩
 .intro m j;rw[CP (w:=v) (CY _ _ _ (by show w.1.size+1<v;omega))];exact f m j
theorem qEo(s w)(F:s.size=256)(m:(s.data.toList.getD 0 0).toNat=1):
  cL 166 #[.t s] w λe w'=>e=.r (.agg #[.i 1,.i (wrap64 (iR s.data.toList (bD s.data.toList 0 1) 8)),.i (iR s.data.toList (bD s.data.toList (bD s.data.toList 0 1) 8) 2:Nat),.i 0,.n,.n,.n,.e])/\bW w w':=by
 have⟨c,v,ar,ay,E,T,R⟩:=qY s w F;have⟨a,B⟩:∃a,a=s.data.toList:=⟨_,rfl⟩;rw[<-B]at E m⊢;have y:=lN _ _ _ _ _ _ E;have⟨p,q⟩:∃p,p=bD a 0 1:=⟨_,rfl⟩;rw[m,<-q]at y;rw[<-q];have t:=λi (j:Rd i (w.1.size+1+1) (w.1.size+1) c a p)=>qJz _ _ _ _ _ _ j;have u:=λi (j:Rd i (w.1.size+1+1) (w.1.size+1) c a (bD a p 8))=>uL _ _ _ _ _ _ j;have⟨b,C⟩:∃b,b=wrap64 (iR a p 8):=⟨_,rfl⟩;have⟨d,D⟩:∃d,d=iR a (bD a p 8) 2:=⟨_,rfl⟩;rw[<-C]at t⊢;rw[<-D]at u⊢;clear F C D q m B;go_enter func166,ntmps166;go_upto_region 4 with(apply y.m;rintro e h ⟨rfl,g,f⟩);have r:=DT g.lt';have G:w.1.size<h.1.size:=by have:=g.lt;omega
 go_upto_region 6 with(go_at_call 177;apply(t _ (g.alloc _)).m;rintro e i ⟨rfl,S,n⟩;have k:=n.keep r (aB h (mD 1));have P:=n.keep ω (eZ (x:=mD 1) (f.keep ω T));have⟨a3,a4,a5,a6,a7,a8,a9,aa⟩:=bU k;have au:=aF k);go_upto_region 17 with(go_at_call 177;apply(u _ (S.set r (DT g.lt) 1 _)).m;rintro e az ⟨rfl,ax,o⟩;have l:=o.keep r (aC k 1 (.i b));have z:=o.keep ω (kM P (FS G) 1 (.i b));have⟨ab,ac,ad,ae,af,ag,ah,ai⟩:=bU l;have av:=aF l);have A:=kM z (FS G) 2 (.i (d:Int));have⟨aj,ak,L,am,an,ao,ap,aq⟩:=bU (aC l 2 (.i (d:Int)));have aw:=aF A;have⟨b0,b1,b2,b3,b4,b5,b6,b7⟩:=bU z;have⟨V,W,X,Y,Z,J,K,I⟩:=bU (yN A (.i 1) (.i b) (.i (d:Int)) (.i 0) .n .n .n .e);go_wp2;refine BH (v:=.agg #[.i 1,.i b,.i (d:Int),.i 0,.n,.n,.n,.e]) ?_ rfl ⟨rfl,qC (pJ R (((((f.alloc (mD 1)).t n).set (β:=h) f.size 1 (.i b)).t o).set (β:=h) f.size 2 (.i (d:Int))) ω (by rw[fV];omega)) (β:=w) (CB _) (.i 1) (.i b) (.i (d:Int)) (.i 0) .n .n .n .e⟩;simp[results,results166,go_sem,V,W,X,Y,Z,J,K,I]
theorem qEm(s w)(F:s.size=256)(m:(s.data.toList.getD 0 0).toNat=4):
  cL 166 #[.t s] w λe w'=>e=.r (.agg #[.i 4,.i 0,.i 0,.i (iR s.data.toList (bD s.data.toList 0 1) 2:Nat),.n,.n,.n,.t ⟨(oO s.data.toList (bD s.data.toList (bD s.data.toList 0 1) 2)).toArray⟩])/\bW w w':=by
 have⟨c,v,ar,ay,E,T,R⟩:=qY s w F;have⟨a,B⟩:∃a,a=s.data.toList:=⟨_,rfl⟩;rw[<-B]at E m⊢;have y:=lN _ _ _ _ _ _ E;have⟨p,q⟩:∃p,p=bD a 0 1:=⟨_,rfl⟩;rw[m,<-q]at y;rw[<-q];have t:=λi (j:Rd i (w.1.size+1+1) (w.1.size+1) c a p)=>uL _ _ _ _ _ _ j;have u:=λi (j:Rd i (w.1.size+1+1) (w.1.size+1) c a (bD a p 2))=>vN _ _ _ _ _ _ j;have⟨b,C⟩:∃b,b=iR a p 2:=⟨_,rfl⟩;have⟨d,D⟩:∃d,d=(⟨(oO a (bD a p 2)).toArray⟩:ByteArray):=⟨_,rfl⟩;rw[<-C]at t⊢;rw[<-D]at u⊢;clear F C D q m B;go_enter func166,ntmps166;go_upto_region 4 with(apply y.m;rintro e h ⟨rfl,g,f⟩);have r:=DT g.lt';have G:w.1.size<h.1.size:=by have:=g.lt;omega
 go_upto_region 16 with(go_at_call 177;apply(t _ (g.alloc _)).m;rintro e i ⟨rfl,S,n⟩;have k:=n.keep r (aB h (mD 4));have P:=n.keep ω (eZ (x:=mD 4) (f.keep ω T));have⟨a3,a4,a5,a6,a7,a8,a9,aa⟩:=bU k;have au:=aF k);go_upto_region 17 with(go_at_call 180;apply(u _ (S.set r (DT g.lt) 3 _)).m;rintro e az ⟨rfl,ax,o⟩;have l:=o.keep r (aC k 3 (.i (b:Int)));have z:=o.keep ω (kM P (FS G) 3 (.i (b:Int)));have⟨ab,ac,ad,ae,af,ag,ah,ai⟩:=bU l;have av:=aF l);have A:=kM z (FS G) 7 (.t d);have⟨aj,ak,L,am,an,ao,ap,aq⟩:=bU (aC l 7 (.t d));have aw:=aF A;have⟨b0,b1,b2,b3,b4,b5,b6,b7⟩:=bU z;have⟨V,W,X,Y,Z,J,K,I⟩:=bU (yN A (.i 4) (.i 0) (.i 0) (.i (b:Int)) .n .n .n (.t d));go_wp2;refine BH (v:=.agg #[.i 4,.i 0,.i 0,.i (b:Int),.n,.n,.n,.t d]) ?_ rfl ⟨rfl,qC (pJ R (((((f.alloc (mD 4)).t n).set (β:=h) f.size 3 (.i (b:Int))).t o).set (β:=h) f.size 7 (.t d)) ω (by rw[fV];omega)) (β:=w) (CB _) (.i 4) (.i 0) (.i 0) (.i (b:Int)) .n .n .n (.t d)⟩;simp[results,results166,go_sem,V,W,X,Y,Z,J,K,I]
theorem qEn(s:ByteArray)(w)(m:s.size=256)(k)(b:(s.data.toList.getD 0 0).toNat=k)(n:k≠1)(o:k≠2)(p:k≠3)(q:k≠4):
  cL 166 #[.t s] w λe w'=>e=.r (.agg #[.i k,.i 0,.i 0,.i 0,.n,.n,.n,.e])/\bW w w':=by
 obtain⟨c,v,V,X,l,A,y⟩:=qY s w m;obtain⟨f,i⟩:∃f,f=s.data.toList:=⟨_,rfl⟩;rw[<-i]at l b;have g:=lN _ _ _ _ _ _ l;rw[b]at g;have J:((k:Int)==1)=false:=χ
 have K:((k:Int)==2)=false:=χ
 have L:((k:Int)==3)=false:=χ
 have M:((k:Int)==4)=false:=χ
 clear m b i n o p q;go_enter func166,ntmps166;go_upto_region 4 with(refine g.m ?_;rintro e d ⟨rfl,z,j⟩);have a:=eZ (x:=mD k) (j.keep ω A);have t:=aB d (mD k);generalize hw2:d.alloc (mD k)=w2 at *;have Y:w.1.size<d:=by have:=z.lt;omega
 obtain⟨N,O,P,Q,R,S,T,U⟩:=bU t;have W:=aF a;obtain⟨Z,a0,a1,a2,a3,a4,a5,a6⟩:=bU a;have u:=yN a (.i k) (.i 0) (.i 0) (.i 0) .n .n .n .e;obtain⟨B,C,D,E,F,G,H,I⟩:=bU u;have h:=j.alloc (mD k);rw[hw2]at h;have r:=qC (pJ y h ω (by rw[fV];omega)) (β:=w) (CB _) (.i k) (.i 0) (.i 0) (.i 0) .n .n .n .e;go_wp2;refine BH (v:=.agg #[.i k,.i 0,.i 0,.i 0,.n,.n,.n,.e]) ?_ rfl ⟨rfl,r⟩;simp[results,results166,go_sem,B,C,D,E,F,G,H,I]
theorem dT (h:w.ownsRow B e 1 v n xs)(a:β<B)(i u):(w.setCell (aD β i) u).ownsRow B e 1 v n xs :=
 uH h ((eD.refl β w).setCell i u) a
theorem zA (h:w.ownsRow B e 1 v n xs)(a:β<B)(b c d v3 f g i j):
  ((((((((w.setCell (aD β 0) b).setCell (aD β 1) c).setCell (aD β 2) d).setCell (aD β 3) v3).setCell (aD β 4) f).setCell (aD β 5) g).setCell (aD β 6) i).setCell (aD β 7) j).ownsRow B e 1 v n xs :=
 dT (dT (dT (dT (dT (dT (dT (dT h a 0 b) a 1 c) a 2 d) a 3 v3) a 4 f) a 5 g) a 6 i) a 7 j
theorem Lp (h:w.ownsRow B e 1 v n xs):∃a c,v=.s a n c:=by
 obtain⟨g,⟨rfl,rfl⟩|⟨i,d,j,b,f⟩⟩:=h
 .exact⟨_,_,rfl⟩
 .exact⟨_,_,b⟩
theorem Rp(s w)(L:s.size=256)(u:(s.data.toList.getD 0 0).toNat=2)(p)(B:p=bD s.data.toList 0 1)(m)(z:m=(s.data.toList.getD p 0).toNat)(P)(q:P=bD s.data.toList (bD s.data.toList p 1) (2 * (m+1))):
  cL 166 #[.t s] w λe w'=>∃D C,e=.r (.agg #[.i 2,.i 0,.i 0,.i 0,D,C,.n,.e]) /\
   Keys w' w D (lS s.data.toList P m)/\Ints w' w C (mE s.data.toList (bD s.data.toList p 1) (m+1))/\bW w w':=by
 have⟨c,v,av,az,K,a3,V⟩:=qY s w L;have⟨i,J⟩:∃i,i=s.data.toList:=⟨_,rfl⟩;rw[<-J]at K u z B q⊢;have I:=lN _ _ _ _ _ _ K;rw[u,<-B]at I;have o:=λE (M:Rd E (w+1+1) (w+1) c i p)=>Wi _ _ _ _ _ _ M;rw[<-z,<-q]at o;have⟨a,y⟩:∃a,a=lS i P m:=⟨_,rfl⟩;have⟨O,t⟩:∃O,O=mE i (bD i p 1) (m+1):=⟨_,rfl⟩;rw[<-y,<-t]at o;rw[<-y,<-t];clear L B u J z q y t;go_enter func166,ntmps166;go_upto_region 4 with(go_at_call 177;apply I.m;rintro e h ⟨rfl,k,j⟩);have l:w.1.size<h:=by have:=k.lt;omega
 have H:=o _ (k.alloc (mD 2));rw[fV h (mD 2)]at H;go_upto_region 17 with(go_at_call 178;apply H.m;rintro e E ⟨D,C,rfl,G,F,ay,A⟩;obtain⟨f,g,rfl⟩:=Lp G;obtain⟨b,d,rfl⟩:=Lp F;have n:=A.keep (DT k.lt') (aB h (mD 2));have Z:=A.keep ω (eZ (x:=mD 2) (j.keep ω a3));have⟨ad,ae,af,ag,ah,ai,aj,ak⟩:=bU n;have aw:=aF n);have R:=aC (aC n 4 (.s f a g)) 5 (.s b O d);have r:=kM (kM Z (FS l) 4 (.s f a g)) (FS l) 5 (.s b O d);have W:=(((j.alloc (mD 2)).t A).set (β:=h) j.size 4 (.s f a g)).set (β:=h) j.size 5 (.s b O d);have U:=dT (dT G (DJ _) 4 (.s f a g)) (DJ _) 5 (.s b O d);have S:=dT (dT F (DJ _) 4 (.s f a g)) (DJ _) 5 (.s b O d);generalize hw5:(E.setCell (aD h 4) (.s f a g)).setCell (aD h 5) (.s b O d)=w5 at *;have⟨al,am,an,ao,ap,aq,ar,au⟩:=bU R;have ax:=aF r;have⟨b1,b2,b3,b4,b5,b6,b7,b8⟩:=bU r;have⟨Q,Y,X,a8,T,aa,ab,ac⟩:=bU (yN r (.i 2) (.i 0) (.i 0) (.i 0) (.s f a g) (.s b O d) .n .e);go_wp2;refine BH (v:=.agg #[.i 2,.i 0,.i 0,.i 0,.s f a g,.s b O d,.n,.e]) ?_ rfl ⟨_,_,rfl,uJ (zA U (Nat.lt_succ_of_lt l) (.i 2) (.i 0) (.i 0) (.i 0) (.s f a g) (.s b O d) .n .e) (B':=w) ω,uJ (zA S (Nat.lt_succ_of_lt l) (.i 2) (.i 0) (.i 0) (.i 0) (.s f a g) (.s b O d) .n .e) (B':=w) ω,qC (pJ V W ω (by rw[fV];omega)) (β:=w) (CB _) (.i 2) (.i 0) (.i 0) (.i 0) (.s f a g) (.s b O d) .n .e⟩;simp[results,results166,go_sem,Q,Y,X,a8,T,aa,ab,ac]
theorem qCo:(prog.info? 69).map (λi=>(i.zero,i.size,i.bytes))=some (some (.agg #[.e,.e,.i 0,.i 0]),4,48):=by kernel_rfl
def gN(w:World)(B:Nat)(v:Value)(es:List Ent):Prop:=w.ownsRow B 69 4 v es.length (es.flatMap Ent.cells)
theorem gN.nil(w B):gN w B .n []:=AO _ _ _ _
theorem gN.alloc (h:gN w B v es)(o):gN (w.alloc o) B v es:=CG (w:=w) h o
theorem gN.only (h:gN w B v es)(a:eD ρ w w')(f:ρ<B):gN w' B v es :=
 KF (row:=some ρ) h ⟨a.os,a.tape,a.output,a.size,λc d e=>a.block c d (λb=>e (by rw[b]))⟩ (by
  cases hv:v.ownBlock with
  |none=>simp
  |some c=>exact .inr (λb=>by have:=(EQ (w:=w) h c hv).1;grind))
theorem gN.set (h:gN w B v es)(a:β<B)(i u):gN (w.setCell (aD β i) u) B v es :=
 h.only ((eD.refl β w).setCell i u) a
theorem gN.m {B B':Nat}(h:gN w B v es)(i:B'<=B):gN w B' v es:=by
 obtain⟨a,c|⟨f,b,g,e,j,d⟩⟩:=h
 .exact⟨a,.inl c⟩
 .exact⟨a,.inr ⟨f,b,g,e,ω,d⟩⟩
theorem gN.slice (h:gN w B v es):∃a c,v=.s a es c:=by
 obtain⟨g,⟨rfl,b⟩|⟨i,e,j,d,f⟩⟩:=h
 .simp_all
 grind
theorem Zx(w:World)(a b c d t):∀j u,[a,b,c,d][j]?=some u->(w.alloc (.cells #[a,b,c,d] t)).cell? (((aD w 0):Addr).add j)=some u:=by
 intro j u e;have h:j<4:=ζ
 have f:((aD w 0):Addr).add j=(aD w j):=by unfold Addr.add;split<;>simp_all
 rw[f];simp only[World.cell?,aB w (.cells #[a,b,c,d] t)];have:j=0\/j=1\/j=2\/j=3:=ω;rcases this with rfl|rfl|rfl|rfl<;>simpa using e
def nF(bs:List UInt8)(a:Nat):Nat->Nat
 |0=>a
 |j+1=>Eg bs (nF bs a j)
def gD(bs:List UInt8)(a n:Nat):List Ent:=(List.range n).map λj=>tM bs (nF bs a j)
theorem qAc(b a n):gD b a (n+1)=gD b a n++[tM b (nF b a n)]:=by simp[gD,MU]
theorem Vl(s : ByteArray)(u : World): ∃c v, (convert 9 108 (.t s)).run prog u = .ok (.s (some (aD u 0)) s c) v /\ Below u u v /\
    (∀(j : Nat) (b : j < s.data.toList), v.c u j = some (eO s.data.toList[j])) /\ (∀j, j < s.size -> v.frozen? (aD u j) = false) /\ (∃row e, v.1[u.1.size]? = some (.cells row 5 e) /\ s <= row.size):= by
  refine⟨_, _, run_bytes_of_string u 9 108 5 s underlying9 underlying108 underlying5, ?_, ?_, ?_, ?_⟩
  . exact((AC u u).drew).alloc σ _
  . intro j b
    have d : j < s.data.size := by simpa using b
    have a : (u.drew.alloc (.cells (bytesRow s (grownCap u s 0 5)) 5 ((bytesRow s (grownCap u s 0 5)).size, (bytesRow s (grownCap u s 0 5)).size + 1))).1[u.1.size]? = some (.cells (bytesRow s (grownCap u s 0 5)) 5 ((bytesRow s (grownCap u s 0 5)).size, (bytesRow s (grownCap u s 0 5)).size + 1)):= aB u.drew _;simp only[World.cell?, a];have f : j < s := d;simp[bytesRow, eO, Array.getElem?_append, d, f]
  . intro j b
    have a : (u.drew.alloc (.cells (bytesRow s (grownCap u s 0 5)) 5 ((bytesRow s (grownCap u s 0 5)).size, (bytesRow s (grownCap u s 0 5)).size + 1))).1[u.1.size]? = some (.cells (bytesRow s (grownCap u s 0 5)) 5 ((bytesRow s (grownCap u s 0 5)).size, (bytesRow s (grownCap u s 0 5)).size + 1)):= aB u.drew _;simp only[World.frozen?, a];have : s <= (bytesRow s (grownCap u s 0 5)).size := by simp[bytesRow]
    simp;omega
  . refine⟨_, _, aB u.drew _, ?_⟩
    simp[bytesRow]
theorem Dq(u b : World)(g k c : Nat)(a : List UInt8)(t : UInt8)(i : ∀(j : Nat) (f : j < a), u.c g j = some (eO a[j]))(row : Array Value)(e : Nat × Nat)(hr : u.1[g]? = some (.cells row 5 e))(p : b.1[g]? = some (.cells (row.setIfInBounds k (eO t)) 5 e))(q : k < a)(n : Nat)(hn : n = a):
    (convert 108 9 (.s (some (aD g 0)) n c)).run prog b = .ok (.t ⟨(a.set k t).toArray⟩) b := by
  have o : (a.set k t) = n := by simp[hn]
  have := run_convert_bytes_back (P := prog) b 108 9 5 (aD g 0) c (a.set k t) underlying108 underlying5 underlying9 (λj f => by
    have h : ((aD g 0): Addr).add j = (aD g j):= by unfold Addr.add; split <;> simp_all
    have l  := by simpa using f
    have d := i j l
    simp only[World.cell?, hr]at d;rw[h];simp only[World.cell?, p];have m  := (CK.1 d).1;by_cases hjk : k = j
    . subst hjk
      simp[JT, m, eO]
    . rw[JT, AQ hjk, d]
      simp[DK, hjk, eO])
  rw[o]at this;exact this
theorem qNm {row : Array Value}{a : Nat × Nat}(hr : u.1[g]? = some (.cells row e a))(v : Value): (u.setCell (aD g k) v).1[g]? = some (.cells (row.setIfInBounds k v) e a):= by
  simp only[World.setCell];rw[JI, AU rfl, hr];rfl
