import Derived.Test.YtdhgdcjmhofhaaaGreatD10
import Derived.Deep.DeepCutAuto
import Derived.Test.YtdhgdcjmhofhaaaGreatD8
set_option linter.all false
set_option maxRecDepth 100000
set_option maxHeartbeats 8000000
namespace Go.Proofs.YtdhgdcjmhofhaaaGreat.Pages
open Go.RowKit
variable {B c g k n β ρ:Nat} {a w w':World} {b:List UInt8} {e:TypeId} {es:List Ent} {o:Obj} {v:Value} {xs:List Value}
theorem dU.alloc (h:dU ρ a w)(o):dU ρ a (w.alloc o):=
 h.trans ⟨rfl,rfl,rfl,by simp,λc b _=>DB _ _ _ b⟩
theorem dU.keep (h:dU ρ w w')(b:k≠ρ)(a:w.heap[k]?=some o):w'.heap[k]?=some o:=by
 rw[h.block k (CK.1 a).1 b];exact a
theorem eS {o x}(a:w.heap[k]?=some o):(w.alloc x).heap[k]?=some o:=by
 rw[DB _ _ _ (CK.1 a).1];exact a
theorem Rd.alloc {a}(h:Rd w ρ g c b a)(o):Rd (w.alloc o) ρ g c b a :=
 h.only ((dU.refl ρ w).alloc o) (eS h.box) h.le
theorem Rd.lt' {a}(h:Rd w ρ g c b a):ρ<w.heap.size:=(CK.1 h.box).1
theorem sH(ρ g c b a w)(h:Rd w ρ g c b a):
  cL 177 #[.p ρ 0,.i 2] w λe w'=>e=.returned (.i (iU b a 2:Nat))/\Rd w' ρ g c b (bB b a 2)/\dU ρ w w':=by
 refine(uR ρ g c b a 2 w h (by omega)).mono λe w' ⟨d,i,f⟩=>⟨?_,i,f⟩;rw[d];refine yY (BZ (Value.int .i64) ?_);have:=Wz b a 2;unfold wrap64;omega
theorem Rd.set {d a}(h:Rd w ρ g c d a)(j:β≠ρ)(e:β≠g)(i v):Rd (w.setCell ⟨β,i,none⟩ v) ρ g c d a :=
 ⟨by rw[CY _ _ _ _ (λb=>j b.symm)];exact h.box,λk f=>by rw[CF (w:=w) (CY _ _ _ _ (λb=>e b.symm))];exact h.bytes k f,h.ne,by have:=h.lt;simpa[World.setCell] using this,h.le,h.len,h.cap⟩
theorem dU.set (h:dU ρ a w)(e:a.heap.size<=β)(i v):dU ρ a (w.setCell ⟨β,i,none⟩ v):=
 ⟨h.os,h.tape,h.output,by have:=h.size;simpa[World.setCell] using this,λd b c=>by rw[CY _ _ _ _ (by simp;omega)];exact h.block d b c⟩
theorem iZ (b:w.heap[k]?=some o)(a:k≠β)(i v):(w.setCell ⟨β,i,none⟩ v).heap[k]?=some o:=by
 rw[CY _ _ _ _ a];exact b
theorem qJv {u:World}{d e f g t}(h:u.heap[β]?=some (.cells #[d,e,f,g] t))(a b c v3):((((u.setCell ⟨β,0,none⟩ a).setCell ⟨β,1,none⟩ b).setCell ⟨β,2,none⟩ c).setCell ⟨β,3,none⟩ v3).heap[β]?=some (.cells #[a,b,c,v3] t):=by
 have:=aC (aC (aC (aC h 0 a) 1 b) 2 c) 3 v3;simpa using this
def rP(bs:List UInt8)(a:Nat):Ent :=
 if bs.getD (gU bs a) 0=0 then ⟨⟨(nC bs a).toArray⟩,⟨(nC bs (bB bs (gU bs a) 1)).toArray⟩,(nC bs (bB bs (gU bs a) 1)).length,0⟩
 else ⟨⟨(nC bs a).toArray⟩,⟨#[]⟩,iU bs (bB bs (gU bs a) 1) 2,iU bs (bB bs (bB bs (gU bs a) 1) 2) 2⟩
def Ba(bs:List UInt8)(a:Nat):Nat :=
 if bs.getD (gU bs a) 0=0 then gU bs (bB bs (gU bs a) 1) else bB bs (bB bs (bB bs (gU bs a) 1) 2) 2
theorem Uz(ρ g c b a w)(h:Rd w ρ g c b a):
  cL 179 #[.p ρ 0] w λe w'=>e=.returned (.agg #[.string (rP b a).key,.string (rP b a).val,.i (rP b a).size,.i (rP b a).over])/\Rd w' ρ g c b (Ba b a)/\dU ρ w w':=by
 have ax:=h.lt';have f:w.heap.size≠ρ:=by omega
 have⟨K,s⟩:∃K,K=(⟨(nC b a).toArray⟩:ByteArray):=⟨_,rfl⟩;have N:=tF ρ g c b a (w.alloc (.cells #[.string ⟨#[]⟩,.string ⟨#[]⟩,.i 0,.i 0] 69)) (h.alloc _);rw[<-s]at N;have a6:=aA w (.cells #[.string ⟨#[]⟩,.string ⟨#[]⟩,.i 0,.i 0] 69);have a7:=(dU.refl ρ w).alloc (.cells #[.string ⟨#[]⟩,.string ⟨#[]⟩,.i 0,.i 0] 69);have I:=λw' (ae:Rd w' ρ g c b (gU b a))=>kQ ρ g c b (gU b a) w' ae;have⟨C,y⟩:∃C,C=b.getD (gU b a) 0:=⟨_,rfl⟩;rw[<-y]at I;cases hm:(C.toNat==0)
 ·have n:¬b.getD (gU b a) 0=0:=by rw[<-y];intro e;rw[e]at hm;simp at hm
  have ak:((C.toNat:Int)==0)=false:=by simpa using hm
  have⟨j,S⟩:∃j,j=iU b (bB b (gU b a) 1) 2:=⟨_,rfl⟩;have⟨l,T⟩:∃l,l=iU b (bB b (bB b (gU b a) 1) 2) 2:=⟨_,rfl⟩;have F:Hid (rP b a=⟨K,⟨#[]⟩,j,l⟩):=by show _=_;unfold rP;rw[AQ n,s,S,T]
  have E:Hid (Ba b a=bB b (bB b (bB b (gU b a) 1) 2) 2):=by show _=_;unfold Ba;rw[AQ n]
  have a2:=λm (r:Rd m ρ g c b (bB b (gU b a) 1))=>sH ρ g c b (bB b (gU b a) 1) m r;have a3:=λm (r:Rd m ρ g c b (bB b (bB b (gU b a) 1) 2))=>sH ρ g c b (bB b (bB b (gU b a) 1) 2) m r;rw[<-S]at a2;rw[<-T]at a3;have aj:=h.lt;clear hm n s S T y;go_enter Tryz.func179,Tryz.ntmps179;go_wp2_with (go_at_call 180;apply N.mono;rintro e i ⟨rfl,A,z⟩;have t:=z.keep f a6;have k:i.heap.size≠ρ:=DK A.lt';have B:w.heap.size<i.heap.size:=(CK.1 t).1;have G:=aA i (.cells #[.string K,.string ⟨#[]⟩,.i 0,.i 0] 69);have P:=eS (x:=.cells #[.string K,.string ⟨#[]⟩,.i 0,.i 0] 69) t);go_upto_region 6 with(go_at_call 177;apply(I _ (A.alloc _)).mono;rintro e m ⟨rfl,V,o⟩;have H:=o.keep k G;have Q:=o.keep f P);go_upto_region 7 with(go_at_call 177;apply(a2 _ V).mono;rintro e a9 ⟨rfl,W,p⟩;have q:=p.keep k H;have u:=p.keep f Q;have⟨aa,ab,ac,ad⟩:=iM q;have ah:=aB q;have a8:i.heap.size≠g:=by omega);have af:(a9.setCell ⟨i.heap.size,2,none⟩ (.i (j:Int))).heap[i.heap.size]?=some (.cells #[.string K,.string ⟨#[]⟩,.i (j:Int),.i 0] 69):=by have:=aC q 2 (.i (j:Int));simpa using this
  go_wp2_with (go_at_call 177;apply(a3 _ (W.set k a8 2 _)).mono;rintro e ay ⟨rfl,al,U⟩;have a1:=U.keep k af;have R:=U.keep f (iZ u (EW B) 2 (.i (j:Int)));have⟨aq,ar,au,av⟩:=iM a1;have⟨am,an,ao,ap⟩:=iM R;have ai:=aB a1;have aw:=aB R);have⟨X,Y,Z,a0⟩:=iM (qJv (iZ R (EW B) 3 (.i (l:Int))) (.string K) (.string ⟨#[]⟩) (.i (j:Int)) (.i (l:Int)));have J:=(((((a7.trans z).alloc (.cells #[.string K,.string ⟨#[]⟩,.i 0,.i 0] 69)).trans o).trans p).set (β:=i.heap.size) (by omega) 2 (.i (j:Int)));refine BI (v:=.agg #[.string K,.string ⟨#[]⟩,.i (j:Int),.i (l:Int)]) ?_ rfl ⟨by rw[F.out],?_,(((((J.trans U).set (β:=i.heap.size) (by omega) 3 (.i (l:Int))).set (β:=w.heap.size) (by omega) 0 (.string K)).set (β:=w.heap.size) (by omega) 1 (.string ⟨#[]⟩)).set (β:=w.heap.size) (by omega) 2 (.i (j:Int))).set (β:=w.heap.size) (by omega) 3 (.i (l:Int))⟩
  ·simp[results,Tryz.results179,go_sem,X,Y,Z,a0]
  ·rw[E.out];exact (((((al.set k a8 3 (.i (l:Int))).set f (by omega) 0 (.string K)).set f (by omega) 1 (.string ⟨#[]⟩)).set f (by omega) 2 (.i (j:Int))).set f (by omega) 3 (.i (l:Int)))
 ·have n:b.getD (gU b a) 0=0:=by rw[<-y];apply UInt8.toNat_inj.1;simpa using hm
  have ak:((C.toNat:Int)==0)=true:=by simpa using hm
  have⟨d,D⟩:∃d,d=(⟨(nC b (bB b (gU b a) 1)).toArray⟩:ByteArray):=⟨_,rfl⟩;have a5:d.size=(nC b (bB b (gU b a) 1)).length:=by rw[D];show(nC b (bB b (gU b a) 1)).toArray.size=_;simp
  have F:Hid (rP b a=⟨K,d,d.size,0⟩):=by show _=_;unfold rP;rw[AW n,s,a5,D]
  have E:Hid (Ba b a=gU b (bB b (gU b a) 1)):=by show _=_;unfold Ba;rw[AW n]
  have a4:=λm (r:Rd m ρ g c b (bB b (gU b a) 1))=>tF ρ g c b (bB b (gU b a) 1) m r;rw[<-D]at a4;clear a5 hm n s D y;go_enter Tryz.func179,Tryz.ntmps179;go_wp2_with (go_at_call 180;apply N.mono;rintro e i ⟨rfl,A,z⟩;have t:=z.keep f a6;have k:i.heap.size≠ρ:=DK A.lt';have B:w.heap.size<i.heap.size:=(CK.1 t).1;have G:=aA i (.cells #[.string K,.string ⟨#[]⟩,.i 0,.i 0] 69);have P:=eS (x:=.cells #[.string K,.string ⟨#[]⟩,.i 0,.i 0] 69) t);go_wp2_with (first|(go_at_call 177;apply(I _ (A.alloc _)).mono;rintro e m ⟨rfl,V,o⟩;have H:=o.keep k G;have Q:=o.keep f P)|(go_at_call 180;apply(a4 _ V).mono;rintro e a9 ⟨rfl,W,p⟩;have q:=p.keep k H;have u:=p.keep f Q;have⟨aa,ab,ac,ad⟩:=iM q;have⟨am,an,ao,ap⟩:=iM u;have ah:=aB q;have ai:=aB u));have aj:=h.lt;have⟨X,Y,Z,a0⟩:=iM (qJv (iZ (iZ u (EW B) 1 (.string d)) (EW B) 2 (.i (d.size:Int))) (.string K) (.string d) (.i (d.size:Int)) (.i 0));have J:=((((((a7.trans z).alloc (.cells #[.string K,.string ⟨#[]⟩,.i 0,.i 0] 69)).trans o).trans p).set (β:=i.heap.size) (by omega) 1 (.string d)).set (β:=i.heap.size) (by omega) 2 (.i (d.size:Int)));refine BI (v:=.agg #[.string K,.string d,.i (d.size:Int),.i 0]) ?_ rfl ⟨by rw[F.out],?_,(((J.set (β:=w.heap.size) (by omega) 0 (.string K)).set (β:=w.heap.size) (by omega) 1 (.string d)).set (β:=w.heap.size) (by omega) 2 (.i (d.size:Int))).set (β:=w.heap.size) (by omega) 3 (.i 0)⟩
  ·simp[results,Tryz.results179,go_sem,X,Y,Z,a0]
  ·rw[E.out];exact ((((((W.set k (by omega) 1 (.string d)).set k (by omega) 2 (.i (d.size:Int))).set f (by omega) 0 (.string K)).set f (by omega) 1 (.string d)).set f (by omega) 2 (.i (d.size:Int))).set f (by omega) 3 (.i 0))
def kS(ver root:Int):Bool:=ver==0&&root==0
def fM(keys:List ByteArray)(kids:List Int):Bool:=(keys.length:Int)==0&&(kids.length:Int)==0
def lK(ents:List Ent):Bool:=(ents.length:Int)==0
def kR(next:Int)(data:ByteArray):Bool:=next==0&&data.toList.isEmpty
def eG(kind ver root next:Int)(keys:List ByteArray)(kids:List Int)(ents:List Ent)(data:ByteArray):Bool :=
 if kind=1 then fM keys kids&&lK ents&&kR next data&&Ib ver root
 else if kind=2 then kS ver root&&lK ents&&kR next data&&gP keys kids
 else if kind=3 then kS ver root&&fM keys kids&&kR next data&&(decide (ents.length≠0)&&fV ⟨#[]⟩ ents)
 else if kind=4 then kS ver root&&fM keys kids&&lK ents&&Dg next data
 else false
theorem xL(kind ver root next h g f l k j data b c a w)(t:eX w w.heap.size h (b.map .string))(r:eX w w.heap.size g (c.map (.int .i64)))(p:eX w w.heap.size f (a.flatMap Ent.cells))(y:b.length<=1073741824)(x:c.length<=1073741824)(v:a.length<=1073741824):
  cL 168 #[.agg #[.i kind,.i ver,.i root,.i next,.slice h b.length l,.slice g c.length k,.slice f a.length j,.string data]] w λe w'=>e=.returned (.bool (eG kind ver root next b c a data))/\bW w w':=by
 have d:=(AC w.heap.size w).alloc (BV _) (.cells #[.i kind,.i ver,.i root,.i next,.slice h b.length l,.slice g c.length k,.slice f a.length j,.string data] 80);go_enter Tryz.func168,Tryz.ntmps168;go_upto_region 1 with fail;go_cut [3] (λD n=>D=.bool (kS ver root)/\n=(w.alloc (.cells #[.i kind,.i ver,.i root,.i next,.slice h b.length l,.slice g c.length k,.slice f a.length j,.string data] 80)))
 case first =>
  cases hq:(ver==0)
  all_goals (go_wp2_with fail;go_meet;exact⟨BZ Value.bool (by simp only[kS,hq,KP,LS]),rfl⟩)
 case rest =>
 obtain⟨rfl,rfl⟩:=hcut;go_upto_region 2 with fail;go_cut [4] (λE n=>E=.bool (fM b c)/\n=(w.alloc (.cells #[.i kind,.i ver,.i root,.i next,.slice h b.length l,.slice g c.length k,.slice f a.length j,.string data] 80)))
 case first =>
  cases hq:((b.length:Int)==0)
  all_goals (go_wp2_with fail;go_meet;exact⟨BZ Value.bool (by simp only[fM,hq,KP,LS]),rfl⟩)
 case rest =>
 obtain⟨rfl,rfl⟩:=hcut;go_upto_region 3 with fail;go_cut [5] (λF n=>F=.bool (lK a)/\n=(w.alloc (.cells #[.i kind,.i ver,.i root,.i next,.slice h b.length l,.slice g c.length k,.slice f a.length j,.string data] 80)))
 case first =>
  go_wp2_with fail
  all_goals (go_meet;exact⟨rfl,rfl⟩)
 case rest =>
 obtain⟨rfl,rfl⟩:=hcut;go_upto_region 4 with fail;go_cut [6] (λG n=>G=.bool (kR next data)/\n=(w.alloc (.cells #[.i kind,.i ver,.i root,.i next,.slice h b.length l,.slice g c.length k,.slice f a.length j,.string data] 80)))
 case first =>
  cases hq:(next==0)
  all_goals (go_wp2_with fail;go_meet;exact⟨BZ Value.bool (by simp only[kR,hq,KP,LS]),rfl⟩)
 case rest =>
 obtain⟨rfl,rfl⟩:=hcut;by_cases k1:kind=1
 ·have i:Hid (eG kind ver root next b c a data=(fM b c&&lK a&&kR next data&&Ib ver root)):=by show _=_;unfold eG;rw[AW k1]
  have z:(kind==1)=true:=CP.2 k1;clear k1;go_wp2_with (go_at_call 181;apply(Gi _ _ _ _ _ _ _ _ _ _ _ _ _ _ _ ).mono;rintro e o ⟨rfl,m⟩)
  all_goals go_ret
  all_goals first|refine⟨bQ ?_,d⟩|refine⟨bQ ?_,d.trans (m.mono (by simp))⟩
  all_goals (rw[i.out];simp[*])
 have z:=DH.2 k1;by_cases k2:kind=2
 ·have i:Hid (eG kind ver root next b c a data=(kS ver root&&lK a&&kR next data&&gP b c)):=by show _=_;unfold eG;rw[AQ k1,AW k2]
  have A:(kind==2)=true:=CP.2 k2;clear k1 k2;go_wp2_with (go_at_call 182;apply(Ay _ _ _ _ _ _ _ _ _ _ _ _ _ _ _ ((t.below d).mono (show w.heap.size<=(w.alloc (.cells #[.i kind,.i ver,.i root,.i next,.slice h b.length l,.slice g c.length k,.slice f a.length j,.string data] 80)).heap.size by simp)) ((r.below d).mono (show w.heap.size<=(w.alloc (.cells #[.i kind,.i ver,.i root,.i next,.slice h b.length l,.slice g c.length k,.slice f a.length j,.string data] 80)).heap.size by simp)) y x).mono;rintro e o ⟨rfl,m⟩)
  all_goals go_ret
  all_goals first|refine⟨bQ ?_,d⟩|refine⟨bQ ?_,d.trans (m.mono (by simp))⟩
  all_goals (rw[i.out];simp[*])
 have A:=DH.2 k2;by_cases k3:kind=3
 ·have i:Hid (eG kind ver root next b c a data=(kS ver root&&fM b c&&kR next data&&(decide (a.length≠0)&&fV ⟨#[]⟩ a))):=by show _=_;unfold eG;rw[AQ k1,AQ k2,AW k3]
  have B:(kind==3)=true:=CP.2 k3;clear k1 k2 k3;go_wp2_with (go_at_call 183;apply(Gj _ _ _ _ _ _ _ _ _ _ _ _ _ _ _ ((p.below d).mono (show w.heap.size<=(w.alloc (.cells #[.i kind,.i ver,.i root,.i next,.slice h b.length l,.slice g c.length k,.slice f a.length j,.string data] 80)).heap.size by simp)) v).mono;rintro e o ⟨rfl,m⟩)
  all_goals go_ret
  all_goals first|refine⟨bQ ?_,d⟩|refine⟨bQ ?_,d.trans (m.mono (by simp))⟩
  all_goals (rw[i.out];simp[*])
 have B:=DH.2 k3;by_cases k4:kind=4
 ·have i:Hid (eG kind ver root next b c a data=(kS ver root&&fM b c&&lK a&&Dg next data)):=by show _=_;unfold eG;rw[AQ k1,AQ k2,AQ k3,AW k4]
  have C:(kind==4)=true:=CP.2 k4;clear k1 k2 k3 k4;go_wp2_with (go_at_call 184;apply(Gh _ _ _ _ _ _ _ _ _ _ _ _ _ _ _ ).mono;rintro e o ⟨rfl,m⟩)
  all_goals go_ret
  all_goals first|refine⟨bQ ?_,d⟩|refine⟨bQ ?_,d.trans (m.mono (by simp))⟩
  all_goals (rw[i.out];simp[*])
 have C:=DH.2 k4;have i:Hid (eG kind ver root next b c a data=false):=by show _=_;unfold eG;rw[AQ k1,AQ k2,AQ k3,AQ k4]
 go_wp2;go_ret;exact⟨bQ (by rw[i.out]),d⟩
def fieldsB(kind ver root next:Int)(keys:List ByteArray)(kids:List Int)(ents:List Ent)(data:ByteArray):List UInt8 :=
 if kind=1 then beB 1 1++beB 8 ver++beB 2 root
 else if kind=2 then beB 1 2++eM keys kids
 else if kind=3 then beB 1 3++mG ents
 else beB 1 4++beB 2 next++dQ data
def Gl(bs:List UInt8):List UInt8:=bs++List.replicate (252-bs.length) 0
def uE(bs:List UInt8):List UInt8:=Gl bs++beB 4 (Crc.crc (Gl bs):Nat)
def encS(kind ver root next:Int)(keys:List ByteArray)(kids:List Int)(ents:List Ent)(data:ByteArray):ByteArray :=
 if (eG kind ver root next keys kids ents data&&decide ((fieldsB kind ver root next keys kids ents data).length<=252))=true then ⟨(uE (fieldsB kind ver root next keys kids ents data)).toArray⟩ else ⟨#[]⟩
def dO(kind ver root next:Int)(keys:List ByteArray)(kids:List Int)(ents:List Ent)(data:ByteArray):Int :=
 if (eG kind ver root next keys kids ents data&&decide ((fieldsB kind ver root next keys kids ents data).length<=252))=true then 0 else 2
structure Small (keys:List ByteArray) (kids:List Int) (ents:List Ent) (data:ByteArray):Prop where
 nKeys:keys.length<=1073741824
 nKids:kids.length<=1073741824
 nEnts:ents.length<=1073741824
 each:∀e∈ents,e.key.size<=1073741824/\e.val.size<=1073741824
 lBranch:(eM keys kids).length<=34359738368
 lLeaf:(mG ents).length<=34359738368
 lData:data.size<=1073741824
theorem Buf.string {a}(h:Buf w B v a):(convert 108 9 v).run Tryz.prog w=.ok (.string ⟨a.toArray⟩) w:=by
 have⟨p,e⟩:=id h;rcases e with⟨rfl,c⟩|⟨g,b,i,rfl,j,m,n,k,l,o⟩
 ·obtain rfl:=AG c
  exact run_convert_bytes_nil w 108 5 Tryz.underlying108 Tryz.underlying5 0 0 9 Tryz.underlying9
 ·refine run_convert_bytes_back w 108 9 5 ⟨g,0,none⟩ b a Tryz.underlying108 Tryz.underlying5 Tryz.underlying9 λf d=>?_
  exact DC (w:=w) h (g:=g) rfl f _ (by simp[FW d,fJ])
theorem Buf.shape (h:Buf w B v b):∃a c,v=.slice a b.length c:=by
 have⟨_,e⟩:=id h;rcases e with⟨rfl,d⟩|⟨g,c,f,rfl,_⟩
 ·exact⟨none,0,by rw[d]⟩
 ·exact⟨_,_,rfl⟩
theorem Sx{a a' b c}(d:a=a')(e:b=c):Ending.returned (.tuple #[.string a,.i b])=.returned (.tuple #[.string a',.i c]):=by rw[d,e]
theorem qDp{a}(h:a.length<=252):(Gl a).length=252:=by simp[Gl];omega
theorem Ms{kind ver root next b c a data}(h:eG kind ver root next b c a data=true):kind=1\/kind=2\/kind=3\/kind=4:=by
 unfold eG at h;by_cases k1:kind=1
 ·exact .inl k1
 by_cases k2:kind=2
 ·exact .inr (.inl k2)
 by_cases k3:kind=3
 ·exact .inr (.inr (.inl k3))
 by_cases k4:kind=4
 ·exact .inr (.inr (.inr k4))
 rw[AQ k1,AQ k2,AQ k3,AQ k4]at h;cases h
theorem Ew(kind ver root next h g f k j i data b c a w B)(l:B<=w.heap.size)(p:eX w B h (b.map .string))(o:eX w B g (c.map (.int .i64)))(n:eX w B f (a.flatMap Ent.cells))(d:Small b c a data)(q:kind=1\/kind=2\/kind=3\/kind=4):
  cL 169 #[.agg #[.i kind,.i ver,.i root,.i next,.slice h b.length k,.slice g c.length j,.slice f a.length i,.string data]] w λe w'=>∃m,e=.returned m/\Buf w' B m (fieldsB kind ver root next b c a data)/\cP B w w':=by
 have r:=d.lBranch;have s:=d.lLeaf;have t:=d.lData;rcases q with rfl|rfl|rfl|rfl
 ·simpa[fieldsB] using Pt ver root next h g f k j i data b c a B w l
 ·simpa[fieldsB] using Gs ver root next h g f k j i data b c a B w l p o d.nKeys d.nKids (by omega)
 ·simpa[fieldsB] using Pv ver root next h g f k j i data b c a B w l n d.nEnts d.each (by omega)
 ·simpa[fieldsB] using Ps ver root next h g f k j i data b c a B w l (by omega)
theorem Pw{kind ver root next c d a data}(b:Small c d a data):(fieldsB kind ver root next c d a data).length<=34359738400/\1<=(fieldsB kind ver root next c d a data).length:=by
 have e:=b.lBranch;have f:=b.lLeaf;have g:=b.lData;unfold fieldsB;split
 ·simp[aK]
 split
 ·simp[aK];omega
 split
 ·simp[aK];omega
 ·simp[aK,dQ];omega
theorem rC(kind ver root next j i g q p l data b c a w)(O:eX w w.heap.size j (b.map .string))(N:eX w w.heap.size i (c.map (.int .i64)))(M:eX w w.heap.size g (a.flatMap Ent.cells))(o:Small b c a data):
  cL 146 #[.agg #[.i kind,.i ver,.i root,.i next,.slice j b.length q,.slice i c.length p,.slice g a.length l,.string data]] w λe w'=>e=.returned (.tuple #[.string (encS kind ver root next b c a data),.i (dO kind ver root next b c a data)])/\bW w w':=by
 have m:=(AC w.heap.size w).alloc (BV _) (.cells #[.i kind,.i ver,.i root,.i next,.slice j b.length q,.slice i c.length p,.slice g a.length l,.string data] 80);have B:=aA w (.cells #[.i kind,.i ver,.i root,.i next,.slice j b.length q,.slice i c.length p,.slice g a.length l,.string data] 80);have y:=(O.below m).mono (show w.heap.size<=(w.alloc (.cells #[.i kind,.i ver,.i root,.i next,.slice j b.length q,.slice i c.length p,.slice g a.length l,.string data] 80)).heap.size by simp);have x:=(N.below m).mono (show w.heap.size<=(w.alloc (.cells #[.i kind,.i ver,.i root,.i next,.slice j b.length q,.slice i c.length p,.slice g a.length l,.string data] 80)).heap.size by simp);have v:=(M.below m).mono (show w.heap.size<=(w.alloc (.cells #[.i kind,.i ver,.i root,.i next,.slice j b.length q,.slice i c.length p,.slice g a.length l,.string data] 80)).heap.size by simp);have S:=o.nKeys;have R:=o.nKids;have P:=o.nEnts;obtain⟨a3,K⟩:=Pw (kind:=kind) (ver:=ver) (root:=root) (next:=next) o;cases hr:eG kind ver root next b c a data
 ·have s:Hid (encS kind ver root next b c a data=⟨#[]⟩):=by show _=_;simp[encS,hr]
  have r:Hid (dO kind ver root next b c a data=2):=by show _=_;simp[dO,hr]
  go_enter Tryz.func146,Tryz.ntmps146;go_wp2_with (go_at_call 168;refine(xL _ _ _ _ _ _ _ _ _ _ _ _ _ _ _ y x v S R P).mono ?_;rintro e A ⟨rfl,f⟩);go_ret2;exact⟨Sx s.out.symm r.out.symm,m.trans (f.mono (by simp))⟩
 ·have V:=Ms hr
  obtain⟨fs,Q⟩:∃fs,fs=fieldsB kind ver root next b c a data:=⟨_,rfl⟩;rw[<-Q]at a3 K;have k:Hid (fs=fieldsB kind ver root next b c a data):=Q;clear Q;by_cases hlen:fs.length<=252
  ·have s:Hid (encS kind ver root next b c a data=⟨(uE fs).toArray⟩):=by show _=_;unfold encS;rw[<-k.out];simp[hr,hlen]
   have r:Hid (dO kind ver root next b c a data=0):=by show _=_;unfold dO;rw[<-k.out];simp[hr,hlen]
   have W:252-(fs.length:Int)=((252-fs.length:Nat):Int):=by omega
   have a7:fs≠[]:=by intro h;rw[h]at K;simp at K
   have aa:fs.length+(252-fs.length)<=140737488355328:=by omega
   have X:=qDp hlen;have a9:(Gl fs).length+8<=140737488355328:=by omega
   have a8:(⟨(Gl fs).toArray⟩:ByteArray).size<=maxLen:=by show(Gl fs).toArray.size<=_;rw[List.size_toArray,X];decide
   have Z:Hid (252-(fs.length:Int)=((252-fs.length:Nat):Int)):=W;clear W X;go_enter Tryz.func146,Tryz.ntmps146;go_wp2_with (first
    |(go_at_call 168;refine(xL _ _ _ _ _ _ _ _ _ _ _ _ _ _ _ y x v S R P).mono ?_;rintro e A ⟨rfl,f⟩;have z:=(cP.of_below f (BV _)).other _ _ B rfl;obtain⟨C,D,E,F,G,H,I,J⟩:=bM z;have d:bW w A:=m.trans (f.mono (by simp));have u:w.heap.size<=A.heap.size:=d.size;clear f y x v B)
    |(go_at_call 169;refine(Ew _ _ _ _ _ _ _ _ _ _ _ _ _ _ _ w.heap.size u (O.below d) (N.below d) (M.below d) o V).mono ?_;rintro e Y ⟨a1,rfl,n,t⟩;rw[<-k.out]at n;obtain⟨a0,a2,rfl⟩:=n.shape;have L:w.heap.size<=Y.heap.size:=CD u t.size;clear C D E F G H I J z)
    |(at_builtin;refine Aw _ rfl (.tmp 16) (.tmp 17) rfl w.heap.size fs _ rfl n a7 L (252-fs.length) _ Z.out rfl aa ?_;intro ac ab U T;have ae:=U.string;have a5:w.heap.size<=ab.heap.size:=CD L T.size)
    |(go_at_call 171;refine(Crc.qDm _ _ a8).mono ?_;rintro e w' ⟨rfl,rfl⟩)
    |(go_at_call 170;refine(eP _ _ _ _ w.heap.size _ U a5 (by decide) (by decide) a9).mono ?_;rintro e ag ⟨ad,rfl,a6,a4⟩;have af:=a6.string))
   go_ret2;exact⟨Sx (s.out.trans (by simp[uE,Gl])).symm r.out.symm,d.trans (t.below.trans (T.below.trans a4.below))⟩
  ·have s:Hid (encS kind ver root next b c a data=⟨#[]⟩):=by show _=_;unfold encS;rw[<-k.out];simp[hr,hlen]
   have r:Hid (dO kind ver root next b c a data=2):=by show _=_;unfold dO;rw[<-k.out];simp[hr,hlen]
   go_enter Tryz.func146,Tryz.ntmps146;go_wp2_with (first
    |(go_at_call 168;refine(xL _ _ _ _ _ _ _ _ _ _ _ _ _ _ _ y x v S R P).mono ?_;rintro e A ⟨rfl,f⟩;have z:=(cP.of_below f (BV _)).other _ _ B rfl;obtain⟨C,D,E,F,G,H,I,J⟩:=bM z;have d:bW w A:=m.trans (f.mono (by simp));have u:=d.size;clear f y x v B)
    |(go_at_call 169;refine(Ew _ _ _ _ _ _ _ _ _ _ _ _ _ _ _ w.heap.size u (O.below d) (N.below d) (M.below d) o V).mono ?_;rintro e Y ⟨a1,rfl,n,t⟩;rw[<-k.out]at n;obtain⟨a0,a2,rfl⟩:=n.shape;have L:=CD u t.size;clear C D E F G H I J z))
   go_ret2;exact⟨Sx s.out.symm r.out.symm,d.trans t.below⟩
theorem qKb:(Tryz.prog.info? 9).map (λi=>(i.zero,i.size,i.bytes))=some (some (.string ⟨#[]⟩),1,16):=by kernel_rfl
def Keys(w:World)(B:Nat)(v:Value)(ks:List ByteArray):Prop:=w.ownsRow B 9 1 v ks.length (ks.map .string)
theorem Keys.nil(w B):Keys w B .n []:=AL _ _ _ _
theorem Keys.alloc {ks}(h:Keys w B v ks)(o):Keys (w.alloc o) B v ks:=CG (w:=w) h o
theorem Keys.below {ks}(h:Keys w B v ks)(a:bW w w'):Keys w' B v ks :=
 JG (row:=none) h ⟨a.os,a.tape,a.output,a.size,λc b _=>a.block c b⟩ (by cases v.ownBlock<;>simp)
theorem Ge{ops e o a Q}(w)(i:o.guard=none)(b x)(m:o.op=.call {callee:=.builtin .append,args:=#[b,x],argTypes:=#[60,60]})(B ks v)(p:a.eval b=v)(d:Keys w B v ks)(f:B<=w.heap.size)(k)(q:a.eval x=.q w.heap.size 1 1)(C:ks.length+1<=4294967296)(h:∀v' w',Keys w' B v' (ks++[k])->Below B w w'->wpList Tryz.prog ops Q e (a.put o.dst v') w'):
  wpList Tryz.prog ops Q (o :: e) a (w.alloc (.cells #[.string k] 9)):=by
 have⟨u,j,r,s,t⟩:=info_parts qKb;apply LF _ i b x 60 m B 9 u (.string ⟨#[]⟩) 1 16 Tryz.underlying60 j r s t rfl (by decide) v ks.length (ks.map .string) p (d.alloc _) ⟨w.heap.size,0,none⟩ 1 1 [.string k] q rfl (one_cell _ _) (by intro D c;simp at c;subst c;rfl) (by unfold maxLen;omega) (by omega) (by simp;omega);intro z A n g _;refine h z A ?_ (((AC B w).alloc f _).grown g (by simp;omega) (λy l=>(ED (w:=w) d y l).1));unfold Keys;grind
theorem qJf:(Tryz.prog.info? 3).map (λi=>(i.zero,i.size,i.bytes))=some (some (.i 0),1,8):=by kernel_rfl
def Ints(w:World)(B:Nat)(v:Value)(ks:List Int):Prop:=w.ownsRow B 3 1 v ks.length (ks.map (.int .i64))
theorem Ints.nil(w B):Ints w B .n []:=AL _ _ _ _
theorem Ints.alloc {ks}(h:Ints w B v ks)(o):Ints (w.alloc o) B v ks:=CG (w:=w) h o
theorem sE (h:w.ownsRow B e 1 v n xs)(a:dU ρ w w')(f:ρ<B):w'.ownsRow B e 1 v n xs :=
 JG (row:=some ρ) h ⟨a.os,a.tape,a.output,a.size,λb c d=>a.block b c (λe=>d (by rw[e]))⟩ (by
  cases hv:v.ownBlock with
  |none=>exact .inl rfl
  |some b=>exact .inr (λe=>by have:=(ED (w:=w) h b hv).1;simp at e;omega))
theorem sG {B B'}(h:w.ownsRow B e 1 v n xs)(j:B'<=B):w.ownsRow B' e 1 v n xs:=by
 obtain⟨a,c|⟨g,b,i,f,k,d⟩⟩:=h
 ·exact⟨a,.inl c⟩
 ·exact⟨a,.inr ⟨g,b,i,f,by omega,d⟩⟩
theorem dU.below (h:dU ρ a w)(b:Below B w w')(f:a.heap.size<=B):dU ρ a w' :=
 ⟨b.os.trans h.os,b.tape.trans h.tape,b.output.trans h.output,CD h.size b.size,λc d e=>(b.block c (by omega)).trans (h.block c d e)⟩
theorem Rd.below {d a}(h:Rd w ρ g c d a)(b:Below B w w')(j:ρ<B)(f:g<B):Rd w' ρ g c d a :=
 ⟨(b.block ρ j).trans h.box,λe i=>by rw[b.cell (p:=⟨g,e,none⟩) f];exact h.bytes e i,h.ne,JD h.lt b.size,h.le,h.len,h.cap⟩
theorem Gf{ops e o a Q}(w)(i:o.guard=none)(b x)(m:o.op=.call {callee:=.builtin .append,args:=#[b,x],argTypes:=#[44,44]})(B ks v)(p:a.eval b=v)(d:Ints w B v ks)(f:B<=w.heap.size)(k)(q:a.eval x=.q w.heap.size 1 1)(C:ks.length+1<=4294967296)(h:∀v' w',Ints w' B v' (ks++[k])->Below B w w'->wpList Tryz.prog ops Q e (a.put o.dst v') w'):
  wpList Tryz.prog ops Q (o :: e) a (w.alloc (.cells #[.i k] 3)):=by
 have⟨u,j,r,s,t⟩:=info_parts qJf;apply LF _ i b x 44 m B 3 u (.i 0) 1 8 Tryz.underlying44 j r s t rfl (by decide) v ks.length (ks.map .i) p (d.alloc _) ⟨w.heap.size,0,none⟩ 1 1 [.i k] q rfl (one_cell _ _) (by intro D c;simp at c;subst c;rfl) (by unfold maxLen;omega) (by omega) (by simp;omega);intro z A n g _;refine h z A ?_ (((AC B w).alloc f _).grown g (by simp;omega) (λy l=>(ED (w:=w) d y l).1));unfold Ints;rw[BM,CE];exact n
def iY(bs:List UInt8)(a n:Nat):List Int:=(List.range n).map λi=>(iU bs (bB bs a (2 * i)) 2:Int)
def lM(bs:List UInt8)(a:Nat):Nat->Nat
 |0=>a
 |j+1=>gU bs (lM bs a j)
def iS(bs:List UInt8)(a n:Nat):List ByteArray:=(List.range n).map λj=>(⟨(nC bs (lM bs a j)).toArray⟩:ByteArray)
theorem Hs(b a i k):bB b (bB b a i) k=bB b a (i+k):=by unfold bB;omega
theorem Ud(b a n):iY b a (n+1)=iY b a n++[(iU b (bB b a (2 * n)) 2:Int)]:=by simp[iY,LI]
theorem Uf(b a n):iS b a (n+1)=iS b a n++[(⟨(nC b (lM b a n)).toArray⟩:ByteArray)]:=by simp[iS,LI]
theorem Rn(ρ g c bs a w)(h:Rd w ρ g c bs a):
  cL 178 #[.p ρ 0] w λe w'=>∃vk vi,e=.returned (.tuple #[vk,vi]) /\
   Keys w' w.heap.size vk (iS bs (bB bs (bB bs a 1) (2 * ((bs.getD a 0).toNat+1))) (bs.getD a 0).toNat)/\Ints w' w.heap.size vi (iY bs (bB bs a 1) ((bs.getD a 0).toNat+1)) /\
   Rd w' ρ g c bs (lM bs (bB bs (bB bs a 1) (2 * ((bs.getD a 0).toNat+1))) (bs.getD a 0).toNat)/\dU ρ w w':=by
 have hρ:=h.lt';have hgl:=h.lt;have hN:=kQ ρ g c bs a w h;have hmt:=(bs.getD a 0).toNat_lt;have⟨m,hm⟩:∃m,m=(bs.getD a 0).toNat:=⟨_,rfl⟩;have⟨p,hp⟩:∃p,p=bB bs a 1:=⟨_,rfl⟩;rw[<-hm]at hN hmt⊢;rw[<-hp]at hN⊢;have hple:p<=bs.length:=by rw[hp];unfold bB;omega
 clear hm hp;have⟨P,hP⟩:∃P,P=bB bs p (2 * (m+1)):=⟨_,rfl⟩;rw[<-hP];have HP:Hid (P=bB bs p (2 * (m+1))):=hP;clear hP;go_enter Tryz.func178,Tryz.ntmps178;go_wp2_with (go_at_call 177;apply hN.mono;rintro e w1 ⟨rfl,hr1,ho1⟩);go_loopw [3,9] (λu i wr=>∃j:Nat,j<=m+1/\i=.i j/\Ints wr w.heap.size u (iY bs p j)/\Rd wr ρ g c bs (bB bs p (2 * j))/\dU ρ w wr) (λ_ i _=>m+1-(intOf i).toNat)
 case atStart=>exact⟨0,AH _,rfl,Ints.nil _ _,by rw[Hr hple];exact hr1,ho1⟩
 case round =>
  clear hr1 ho1;obtain⟨j,hj,rfl,hi,hr,ho⟩:=hrel;have hsz:w.heap.size<=wr.heap.size:=ho.size;by_cases hlt:j<m+1
  ·have hM:=sH ρ g c bs (bB bs p (2 * j)) wr hr
   have lk:(iY bs p j).length+1<=4294967296:=by simp[iY];omega
   have hks:=Ud bs p j;rw[Hs]at hM;have⟨n1,hn1⟩:∃n1,n1=iU bs (bB bs p (2 * j)) 2:=⟨_,rfl⟩;rw[<-hn1]at hM hks;have HK:Hid (iY bs p (j+1)=iY bs p j++[(n1:Int)]):=hks;clear hn1 hks;have hj2:2 * j+2=2 * (j+1):=by omega
   rw[hj2]at hM;clear hj2;go_wp2_with (first|(go_at_call 177;apply hM.mono;rintro e w2 ⟨rfl,hr2,ho2⟩;have hi2:Ints w2 w.heap.size u3 (iY bs p j):=sE hi ho2 hρ;have hs2:w.heap.size<=w2.heap.size:=CD hsz ho2.size)|(at_builtin;apply Gf w2 rfl (.tmp 11) (.tmp 14) rfl w.heap.size _ u3 rfl hi2 hs2 (n1:Int) rfl lk;intro v3 w3 hi3 hb3));go_roundw
   case rel=>first|exact⟨j+1,by omega,by go_num,by rw[HK.out];exact hi3,hr2.below hb3 hρ hgl,(ho.trans ho2).below hb3 (BV _)⟩|((repeat apply Exists.intro);exact⟨⟨j+1,by omega,by go_num,by rw[HK.out];exact hi3,hr2.below hb3 hρ hgl,(ho.trans ho2).below hb3 (BV _)⟩,rfl⟩)
   case measure=>simp[intOf];omega
  ·obtain rfl:j=m+1:=by omega
   have⟨w0,hw0⟩:∃w0,w0=wr:=⟨_,rfl⟩;subst hw0;rw[<-HP.out]at hr;clear HP hlt hj;have hρ0:ρ<w0.heap.size:=by omega
   have hg0:g<w0.heap.size:=by omega
   go_wp2;go_loopw [2,18] (λu i wr=>∃j:Nat,j<=m/\i=.i j/\Keys wr w0.heap.size u (iS bs P j)/\Rd wr ρ g c bs (lM bs P j)/\dU ρ w0 wr) (λ_ i _=>m-(intOf i).toNat)
   case atStart=>exact⟨0,AH _,rfl,Keys.nil _ _,hr,dU.refl _ _⟩
   case round =>
    clear hr;obtain⟨j,hj,rfl,hk,hr,ho0⟩:=hrel;have hsz0:w0.heap.size<=wr.heap.size:=ho0.size;by_cases hlt:j<m
    ·have hM:=tF ρ g c bs (lM bs P j) wr hr
     have lk:(iS bs P j).length+1<=4294967296:=by simp[iS];omega
     have hks:=Uf bs P j;have hkp:gU bs (lM bs P j)=lM bs P (j+1):=rfl;rw[hkp]at hM;have⟨n1,hn1⟩:∃n1,n1=(⟨(nC bs (lM bs P j)).toArray⟩:ByteArray):=⟨_,rfl⟩;rw[<-hn1]at hM hks;have HK:Hid (iS bs P (j+1)=iS bs P j++[n1]):=hks;clear hn1 hks hkp;go_wp2_with (first|(go_at_call 180;apply hM.mono;rintro e w2 ⟨rfl,hr2,ho2⟩;have hk2:Keys w2 w0.heap.size u2 (iS bs P j):=sE hk ho2 hρ0;have hs2:w0.heap.size<=w2.heap.size:=CD hsz0 ho2.size)|(at_builtin;apply Ge w2 rfl (.tmp 20) (.tmp 23) rfl w0.heap.size _ u2 rfl hk2 hs2 n1 rfl lk;intro v3 w3 hk3 hb3));go_roundw
     case rel=>first|exact⟨j+1,by omega,by go_num,by rw[HK.out];exact hk3,hr2.below hb3 hρ0 hg0,(ho0.trans ho2).below hb3 (BV _)⟩|((repeat apply Exists.intro);exact⟨⟨j+1,by omega,by go_num,by rw[HK.out];exact hk3,hr2.below hb3 hρ0 hg0,(ho0.trans ho2).below hb3 (BV _)⟩,rfl⟩)
     case measure=>simp[intOf];omega
    ·obtain rfl:j=m:=by omega
     go_wp2;go_ret2;exact⟨u2,u3,rfl,sG hk hsz,sE hi ho0 hρ,hr,ho.trans ho0⟩
theorem Vh(s u):∃c v,(convert 9 108 (.string s)).run Tryz.prog u=.ok (.q u.heap.size s.size c) v/\v.heap.size=u.heap.size+1/\bW u v /\
  (∀(j:Nat) (a:j<s.data.toList.length),v.c u.heap.size j=some (fJ s.data.toList[j]))/\s.size<=c:=by
 refine⟨_,_,run_bytes_of_string u 9 108 5 s Tryz.underlying9 Tryz.underlying108 Tryz.underlying5,by simp,((AC u.heap.size u).drew).alloc (by simp) _,?_,LT _ _ _ _⟩
 ·intro j a
  have b:j<s.data.size:=by simpa using a
  have d:(u.drew.alloc (.cells (bytesRow s (grownCap u s.size 0 5)) 5 ((bytesRow s (grownCap u s.size 0 5)).size,(bytesRow s (grownCap u s.size 0 5)).size+1))).heap[u.heap.size]?=some (.cells (bytesRow s (grownCap u s.size 0 5)) 5 ((bytesRow s (grownCap u s.size 0 5)).size,(bytesRow s (grownCap u s.size 0 5)).size+1)):=aA u.drew _;simp only[World.cell?,d];have e:j<s.size:=b;simp[bytesRow,fJ,Array.getElem?_append,b,e]
theorem qEa(ρ g c b a w)(h:Rd w ρ g c b a):
  cL 177 #[.p ρ 0,.i 8] w λe w'=>e=.returned (.i (wrap64 (iU b a 8)))/\Rd w' ρ g c b (bB b a 8)/\dU ρ w w' :=
 uR ρ g c b a 8 w h (by omega)
theorem vL {u:World}{i j k l m n o p t}(h:u.heap[β]?=some (.cells #[i,j,k,l,m,n,o,p] t))(a b c v3 d e f g):
  ((((((((u.setCell ⟨β,0,none⟩ a).setCell ⟨β,1,none⟩ b).setCell ⟨β,2,none⟩ c).setCell ⟨β,3,none⟩ v3).setCell ⟨β,4,none⟩ d).setCell ⟨β,5,none⟩ e).setCell ⟨β,6,none⟩ f).setCell ⟨β,7,none⟩ g).heap[β]?=some (.cells #[a,b,c,v3,d,e,f,g] t):=by
 have:=aC (aC (aC (aC (aC (aC (aC (aC h 0 a) 1 b) 2 c) 3 v3) 4 d) 5 e) 6 f) 7 g;simpa using this
theorem nY (h:Below B w a)(b:dU ρ a w')(f:B<=ρ)(d:B<=a.heap.size):Below B w w' :=
 h.trans ⟨b.os,b.tape,b.output,b.size,λc e=>b.block c (by omega) (by omega)⟩
theorem oT (h:Below B w a)(b:B<=β)(c d e v3 f g i j):
  Below B w ((((((((a.setCell ⟨β,0,none⟩ c).setCell ⟨β,1,none⟩ d).setCell ⟨β,2,none⟩ e).setCell ⟨β,3,none⟩ v3).setCell ⟨β,4,none⟩ f).setCell ⟨β,5,none⟩ g).setCell ⟨β,6,none⟩ i).setCell ⟨β,7,none⟩ j):=
 (((((((h.setCell b c).setCell b d).setCell b e).setCell b v3).setCell b f).setCell b g).setCell b i).setCell b j
theorem fG(w:World)(o):(w.alloc o).heap.size=w.heap.size+1:=by simp
abbrev gK:Obj:=.cells #[.int .i64 0,.int .i64 0,.int .i64 0,.int .i64 0,.slice none 0 0,.slice none 0 0,.slice none 0 0,.string ⟨#[]⟩] 80
abbrev kN(k:Int):Obj:=.cells #[.int .i64 k,.int .i64 0,.int .i64 0,.int .i64 0,.slice none 0 0,.slice none 0 0,.slice none 0 0,.string ⟨#[]⟩] 80
theorem pM(s w)(o:s.size=256):∃c v,(convert 9 108 (.string s)).run Tryz.prog (w.alloc gK)=.ok (.slice (some ⟨w.heap.size+1,0,none⟩) s.size c) v/\v.heap.size=w.heap.size+1+1 /\
  Rd (v.alloc (.cells #[.slice (some ⟨w.heap.size+1,0,none⟩) s.size c,.int .i64 0] 247)) (w.heap.size+1+1) (w.heap.size+1) c s.data.toList 0 /\
  (v.alloc (.cells #[.slice (some ⟨w.heap.size+1,0,none⟩) s.size c,.int .i64 0] 247)).heap[w.heap.size]?=some gK /\
  Below w.heap.size w (v.alloc (.cells #[.slice (some ⟨w.heap.size+1,0,none⟩) s.size c,.int .i64 0] 247)):=by
 have⟨c,v,d,b,a,f,n⟩:=Vh s (w.alloc gK);have g:(w.alloc gK).heap.size=w.heap.size+1:=fG w gK;unfold bW at a;rw[g]at d b a f;have k:s.data.toList.length=s.size:=by rw[GY];rfl
 have h:Below w.heap.size w (w.alloc gK):=(AC _ w).alloc (BV _) _;have i:=h.trans (a.mono (by omega));have e:=aA v (.cells #[.slice (some ⟨w.heap.size+1,0,none⟩) s.size c,.i 0] 247);rw[b]at e;refine⟨c,v,d,b,⟨by rw[k];exact e,?_,by omega,by rw[fG];omega,AH _,by omega,by omega⟩,eS ((a.block w.heap.size (by omega)).trans (aA w gK)),i.alloc (by omega) _⟩
 ·intro m j
  rw[CF (w:=v) (DB _ _ _ (by show w.heap.size+1<v.heap.size;omega))];exact f m j
theorem Yz(s w)(F:s.size=256)(m:(s.data.toList.getD 0 0).toNat=1):
  cL 166 #[.string s] w λe w'=>e=.returned (.agg #[.i 1,.i (wrap64 (iU s.data.toList (bB s.data.toList 0 1) 8)),.i (iU s.data.toList (bB s.data.toList (bB s.data.toList 0 1) 8) 2:Nat),.i 0,.n,.n,.n,.string ⟨#[]⟩])/\bW w w':=by
 have⟨c,v,ar,ay,E,T,R⟩:=pM s w F;have⟨a,B⟩:∃a,a=s.data.toList:=⟨_,rfl⟩;rw[<-B]at E m⊢;have y:=kQ _ _ _ _ _ _ E;have⟨p,q⟩:∃p,p=bB a 0 1:=⟨_,rfl⟩;rw[m,<-q]at y;rw[<-q];have t:=λi (j:Rd i (w.heap.size+1+1) (w.heap.size+1) c a p)=>qEa _ _ _ _ _ _ j;have u:=λi (j:Rd i (w.heap.size+1+1) (w.heap.size+1) c a (bB a p 8))=>sH _ _ _ _ _ _ j;have⟨b,C⟩:∃b,b=wrap64 (iU a p 8):=⟨_,rfl⟩;have⟨d,D⟩:∃d,d=iU a (bB a p 8) 2:=⟨_,rfl⟩;rw[<-C]at t⊢;rw[<-D]at u⊢;clear F C D q m B;go_enter Tryz.func166,Tryz.ntmps166;go_upto_region 4 with(go_at_call 177;apply y.mono;rintro e h ⟨rfl,g,f⟩);have r:=DK g.lt';have G:w.heap.size<h.heap.size:=by have:=g.lt;omega
 go_upto_region 6 with(go_at_call 177;apply(t _ (g.alloc _)).mono;rintro e i ⟨rfl,S,n⟩;have k:=n.keep r (aA h (kN 1));have P:=n.keep (by omega) (eS (x:=kN 1) (f.keep (by omega) T));have⟨a3,a4,a5,a6,a7,a8,a9,aa⟩:=bM k;have au:=aB k);go_upto_region 17 with(go_at_call 177;apply(u _ (S.set r (DK g.lt) 1 _)).mono;rintro e az ⟨rfl,ax,o⟩;have l:=o.keep r (aC k 1 (.i b));have z:=o.keep (by omega) (iZ P (EW G) 1 (.i b));have⟨ab,ac,ad,ae,af,ag,ah,ai⟩:=bM l;have av:=aB l);have A:=iZ z (EW G) 2 (.i (d:Int));have⟨aj,ak,al,am,an,ao,ap,aq⟩:=bM (aC l 2 (.i (d:Int)));have aw:=aB A;have⟨b0,b1,b2,b3,b4,b5,b6,b7⟩:=bM z;have⟨V,W,X,Y,Z,a0,a1,a2⟩:=bM (vL A (.i 1) (.i b) (.i (d:Int)) (.i 0) .n .n .n (.string ⟨#[]⟩));have M:=((((f.alloc (kN 1)).trans n).set (β:=h.heap.size) f.size 1 (.i b)).trans o).set (β:=h.heap.size) f.size 2 (.i (d:Int));go_wp2;refine BI (v:=.agg #[.i 1,.i b,.i (d:Int),.i 0,.n,.n,.n,.string ⟨#[]⟩]) ?_ rfl ⟨rfl,oT (nY R M (by omega) (by rw[fG];omega)) (β:=w.heap.size) (BV _) (.i 1) (.i b) (.i (d:Int)) (.i 0) .n .n .n (.string ⟨#[]⟩)⟩;simp[results,Tryz.results166,go_sem,V,W,X,Y,Z,a0,a1,a2]
theorem Yx(s w)(F:s.size=256)(m:(s.data.toList.getD 0 0).toNat=4):
  cL 166 #[.string s] w λe w'=>e=.returned (.agg #[.i 4,.i 0,.i 0,.i (iU s.data.toList (bB s.data.toList 0 1) 2:Nat),.n,.n,.n,.string ⟨(nC s.data.toList (bB s.data.toList (bB s.data.toList 0 1) 2)).toArray⟩])/\bW w w':=by
 have⟨c,v,ar,ay,E,T,R⟩:=pM s w F;have⟨a,B⟩:∃a,a=s.data.toList:=⟨_,rfl⟩;rw[<-B]at E m⊢;have y:=kQ _ _ _ _ _ _ E;have⟨p,q⟩:∃p,p=bB a 0 1:=⟨_,rfl⟩;rw[m,<-q]at y;rw[<-q];have t:=λi (j:Rd i (w.heap.size+1+1) (w.heap.size+1) c a p)=>sH _ _ _ _ _ _ j;have u:=λi (j:Rd i (w.heap.size+1+1) (w.heap.size+1) c a (bB a p 2))=>tF _ _ _ _ _ _ j;have⟨b,C⟩:∃b,b=iU a p 2:=⟨_,rfl⟩;have⟨d,D⟩:∃d,d=(⟨(nC a (bB a p 2)).toArray⟩:ByteArray):=⟨_,rfl⟩;rw[<-C]at t⊢;rw[<-D]at u⊢;clear F C D q m B;go_enter Tryz.func166,Tryz.ntmps166;go_upto_region 4 with(go_at_call 177;apply y.mono;rintro e h ⟨rfl,g,f⟩);have r:=DK g.lt';have G:w.heap.size<h.heap.size:=by have:=g.lt;omega
 go_upto_region 16 with(go_at_call 177;apply(t _ (g.alloc _)).mono;rintro e i ⟨rfl,S,n⟩;have k:=n.keep r (aA h (kN 4));have P:=n.keep (by omega) (eS (x:=kN 4) (f.keep (by omega) T));have⟨a3,a4,a5,a6,a7,a8,a9,aa⟩:=bM k;have au:=aB k);go_upto_region 17 with(go_at_call 180;apply(u _ (S.set r (DK g.lt) 3 _)).mono;rintro e az ⟨rfl,ax,o⟩;have l:=o.keep r (aC k 3 (.i (b:Int)));have z:=o.keep (by omega) (iZ P (EW G) 3 (.i (b:Int)));have⟨ab,ac,ad,ae,af,ag,ah,ai⟩:=bM l;have av:=aB l);have A:=iZ z (EW G) 7 (.string d);have⟨aj,ak,al,am,an,ao,ap,aq⟩:=bM (aC l 7 (.string d));have aw:=aB A;have⟨b0,b1,b2,b3,b4,b5,b6,b7⟩:=bM z;have⟨V,W,X,Y,Z,a0,a1,a2⟩:=bM (vL A (.i 4) (.i 0) (.i 0) (.i (b:Int)) .n .n .n (.string d));have M:=((((f.alloc (kN 4)).trans n).set (β:=h.heap.size) f.size 3 (.i (b:Int))).trans o).set (β:=h.heap.size) f.size 7 (.string d);go_wp2;refine BI (v:=.agg #[.i 4,.i 0,.i 0,.i (b:Int),.n,.n,.n,.string d]) ?_ rfl ⟨rfl,oT (nY R M (by omega) (by rw[fG];omega)) (β:=w.heap.size) (BV _) (.i 4) (.i 0) (.i 0) (.i (b:Int)) .n .n .n (.string d)⟩;simp[results,Tryz.results166,go_sem,V,W,X,Y,Z,a0,a1,a2]
theorem Yy(s:ByteArray)(w)(m:s.size=256)(k)(b:(s.data.toList.getD 0 0).toNat=k)(n:k≠1)(o:k≠2)(p:k≠3)(q:k≠4):
  cL 166 #[.string s] w λe w'=>e=.returned (.agg #[.i k,.i 0,.i 0,.i 0,.n,.n,.n,.string ⟨#[]⟩])/\bW w w':=by
 obtain⟨c,v,V,X,l,A,y⟩:=pM s w m;obtain⟨f,i⟩:∃f,f=s.data.toList:=⟨_,rfl⟩;rw[<-i]at l b;have g:=kQ _ _ _ _ _ _ l;rw[b]at g;have J:((k:Int)==1)=false:=by simp;omega
 have K:((k:Int)==2)=false:=by simp;omega
 have L:((k:Int)==3)=false:=by simp;omega
 have M:((k:Int)==4)=false:=by simp;omega
 clear m b i n o p q;go_enter Tryz.func166,Tryz.ntmps166;go_upto_region 4 with(go_at_call 177;refine g.mono ?_;rintro e d ⟨rfl,z,j⟩);have a:=eS (x:=kN k) (j.keep (by omega) A);have t:=aA d (kN k);generalize hw2:d.alloc (kN k)=w2 at *;have Y:w.heap.size<d.heap.size:=by have:=z.lt;omega
 obtain⟨N,O,P,Q,R,S,T,U⟩:=bM t;have W:=aB a;obtain⟨Z,a0,a1,a2,a3,a4,a5,a6⟩:=bM a;have u:=vL a (.i k) (.i 0) (.i 0) (.i 0) .n .n .n (.string ⟨#[]⟩);obtain⟨B,C,D,E,F,G,H,I⟩:=bM u;have h:=j.alloc (kN k);rw[hw2]at h;have r:=oT (nY y h (by omega) (by rw[fG];omega)) (β:=w.heap.size) (BV _) (.i k) (.i 0) (.i 0) (.i 0) .n .n .n (.string ⟨#[]⟩);go_wp2;refine BI (v:=.agg #[.i k,.i 0,.i 0,.i 0,.n,.n,.n,.string ⟨#[]⟩]) ?_ rfl ⟨rfl,r⟩;simp[results,Tryz.results166,go_sem,B,C,D,E,F,G,H,I]
theorem dI (h:w.ownsRow B e 1 v n xs)(a:β<B)(i u):(w.setCell ⟨β,i,none⟩ u).ownsRow B e 1 v n xs :=
 sE h ((dU.refl β w).setCell i u) a
theorem vX (h:w.ownsRow B e 1 v n xs)(a:β<B)(b c d v3 f g i j):
  ((((((((w.setCell ⟨β,0,none⟩ b).setCell ⟨β,1,none⟩ c).setCell ⟨β,2,none⟩ d).setCell ⟨β,3,none⟩ v3).setCell ⟨β,4,none⟩ f).setCell ⟨β,5,none⟩ g).setCell ⟨β,6,none⟩ i).setCell ⟨β,7,none⟩ j).ownsRow B e 1 v n xs :=
 dI (dI (dI (dI (dI (dI (dI (dI h a 0 b) a 1 c) a 2 d) a 3 v3) a 4 f) a 5 g) a 6 i) a 7 j
theorem Hu (h:w.ownsRow B e 1 v n xs):∃a c,v=.slice a n c:=by
 obtain⟨g,⟨rfl,rfl⟩|⟨i,d,j,b,f⟩⟩:=h
 ·exact⟨_,_,rfl⟩
 ·exact⟨_,_,b⟩
theorem Mt(s w)(L:s.size=256)(u:(s.data.toList.getD 0 0).toNat=2)(p)(B:p=bB s.data.toList 0 1)(m)(z:m=(s.data.toList.getD p 0).toNat)(P)(q:P=bB s.data.toList (bB s.data.toList p 1) (2 * (m+1))):
  cL 166 #[.string s] w λe w'=>∃D C,e=.returned (.agg #[.i 2,.i 0,.i 0,.i 0,D,C,.n,.string ⟨#[]⟩]) /\
   Keys w' w.heap.size D (iS s.data.toList P m)/\Ints w' w.heap.size C (iY s.data.toList (bB s.data.toList p 1) (m+1))/\bW w w':=by
 have⟨c,v,av,az,K,a3,a1⟩:=pM s w L;have⟨i,J⟩:∃i,i=s.data.toList:=⟨_,rfl⟩;rw[<-J]at K u z B q⊢;have I:=kQ _ _ _ _ _ _ K;rw[u,<-B]at I;have o:=λE (M:Rd E (w.heap.size+1+1) (w.heap.size+1) c i p)=>Rn _ _ _ _ _ _ M;rw[<-z,<-q]at o;have⟨a,y⟩:∃a,a=iS i P m:=⟨_,rfl⟩;have⟨is,t⟩:∃is,is=iY i (bB i p 1) (m+1):=⟨_,rfl⟩;rw[<-y,<-t]at o;rw[<-y,<-t];clear L B u J z q y t;go_enter Tryz.func166,Tryz.ntmps166;go_upto_region 4 with(go_at_call 177;apply I.mono;rintro e h ⟨rfl,k,j⟩);have b0:=DK k.lt;have l:w.heap.size<h.heap.size:=by have:=k.lt;omega
 have H:=o _ (k.alloc (kN 2));rw[fG h (kN 2)]at H;go_upto_region 17 with(go_at_call 178;apply H.mono;rintro e E ⟨D,C,rfl,G,F,ay,A⟩;obtain⟨f,g,rfl⟩:=Hu G;obtain⟨b,d,rfl⟩:=Hu F;have n:=A.keep (DK k.lt') (aA h (kN 2));have Z:=A.keep (by omega) (eS (x:=kN 2) (j.keep (by omega) a3));have⟨ad,ae,af,ag,ah,ai,aj,ak⟩:=bM n;have aw:=aB n);have R:=aC (aC n 4 (.slice f a.length g)) 5 (.slice b is.length d);have r:=iZ (iZ Z (EW l) 4 (.slice f a.length g)) (EW l) 5 (.slice b is.length d);have W:=(((j.alloc (kN 2)).trans A).set (β:=h.heap.size) j.size 4 (.slice f a.length g)).set (β:=h.heap.size) j.size 5 (.slice b is.length d);have U:=dI (dI G (DD _) 4 (.slice f a.length g)) (DD _) 5 (.slice b is.length d);have S:=dI (dI F (DD _) 4 (.slice f a.length g)) (DD _) 5 (.slice b is.length d);generalize hw5:(E.setCell ⟨h.heap.size,4,none⟩ (.slice f a.length g)).setCell ⟨h.heap.size,5,none⟩ (.slice b is.length d)=w5 at *;have⟨al,am,an,ao,ap,aq,ar,au⟩:=bM R;have ax:=aB r;have⟨b1,b2,b3,b4,b5,b6,b7,b8⟩:=bM r;have⟨a5,a6,a7,a8,a9,aa,ab,ac⟩:=bM (vL r (.i 2) (.i 0) (.i 0) (.i 0) (.slice f a.length g) (.slice b is.length d) .n (.string ⟨#[]⟩));go_wp2;refine BI (v:=.agg #[.i 2,.i 0,.i 0,.i 0,.slice f a.length g,.slice b is.length d,.n,.string ⟨#[]⟩]) ?_ rfl ⟨_,_,rfl,sG (vX U (Nat.lt_succ_of_lt l) (.i 2) (.i 0) (.i 0) (.i 0) (.slice f a.length g) (.slice b is.length d) .n (.string ⟨#[]⟩)) (B':=w.heap.size) (by omega),sG (vX S (Nat.lt_succ_of_lt l) (.i 2) (.i 0) (.i 0) (.i 0) (.slice f a.length g) (.slice b is.length d) .n (.string ⟨#[]⟩)) (B':=w.heap.size) (by omega),oT (nY a1 W (by omega) (by rw[fG];omega)) (β:=w.heap.size) (BV _) (.i 2) (.i 0) (.i 0) (.i 0) (.slice f a.length g) (.slice b is.length d) .n (.string ⟨#[]⟩)⟩;simp[results,Tryz.results166,go_sem,a5,a6,a7,a8,a9,aa,ab,ac]
theorem Xo:(Tryz.prog.info? 69).map (λi=>(i.zero,i.size,i.bytes))=some (some (.agg #[.string ⟨#[]⟩,.string ⟨#[]⟩,.i 0,.i 0]),4,48):=by kernel_rfl
def fR(w:World)(B:Nat)(v:Value)(es:List Ent):Prop:=w.ownsRow B 69 4 v es.length (es.flatMap Ent.cells)
theorem fR.nil(w B):fR w B .n []:=AL _ _ _ _
theorem fR.alloc (h:fR w B v es)(o):fR (w.alloc o) B v es:=CG (w:=w) h o
theorem fR.only (h:fR w B v es)(a:dU ρ w w')(f:ρ<B):fR w' B v es :=
 JG (row:=some ρ) h ⟨a.os,a.tape,a.output,a.size,λc d e=>a.block c d (λb=>e (by rw[b]))⟩ (by
  cases hv:v.ownBlock with
  |none=>simp
  |some c=>exact .inr (λb=>by have:=(ED (w:=w) h c hv).1;grind))
theorem fR.set (h:fR w B v es)(a:β<B)(i u):fR (w.setCell ⟨β,i,none⟩ u) B v es :=
 h.only ((dU.refl β w).setCell i u) a
theorem fR.mono {B B'}(h:fR w B v es)(i:B'<=B):fR w B' v es:=by
 obtain⟨a,c|⟨f,b,g,e,j,d⟩⟩:=h
 ·exact⟨a,.inl c⟩
 ·exact⟨a,.inr ⟨f,b,g,e,by omega,d⟩⟩
theorem fR.slice (h:fR w B v es):∃a c,v=.slice a es.length c:=by
 obtain⟨g,⟨rfl,b⟩|⟨i,e,j,d,f⟩⟩:=h
 ·simp_all
 grind
theorem Uu(w:World)(a b c d t):∀j u,[a,b,c,d][j]?=some u->(w.alloc (.cells #[a,b,c,d] t)).cell? ((⟨w.heap.size,0,none⟩:Addr).add j)=some u:=by
 intro j u e;have h:j<4:=by grind
 have f:(⟨w.heap.size,0,none⟩:Addr).add j=⟨w.heap.size,j,none⟩:=by unfold Addr.add;split<;>simp_all
 rw[f];simp only[World.cell?,aA w (.cells #[a,b,c,d] t)];have:j=0\/j=1\/j=2\/j=3:=by omega
 rcases this with rfl|rfl|rfl|rfl<;>simpa using e
def mE(bs:List UInt8)(a:Nat):Nat->Nat
 |0=>a
 |j+1=>Ba bs (mE bs a j)
def fI(bs:List UInt8)(a n:Nat):List Ent:=(List.range n).map λj=>rP bs (mE bs a j)
theorem Ux(b a n):fI b a (n+1)=fI b a n++[rP b (mE b a n)]:=by simp[fI,LI]
