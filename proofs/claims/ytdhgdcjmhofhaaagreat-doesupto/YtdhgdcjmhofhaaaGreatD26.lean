import Derived.Test.YtdhgdcjmhofhaaaGreatD25
set_option linter.all false
set_option maxRecDepth 100000
set_option maxHeartbeats 8000000
namespace Go.Proofs.YtdhgdcjmhofhaaaGreat.Tree
open Go.RowKit Pages
variable {fs:Fs} {j:Nat} {w:World}
structure MN where
 lo:ByteArray
 hi:ByteArray
 place:Nat
 ea:Option Addr
 en:Nat
 ec:Nat
 ka:Option Addr
 kn:Nat
 kc:Nat
def MN.cells(m:MN):List Value:=[.string m.lo,.string m.hi,.int .i64 m.place,.slice m.ea m.en m.ec,.slice m.ka m.kn m.kc]
abbrev MN.val(m:MN):Value:=.agg #[.string m.lo,.string m.hi,.int .i64 m.place,.slice m.ea m.en m.ec,.slice m.ka m.kn m.kc]
def aL(ms:List MN):List Value:=ms.flatMap MN.cells
theorem zJ(ms):aL ms=ms.flatMap MN.cells:=rfl
theorem zI(ms m):aL (ms++[m])=aL ms++m.cells:=by simp[aL]
theorem gS(ms ns):aL (ms++ns)=aL ms++aL ns:=by simp[aL]
theorem Nh(ms:List MN):∀x∈ms,(MN.cells x).length=5:=λx _=>rfl
theorem iD(ms):(aL ms).length=ms.length * 5:=Eu ms (Nh ms)
theorem xV{ms}(h:0<ms.length):aL ms≠[]:=by
 cases ms with
 |nil=>simp at h
 |cons x l=>simp[aL,MN.cells]
theorem mX{l j i}(c:j<l.length)(hi:i<5):(aL l)[j * 5+i]?=(l[j].cells)[i]?:=by
 have a:aL l=aL (l.take j)++(l[j].cells++aL (l.drop (j+1))):=by
  have:l=l.take j++(l[j]:: l.drop (j+1)):=by simp
  conv=>lhs;rw[this]
  rw[gS];rfl
 have b:(aL (l.take j)).length=j * 5:=by rw[iD,AZ,GB (by omega)]
 rw[a,BJ (by omega),b,Nat.add_sub_cancel_left,BT (by show i<5;exact hi)]
theorem aD.nod {S a l}(h:aD w S a (aL l))(e:j<l.length):∃b c,a=some ⟨b,c,none⟩/\S b/\w.c b (c+j * 5)=some (.string (l[j]).lo)/\w.c b (c+j * 5+1)=some (.string (l[j]).hi)/\w.c b (c+j * 5+2)=some (.i (l[j]).place)/\w.c b (c+j * 5+3)=some (.slice (l[j]).ea (l[j]).en (l[j]).ec)/\w.c b (c+j * 5+4)=some (.slice (l[j]).ka (l[j]).kn (l[j]).kc):=by
 have i:aL l≠[]:=xV (by omega);rcases h with h|⟨b,c,f,g,d⟩
 ·exact(i h).elim
 ·exact⟨b,c,f,g,d (j * 5+0) _ (mX e (by omega)),d (j * 5+1) _ (mX e (by omega)),d (j * 5+2) _ (mX e (by omega)),d (j * 5+3) _ (mX e (by omega)),d (j * 5+4) _ (mX e (by omega))⟩
def ksz(m:MN):Nat:=m.lo.size+3
def MN.fits(m:MN):Prop:=m.lo.size<=24
theorem MN.fits.out{m:MN}(h:m.fits):m.lo.size<=24:=h
theorem pW{m}(h:m.fits):ksz m<=27:=by unfold ksz;have:=h.out;omega
theorem iF:(Tryz.prog.info? 242).map (λi=>(i.zero,i.size,i.bytes))=some (some (.agg #[.string ⟨#[]⟩,.string ⟨#[]⟩,.i 0,.n,.n]),5,88):=by kernel_rfl
theorem Pd:(Tryz.prog.info? 239).map (λi=>(i.zero,i.size,i.bytes))=some (some .n,1,24):=by kernel_rfl
theorem zR(x w)(f:x.lo.size<=1000000):
  cL 208 #[.agg #[.string x.lo,.string x.hi,.i x.place,.slice x.ea x.en x.ec,.slice x.ka x.kn x.kc]] w λe w'=>e=.returned (.i (ksz x))/\bW w w':=by
 obtain⟨a,b,d,-⟩:=al1 w (.cells #[.string x.lo,.string x.hi,.i x.place,.slice x.ea x.en x.ec,.slice x.ka x.kn x.kc] 242);have⟨g,h,i,j,k⟩:=cU (b▸aA w _:a.heap[w.heap.size]?=some (.cells #[.string x.lo,.string x.hi,.i x.place,.slice x.ea x.en x.ec,.slice x.ka x.kn x.kc] 242));have c:Hid (ksz x=x.lo.size+3):=rfl;go_enter Tryz.func208,Tryz.ntmps208;go_wp2;go_ret;exact⟨by rw[c.out];first|rfl|(congr 2;go_num),d⟩
theorem Cf(ea ec es S w)(hR:aD w S ea (aL es))(hS:∀b,S b->b<w.heap.size)(hn:es.length<=1000000)(hc:es.length<=ec)(hf:∀x∈es,x.fits):
  cL 217 #[.slice ea es.length ec,.func (.func 208) #[] #[]] w λe w'=>e=.returned (.i (tot ksz es))/\bW w w':=by
 go_enter Tryz.func217,Tryz.ntmps217;go_wp2;go_loopw [5,10] (λa b wr=>∃j:Nat,a=.i (tot ksz (es.take j))/\b=.i j/\j<=es.length/\bW w wr) (λ_ b _=>es.length-(intOf b).toNat)
 case atStart=>exact⟨0,by simp[tot],rfl,AH _,AC _ _⟩
 case round =>
  obtain⟨j,rfl,rfl,hj,hb⟩:=hrel;by_cases hlt:j<es.length
  ·have⟨rb,ro,hea,hrb,k0,k1,k2,k3,k4⟩:=(hR.on (vV hb hS)).nod hlt;subst hea;have⟨X,hX⟩:=nM (es[j]);simp only[hX]at k0 k1 k2 k3 k4;have hXf:X.fits:=hX▸hf _ (AB hlt);obtain⟨Wa,hWa,-,xa,-⟩:=al1 wr (.cells #[.string X.lo,.string X.hi,.i X.place,.slice X.ea X.en X.ec,.slice X.ka X.kn X.kc] 242);have⟨g0,g1,g2,g3,g4⟩:=cU xa;have ba:bW w Wa:=hWa▸hb.alloc hb.size _;have hC:=zR X Wa (by have:=hXf.out;omega);have htk:tot ksz (es.take (j+1))=tot ksz (es.take j)+ksz X:=by rw[<-hX];exact lF ksz es j hlt
   have HTK:=htk;have hle:=oW ksz (es.take j) 27 (λx hx=>pW (hf x (CZ hx)));have hle2:tot ksz (es.take j)<=27000000:=by
    have:(es.take j).length<=1000000:=by rw[AZ];omega
    omega
   have hsx:=pW hXf;have⟨n,hn'⟩:∃n,tot ksz (es.take j)=n:=⟨_,rfl⟩;have⟨m,hm⟩:=nM (ksz X);rw[hn']at hle2;rw[hm]at hsx;simp only[hm]at hC;have HM:Hid (tot ksz (es.take (j+1))=n+m):=by rw[htk,hn',hm];exact rfl
   have HN:=hn';simp only[hn'];go_wp2_with (go_at_call 208;apply hC.mono;rintro e w2 ⟨rfl,hb2⟩);go_roundw
   case rel=>exact⟨j+1,by rw[HM.out];congr 1,by go_num,by omega,ba.trans (hb2.mono ba.size)⟩
   case measure=>simp[intOf];omega
  ·obtain rfl:j=es.length:=by omega
   have HT:Hid (tot ksz (es.take es.length)=tot ksz es):=by rw[BG];exact rfl
   go_wp2;go_ret;exact⟨by first|rfl|(rw[<-HT.out];rfl)|(rw[HT.out];rfl)|(simp[HT.out];done),hb⟩
theorem Sl(ea ec es)(all:Nat)(S w)(hR:aD w S ea (aL es))(hS:∀b,S b->b<w.heap.size)(hn:es.length<=1000000)(hc:es.length<=ec)(hf:∀x∈es,x.fits)(ha:250<tot ksz es)(ha2:all<=27000000):
  cL 218 #[.slice ea es.length ec,.func (.func 208) #[] #[],.i all] w λe w'=>e=.returned (.tuple #[.i (shN ksz all es 0),.i (tot ksz (es.take (shN ksz all es 0)))])/\bW w w':=by
 go_enter Tryz.func218,Tryz.ntmps218;go_wp2;go_loopw [8,9] (λa b wr=>∃j:Nat,b=.i (tot ksz (es.take j))/\a=.i j/\j<=shN ksz all es 0/\bW w wr) (λa _ _=>es.length-(intOf a).toNat)
 case atStart=>exact⟨0,by simp[tot],rfl,AH _,AC _ _⟩
 case round =>
  obtain⟨j,rfl,rfl,hj,hb⟩:=hrel;have hin:=Nat.lt_of_le_of_lt hj (xI ksz all es ha);have hat:=Cl ksz all es 0 j hj hin;have hin':=hin;obtain⟨rb,ro,hea,hrb,k0,k1,k2,k3,k4⟩:=(hR.on (vV hb hS)).nod hin';subst hea;have htk:=lF ksz es j hin;have hXf:=hf _ (AB hin);obtain⟨X,hX⟩:=nM (es[j]);simp only[hX]at k0 k1 k2 k3 k4 htk hXf hat;have hsx:=pW hXf;have hft:=tK ksz all es 0 (by omega);obtain⟨n,hn'⟩:∃n,tot ksz (es.take j)=n:=⟨_,rfl⟩;obtain⟨m,hm⟩:=nM (ksz X);have hn2:n<=27000000:=by
   have h1:=oW ksz (es.take j) 27 (λx hx=>pW (hf x (CZ hx)));have h2:(es.take j).length<=1000000:=by rw[AZ];omega
   omega
  simp only[hn',DO,hm]at hat htk hsx⊢;have HM:Hid (tot ksz (es.take (j+1))=n+m):=htk;have HN:Hid (tot ksz (es.take j)=n):=hn';have HX:Hid (ksz X=m):=hm;have HAT:Hid (j<shN ksz all es 0↔2 * n+m<=all/\n+m<=250):=hat;have on:∀W,bW wr W->On S wr W:=λW hW=>vV hW (λk hk=>jY (hS k hk) hb.size);have HK:Hid (∀W,bW wr W->W.c rb (ro+j * 5)=some (.string X.lo)/\W.c rb (ro+j * 5+1)=some (.string X.hi)/\W.c rb (ro+j * 5+2)=some (.i X.place)/\W.c rb (ro+j * 5+3)=some (.slice X.ea X.en X.ec)/\W.c rb (ro+j * 5+4)=some (.slice X.ka X.kn X.kc)):=λW hW=>⟨(on W hW).cell _ hrb |>.trans k0,(on W hW).cell _ hrb |>.trans k1,(on W hW).cell _ hrb |>.trans k2,(on W hW).cell _ hrb |>.trans k3,(on W hW).cell _ hrb |>.trans k4⟩;have HC:Hid (∀W,cL 208 #[.agg #[.string X.lo,.string X.hi,.i X.place,.slice X.ea X.en X.ec,.slice X.ka X.kn X.kc]] W λe w'=>e=.returned (.i m)/\bW W w'):=λW=>by have h:=zR X W (by have:=hXf.out;omega);rw[hm]at h;exact h
  have hbb:bW wr wr:=AC _ _;have hjs:¬j<shN ksz all es 0->Hid (shN ksz all es 0=j/\tot ksz (es.take (shN ksz all es 0))=n):=λh=>by
   have e:shN ksz all es 0=j:=by omega
   exact⟨e,by rw[e,hn']⟩
  clear htk hX hR hn' hm hft on;by_cases hle1:2 * n+m<=all
  ·have hl1:2 * (n:Int)+(m:Int)<=(all:Int):=by omega
   by_cases hle:n+m<=250
   ·have hlei:(n:Int)+(m:Int)<=250:=by omega
    clear hjs hat;go_wp2_with (go_at_call 208;refine jC (HC.out _) ?_;rintro e w2 ⟨rfl,hb2⟩;have hbb:=hbb.trans (hb2.mono hbb.size);obtain⟨k0,k1,k2,k3,k4⟩:=HK.out _ hbb);go_roundw
    case rel=>exact⟨j+1,by rw[HM.out];congr 1,by go_num,HAT.out.2 ⟨hle1,hle⟩,hb.trans (hbb.mono hb.size)⟩
    case measure=>simp[intOf];omega
   ·have hlei:¬(n:Int)+(m:Int)<=250:=by omega
    have hje:=hjs (λh=>hle (hat.1 h).2);go_wp2_with (go_at_call 208;refine jC (HC.out _) ?_;rintro e w2 ⟨rfl,hb2⟩;have hbb:=hbb.trans (hb2.mono hbb.size);obtain⟨k0,k1,k2,k3,k4⟩:=HK.out _ hbb);go_ret2;exact⟨Kd hje.out.1.symm hje.out.2.symm,hb.trans (hbb.mono hb.size)⟩
  ·have hl1:¬2 * (n:Int)+(m:Int)<=(all:Int):=by omega
   have hje:=hjs (λh=>hle1 (hat.1 h).1);go_wp2_with (go_at_call 208;refine jC (HC.out _) ?_;rintro e w2 ⟨rfl,hb2⟩;have hbb:=hbb.trans (hb2.mono hbb.size);obtain⟨k0,k1,k2,k3,k4⟩:=HK.out _ hbb);go_ret2;exact⟨Kd hje.out.1.symm hje.out.2.symm,hb.trans (hbb.mono hb.size)⟩
def qKr(w:World)(S:Bl)(v:Value)(ps:List (List MN)):Prop :=
 ∃qs:List (Pc MN),w.ownsRow 0 239 1 v qs.length (qs.map Pc.val)/\qs.map (·.l)=ps/\∀q∈qs,q.l.length<=q.c/\aD w S q.a (aL q.l)
theorem qFo(ea ec es S w)(hR:aD w S ea (aL es))(hS:∀b,S b->b<w.heap.size)(hn:es.length<=1000000)(hc:es.length<=ec)(hf:∀x∈es,x.fits)(h250:∀x∈es,ksz x<=250):
  cL 207 #[.slice ea es.length ec,.func (.func 208) #[] #[]] w λe w'=>∃v,e=.returned v/\qKr w' S v (dP ksz es)/\bW w w'/\∀k,v.ownBlock=some k->w.heap.size<=k:=by
 have hT:=Cf ea ec es S w hR hS hn hc hf;have hle:∀r:List MN,(∀x∈r,x∈es)->r.length<=es.length->tot ksz r<=27000000:=λr hr hl=>by
  have:=oW ksz r 27 (λx hx=>pW (hf x (hr x hx)));omega
 go_enter Tryz.func207,Tryz.ntmps207;go_wp2_with (go_at_call 217;apply hT.mono;rintro e w1 ⟨rfl,hb1⟩);go_loopw [0,5,6] (λa p t wr=>∃(r:List MN) (ra:Option Addr) (rc:Nat) (qs:List (Pc MN)),a=.slice ra r.length rc/\r.length<=rc/\t=.i (tot ksz r)/\aD w S ra (aL r)/\(∀x∈r,x∈es)/\r.length<=es.length/\qs.length+r.length<=es.length/\dP ksz es=qs.map (·.l)++dP ksz r/\wr.ownsRow 0 239 1 p qs.length (qs.map Pc.val)/\(∀q∈qs,q.l.length<=q.c/\aD w S q.a (aL q.l))/\bW w wr/\∀k,p.ownBlock=some k->w.heap.size<=k) (λa _ _ _=>match a with|.slice _ n _=>n|_=>0)
 case atStart=>exact⟨es,ea,ec,[],rfl,hc,rfl,hR,λ_ h=>h,jU _,by simp,by simp,AL _ _ _ _,by simp,hb1,by simp[Value.ownBlock]⟩
 case round =>
  obtain⟨r,ra,rc,qs,rfl,hrc,rfl,hRr,hmem,hrl,hql,hcut,hown,hqs,hb,hlies⟩:=hrel;have hRw:=hRr.on (vV hb hS);have hSw:∀b,S b->b<wr.heap.size:=λb h=>jY (hS b h) hb.size;have htr:=hle r hmem hrl;have HCUT:Hid (dP ksz es=qs.map (·.l)++dP ksz r):=hcut;clear hcut;by_cases hgt:250<tot ksz r
  ·have hr0:0<r.length:=by
    cases r with
    |nil=>simp[tot]at hgt
    |cons x r=>simp
   obtain⟨rb,ro,rfl,hrb⟩:=hRr.addr (xV hr0);have hrmem:∀x∈r,ksz x<=250:=λx hx=>h250 x (hmem x hx);have hSh:=Sl (some ⟨rb,ro,none⟩) rc r (tot ksz r) S wr hRw hSw (by omega) hrc (λx hx=>hf x (hmem x hx)) (by omega) (by omega);have hpos:=qM ksz r (by omega) hrmem;have hnle:=uK ksz (tot ksz r) r 0;have hst:=yI ksz r hrmem hgt;have hsp:=xG ksz r (shN ksz (tot ksz r) r 0);have⟨n,hn'⟩:∃n,shN ksz (tot ksz r) r 0=n:=⟨_,rfl⟩;rw[hn']at hSh hpos hnle hst hsp;have⟨f,hf'⟩:∃f,tot ksz (r.take n)=f:=⟨_,rfl⟩;rw[hf']at hSh hsp;have⟨t,ht⟩:=nM (tot ksz r);rw[ht]at hSh hgt htr hsp;simp only[ht];have hgti:(t:Int) > 250:=by omega
   have hSz:∀z:Int,z=((t:Nat):Int)->cL 218 #[.slice (some ⟨rb,ro,none⟩) r.length rc,.func (.func 208) #[] #[],.i z] wr λe w'=>e=.returned (.tuple #[.i n,.i f])/\bW wr w':=λz hz=>hz▸hSh;have HST:Hid (dP ksz r=r.take n :: dP ksz (r.drop n)):=hst;have HF:Hid (tot ksz (r.drop n)=t-f):=by show _=_;omega
   have hfle:f<=t:=by omega
   have hnli:(n:Int)<=(rc:Int):=by omega
   have hnli2:(n:Int)<=(r.length:Int):=by omega
   have hdl:(r.drop n).length=r.length-n:=BH ..;have HDL:Hid ((r.drop n).length=r.length-n):=hdl;have HTL:Hid ((r.take n).length=n):=by show _=_;rw[AZ];omega
   clear hst hsp hn' hf' ht hT hle hdl hSh;obtain⟨pa,pcp,rfl⟩:=aF hown;have hQ:qs.length+1<=1000001:=by omega
   go_wp2_with (first
    |(go_at_call 218;apply(hSz _ (by first|rfl|omega)).mono;clear hSz;rintro e w2 ⟨rfl,hb2⟩;have f2:Fr Bl.none wr w2:=AA hb2;have o2:=aS hown (f2.on (Z:=λk=>Value.ownBlock (.slice pa qs.length pcp)=some k) (λk hk=>⟨aM hown hk,λh=>h⟩)) (λk hk=>hk))
    |(at_builtin;apply fK w2 rfl (.tmp 21) (.tmp 25) 269 239 _ 1 24 rfl Tryz.underlying269 Pd rfl (by decide) (.slice pa qs.length pcp) qs.length (qs.map Pc.val) rfl o2 [.slice (some ⟨rb,ro,none⟩) n rc] rfl rfl (by simp[Value.oneCell']) (by omega) (by omega);intro v3 w3 A3;obtain⟨g3,k3,rfl⟩:=A3.shape (by decide)))
   have b3:bW w w3:=(hb.trans (hb2.mono hb.size)).trans (A3.fr.below (vJ hb.size hb2.size) hlies);have hnn:0<n:=hpos;go_roundw
   case rel =>
    refine⟨r.drop n,(if rc=n then some ⟨rb,ro,none⟩ else some ⟨rb,ro+n * 5,none⟩),rc-n,qs++[⟨some ⟨rb,ro,none⟩,rc,r.take n⟩],by rw[HDL.out],by rw[HDL.out];omega,by rw[HF.out];congr 1;omega,?_,λx hx=>hmem x (BO hx),by rw[HDL.out];omega,by rw[HDL.out,jK,AM];omega,by rw[HCUT.out,HST.out];simp,?_,?_,b3,?_⟩
    ·by_cases hrn:rc=n
     ·exact .inl (by rw[CR (by omega)];rfl)
     ·rw[AQ hrn]
      rw[zJ]at hRr⊢;exact hRr.dropZ n (Nh r) hnle
    ·have e1:Pc.val (⟨some ⟨rb,ro,none⟩,rc,r.take n⟩:Pc MN)=.slice (some ⟨rb,ro,none⟩) n rc:=by unfold Pc.val;simp only[HTL.out]
     rw[BM,jK,AM,BD,CX,e1];exact A3.row
    ·intro q hq
     rcases AO.1 hq with hq|hq
     ·exact hqs q hq
     ·obtain rfl:=AS.1 hq
      refine⟨by show(r.take n).length<=rc;rw[HTL.out];omega,?_⟩;show aD w S (some ⟨rb,ro,none⟩) (aL (r.take n))
      rw[zJ]at hRr⊢;exact hRr.takeZ (z:=5) n
    ·intro k hk
     rcases A3.lies k hk with h|h
     ·exact hlies k h
     ·exact vJ hb.size (vJ hb2.size h)
   case measure=>simp;omega
  ·have hla:=iR ksz r (by omega)
   obtain⟨pa,pcp,rfl⟩:=aF hown;by_cases hr0:0<r.length
   ·have HLA:Hid (dP ksz r=[r]):=by show _=_;rw[hla,AQ (by omega)]
    have hr0i:(0:Int)<(r.length:Int):=by omega
    have⟨t,ht⟩:=nM (tot ksz r);simp only[ht]at hgt⊢;have hgti:¬(t:Int) > 250:=by omega
    have hQ:qs.length+1<=1000001:=by omega
    clear hla ht hT hle;go_wp2_with (at_builtin;apply fK wr rfl (.tmp 36) (.tmp 38) 269 239 _ 1 24 rfl Tryz.underlying269 Pd rfl (by decide) (.slice pa qs.length pcp) qs.length (qs.map Pc.val) rfl hown [.slice ra r.length rc] rfl rfl (by simp[Value.oneCell']) (by omega) (by omega);intro v3 w3 A3;obtain⟨g3,k3,rfl⟩:=A3.shape (by decide));go_ret;have b3:bW w w3:=hb.trans (A3.fr.below hb.size hlies);refine⟨_,rfl,⟨qs++[⟨ra,rc,r⟩],?_,by rw[HCUT.out,HLA.out];simp,?_⟩,b3,?_⟩
    ·rw[BM,jK,AM,BD,CX]
     exact A3.row
    ·intro q hq
     rcases AO.1 hq with hq|hq
     ·exact⟨(hqs q hq).1,(hqs q hq).2.on (vV b3 hS)⟩
     ·obtain rfl:=AS.1 hq
      exact⟨hrc,hRr.on (vV b3 hS)⟩
    ·intro k hk
     rcases A3.lies k hk with h|h
     ·exact hlies k h
     ·exact vJ hb.size h
   ·have hr00:r.length=0:=by omega
    have HLA:Hid (dP ksz r=[]):=by show _=_;rw[hla,AW hr00]
    obtain rfl:=AG hr00;clear hla hT hle;go_wp2;go_ret;exact⟨_,rfl,⟨qs,hown,by rw[HCUT.out,HLA.out];simp,λq hq=>⟨(hqs q hq).1,(hqs q hq).2.on (vV hb hS)⟩⟩,hb,hlies⟩
def iI(es:List En):ByteArray:=match es with|[]=>⟨#[]⟩|x :: _=>x.e.key
def lL(q:Pc En):MN:=⟨iI q.l,⟨#[]⟩,0,q.a,q.l.length,q.c,none,0,0⟩
theorem Pq{es}(h:0<es.length):iI es=es[0].e.key:=by
 cases es with
 |nil=>simp at h
 |cons x l=>rfl
theorem vZ {B e z a c n xs}(h:w.ownsRow B e z (.slice a n c) n xs){u}(k:xs[j]?=some u):∃g,a=some ⟨g,0,none⟩/\g<w.heap.size/\n<=c/\w.c g j=some u:=by
 have⟨g,b,d,f,i⟩:=kP h k;exact⟨g,b,d,f,i⟩
theorem pB(ea ec es S w)(hR:aD w S ea (aT es))(hS:∀b,S b->b<w.heap.size)(hn:es.length<=1000000)(hc:es.length<=ec)(hf:∀x∈es,x.fits)(h250:∀x∈es,esz x<=250):
  cL 189 #[.slice ea es.length ec] w λe w'=>∃v,∃qs:List (Pc En),e=.returned v/\w'.ownsRow 0 242 5 v qs.length (aL (qs.map lL))/\qs.map (·.l)=dP esz es/\(∀q∈qs,q.l.length<=q.c/\aD w' S q.a (aT q.l))/\bW w w'/\∀k,v.ownBlock=some k->w.heap.size<=k:=by
 have hne:=wN esz es h250;go_enter Tryz.func189,Tryz.ntmps189;go_wp2_with (go_at_call 202;apply (qFp ea ec es S w hR hS hn hc hf h250).mono;rintro e w1 ⟨v,rfl,⟨qs,hown,hl,hq⟩,hb1,hlies⟩;obtain⟨pa,pcp,rfl⟩:=aF hown);have hlen:qs.length<=es.length+1:=by
  have h1:qs.length=(dP esz es).length:=by rw[<-hl];simp
  have h2:=lP esz es h250;have h3:(dP esz es).length<=(dP esz es).flatten.length:=by
   rw[List.length_flatten];generalize dP esz es=ps at hne;clear h1 h2 hl;induction ps with
   |nil=>simp
   |cons p ps ih =>
    have:=ih (λp hp=>hne p (by simp[hp]));have hp:0<p.length:=BR.2 (hne p (by simp));simp;omega
  rw[h2]at h3;omega
 have HL:Hid (qs.map (·.l)=dP esz es):=hl;have hqn:∀q∈qs,0<q.l.length:=λq hq=>BR.2 (hne q.l (by rw[<-hl];exact List.mem_map_of_mem (f:=λq:Pc En=>q.l) hq));clear hl hne;go_loopw [3,9] (λa b wr=>∃j:Nat,b=.i j/\j<=qs.length/\wr.ownsRow 0 242 5 a j (aL ((qs.take j).map lL))/\bW w1 wr/\∀k,a.ownBlock=some k->w1.heap.size<=k) (λ_ b _=>qs.length-(intOf b).toNat)
 case atStart=>exact⟨0,rfl,AH _,AL _ _ _ _,AC _ _,by simp[Value.ownBlock]⟩
 case round =>
  obtain⟨j,rfl,hj,ho,hb,hk⟩:=hrel;obtain⟨aa,ac,rfl⟩:=aF ho;by_cases hlt:j<qs.length
  ·have⟨Q,hQ⟩:=nM (qs[j])
   have hQm:Q∈qs:=hQ▸AB hlt;have hu:(qs.map Pc.val)[j]?=some (.slice Q.a Q.l.length Q.c):=by rw[BN,jQ hlt,hQ];rfl
   have⟨g,hg,hgl,hnc,hcell⟩:=vZ hown hu;subst hg;have hcw:wr.c g j=some (.slice Q.a Q.l.length Q.c):=((vV (Y:=λk=>k<w1.heap.size) hb (λk h=>h)).cell _ hgl).trans hcell;have hS1:∀b,S b->b<w1.heap.size:=λb h=>jY (hS b h) hb1.size;have hRq:=((hq Q hQm).2.on (vV hb hS1));have hq0:=hqn Q hQm;have hq0':0<(Q.l.map (·.e)).length:=by simpa using hq0
   have⟨rb,ro,hqa,hrb,k0,_,_,_⟩:=hRq.ent hq0';rw[EB,<-Pq hq0]at k0;simp only[DV,DR]at k0;obtain⟨Qa,Qc,Ql⟩:=Q;simp only at hqa hq0 hq0' hcw k0;subst hqa;have⟨K,hK⟩:=nM (iI Ql);rw[hK]at k0;have HTK:Hid (aL ((qs.take (j+1)).map lL)=aL ((qs.take j).map lL)++[.string K,.string ⟨#[]⟩,.i 0,.slice (some ⟨rb,ro,none⟩) Ql.length Qc,.n]):=by
    show _=_
    rw[AK hlt,hQ,BM,BD,CX,zI];simp only[lL,MN.cells,hK];rfl
   clear hQ hQm hu hcell hown hq hRq hK;go_wp2_with (at_builtin;apply fK wr rfl (.tmp 13) (.tmp 21) 239 242 _ 5 88 rfl Tryz.underlying239 iF rfl (by decide) (.slice aa j ac) j (aL ((qs.take j).map lL)) rfl ho [.string K,.string ⟨#[]⟩,.i 0,.slice (some ⟨rb,ro,none⟩) Ql.length Qc,.n] rfl rfl (by simp[Value.oneCell']) (by omega) (by omega);intro v3 w3 A3;obtain⟨g3,k3,rfl⟩:=A3.shape (by decide));go_roundw
   case rel =>
    refine⟨j+1,by go_num,by omega,by rw[HTK.out];exact A3.row,hb.trans (A3.fr.below hb.size hk),?_⟩;intro k h;rcases A3.lies k h with h|h
    ·exact hk k h
    ·exact vJ hb.size h
   case measure=>simp[intOf];omega
  ·obtain rfl:j=qs.length:=by omega
   go_wp2;go_ret;refine⟨_,qs,rfl,by rw[BG]at ho;exact ho,HL,λq h=>⟨(hq q h).1,(hq q h).2.on (vV hb (λb h=>jY (hS b h) hb1.size))⟩,hb1.trans (hb.mono hb1.size),λk h=>vJ hb1.size (hk k h)⟩
def Bq(ms:List MN):ByteArray:=match ms with|[]=>⟨#[]⟩|x :: _=>x.lo
def lQ(q:Pc MN):MN:=⟨Bq q.l,⟨#[]⟩,0,none,0,0,q.a,q.l.length,q.c⟩
theorem Uw{es}(h:0<es.length):Bq es=es[0].lo:=by
 cases es with
 |nil=>simp at h
 |cons x l=>rfl
theorem mD(ea ec es S w)(hR:aD w S ea (aL es))(hS:∀b,S b->b<w.heap.size)(hn:es.length<=1000000)(hc:es.length<=ec)(hf:∀x∈es,x.fits)(h250:∀x∈es,ksz x<=250):
  cL 192 #[.slice ea es.length ec] w λe w'=>∃v,∃qs:List (Pc MN),e=.returned v/\w'.ownsRow 0 242 5 v qs.length (aL (qs.map lQ))/\qs.map (·.l)=dP ksz es/\(∀q∈qs,q.l.length<=q.c/\aD w' S q.a (aL q.l))/\bW w w'/\∀k,v.ownBlock=some k->w.heap.size<=k:=by
 have hne:=wN ksz es h250;go_enter Tryz.func192,Tryz.ntmps192;go_wp2_with (go_at_call 207;apply (qFo ea ec es S w hR hS hn hc hf h250).mono;rintro e w1 ⟨v,rfl,⟨qs,hown,hl,hq⟩,hb1,hlies⟩;obtain⟨pa,pcp,rfl⟩:=aF hown);have hlen:qs.length<=es.length+1:=by
  have h1:qs.length=(dP ksz es).length:=by rw[<-hl];simp
  have h3:(dP ksz es).length<=(dP ksz es).flatten.length:=by
   rw[List.length_flatten];generalize dP ksz es=ps at hne;induction ps with
   |nil=>simp
   |cons p ps ih =>
    have:=ih (λp hp=>hne p (by simp[hp]));have hp:=BR.2 (hne p (by simp));simp;omega
  rw[lP ksz es h250]at h3;omega
 have HL:Hid (qs.map (·.l)=dP ksz es):=hl;have hqn:∀q∈qs,0<q.l.length:=λq hq=>BR.2 (hne q.l (by rw[<-hl];exact List.mem_map_of_mem (f:=λq:Pc MN=>q.l) hq));clear hl hne;go_loopw [3,9] (λa b wr=>∃j:Nat,b=.i j/\j<=qs.length/\wr.ownsRow 0 242 5 a j (aL ((qs.take j).map lQ))/\bW w1 wr/\∀k,a.ownBlock=some k->w1.heap.size<=k) (λ_ b _=>qs.length-(intOf b).toNat)
 case atStart=>exact⟨0,rfl,AH _,AL _ _ _ _,AC _ _,by simp[Value.ownBlock]⟩
 case round =>
  obtain⟨j,rfl,hj,ho,hb,hk⟩:=hrel;obtain⟨aa,ac,rfl⟩:=aF ho;by_cases hlt:j<qs.length
  ·have⟨Q,hQ⟩:=nM (qs[j])
   have hQm:Q∈qs:=hQ▸AB hlt;have hu:(qs.map Pc.val)[j]?=some (.slice Q.a Q.l.length Q.c):=by rw[BN,jQ hlt,hQ];rfl
   have⟨g,hg,hgl,hnc,hcell⟩:=vZ hown hu;subst hg;have hcw:wr.c g j=some (.slice Q.a Q.l.length Q.c):=((vV (Y:=λk=>k<w1.heap.size) hb (λk h=>h)).cell _ hgl).trans hcell;have hS1:∀b,S b->b<w1.heap.size:=λb h=>jY (hS b h) hb1.size;have hRq:=((hq Q hQm).2.on (vV hb hS1));have hq0:=hqn Q hQm;have hq0':0<Q.l.length:=hq0;have⟨rb,ro,hqa,hrb,k0,k1,k2,k3,k4⟩:=hRq.nod hq0';rw[<-Uw hq0]at k0;clear k1 k2 k3 k4;simp only[DV,DR]at k0;have⟨Qa,Qc,Ql⟩:=Q;simp only at hqa hq0 hq0' hcw k0;subst hqa;have⟨K,hK⟩:=nM (Bq Ql);rw[hK]at k0;have HTK:Hid (aL ((qs.take (j+1)).map lQ)=aL ((qs.take j).map lQ)++[.string K,.string ⟨#[]⟩,.i 0,.n,.slice (some ⟨rb,ro,none⟩) Ql.length Qc]):=by
    show _=_
    rw[AK hlt,hQ,BM,BD,CX,zI];simp only[lQ,MN.cells,hK];rfl
   clear hQ hQm hu hcell hown hq hRq hK;go_wp2_with (at_builtin;apply fK wr rfl (.tmp 13) (.tmp 22) 239 242 _ 5 88 rfl Tryz.underlying239 iF rfl (by decide) (.slice aa j ac) j (aL ((qs.take j).map lQ)) rfl ho [.string K,.string ⟨#[]⟩,.i 0,.n,.slice (some ⟨rb,ro,none⟩) Ql.length Qc] rfl rfl (by simp[Value.oneCell']) (by omega) (by omega);intro v3 w3 A3;obtain⟨g3,k3,rfl⟩:=A3.shape (by decide));go_roundw
   case rel =>
    refine⟨j+1,by go_num,by omega,by rw[HTK.out];exact A3.row,hb.trans (A3.fr.below hb.size hk),?_⟩;intro k h;rcases A3.lies k h with h|h
    ·exact hk k h
    ·exact vJ hb.size h
   case measure=>simp[intOf];omega
  ·obtain rfl:j=qs.length:=by omega
   go_wp2;go_ret;refine⟨_,qs,rfl,by rw[BG]at ho;exact ho,HL,λq h=>⟨(hq q h).1,(hq q h).2.on (vV hb (λb h=>jY (hS b h) hb1.size))⟩,hb1.trans (hb.mono hb1.size),λk h=>vJ hb1.size (hk k h)⟩
inductive NT where
  |kept (t:T) (s:Sp)
  |leaf (s:Sp) (es:List En)
  |bran (s:Sp) (ks:List NT)
def NT.sp:NT->Sp
  |.kept _ s=>s
  |.leaf s _=>s
  |.bran s _=>s
def fY(n:NT):Nat:=n.sp.lo.size+3
def jD:List NT->ByteArray
  |[]=>⟨#[]⟩
  |n :: _=>n.sp.lo
def Nv(p:List En):NT:=.leaf ⟨iI p,⟨#[]⟩⟩ p
def Fq(p:List NT):NT:=.bran ⟨jD p,⟨#[]⟩⟩ p
def cT(es:List En):List NT:=(dP esz es).map Nv
def eC(ns:List NT):List NT:=(dP fY ns).map Fq
def dE:NT->Bool
  |.kept _ _=>false
  |.leaf _ es=>decide (tot esz es<62)
  |.bran _ ks=>decide (tot fY ks<62)
def NT.ents0:NT->List En
  |.kept (.leaf _ es) _=>es
  |.kept (.branch _ _ _) _=>[]
  |.leaf _ es=>es
  |.bran _ _=>[]
variable {J:List NT->Prop} {a:NT->NT->List NT} {acc:List NT}
def pY(tog:NT->NT->List NT):List NT->List NT->List NT
  |[],next=>next
  |l :: acc,next=>match next with
    |[m]=>if dE l=true\/dE m=true then pY tog acc (tog l m) else (l :: acc).reverse++[m]
    |_=>(l :: acc).reverse++next
def sQ(tog:NT->NT->List NT)(acc next:List NT):List NT:=pY tog acc.reverse next
def wH(tog:NT->NT->List NT)(acc:List NT)(n:NT):List NT:=sQ tog acc [n]
def pZ(tog:NT->NT->List NT)(ns:List NT):List NT:=ns.foldl (wH tog) []
theorem qAi {l m}(h:dE l=true\/dE m=true):sQ a (acc++[l]) [m]=sQ a acc (a l m):=by
  rw[sQ,KO,JV,KA];exact AW h
theorem qAh {l m}(h:¬(dE l=true\/dE m=true)):sQ a (acc++[l]) [m]=(acc++[l])++[m]:=by
  rw[sQ,KO,JV,KA];apply(AQ h).trans;rw[GJ,GS]
theorem Uj{c acc next}(h:next.length≠1):sQ c acc next=acc++next:=by
  rcases KB acc with rfl|⟨a,b,rfl⟩
  · rfl
  · rw[sQ,KC,KO,JV,KA]
    match next,h with
    |[],_=>show(b :: a.reverse).reverse++[]=_;rw[GJ,GS]
    |[_],h=>grind
    |x :: y :: r,_=>show(b :: a.reverse).reverse++_=_;rw[GJ,GS]
theorem zY (d:∀c l n B,J (c++l :: n :: B)->J (c++(a l n++B))):∀(acc next B:List NT),J (acc.reverse++(next++B))->J (pY a acc next++B)
  |[],next,B,h=>by simpa[pY] using h
  |l :: acc,next,B,h=>by
    match next,h with
    |[],h=>simpa[pY] using h
    |[m],h =>
      by_cases hs:dE l=true\/dE m=true
      · have b:pY a (l :: acc) [m]=pY a acc (a l m):=AW hs
        rw[b];exact zY d acc (a l m) B (d _ _ _ _ (by grind))
      · have b:pY a (l :: acc) [m]=(l :: acc).reverse++[m]:=AQ hs
        grind
    |x :: y :: r,h=>simpa[pY] using h
theorem zU {b}(c:∀a l n B,J (a++l :: n :: B)->J (a++(b l n++B))){n B}(h:J (acc++n :: B)):J (wH b acc n++B):=
  zY c acc.reverse [n] B (by grind)
theorem Eh (c:∀b l n B,J (b++l :: n :: B)->J (b++(a l n++B))):∀{ns acc:List NT},J (acc++ns)->J (ns.foldl (wH a) acc)
  |[],acc,h=>by grind
  |n :: ns,acc,h=>Eh c (ns:=ns) (acc:=wH a acc n) (zU c h)
theorem sP {b}(c:∀a l n B,J (a++l :: n :: B)->J (a++(b l n++B))){ns}(h:J ns):J (pZ b ns):=Eh c (ns:=ns) (acc:=[]) h
def qGo(a b:NT):List NT:=cT (a.ents0++b.ents0)
def Py(ns:List NT):List En:=ns.flatMap NT.ents0
def En.good(fs:Fs)(x:En):Prop:=lt ⟨#[]⟩ x.e.key=true/\x.e.key.size<=24 /\
  ((x.e.over=0/\x.ch=[]/\x.e.size=(x.e.val.size:Int)/\x.e.val.size<=400) \/
   (x.e.val=⟨#[]⟩/\bH x.e.over=true/\∃size over:Nat,x.e.size=size/\x.e.over=over/\60<size/\size<=400/\fA fs over size x.ch))
variable {es:List En} {x:En}
theorem Pk (h:x.good fs):esz x<=87:=by
  obtain⟨_,c,h|⟨d,_,f,e,a,_,b,_⟩⟩:=h
  · have⟨_,_,a,b⟩:=h
    unfold esz;split<;>omega
  · unfold esz;grind
theorem qA (h:x.good fs):x.fits:=by
  obtain⟨_,a,h|⟨b,_⟩⟩:=h
  · exact⟨a,h.2.2.2⟩
  · refine⟨a,?_⟩;rw[b];decide
def Ok0(fs:Fs):NT->Prop
  |.kept (.leaf p es) s=>aU fs 0 (.leaf p es) s
  |.kept (.branch _ _ _) _=>False
  |.leaf s es=>es≠[]/\s.lo=iI es/\cM es/\tot esz es<=250/\∀x∈es,x.good fs
  |.bran _ _=>False
def qKq(a b:NT):Prop:=∀x∈a.ents0,lt x.e.key b.sp.lo=true
structure Lst (fs:Fs) (ns:List NT):Prop where
  ok:∀n∈ns,Ok0 fs n
  lo:∀n∈ns,∀x∈n.ents0,le n.sp.lo x.e.key=true
  sep:ns.Pairwise qKq
theorem Yv {l}:cM (x :: l)↔(∀a∈l,lt x.e.key a.e.key=true)/\cM l:=BC
theorem yX{l m}:cM (l++m)↔cM l/\cM m/\∀x∈l,∀a∈m,lt x.e.key a.e.key=true:=CI
theorem Pp (h:cM es):∀x∈es,le (iI es) x.e.key=true:=by
  intro x a;cases es with
  |nil=>simp at a
  |cons y l =>
    rcases AR.1 a with rfl|a
    · exact bI _
    · exact gN ((Yv.1 h).1 x a)
theorem rA (h:es≠[]):∃x∈es,iI es=x.e.key:=by
  cases es with
  |nil=>grind
  |cons y l=>exact⟨y,by simp,rfl⟩
theorem Cx:∀{ps:List (List En)},cM ps.flatten->(∀x∈ps.flatten,x.good fs)->(∀p∈ps,p≠[])->(∀p∈ps,tot esz p<=250)->Lst fs (ps.map Nv)
  |[],_,_,_,_=>⟨by simp,by simp,by simp⟩
  |p :: ps,hr,hg,hne,hf=>by
    rw[EY]at hr hg;have⟨e,g,h⟩:=yX.1 hr;have d:=Cx g (λx c=>hg x (by grind)) (λq b=>hne q (by simp[b])) (λq b=>hf q (by simp[b]));have i:Ok0 fs (Nv p):=⟨hne p (by simp),rfl,e,hf p (by simp),λx c=>hg x (by simp[c])⟩;refine⟨?_,?_,?_⟩
    · rw[BD];intro n a
      rcases AR.1 a with rfl|a
      · exact i
      · exact d.ok n a
    · rw[BD];intro n a
      rcases AR.1 a with rfl|a
      · exact Pp e
      · exact d.lo n a
    · rw[BD]
      refine BC.2 ⟨λn a x c=>?_,d.sep⟩;obtain⟨q,b,rfl⟩:=AY.1 a;have⟨k,j,f⟩:=rA (hne q (by simp[b]));show lt x.e.key (iI q)=true
      rw[f];exact h x c k (FS.2 ⟨q,b,j⟩)
theorem oQ (a:∀x∈es,x.good fs):∀x∈es,esz x<=250:=λx b=>by have:=Pk (a x b);omega
theorem Nt (c:cM es)(a:∀x∈es,x.good fs):Lst fs (cT es):=by
  have b:=lP esz es (oQ a);exact Cx (by grind) (by grind) (wN esz es (oQ a)) (Qo esz es)
theorem Ky(ps:List (List En)):Py (ps.map Nv)=ps.flatten:=by
  induction ps with
  |nil=>rfl
  |cons p ps ih=>simp only[Py,BD,AJ,EY]at ih⊢;rw[ih];rfl
theorem Kr (a:∀x∈es,x.good fs):Py (cT es)=es:=by
  rw[cT,Ky,lP esz es (oQ a)]
theorem Tu (a:∀x∈es,x.good fs):∀n∈cT es,∃x∈es,n.sp.lo=x.e.key:=by
  intro n d;obtain⟨p,b,rfl⟩:=AY.1 d;have⟨x,e,c⟩:=rA (wN esz es (oQ a) p b);refine⟨x,?_,c⟩;rw[<-lP esz es (oQ a)];exact FS.2 ⟨p,b,e⟩
theorem jL {p s}(h:aU fs 0 (.leaf p es) s):∀x∈es,x.good fs:=by
  have⟨g,r,t,q,_,_,v⟩:=h;intro x f;have⟨_,u⟩:=Pi r t;have⟨n,o,e⟩:=u x.e (by grind);refine⟨n,o,?_⟩;have⟨z,k,w,i,y,j⟩:=v x f;simp only[pI,DN,AN,CP,BQ]at e;rcases e with⟨⟨a,c⟩,d⟩|⟨⟨⟨a,c⟩,d⟩,A⟩
  · grind
  · have:k≠0:=by
      intro l;rw[i,l]at a;simp[bH]at a
    rcases j with⟨m,_⟩|⟨_,b⟩
    · omega
    · exact .inr ⟨by exact lN.1 c,a,z,k,w,i,by omega,y,b⟩
theorem Nf {n}(h:Ok0 fs n):n.ents0≠[]/\cM n.ents0/\∀x∈n.ents0,x.good fs:=by
  cases n with
  |kept t s =>
    cases t with
    |leaf p es=>exact⟨by have⟨g,_,_,_,a,_⟩:=h;exact a,dV (h:=0) h,jL h⟩
    |branch=>exact h.elim
  |leaf s es=>exact⟨h.1,h.2.2.1,h.2.2.2.2⟩
  |bran=>exact h.elim
theorem Wk {a b}:((w.alloc a).alloc b).heap[w.heap.size]?=some a/\((w.alloc a).alloc b).heap[w.heap.size+1]?=some b/\bW w ((w.alloc a).alloc b):=
 ⟨aI _ (aA _ _),tQ _ _ _ (by simp),(bA _ _).alloc (by simp) _⟩
theorem yV(root β b d c)(q:Sp)(w):
  cL 98 #[.agg (tA β root b d c),.agg #[.string q.lo,.string q.hi]] w λe w' =>
   e=.returned (.func (.func 134) #[] #[.p w.heap.size 0,.p (w.heap.size+1) 0]) /\
   w'.heap[w.heap.size]?=some (.cells (tA β root b d c) 90)/\w'.heap[w.heap.size+1]?=some (.cells #[.string q.lo,.string q.hi] 154)/\bW w w':=by
 have f:∀a,a=((w.alloc (.cells (tA β root b d c) 90)).alloc (.cells #[.string q.lo,.string q.hi] 154)) ->
   (a.heap[w.heap.size]?=some (.cells (tA β root b d c) 90)/\a.heap[w.heap.size+1]?=some (.cells #[.string q.lo,.string q.hi] 154)/\bW w a):=by
  rintro a rfl;exact Wk
 go_enter Tryz.func98,Tryz.ntmps98;go_wp2;go_ret;exact⟨rfl,f _ rfl⟩
theorem uB(f:Nat)(g b d c w):
  cL 175 #[.func (.func f) #[] g,.slice b d c] w λe w' =>
   e=.returned (.func (.func 195) #[] #[.p (w.heap.size+1) 0,.p w.heap.size 0]) /\
   w'.heap[w.heap.size]?=some (.cells #[.func (.func f) #[] g] 151)/\w'.heap[w.heap.size+1]?=some (.cells #[.slice b d c] 88)/\bW w w':=by
 have h:∀a,a=((w.alloc (.cells #[.func (.func f) #[] g] 151)).alloc (.cells #[.slice b d c] 88)) ->
   (a.heap[w.heap.size]?=some (.cells #[.func (.func f) #[] g] 151)/\a.heap[w.heap.size+1]?=some (.cells #[.slice b d c] 88)/\bW w a):=by
  rintro a rfl;exact Wk
 go_enter Tryz.func175,Tryz.ntmps175;go_wp2;go_ret;exact⟨rfl,h _ rfl⟩
theorem Ma(b d c w):
  cL 205 #[.slice b d c] w λe w' =>
   e=.returned (.func (.func 214) #[] #[.p w.heap.size 0]) /\
   w'.heap[w.heap.size]?=some (.cells #[.slice b d c] 67)/\bW w w':=by
 have f:∀a,a=(w.alloc (.cells #[.slice b d c] 67))->(a.heap[w.heap.size]?=some (.cells #[.slice b d c] 67)/\bW w a):=by
  rintro a rfl;exact⟨aA _ _,bA _ _⟩
 go_enter Tryz.func205,Tryz.ntmps205;go_wp2;go_ret;exact⟨rfl,f _ rfl⟩
theorem kK{cs}(h:cJ cs)(q):cJ (dB cs q):=EF _ h
theorem qDq(cs q):(dB cs q).length<=cs.length:=KD _ _
def RdE(S:Bl)(β:Nat)(sv lv:Value)(w w':World):Bl:=λk=>S k\/fpF β sv lv k\/(w.heap.size<=k/\k<w'.heap.size)
theorem Gt(β sv lv fs)(E:(fs.life==0)=false)(root h n cs q o)(H:bJ fs root o)(S w j d)(p:aH w β sv lv fs)(z:aD w S h (cs.flatMap Ch.cells))(A:∀b,S b->b<w.heap.size)(G:cJ cs)(F:cs.length<=1000000)(e f)(v:j.heap[e]?=some (.cells #[.p β 0,.i root,.slice h cs.length n] 90))(t:j.heap[e+1]?=some (.cells #[.string q.lo,.string q.hi] 154))(l:bW j d)(a c)(k:Lv S h cs a c (dB cs q))(s:d.heap[f]?=some (.cells #[.func (.func 134) #[] #[.p e 0,.p (e+1) 0]] 151))(r:d.heap[f+1]?=some (.cells #[.slice a (dB cs q).length c] 88))(m:bW w d)(C:w.heap.size<=e)(B:w.heap.size<=f):
  oD Tryz.prog 195 #[.p (f+1) 0,.p f 0] qF (bD (cV q o) (dB cs q)) (RdE S β sv lv w d) d:=by
 have x:=(l.block e (gL v)).trans v;have u:=(l.block (e+1) (gL t)).trans t;have y:=yU β sv lv fs E root h cs.length n q o H e (e+1) (RdE S β sv lv w d) d x u (p.on (vV m (λi g=>p.lies i g))) (.inr (.inr ⟨C,(gL x)⟩)) (.inr (.inr ⟨by omega,(gL u)⟩)) (λi g=>.inr (.inl g));exact Hv _ _ (enters_of Tryz.func134 (by kernel_rfl) rfl) _ _ (f+1) f a c (dB cs q) S (RdE S β sv lv w d) d y r s (k.2.1 _ (z.on (vV m A))) (kK G q) (vJ (qDq cs q) F) k.1 k.2.2 (.inr (.inr ⟨by omega,(gL r)⟩)) (.inr (.inr ⟨B,(gL s)⟩)) (λi g=>.inl g) (λi g=>g)
theorem eK{B W a c}(b:Below B W a)(d:B<=W.heap.size)(e:bW a c):Below B W c:=b.trans (e.mono (vJ d b.size))
theorem wK(β sv lv fs)(B:(fs.life==0)=false)(root i l cs q o)(E:bJ fs root o)(S w)(A:aH w β sv lv fs)(v:aD w S i (cs.flatMap Ch.cells))(x:∀b,S b->b<w.heap.size)(D:cJ cs)(C:cs.length<=1000000)(Q:cs.length<=l)(R:(i=none/\l=0)\/∃b V,i=some ⟨b,V,none⟩):
  cL 165 #[.agg #[.p β 0,.i root,.slice i cs.length l],.string q.lo,.string q.hi] w λe w'=>∃F,e=.returned (.func (.func 195) #[] F)/\oD Tryz.prog 195 F qF (bD (cV q o) (dB cs q)) (RdE S β sv lv w w') w'/\bW w w':=by
 obtain⟨f,z,p,u,-⟩:=al1 w (.cells #[.p β 0,.i root,.slice i cs.length l] 90);obtain⟨a2,a3,a4⟩:=eQ u;have j:w.heap.size+1<=f.heap.size:=(gL u);have t:∀W,Below (w.heap.size+1) f W->bW w W:=λW s=>p.trans (s.mono (DL _));have M:=λW=>yV root β i cs.length l q W;have N:=λW (s:Below (w.heap.size+1) f W)=>Bz i l cs q S W (v.on (vV (t W s) x)) (λb P=>jY (x b P) (t W s).size) D C Q R;have O:=λy a n c W=>uB 134 #[.p y 0,.p (y+1) 0] a n c W;have I:=λg X=>Gt β sv lv fs B root i l cs q o E S w g X A v x D C;have d:Below (w.heap.size+1) f f:=AC _ _;clear A E v B;go_enter Tryz.func165,Tryz.ntmps165;go_wp2;go_region_with (first
  |(go_at_call 98;refine(M _).mono ?_;rintro e g ⟨rfl,a1,a0,r⟩;have h:bW g g:=AC _ _;have d:Below (w.heap.size+1) f g:=(by first|exact eK d j r|exact eK d.drew j r|exact eK d.drew.drew j r);obtain⟨J,K,L⟩:=eQ ((d.block w.heap.size (DD _)).trans u))
  |(go_at_call 176;refine(N _ (by first|exact d|exact d.drew|exact d.drew.drew)).mono ?_;rintro e G ⟨a,c,rfl,U,k⟩;try (have h:bW g G:=(by first|exact eK h (jU _) k|exact eK h.drew (jU _) k|exact eK h.drew.drew (jU _) k));have d:Below (w.heap.size+1) f G:=(by first|exact eK d j k|exact eK d.drew j k|exact eK d.drew.drew j k);obtain⟨J,K,L⟩:=eQ ((d.block w.heap.size (DD _)).trans u))
  |(go_at_call 175;refine(O _ _ _ _ _).mono ?_;rintro e H ⟨rfl,Z,Y,m⟩;have h:bW g H:=(by first|exact eK h (jU _) m|exact eK h.drew (jU _) m|exact eK h.drew.drew (jU _) m);have d:Below (w.heap.size+1) f H:=(by first|exact eK d j m|exact eK d.drew j m|exact eK d.drew.drew j m)))
 all_goals go_wp2
 all_goals go_ret
 all_goals exact⟨_,rfl,I _ _ _ _ a1 a0 h _ _ U Z Y (t _ d) (by first|exact p.size|exact vJ p.size k.size) (by first|exact vJ p.size (vJ r.size k.size)|exact vJ p.size (vJ k.size r.size)),t _ d⟩
def Ch.good(c:Ch):Prop:=lt ⟨#[]⟩ c.key=true/\c.key.size<=24/\c.val.size<=400
variable {cs:List Ch}
theorem Ri {c}(h:c.good):(chE c).good fs:=⟨h.1,h.2.1,.inl ⟨rfl,rfl,rfl,h.2.2⟩⟩
theorem fT (b:cM es)(d:cJ cs)(a):a∈bD es cs↔(∃c∈cs,c.gone=false/\a=chE c)\/(a∈es/\∀c∈cs,c.key≠a.e.key):=by
 rw[mW];exact tN es cs b d a
theorem mT (a:cM es)(b:cJ cs):cM (bD es cs):=by
 rw[mW];exact rU es cs a b
theorem jW (e:cM es)(g:cJ cs)(f:∀x∈es,x.good fs)(d:∀c∈cs,c.good):∀a∈bD es cs,a.good fs:=by
 intro a h;rcases(fT e g a).1 h with⟨c,b,_,rfl⟩|⟨b,_⟩
 ·exact Ri (d c b)
 grind
theorem mU (a:cM es):bD es []=es:=by
 apply vO (mT a .nil) a;intro b;rw[fT a .nil];simp
theorem lT {q c}:c∈dB cs q↔c∈cs/\q.has c.key=true:=by simp[dB]
theorem zA{f}:∀(s:Sp) (ks:List ByteArray) (b:List f),b.length=ks.length+1->∀k,s.has k=true->∃x∈parts s ks b,x.2.has k=true
 |s,_,[],hl,_,_=>by simp at hl
 |s,[],a :: b,hl,k,hk=>⟨(a,s),by simp[parts],hk⟩
 |s,q :: ks,a :: b,hl,k,hk=>by
  rcases sL k q with c|c
  ·refine⟨(a,⟨s.lo,q⟩),by simp[parts],?_⟩
   simp only[Sp.has,AN]at hk⊢;exact⟨hk.1,fW.2 (.inr c)⟩
  ·have⟨x,d,e⟩:=zA ⟨q,s.hi⟩ ks b (by grind) k (by
    simp only[Sp.has,AN]at hk⊢;grind)
   exact⟨x,by simp[parts,d],e⟩
theorem Jw(k):(⟨⟨#[]⟩,⟨#[]⟩⟩:Sp).has k=true:=by
 simp only[Sp.has,AN];exact⟨xS k,fW.2 (.inl rfl)⟩
theorem wO{h}(a m)(r:m<=125):∀(k:Nat) (l:List h),l.length<=k->(∀x∈l,a x<=m)->250<tot a l->∀p∈dP a l,251<=2 * tot a p+m
 |0,l,hk,hs,hb=>by
  have:l=[]:=by cases l<;>simp_all
  subst this;simp[tot]at hb
 |k+1,l,hk,hs,hb=>by
  have g:∀x∈l,a x<=250:=λx e=>by grind
  have z:=qM a l hb g;have f:=xI a (tot a l) l hb;have w:=tK a (tot a l) l 0 (by omega);have t:=xG a l (shN a (tot a l) l 0);have B:=hs _ (AB f);have⟨n,s⟩:∃n,shN a (tot a l) l 0=n+1:=⟨shN a (tot a l) l 0-1,by omega⟩;have d:n<l.length:=by omega
  have v:=(Cl a (tot a l) l 0 n (by omega) d).1 (by omega);have C:=hs _ (AB d);have A:=lF a l n d;have y:¬(2 * (0+tot a (l.take (shN a (tot a l) l 0)))+a l[shN a (tot a l) l 0]<=tot a l/\0+tot a (l.take (shN a (tot a l) l 0))+a l[shN a (tot a l) l 0]<=250):=λc=>Nat.lt_irrefl _ ((Cl a (tot a l) l 0 _ (jU _) f).2 c);have o:251<=2 * tot a (l.take (shN a (tot a l) l 0))+m:=by omega
  have j:∀x∈l.drop (shN a (tot a l) l 0),a x<=m:=λx e=>hs x (BO e);have q:251<=2 * tot a (l.drop (shN a (tot a l) l 0))+m:=by grind
  intro p b;rw[yI a l g hb]at b;rcases AR.1 b with rfl|b
  ·exact o
  ·by_cases c:250<tot a (l.drop (shN a (tot a l) l 0))
   ·exact wO a m r k _ (by grind) j c p b
   ·rw[iR a _ (by omega)]at b
    grind
variable {fs:Fs} {h:Nat} {s:Sp}
def NT.entsH:Nat->NT->List En
 |h,.kept t _=>T.ents h t
 |_,.leaf _ es=>es
 |0,.bran _ _=>[]
 |h+1,.bran _ ks=>ks.flatMap (NT.entsH h)
variable {ns:List NT}
def bK(h:Nat)(ns:List NT):List En:=ns.flatMap (NT.entsH h)
theorem eL(h a b):bK h (a++b)=bK h a++bK h b:=by simp[bK]
theorem kF(h n a):bK h (n :: a)=n.entsH h++bK h a:=by rfl
def qGm(h:Nat)(a b:NT):Prop:=∀x∈a.entsH h,lt x.e.key b.sp.lo=true
def gT(ns:List NT):Prop:=ns.length=1\/∀n∈ns,dE n=false
def OkH(fs:Fs):Nat->NT->Prop
 |h,.kept t s=>aU fs h t s/\s.lo.size<=24/\bH (t.place:Nat)=true
 |0,.leaf s es=>es≠[]/\s.lo=iI es/\cM es/\tot esz es<=250/\∀x∈es,x.good fs
 |h+1,.bran s ks=>ks≠[]/\s.lo=jD ks/\tot fY ks<=250/\gT ks/\(∀n∈ks,OkH fs h n/\∀x∈n.entsH h,le n.sp.lo x.e.key=true)/\ks.Pairwise (qGm h)
 |_,_=>False
structure dX (fs:Fs) (h:Nat) (ns:List NT):Prop where
 ok:∀n∈ns,OkH fs h n
 lo:∀n∈ns,∀x∈n.entsH h,le n.sp.lo x.e.key=true
 sep:ns.Pairwise (qGm h)
theorem dX.sub {b ns}(L:dX fs h ns)(s:b.Sublist ns):dX fs h b:=⟨λn a=>L.ok n (s.subset a),λn a=>L.lo n (s.subset a),L.sep.sublist s⟩
theorem sR {k}(h:s.has k=true):le s.lo k=true:=by
 simp only[Sp.has,AN]at h;exact h.1
theorem uY {k}(h:s.has k=true):Sp.below s.hi k=true:=by
 simp only[Sp.has,AN]at h;exact h.2
theorem pT {fs:Fs}{b ks a}{x:b×Sp}(h:x∈parts s ks a):x.1∈a:=by
 have:x.1∈(parts s ks a).map (·.1):=AY.2 ⟨x,h,rfl⟩;rwa[iQ]at this
theorem nB:∀{h:Nat}{t:T}{s:Sp},aU fs h t s->T.ents h t≠[]/\∀x∈T.ents h t,x.good fs
 |0,.leaf p es,s,ht=>⟨by have⟨g,_,_,_,l,_⟩:=ht;exact l,jL ht⟩
 |0,.branch _ _ _,s,ht=>ht.elim
 |h+1,.leaf _ _,s,ht=>by simp[aU]at ht
 |h+1,.branch p ks kids,s,ht=>by
  have⟨k,n,m,_,j⟩:=dG ht;have i:∀a∈kids,∃c,aU fs h a c:=λa d=>by
   have⟨c,b⟩:=lX (s:=s) (ks:=ks) d;grind
  refine⟨λf=>?_,λx e=>?_⟩
  ·cases kids with
   |nil=>simp at k
   |cons a kids =>
    have⟨c,b⟩:=i a (by simp);simp only[T.ents,AJ,EK]at f;exact(nB b).1 f.1
  ·have⟨a,d,e⟩:=AV.1 e
   have⟨c,b⟩:=i a d;exact(nB b).2 x e
theorem yF (d:∀n,OkH fs h n->n.entsH h≠[]/\cM (n.entsH h)/\∀x∈n.entsH h,x.good fs):∀{ns:List NT},dX fs h ns->cM (bK h ns)/\∀x∈bK h ns,x.good fs
 |[],_=>⟨.nil,by simp[bK]⟩
 |n :: ns,L=>by
  have⟨f,m⟩:=BC.1 L.sep;have⟨g,i⟩:=yF d (ns:=ns) (L.sub (List.sublist_cons_self n ns));have⟨o,j,k⟩:=d n (L.ok n (by simp));rw[kF];refine⟨yX.2 ⟨j,g,λx a l b=>?_⟩,λx a=>(AO.1 a).elim (k x) (i x)⟩;have⟨e,c,b⟩:=AV.1 b;exact bT (f e c x a) (L.lo e (by simp[c]) l b)
theorem iX:∀{h:Nat}{n:NT},OkH fs h n->n.entsH h≠[]/\cM (n.entsH h)/\∀x∈n.entsH h,x.good fs
 |h,.kept t s,H=>by
  have c:aU fs h t s:=by cases h<;>exact H.1
  have b:(NT.kept t s).entsH h=T.ents h t:=by cases h<;>rfl
  rw[b];exact⟨(nB c).1,dV c,(nB c).2⟩
 |0,.leaf s es,H=>⟨H.1,H.2.2.1,H.2.2.2.2⟩
 |0,.bran _ _,H=>H.elim
 |h+1,.leaf _ _,H=>H.elim
 |h+1,.bran s ks,H=>by
  have⟨k,m,o,p,d,l⟩:=H;have f:dX fs h ks:=⟨λn a=>(d n a).1,λn a=>(d n a).2,l⟩;have⟨i,j⟩:=yF (λn a=>iX a) f;refine⟨λb=>?_,i,j⟩;cases ks with
  |nil=>exact k rfl
  |cons e ks =>
   have g:(NT.bran s (e :: ks)).entsH (h+1)=e.entsH h++ks.flatMap (NT.entsH h):=by rfl
   rw[g,EK]at b;exact(iX (d e (by simp)).1).1 b.1
theorem dX.rise (L:dX fs h ns):cM (bK h ns):=(yF (λn a=>iX a) L).1
theorem qR:∀{h:Nat}{n:NT},OkH fs h n->n.sp.lo.size<=24
 |h,.kept t s,H=>by cases h<;>exact H.2.1
 |0,.leaf s es,H=>by
  have⟨f,e,a⟩:=rA H.1;show s.lo.size<=24
  rw[H.2.1,a];exact(H.2.2.2.2 f e).2.1
 |0,.bran _ _,H=>H.elim
 |h+1,.leaf _ _,H=>H.elim
 |h+1,.bran s ks,H=>by
  have⟨b,c,_,_,d,_⟩:=H;show s.lo.size<=24
  rw[c];cases ks with
  |nil=>grind
  |cons k ks=>exact qR (d k (by simp)).1
theorem dX.los (L:dX fs h ns):ns.Pairwise (λa b=>lt a.sp.lo b.sp.lo=true):=by
 refine JK ?_ L.sep;intro a b c g f;have⟨e,d⟩:=FT _ (iX (L.ok a c)).1;exact dS (L.lo a c e d) (f e d)
theorem dX.first (L:dX fs h ns):∀n∈ns,le (jD ns) n.sp.lo=true:=by
 intro n a;cases ns with
 |nil=>simp at a
 |cons m ns =>
  rcases AR.1 a with rfl|a
  ·exact bI _
  ·exact gN ((BC.1 L.los).1 n a)
theorem dX.swap {g M B l n}(L:dX fs h (g++l :: n :: B))(i:dX fs h M)(o:bK h M=l.entsH h++n.entsH h)(q:∀m∈M,le l.sp.lo m.sp.lo=true):
  dX fs h (g++(M++B))/\bK h (g++(M++B))=bK h (g++l :: n :: B):=by
 have⟨r,f,p⟩:=CI.1 L.sep;have⟨s,f⟩:=BC.1 f;have⟨t,f⟩:=BC.1 f;refine⟨⟨?_,?_,?_⟩,by rw[eL,eL,eL,o,kF,kF,BX]⟩
 ·intro m c
  simp only[AO]at c;rcases c with c|c|c
  ·exact L.ok m (by simp[c])
  ·exact i.ok m c
  ·exact L.ok m (by simp[c])
 ·intro m c
  simp only[AO]at c;rcases c with c|c|c
  ·exact L.lo m (by simp[c])
  ·exact i.lo m c
  ·exact L.lo m (by simp[c])
 ·refine CI.2 ⟨r,CI.2 ⟨i.sep,f,λm c b k e d=>?_⟩,λa j m c e d=>?_⟩
  ·have:e∈l.entsH h++n.entsH h:=by rw[<-o];exact AV.2 ⟨m,c,d⟩
   rcases AO.1 this with d|d
   ·exact s b (by simp[k]) e d
   ·exact t b k e d
  ·rcases AO.1 c with c|c
   ·exact bT (p a j l (by simp) e d) (q m c)
   ·exact p a j m (by simp[c]) e d
theorem Ks {es}(q:cM es)(e:∀x∈es,x.good fs)(j:es≠[]):dX fs 0 (cT es)/\bK 0 (cT es)=es/\cT es≠[]/\gT (cT es)/\∀n∈cT es,∃x∈es,n.sp.lo=x.e.key:=by
 have i:=Nt q e;have g:∀n∈cT es,n.entsH 0=n.ents0:=λn c=>by
  obtain⟨p,_,rfl⟩:=AY.1 c;rfl
 have h:bK 0 (cT es)=es:=by
  have k:bK 0 (cT es)=Py (cT es):=by
   unfold bK Py;rw[JN,JN,DX g]
  rw[k,Kr e]
 refine⟨⟨?_,λn c x d=>i.lo n c x (by grind),JK (λ{a b} l _ m x d=>m x (by grind)) i.sep⟩,h,λf=>by rw[f]at h;exact j h.symm,?_,Tu e⟩
 ·intro n c
  have:=i.ok n c;obtain⟨p,_,rfl⟩:=AY.1 c;exact this
 ·by_cases hb:250<tot esz es
  ·right
   intro n c;obtain⟨p,o,rfl⟩:=AY.1 c;have:=wO esz 87 (by decide) es.length es (jU _) (λx d=>Pk (e x d)) hb p o;simp only[Nv,dE,FD];omega
  ·left
   rw[cT,iR esz es (by omega),AQ (λf=>j (AG f))];rfl
theorem Ac{p}(h:p≠[]):∃n∈p,jD p=n.sp.lo:=by
 cases p with
 |nil=>grind
 |cons n p=>exact⟨n,by simp,rfl⟩
theorem vS:∀{ps:List (List NT)},dX fs h ps.flatten->(∀p∈ps,p≠[])->(∀p∈ps,tot fY p<=250)->(∀p∈ps,gT p)->dX fs (h+1) (ps.map Fq)/\bK (h+1) (ps.map Fq)=bK h ps.flatten
 |[],_,_,_,_=>⟨⟨by simp,by simp,by simp⟩,rfl⟩
 |p :: ps,L,hne,hf,ht=>by
  rw[EY]at L;have⟨s,t,r⟩:=CI.1 L.sep;have e:=L.sub (List.sublist_append_left _ _);have⟨f,l⟩:=vS (L.sub (LZ _ _)) (λq b=>hne q (by simp[b])) (λq b=>hf q (by simp[b])) (λq b=>ht q (by simp[b]));have i:∀d∈(Fq p).entsH (h+1),le (Fq p).sp.lo d.e.key=true:=by
   intro d c;have⟨n,a,c⟩:=AV.1 c;exact bF (e.first n a) (e.lo n a d c)
  refine⟨⟨?_,?_,?_⟩,by rw[BD,kF,l,EY,eL];rfl⟩
  ·rw[BD];intro n a
   rcases AR.1 a with rfl|a
   ·exact⟨hne p (by simp),rfl,hf p (by simp),ht p (by simp),λn a=>⟨e.ok n a,e.lo n a⟩,e.sep⟩
   ·exact f.ok n a
  ·rw[BD];intro n a
   rcases AR.1 a with rfl|a
   ·exact i
   ·exact f.lo n a
  ·rw[BD]
   refine BC.2 ⟨λn a d c=>?_,f.sep⟩;obtain⟨q,b,rfl⟩:=AY.1 a;have⟨m,j,g⟩:=Ac (hne q (by simp[b]));show lt d.e.key (jD q)=true
   rw[g];have⟨o,k,c⟩:=AV.1 c;exact r o k m (FS.2 ⟨q,b,j⟩) d c
theorem Ln (L:dX fs h ns)(s:gT ns)(j:ns≠[]):dX fs (h+1) (eC ns)/\bK (h+1) (eC ns)=bK h ns/\eC ns≠[]/\gT (eC ns)/\∀m∈eC ns,∃n∈ns,m.sp.lo=n.sp.lo:=by
 have i:∀n∈ns,fY n<=27:=λn a=>by have:=qR (L.ok n a);unfold fY;omega
 have f:∀n∈ns,fY n<=250:=λn a=>by grind
 have c:=lP fY ns f;have g:=wN fY ns f;have q:∀p∈dP fY ns,gT p:=by
  intro p b;rcases s with e|e
  ·obtain⟨n,rfl⟩:=EL.1 e
   have o:tot fY [n]<=250:=by simpa[tot] using f n (by simp)
   rw[iR fY [n] o,AQ (by simp)]at b;rw[AS]at b;subst b;exact .inl rfl
  ·refine .inr (λn a=>e n ?_)
   rw[<-c];exact FS.2 ⟨p,b,a⟩
 have⟨k,l⟩:=vS (fs:=fs) (h:=h) (ps:=dP fY ns) (by grind) g (Qo fY ns) q;refine⟨k,by rw[eC,l,c],λd=>?_,?_,?_⟩
 ·have:=List.map_eq_nil_iff.1 d
  grind
 ·by_cases hb:250<tot fY ns
  ·right
   intro n a;obtain⟨p,b,rfl⟩:=AY.1 a;have:=wO fY 27 (by decide) ns.length ns (jU _) i hb p b;simp only[Fq,dE,FD];omega
  ·left
   rw[eC,iR fY ns (by omega),AQ (λd=>j (AG d))];rfl
 ·intro m r
  obtain⟨p,b,rfl⟩:=AY.1 r;have⟨n,a,d⟩:=Ac (g p b);exact⟨n,by rw[<-c];exact FS.2 ⟨p,b,a⟩,d⟩
