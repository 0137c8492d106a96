import Derived.Test.YtdhgdcjmhofhaaaGreatD28
import Derived.Test.YtdhgdcjmhofhaaaGreatD29
set_option linter.all false
set_option maxRecDepth 100000
set_option maxHeartbeats 8000000
namespace Go.Proofs.YtdhgdcjmhofhaaaGreat.Tree
open Go.RowKit Pages
variable {ao o:Option (Nat×T)} {fs:Fs} {late:List (Nat×ByteArray)} {s:ByteArray} {safe:List ByteArray} {t:TypeId} {w:World}
def Dc:(dN (fH 256).data.toList).kind=0:=by
 have a:((fH 256).data.toList).getD 0 0=0:=by
  show((List.replicate 256 (0:UInt8)).toArray.toList).getD 0 0=0
  rfl
 unfold dN;rw[a];rfl
def qJi {v r}(h:Ig s (bK v r)):s≠fH 256:=by
 rintro rfl;have:=CI Pg.kind h.2.2.2;rw[Dc]at this;simp[bK]at this
abbrev qGc(p:Int)(ver root:Int)(ka ia ea:Option Addr)(kc ic ec:Nat):Array Value:=#[.int .i64 p,.bool true,.int .i64 1,.int .i64 ver,.int .i64 root,.int .i64 0,.slice ka 0 kc,.slice ia 0 ic,.slice ea 0 ec,.string ⟨#[]⟩]
abbrev meta0:Obj:=.cells #[.int .i64 0,.bool false,.int .i64 0,.int .i64 0,.int .i64 0,.int .i64 0,.slice none 0 0,.slice none 0 0,.slice none 0 0,.string ⟨#[]⟩] 136
def dI {b i cs v}(h:cW w b cs t)(c:cs[i]?=some v):w.setCell (aD b i) v=w:=by
 have⟨f,g⟩:=jJ.1 h;have a:cs.setIfInBounds i v=cs:=by
  apply Array.ext_getElem?;intro j;rw[Array.getElem?_setIfInBounds];split
  .next e=>subst e;rw[c];split<;>simp_all
  .rfl
 have:(w.setCell (aD b i) v).heap=w.heap:=by
  apply Array.ext_getElem?;intro d;by_cases hk:b=d
  .subst hk;rw[aB h,a,h]
  .simp only[World.setCell];rw[KJ,AR hk]
 cases w
 simp only[World.setCell]at this⊢;simp only[this]
def mW {β a b c d e f g i j k}(h:cW w β #[a,b,c,d,e,f,g,i,j,k] t):
  w.c β 0=some a/\w.c β 1=some b/\w.c β 2=some c/\w.c β 3=some d/\w.c β 4=some e/\w.c β 5=some f/\w.c β 6=some g/\w.c β 7=some i/\w.c β 8=some j/\w.c β 9=some k:=by
 simp[World.cell?,h]
abbrev It(w:World)(b:Nat)(v0 v1 v2 v3 v4 v5 v6 v7 v8 v9:Value):World:=(((((((((w.setCell (aD b 0) v0).setCell (aD b 1) v1).setCell (aD b 2) v2).setCell (aD b 3) v3).setCell (aD b 4) v4).setCell (aD b 5) v5).setCell (aD b 6) v6).setCell (aD b 7) v7).setCell (aD b 8) v8).setCell (aD b 9) v9
def wN(w b a c d v3 e f g h i j):Fr (Bl.one b) w (It w b a c d v3 e f g h i j):=
 ((((((((((AE (Bl.one b) w).s b 0).s b 1).s b 2).s b 3).s b 4).s b 5).s b 6).s b 7).s b 8).s b 9
def uE {b l m n o p q r s u v}(h:cW w b #[l,m,n,o,p,q,r,s,u,v] t)(a c d v3 e f g i j k):(It w b a c d v3 e f g i j k).heap[b]?=some (.cells #[a,c,d,v3,e,f,g,i,j,k] t):=by
 have:=aB (aB (aB (aB (aB (aB (aB (aB (aB (aB h 0 a) 1 c) 2 d) 3 v3) 4 e) 5 f) 6 g) 7 i) 8 j) 9 k;simpa using this
def Ev(β sv lv fs)(Y:(fs.life==0)=false)(p ver root w)(W:aF w β sv lv fs)(a0:p<fs.safe.length)(o:gE fs p ver root):
  cL 112 #[.p β 0,.i p] w λe w'=>∃h f c i g d,e=.r (.agg (qGc p ver root h f c i g d))/\bW w w':=by
 obtain⟨a,R,C,a6,-⟩:=al1 w meta0;have ac:=W.on (vV C W.lies);have l:=mH β sv lv fs p a ac;have af:fs.readS p=fs.at p:=by unfold Fs.readS;simp[a0,Y]
 have ae:(decide (p<fs.safe.length)&&!(fs.life==0))=true:=by simp[a0,Y]
 rw[af,ae]at l;obtain⟨ah,X,a3,a4,a5⟩:=EX Kb;obtain⟨b,Z,E,m⟩:=JP (P:=Tryz.prog) a 0 108 5 ah (.int .u8 0) 1 Tryz.underlying108 X a3 a4 .i64 .i64 256 (by omega) (by rw[a5];omega) (by unfold maxLen;omega) (AG _);rw[vS]at E;have U:Buf b 0 (.q a.heap.size 256 256) (List.replicate 256 0):=by
  unfold Buf;rw[DP];exact E
 have V:=Buf.string U;have H:bW a b:=⟨m.os,m.tape,m.output,m.size,λF n=>m.block F n (by simp)⟩;have ao:(Instr.makeSlice 108 (.i 256) (.i 256)).run Tryz.prog a=.ok (.q a.heap.size 256 256) b:=Z;obtain⟨A,q⟩:=nM (fH 256);have an:(convert 108 9 (.q a.heap.size 256 256)).run Tryz.prog b=.ok (.t A) b:=by rw[<-q];exact V
 have r:=(H.block _ (gL a6)).t a6;obtain⟨I,J,K,L,M,N,O,Q,c8,c9⟩:=mW r;have ab:=aA r;have B:bW w b:=C.t (H.m C.size);clear U E m V Z X a3 a4 a5;rcases o with⟨a2,rfl,rfl⟩|o
 .rw[a2,q]at l
  clear a2 q;have z:=uE r (.i p) (.bool true) (.i 1) (.i 0) (.i 0) (.i 0) .n .n .n .e;have u:=wN b w.heap.size (.i p) (.bool true) (.i 1) (.i 0) (.i 0) (.i 0) .n .n .n .e;have aa:Hid _:=z;have a8:Hid _:=u;clear z u;go_enter Tryz.func112,Tryz.ntmps112;go_wp2_with (go_at_call 142;apply Calls.m l;rintro e G ⟨rfl,ag⟩;subst G);refine BI (v:=.agg (qGc p 0 0 none none none 0 0 0)) ?_ rfl ⟨none,none,none,0,0,0,rfl,B.t (a8.o.below (by have:=B.size;omega) (oK (by omega)))⟩;exact EL (p:=4) rfl _ _ w.heap.size _ _ _ _ rfl aa.o Tryz.underlying136 rfl (by kernel_rfl)
 .have ad:((fs.at p).toList==A.toList)=false:=by rw[<-q];exact xM (qJi o)
  obtain⟨s,a1⟩:=nM (fs.at p);rw[a1]at l o ad;clear q a1;have D:=Kl o b;simp only[bK,jN,MK]at D;have ai:=(gL r);go_enter Tryz.func112,Tryz.ntmps112;go_wp2_with (first
   |(go_at_call 142;apply Calls.m l;rintro e G ⟨rfl,ag⟩;subst G)
   |(go_at_call 143;apply Calls.m D;rintro e t ⟨h,f,c,i,g,d,rfl,aj,ak,al,am,T⟩;clear aj ak al am l D;obtain⟨j,S,-,y,-⟩:=al1 t (.cells #[.i 1,.i ver,.i root,.i 0,.s h 0 i,.s f 0 g,.s c 0 d,.e] 80);obtain⟨ap,aq,ar,au,av,aw,ax,ay⟩:=bO y;have b0:=aA y;have az:j.setCell (aD t.heap.size 7) .e=j:=dI y rfl;have k:bW b j:=T.t (S▸(AC _ _).alloc T.size _);have x:=(k.block _ ai).t r;clear I J K L M N O Q c8 c9 ab;obtain⟨I,J,K,L,M,N,O,Q,c8,c9⟩:=mW x;have b1:=aA x;have a7:Hid _:=k;have a9:Hid _:=x;clear k x y))
  have z:=uE a9.o (.i p) (.bool true) (.i 1) (.i ver) (.i root) (.i 0) (.s h 0 i) (.s f 0 g) (.s c 0 d) .e;have u:=wN j w.heap.size (.i p) (.bool true) (.i 1) (.i ver) (.i root) (.i 0) (.s h 0 i) (.s f 0 g) (.s c 0 d) .e;have k:=B.t (a7.o.m (by omega));refine BI (v:=.agg (qGc p ver root h f c i g d)) ?_ rfl ⟨h,f,c,i,g,d,rfl,k.t (u.below (by have:=k.size;omega) (oK (by omega)))⟩;exact EL (p:=4) rfl _ _ w.heap.size _ _ _ _ rfl z Tryz.underlying136 rfl (by kernel_rfl)
def qEj{s t:ByteArray}(d:s.size=256)(ht:t.size=256)(h:∀k,k<4->sect s k=sect t k):s=t:=by
 have b:=iB s;have c:=iB t;apply FO;apply Array.ext';apply DU;intro i;by_cases hi:i<256
 .have a:i % 64<64:=MI i (by decide)
  have:=CI (λl:List UInt8=>l[i % 64]?) (h (i / 64) (by omega));simp only[sect,FJ a,DX]at this;rwa[show 64 * (i / 64)+i % 64=i by omega]at this
 .rw[CE (by omega),CE (by omega)]
def getD_in{l:List ByteArray}{p:Nat}(h:p<l.length):l.getD p ⟨#[]⟩=l[p]:=by rw[CB,jQ h];rfl
def jM.same {safe a:List ByteArray}(h:jM safe late a)(f:∀s∈safe,s.size=256){p:Nat}(e:∀x∈late,x.1≠p):a.getD p ⟨#[]⟩=safe.getD p ⟨#[]⟩:=by
 by_cases hl:p<a.length
 .have b:p<safe.length:=h.len▸hl
  rw[getD_in hl,getD_in b];exact qEj (h.size p hl) (f _ (AA b)) (λg d=>(h.sect p hl g d).resolve_right (λ⟨x,hx,c,_⟩=>e x hx c))
 .have:=h.len
  rw[CB,CB,CE (by omega),CE (by omega)]
def jM.sizes {safe a:List ByteArray}(h:jM safe late a):∀s∈a,s.size=256:=λs b=>by
 obtain⟨i,r,rfl⟩:=AV b;exact h.size i r
def yI(s:ByteArray):Prop:=s≠fH 256/\¬(s.size=256/\(dN s.data.toList).encE=0/\(dN s.data.toList).encS=s)
def Zd{s a:ByteArray}(h:sect s 0=sect a 0){i:Nat}(hi:i<64):s.data.toList.getD i 0=a.data.toList.getD i 0:=by
 have:=CI (λl:List UInt8=>l[i]?) h;simp only[sect,FJ hi,Nat.mul_zero,FX]at this;rw[CB,CB,this]
def Fv{s b:ByteArray}(h:sect s 0=sect b 0)(a:Nat):∀k,a+k<=64->iI s.data.toList a k=iI b.data.toList a k
 |0,_=>rfl
 |k+1,hk=>by simp only[iI];rw[Fv h a k (by omega),Zd h (by omega)]
def Zt{s b:ByteArray}{v t:Int}(m:s.size=256)(h:sect s 0=sect b 0)(c:b=fH 256\/Ig b (bK v t)):s=b\/yI s:=by
 have f:=Zd h (i:=0) (by decide);rcases c with rfl|c
 .by_cases e:s=fH 256
  .exact .inl e
  .refine .inr ⟨e,λ⟨_,d,_⟩=>?_⟩
   have k:((fH 256).data.toList).getD 0 0=0:=by
    show((List.replicate 256 (0:UInt8)).toArray.toList).getD 0 0=0
    rfl
   rw[k]at f;unfold dN at d;rw[f]at d;simp[mI,Pg.encE,Pages.dL,eF]at d
 .have u:=(iB s).t m
  have w:=(iB b).t c.1;have j:(b.data.toList.getD 0 0).toNat=1:=by
   have a:=CI Pg.kind c.2.2.2;unfold dN mI at a;split at a
   .assumption
   .split at a
    .simp[bK]at a
    .split at a
     .simp[bK]at a
     .split at a
      .simp[bK]at a
      .simp only[bK]at a
       omega
  have g:dN s.data.toList=dN b.data.toList:=by
   unfold dN mI;rw[f,AU j,AU j];have o:aZ s.data.toList 0 1=1:=by unfold aZ;omega
   have p:aZ b.data.toList 0 1=1:=by unfold aZ;omega
   have q:aZ s.data.toList 1 8=9:=by unfold aZ;omega
   have r:aZ b.data.toList 1 8=9:=by unfold aZ;omega
   rw[o,p,q,r,Fv h 1 8 (by omega),Fv h 9 2 (by omega)]
  by_cases e:s=b
  .exact .inl e
  .refine .inr ⟨λn=>?_,λ⟨_,_,l⟩=>e (l.symm.t (by rw[g];exact c.2.2.1))⟩
   have a:=CI Pg.kind c.2.2.2;rw[<-g,n,Dc]at a;simp[bK]at a
def Md (e:∀s∈safe,s.size=256)(f:∀x∈late,x.2.size=256)(g:∀x∈late,x.1<safe.length):jM safe late (laid safe late):=by
 refine⟨dK _ _,λb a=>(uK late safe e f) _ (AA a),λb a k j=>?_⟩;have h:b<safe.length:=by rw[dK]at a;exact a
 have c:=Me late safe b g;rw[getD_in a,getD_in h]at c;rw[c];cases hl:qM late b with
 |none=>exact .inl rfl
 |some d =>
  unfold qM at hl;obtain⟨x,r,rfl⟩:=FM.1 hl;exact .inr ⟨x,by simpa using EZ r,by simpa using List.find?_some r,rfl⟩
def Cb(A:ByteArray)(ver root:Nat):Prop:=(A=fH 256/\ver=0/\root=0)\/Ig A (bK ver root)
def Cb.size{a:ByteArray}{ver root:Nat}(h:Cb a ver root):a.size=256:=h.elim (λh=>by rw[h.1];exact pA 256) (λh=>h.1)
abbrev bare(s:List ByteArray):Fs:=⟨s,[],-1,-1,0⟩
structure iE (n:Nat) (safe:List ByteArray) (late:List (Nat×ByteArray)) (v:Nat) (o:Option (Nat×T)) (C:Nat->Option (Nat×T)->Prop):Prop where
 size:∀s∈safe,s.size=256
 lsize:∀x∈late,x.2.size=256
 fits:∀x∈late,x.1<safe.length
 len:safe.length=n
 m0:Cb (safe.getD (v % 2) ⟨#[]⟩) v (rootOf o)
 sure:Tr [] (bare safe) o
 oth:∃v' t A,C v' t/\Cb A v' (rootOf t)/\sect (safe.getD ((v+1) % 2) ⟨#[]⟩) 0=sect A 0
 cs:∀v' t,C v' t->Tr [] (bare safe) t/\(v'+1=v\/(v'=v/\rootOf t=rootOf o)\/v'=v+1)
 late:∀x∈late,(x.1=(v+1) % 2/\∃v' t,C v' t/\Cb x.2 v' (rootOf t))\/(2<=x.1/\x.1 ∉ cR o/\∀v' t,C v' t->x.1 ∉ cR t)
section
variable {n v:Nat}{safe:List ByteArray}{late:List (Nat×ByteArray)}{o:Option (Nat×T)}{C:Nat->Option (Nat×T)->Prop}
def Tr.ge {K:List ByteArray}(h:Tr K fs o):∀p∈cR o,2<=p:=yV h.rooted h.flat h.root
def Zn(s:List ByteArray)(p:Nat):(bare s).at p=s.getD p ⟨#[]⟩:=rfl
def iE.off(h:iE n safe late v o C):(∀x∈late,x.1≠v % 2)/\(∀p∈cR o,∀x∈late,x.1≠p)/\∀v' t,C v' t->∀p∈cR t,∀x∈late,x.1≠p:=by
 refine⟨λx r b=>?_,λp a x r b=>?_,λv' t c p a x r b=>?_⟩<;>rcases h.late x r with⟨d,_⟩|⟨d,e,f⟩
 .omega
 .omega
 .have:=h.sure.ge p a;omega
 .exact e (b▸a)
 .have:=(h.cs v' t c).1.ge p a;omega
 .exact f v' t c (b▸a)
def iE.crash(h:iE n safe late v o C){f:List ByteArray}(a:jM safe late f):iE n f [] v o C:=by
 have⟨q,r,s⟩:=h.off;have p:∀t,Tr [] (bare safe) t->(∀e∈cR t,∀x∈late,x.1≠e)->Tr [] (bare f) t:=λt E i=>E.stays (λe w g m=>⟨by have u:=a.len;have z:e<safe.length:=m.1;show e<f.length;omega,by rw[Zn,a.same h.size (i e w)];exact m.2⟩);have A:=h.len;refine⟨a.sizes,by simp,by simp,by rw[a.len];exact h.len,by rw[a.same h.size q];exact h.m0,p o h.sure r,?_,λB t l=>⟨p t (h.cs B t l).1 (s B t l),(h.cs B t l).2⟩,by simp⟩;by_cases i:(v+1) % 2<f.length
 .rw[getD_in i]
  rcases a.sect _ i 0 (by decide) with k|⟨x,D,y,k⟩
  .have⟨B,t,j,b,c,d⟩:=h.oth
   rw[getD_in (by have:=a.len;omega)]at d;exact⟨B,t,j,b,c,k.t d⟩
  .rcases h.late x D with⟨_,B,t,b,c⟩|⟨u,_⟩
   .exact⟨B,t,_,b,c,k⟩
   .omega
 .have⟨B,t,j,b,c,d⟩:=h.oth
  refine⟨B,t,j,b,c,?_⟩;rw[CB,CE (by omega)];rw[CB,CE (by have:=a.len;omega)]at d;exact d
def iE.laid(h:iE n safe late v o C):iE n (laid safe late) [] v o C:=h.crash (Md h.size h.lsize h.fits)
def iE.view (h:iE n fs.safe fs.late v o C):gE fs (v % 2) v (rootOf o)/\Tr [] fs o/\∀v' t,C v' t->Tr [] fs t:=by
 have⟨i,j,k⟩:=h.off;have c:∀a,(∀x∈fs.late,x.1≠a)->fs.at a=fs.safe.getD a ⟨#[]⟩:=λa b=>by unfold Fs.at;rw[rO b];rfl
 have f:∀t,Tr [] (bare fs.safe) t->(∀a∈cR t,∀x∈fs.late,x.1≠a)->Tr [] fs t:=λt r b=>r.stays (λa l g e=>⟨e.1,by rw[c a (b a l)];exact e.2⟩);refine⟨?_,f o h.sure j,λv' t d=>f t (h.cs v' t d).1 (k v' t d)⟩;unfold gE;rw[c _ i];exact h.m0
def iE.two (h:iE n fs.safe [] v o C)(b:fs.late=[])(s:2<=n):(∃v' t,v'≠v+1/\C v' t/\fA [] n fs v o t)\/(∃t,C (v+1) t/\fA [] n fs (v+1) t o)\/yI (fs.at ((v+1) % 2)):=by
 have p:iE n fs.safe fs.late v o C:=by rw[b];exact h
 have⟨c,d,e⟩:=p.view;have⟨v',t,r,a,j,k⟩:=h.oth;have l:fs.at ((v+1) % 2)=fs.safe.getD ((v+1) % 2) ⟨#[]⟩:=by unfold Fs.at;rw[b];rfl
 rw[<-l]at k;have q:(fs.at ((v+1) % 2)).size=256:=by
  have m:(v+1) % 2<fs.safe.length:=by have:=h.len;omega
  rw[l,getD_in m];exact h.size _ (AA m)
 rcases Zt q k (j.imp (λh=>h.1) id) with f|f
 .have g:gE fs ((v+1) % 2) v' (rootOf t):=by unfold gE;rw[f];exact j
  rcases(h.cs v' t a).2 with i|i|rfl
  .exact .inl ⟨v',t,by omega,a,b,h.len,c,⟨v',g,.inl i⟩,d,e v' t a,h.size⟩
  .exact .inl ⟨v',t,by omega,a,b,h.len,c,⟨v',g,.inr i⟩,d,e v' t a,h.size⟩
  .exact .inr (.inl ⟨t,a,b,h.len,g,⟨v,by rw[show(v+1+1) % 2=v % 2 by omega];exact c,.inl rfl⟩,e _ t a,d,h.size⟩)
 .exact .inr (.inr f)
def iE.put(h:iE n safe late v o C)(k:2<=n){d:ByteArray}(e:Cb d v (rootOf o)):iE n safe (late++[((v+1) % 2,d)]) v o (λv' t=>C v' t\/(v'=v/\t=o)):=by
 have j:=h.len;have l:=h.sure.ge;refine⟨h.size,λx r=>?_,λx r=>?_,j,h.m0,h.sure,?_,λv' t a=>?_,λx r=>?_⟩
 .rcases AO.1 r with r|r
  .exact h.lsize x r
  .rw[AJ.1 r];exact e.size
 .rcases AO.1 r with r|r
  .exact h.fits x r
  .rw[AJ.1 r];show(v+1) % 2<_;omega
 .obtain⟨v',t,f,c,b⟩:=h.oth
  exact⟨v',t,f,.inl c,b⟩
 .rcases a with a|⟨rfl,rfl⟩
  .exact h.cs v' t a
  .exact⟨h.sure,.inr (.inl ⟨rfl,rfl⟩)⟩
 .rcases AO.1 r with r|r
  .rcases h.late x r with⟨i,v',t,c,b⟩|⟨c,b,g⟩
   .exact .inl ⟨i,v',t,.inl c,b⟩
   .exact .inr ⟨c,b,λv' t a=>by
     rcases a with a|⟨rfl,rfl⟩
     .exact g v' t a
     .exact b⟩
  .rw[AJ.1 r];exact .inl ⟨rfl,v,o,.inr ⟨rfl,rfl⟩,e⟩
def fA.hold (S:fA [] n fs v o ao):∃v1,(v1+1=v\/(v1=v/\rootOf ao=rootOf o))/\iE n fs.safe fs.late v o (λv' t=>v'=v1/\t=ao):=by
 have⟨v1,e,j⟩:=S.meta1;have c:=S.late;have h:∀d,fs.at d=fs.safe.getD d ⟨#[]⟩:=λd=>by unfold Fs.at;rw[c];rfl
 have k:∀t,Tr [] fs t->Tr [] (bare fs.safe) t:=λt r=>r.stays (λd _ g i=>⟨i.1,by rw[Zn,<-h];exact i.2⟩);have f:=S.meta0;unfold gE at f e;rw[h]at f e;exact⟨v1,j,S.size,by simp[c],by simp[c],S.len,f,k o S.sure,⟨v1,ao,_,⟨rfl,rfl⟩,e,rfl⟩,λv' t ⟨a,b⟩=>by subst a b;exact⟨k _ S.ahead,j.imp id .inl⟩,by simp[c]⟩
end
def Cut(fs:Fs)(l:List (Nat×Pg))(m:Nat)(mt:Pg)(fs1:Fs):Prop:=(fs1.safe=fs.safe/\∀x∈fs1.late,∃y∈l,x=(y.1,y.2.encS))\/(fs1.safe=(fs.puts l).synced.safe/\(fs1.late=[]\/fs1.late=[(m,mt.encS)]))
def qHo {n v:Nat}{fs l:Fs}{cs:List Ch}{fr:List Nat}(S:fA [] n fs v o ao)(P:Xp [] n fs o cs fr)(G:∀p∈cR ao,p ∉ fr)(K:v+1<9223372036854775808)(hn:2<=n)(f:Cut fs (bM o cs fr).2 ((v+1) % 2) (bK (v+1:Nat) (rootOf (bM o cs fr).1)) l):∃C,iE n l.safe l.late v o C/\∀v' t,C v' t->(t=ao/\(v'+1=v\/(v'=v/\rootOf ao=rootOf o)))\/(v'=v+1/\t=(bM o cs fr).1):=by
 have⟨m,u,E,_,_⟩:=nF S P K hn;have⟨I,z,H⟩:=S.hold;have r:=sK E;have w:Cb (bK (v+1:Nat) (rootOf (bM o cs fr).1:Nat)).encS (v+1) (rootOf (bM o cs fr).1):=.inr (xV _ (by show((v+1:Nat):Int)<_;omega) (tO (v+1:Nat) (rootOf (bM o cs fr).1:Nat) (by omega) (m.sure.root.imp (λh=>by rw[h];rfl) id)));have j:∀x∈(bM o cs fr).2,2<=x.1/\x.1 ∉ cR o/\x.1 ∉ cR ao/\x.1<fs.safe.length:=λx F=>by
  have:=P.free _ (r x F);exact⟨this.1,λh=>P.away _ h (r x F),λh=>G _ h (r x F),by rw[S.len];exact this.2⟩
 rcases f with⟨i,d⟩|⟨i,d⟩
 .refine⟨λv' t=>v'=I/\t=ao,⟨by rw[i];exact H.size,λx F=>?_,λx F=>?_,by rw[i];exact H.len,by rw[i];exact H.m0,by rw[i];exact H.sure,by rw[i];exact H.oth,by rw[i];exact H.cs,λx F=>?_⟩,λv' t f=>.inl ⟨f.2,by rw[f.1];exact z⟩⟩<;>obtain⟨c,e,rfl⟩:=d x F
  .exact mN _ (u c e)
  .rw[i];exact(j c e).2.2.2
  .exact .inr ⟨(j c e).1,(j c e).2.1,λv' t ⟨_,b⟩=>by rw[b];exact(j c e).2.2.1⟩
 .have k:iE n (fs.puts (bM o cs fr).2).synced.safe [] v o (λv' t=>v'=I/\t=ao):=by
   have:iE n fs.safe ((bM o cs fr).2.map λc=>(c.1,c.2.encS)) v o (λv' t=>v'=I/\t=ao):=by
    refine⟨H.size,λx F=>?_,λx F=>?_,H.len,H.m0,H.sure,H.oth,H.cs,λx F=>?_⟩<;>obtain⟨c,e,rfl⟩:=AW.1 F
    .exact mN _ (u c e)
    .exact(j c e).2.2.2
    .exact .inr ⟨(j c e).1,(j c e).2.1,λv' t ⟨_,b⟩=>by rw[b];exact(j c e).2.2.1⟩
   have:=this.laid;unfold Fs.puts Fs.synced;rw[S.late];exact this
  have L:(fs.puts (bM o cs fr).2).synced.safe.length=n:=k.len;have T:Tr [] (bare (fs.puts (bM o cs fr).2).synced.safe) (bM o cs fr).1:=m.sure.stays (λp J g y=>⟨by have:=y.1;unfold Fs.made at this;simpa[Fs.synced,dK,Fs.put] using this,by
   have M:=m.sure.ge p J;have q:=y.2;unfold Fs.made at q;rw[nJ _ (λx F=>by simp only[Fs.put,Fs.synced,jE,AJ]at F;subst F;show(v+1) % 2<(fs.puts (bM o cs fr).2).synced.safe.length;omega),Ea,AR (by omega)]at q;exact q⟩)
  have s:iE n (fs.puts (bM o cs fr).2).synced.safe l.late v o (λv' t=>(v'=I/\t=ao)\/(v'=v+1/\t=(bM o cs fr).1)):=by
   refine⟨k.size,λx F=>?_,λx F=>?_,k.len,k.m0,k.sure,?_,λv' t f=>?_,λx F=>?_⟩
   .rcases d with d|d<;>rw[d]at F
    .simp at F
    .rw[AJ.1 F];exact w.size
   .rcases d with d|d<;>rw[d]at F
    .simp at F
    .rw[AJ.1 F];show(v+1) % 2<_;omega
   .have⟨v',t,A,B,D⟩:=k.oth
    exact⟨v',t,A,.inl B,D⟩
   .rcases f with f|⟨rfl,rfl⟩
    .exact k.cs v' t f
    .exact⟨T,.inr (.inr rfl)⟩
   .rcases d with d|d<;>rw[d]at F
    .simp at F
    .rw[AJ.1 F];exact .inl ⟨rfl,_,_,.inr ⟨rfl,rfl⟩,w⟩
  rw[<-i]at s;exact⟨_,s,λv' t f=>f.imp (λ⟨a,b⟩=>⟨b,by rw[a];exact z⟩) id⟩
def qLs{fs c:Fs}{l:List (Nat×Pg)}{m:Nat}{mt:Pg}(h:Cut fs l m mt c)(j:fs.late=[])(q:∀y∈l,y.1<fs.safe.length)(u:m<2){t:Option (Nat×T)}(ht:Tr [] fs t)(k:∀p∈cR t,p ∉ l.map (·.1)):Tr [] c t:=by
 refine ht.stays (λp e g d=>?_);have s:=ht.ge p e;have i:=d.1;have o:fs.at p=fs.safe.getD p ⟨#[]⟩:=by unfold Fs.at;rw[j];rfl
 rcases h with⟨b,a⟩|⟨b,a⟩
 .refine⟨by rw[b];exact i,?_⟩
  have:c.at p=fs.at p:=by
   rw[o];unfold Fs.at;rw[rO (λx w=>?_),b];rfl;obtain⟨y,f,rfl⟩:=a x w;exact λn=>k p e (AW.2 ⟨y,f,n⟩)
  rw[this];exact d.2
 .have r:(fs.puts l).fits:=λx w=>by
   simp only[Fs.puts,j,jE,AW]at w;obtain⟨y,f,rfl⟩:=w;exact q y f
  have:c.at p=fs.at p:=by
   have:c.at p=(fs.puts l).synced.at p:=by
    unfold Fs.at;rw[rO (λx w=>?_),b];rfl;rcases a with a|a<;>rw[a]at w
    .simp at w
    .rw[AJ.1 w];show m≠p;omega
   rw[this,nJ _ r,(Cm l fs p).1 (k p e)]
  exact⟨by rw[b];show p<(laid _ _).length;rw[dK];exact i,by rw[this];exact d.2⟩
def Tr.eq{fs a:Fs}(b:a.safe=fs.safe)(d:a.late=fs.late){t:Option (Nat×T)}(h:Tr [] fs t):Tr [] a t:=h.stays (λe _ g c=>⟨by rw[b];exact c.1,by unfold Fs.at;rw[b,d];exact c.2⟩)
def fA.eq {n v:Nat}{fs c:Fs}(a:c.safe=fs.safe)(b:c.late=fs.late)(h:fA [] n fs v o ao):fA [] n c v o ao:=by
 have e:∀d,c.at d=fs.at d:=λd=>by unfold Fs.at;rw[a,b]
 refine⟨b.t h.late,by rw[a];exact h.len,by unfold gE;rw[e];exact h.meta0,?_,h.sure.eq a b,h.ahead.eq a b,by rw[a];exact h.size⟩
 .have⟨r,f,g⟩:=h.meta1
  exact⟨r,by unfold gE;rw[e];exact f,g⟩
variable {D:Db} {X w w':World} {b i k n p z:Nat} {e:TypeId} {fr:List Nat} {ks:List ByteArray} {l:List (Nat×Pg)} {u:List Bool} {v:Value} {xs:List Value}
structure MV where
 p:Nat
 ver:Nat
 root:Nat
 ka:Option Addr
 ia:Option Addr
 ea:Option Addr
 kc:Nat
 ic:Nat
 ec:Nat
abbrev MV.cells(m:MV):Array Value:=#[.int .i64 m.p,.bool true,.int .i64 1,.int .i64 m.ver,.int .i64 m.root,.int .i64 0,.slice m.ka 0 m.kc,.slice m.ia 0 m.ic,.slice m.ea 0 m.ec,.string ⟨#[]⟩]
abbrev MV.obj(m:MV):Obj:=.cells m.cells 136
def qBh(m a:MV)(w):
  cL 113 #[.agg m.cells,.agg a.cells] w λe w'=>e=.r (.bool (decide (m.ver<a.ver)))/\bW w w':=by
 obtain⟨b,c,d,g,f,-⟩:=al2 w m.obj a.obj; have⟨h,i,j,k,l,n,o,p,c8,D⟩:=mW g;have⟨q,r,s,t,u,x,y,z,A,B⟩:=mW f;go_enter Tryz.func113,Tryz.ntmps113;go_wp2;refine BI (v:=.bool (decide (m.ver<a.ver))) ?_ rfl ⟨rfl,d⟩;simp[results,Tryz.results113,go_sem]
def Am(m:MV)(w):
  cL 159 #[.agg #[.i 1,.i m.ver,.i m.root,.i 0,.s m.ka 0 m.kc,.s m.ia 0 m.ic,.s m.ea 0 m.ec,.e]] w λe w'=>e=.r (.i ((m.ver % 2:Nat):Int))/\bW w w':=by
 obtain⟨a,b,c,d,-⟩:=al1 w (.cells #[.i 1,.i m.ver,.i m.root,.i 0,.s m.ka 0 m.kc,.s m.ia 0 m.ic,.s m.ea 0 m.ec,.e] 80);have⟨f,g,h,i,j,k,l,n⟩:=bO d;go_enter Tryz.func159,Tryz.ntmps159;go_wp2;refine BI (v:=.i ((m.ver:Int) % 2)) ?_ rfl ⟨by simp,c⟩;simp[results,Tryz.results159,go_sem]
def uU{P:Program}{f:Func}{p q:Tmp}{a:TypeId}(h:f.results=#[.cell p a,.cell q a])(b:Array Value)(w:World)(g e:Nat)(t:TypeId)(cs c:Array Value)(fr:Nat×Nat)(d:TypeDesc)(n:b.getD p undef=.p g 0)(r:b.getD q undef=.p e 0)(k:w.heap[g]?=some (.cells cs t fr))(l:w.heap[e]?=some (.cells c t fr))(j:P.underlying a=some d)(i:(match d with|.struct _|.array _ _=>true|_=>false)=true)(hi:(P.info? a).map (·.size)=some cs.size)(m:(P.info? a).map (·.size)=some c.size):
  (results f b).run P w=.ok (.tuple #[.agg cs,.agg c]) w:=by
 have o:b[p]?.getD undef=.p g 0:=by simpa using n
 have s:b[q]?.getD undef=.p e 0:=by simpa using r
 simp[results,h,o,s,asAddr,JH w g t a cs fr d k j i hi,JH w e t a c fr d l j i m]
def c10 {c d e v3 f g j l m n x}(a:b≠k)(h:w.c k i=some x):(It w b c d e v3 f g j l m n).c k i=some x :=
 cH a (cH a (cH a (cH a (cH a (cH a (cH a (cH a (cH a (cH a h)))))))))
def zS(w:World)(a):w.drew.cell? a=w.cell? a:=rfl
def GX(w:World):w.drew.heap=w.heap:=rfl
structure MG where
 p:Nat
 ok:Bool
 kd:Int
 ver:Nat
 root:Nat
 ka:Option Addr
 ia:Option Addr
 ea:Option Addr
 kc:Nat
 ic:Nat
 ec:Nat
abbrev MG.cells(m:MG):Array Value:=#[.int .i64 m.p,.bool m.ok,.int .i64 m.kd,.int .i64 m.ver,.int .i64 m.root,.int .i64 0,.slice m.ka 0 m.kc,.slice m.ia 0 m.ic,.slice m.ea 0 m.ec,.string ⟨#[]⟩]
abbrev MG.obj(m:MG):Obj:=.cells m.cells 136
abbrev MV.g(m:MV):MG:=⟨m.p,true,1,m.ver,m.root,m.ka,m.ia,m.ea,m.kc,m.ic,m.ec⟩
abbrev MG.put(m:MG)(w:World)(b:Nat):World:=It w b (.int .i64 m.p) (.bool m.ok) (.int .i64 m.kd) (.int .i64 m.ver) (.int .i64 m.root) (.int .i64 0) (.slice m.ka 0 m.kc) (.slice m.ia 0 m.ic) (.slice m.ea 0 m.ec) (.string ⟨#[]⟩)
variable {a:MG}
def MG.put_box (m:MG){a c d e f g i j k l t}(h:cW w b #[a,c,d,e,f,g,i,j,k,l] t):(m.put w b).heap[b]?=some (.cells m.cells t):=uE h _ _ _ _ _ _ _ _ _ _
def MG.put_fr(m:MG)(w b):Fr (Bl.one b) w (m.put w b):=wN w b _ _ _ _ _ _ _ _ _ _
abbrev M1(k:Nat)(a:MG)(X:World):Prop:=X.c k 0=some (.i a.p)/\X.c k 1=some (.bool a.ok)/\X.c k 2=some (.i a.kd)/\X.c k 3=some (.i a.ver)/\X.c k 4=some (.i a.root)/\X.c k 5=some (.i 0)/\X.c k 6=some (.s a.ka 0 a.kc)/\X.c k 7=some (.s a.ia 0 a.ic)/\X.c k 8=some (.s a.ea 0 a.ec)/\X.c k 9=some .e
def M1.st {v1 v2 v3 v4 v5 v6 v7 v8 v9 v0:Value}(h:M1 k a X)(g:n≠k):M1 k a (It X n v1 v2 v3 v4 v5 v6 v7 v8 v9 v0):=⟨c10 g h.1,c10 g h.2.1,c10 g h.2.2.1,c10 g h.2.2.2.1,c10 g h.2.2.2.2.1,c10 g h.2.2.2.2.2.1,c10 g h.2.2.2.2.2.2.1,c10 g h.2.2.2.2.2.2.2.1,c10 g h.2.2.2.2.2.2.2.2.1,c10 g h.2.2.2.2.2.2.2.2.2⟩
abbrev MM(k:Nat)(a b:MG)(X:World):Prop:=M1 k a X/\M1 (k+1) b X
def MM.st {a b:MG}{v1 v2 v3 v4 v5 v6 v7 v8 v9 v0:Value}(h:MM k a b X)(g:n<k):MM k a b (It X n v1 v2 v3 v4 v5 v6 v7 v8 v9 v0):=⟨h.1.st (by omega),h.2.st (by omega)⟩
def MM.dw {a b:MG}(h:MM k a b X):MM k a b X.drew:=h
def MG.two (a b:MG)(L:bW w X)(M:X.heap[w.heap.size]?=some meta0)(N:X.heap[w.heap.size+1]?=some meta0):Hid ((b.put (a.put X w.heap.size) (w.heap.size+1)).drew.heap[w.heap.size]?=some a.obj)/\Hid ((b.put (a.put X w.heap.size) (w.heap.size+1)).drew.heap[w.heap.size+1]?=some b.obj)/\Hid (bW w (b.put (a.put X w.heap.size) (w.heap.size+1)).drew):=
 ⟨by show _=_;rw[GX];exact(b.put_fr _ _).heap (a.put_box M) (oN (by omega)),by show _=_;rw[GX];exact b.put_box ((a.put_fr _ _).heap N (oN (by omega))),JM ((L.t ((a.put_fr X w.heap.size).below (by have:=L.size;omega) (oK (by omega)))).t ((b.put_fr _ _).below (by have:=L.size;have:=(a.put_fr X w.heap.size).size;omega) (oK (by omega))))⟩
def pQ(β w)(Q R:MG->Prop)(lt)(af:∀X,bW w X->cL 112 #[.p β 0,.i 0] X λe w'=>∃m:MG,e=.r (.agg m.cells)/\Q m/\bW X w')(ag:∀X,bW w X->cL 112 #[.p β 0,.i 1] X λe w'=>∃m:MG,e=.r (.agg m.cells)/\R m/\bW X w')(J:∀a b:MG,Q a->R b->∀X,cL 113 #[.agg a.cells,.agg b.cells] X λe w'=>e=.r (.bool lt)/\bW X w'):
  cL 83 #[.p β 0] w λe w'=>∃m ab:MG,e=.r (.tuple #[.agg m.cells,.agg ab.cells])/\bW w w'/\((lt=true/\R m/\Q ab)\/(lt=false/\Q m/\R ab)):=by
 obtain⟨H,a1,P,a4,S,-⟩:=al2 w meta0 meta0; have ac:Hid (∀X,bW w X->cL 112 #[.p β 0,.i 0] X λe w'=>∃m:MG,e=.r (.agg m.cells)/\Q m/\bW X w'):=af;have ad:Hid (∀X,bW w X->cL 112 #[.p β 0,.i 1] X λe w'=>∃m:MG,e=.r (.agg m.cells)/\R m/\bW X w'):=ag;have ae:Hid (∀a b:MG,Q a->R b->∀X,cL 113 #[.agg a.cells,.agg b.cells] X λe w'=>e=.r (.bool lt)/\bW X w'):=J;clear af ag J;cases lt
 all_goals
  have Z:=ac.o H P
  go_enter Tryz.func83,Tryz.ntmps83;go_wp2_with (first
   |(go_at_call 112;(with_reducible refine Calls.m Z ?_);rintro e a8 ⟨a,rfl,a2,d⟩;have K:=P.t (d.m P.size);have a0:=ad.o a8 K;have U:Hid _:=a2;clear a2)
   |(go_at_call 112;(with_reducible refine Calls.m a0 ?_);rintro e c ⟨b,rfl,a3,F⟩;have V:Hid _:=a3;clear a3;have J:=ae.o a b U.o V.o ((c.alloc a.obj).alloc b.obj))
   |(go_at_call 113;(with_reducible refine Calls.m J ?_);rintro e X3 ⟨rfl,I⟩;have G:=K.t (F.m K.size);have L:bW w X3:=(((G.alloc G.size a.obj).alloc (by have:=G.size;simp;omega) b.obj).t (I.m (by have:=G.size;simp;omega)));have T:bW H X3:=((((d.t (F.m d.size)).alloc (by have:=d.size;have:=F.size;omega) a.obj).alloc (by have:=d.size;have:=F.size;simp;omega) b.obj).t (I.m (by have:=d.size;have:=F.size;simp;omega)));have a9:=(I.block c.heap.size (by simp;omega)).t (aQ b.obj (aC c a.obj));have aa:X3.heap[c.heap.size+1]?=some b.obj:=(by have W:=aC (c.alloc a.obj) b.obj;have Y:(c.alloc a.obj).heap.size=c.heap.size+1:=(by simp);rw[Y]at W;exact(I.block _ (by simp)).t W);have M:=(T.block _ (gL a4)).t a4;have N:=(T.block _ (gL S)).t S;have f:MM c.heap.size a b X3:=⟨mW a9,mW aa⟩;obtain⟨⟨_,_,_,_,_,_,_,_,_,_⟩,_,_,_,_,_,_,_,_,_,_⟩:=id f;obtain⟨ay,az,b0,b1,b2,b3,b4,b5,b6,b7⟩:=mW M;obtain⟨al,am,an,ao,ap,aq,ar,au,av,aw⟩:=mW N;have b8:=aA M;have ax:=aA N;have aj:=G.size;have ak:w.heap.size+1<c.heap.size:=(by have Y:=(gL S);have ah:=d.size;have ai:=F.size;omega)))
  clear Z a0 J a1
 .obtain⟨a6,a7,a5⟩:=MG.two a b L M N
  go_region_held3 (MM c.heap.size a b) ((with_reducible first|exact f.dw|exact(f.st (by omega)).dw|exact((f.st (by omega)).st (by omega)).dw|exact f|exact f.st (by omega)|exact(f.st (by omega)).st (by omega))) (fail)
  all_goals go_wp2
  all_goals
   refine BI (v:=.tuple #[.agg a.cells,.agg b.cells]) ?_ rfl ⟨a,b,rfl,a5.o,.inr ⟨by simp,U.o,V.o⟩⟩;exact uU (p:=2) (q:=3) rfl _ _ w.heap.size (w.heap.size+1) _ _ _ _ _ rfl rfl a6.o a7.o Tryz.underlying136 rfl (by kernel_rfl) (by kernel_rfl)
 .obtain⟨a6,a7,a5⟩:=MG.two b a L M N
  go_region_held3 (MM c.heap.size a b) ((with_reducible first|exact f.dw|exact(f.st (by omega)).dw|exact((f.st (by omega)).st (by omega)).dw|exact f|exact f.st (by omega)|exact(f.st (by omega)).st (by omega))) (fail)
  all_goals go_wp2
  all_goals
   refine BI (v:=.tuple #[.agg b.cells,.agg a.cells]) ?_ rfl ⟨b,a,rfl,a5.o,.inl ⟨by simp,V.o,U.o⟩⟩;exact uU (p:=2) (q:=3) rfl _ _ w.heap.size (w.heap.size+1) _ _ _ _ _ rfl rfl a6.o a7.o Tryz.underlying136 rfl (by kernel_rfl) (by kernel_rfl)
def xK {β sv lv fs}(h:(fs.life==0)=false)(a:aF w β sv lv fs){p v r}(j:p<fs.safe.length)(i:gE fs p v r)(X)(d:bW w X):
  cL 112 #[.p β 0,.i (p:Nat)] X λe w'=>∃m:MG,e=.r (.agg m.cells)/\(∃q:MV,m=q.g/\q.p=p/\q.ver=v/\q.root=r)/\bW X w' :=
 (Ev β sv lv fs h p v r X (a.on (vV d a.lies)) j i).m λe w' ⟨n,k,b,o,l,c,g,f⟩=>⟨(⟨p,v,r,n,k,b,o,l,c⟩:MV).g,g,⟨_,rfl,rfl,rfl,rfl⟩,f⟩
def uV(β sv lv fs)(v:(fs.life==0)=false)(d s f t w)(u:aF w β sv lv fs)(A:1<fs.safe.length)(y:gE fs 0 d s)(z:gE fs 1 f t):
  cL 83 #[.p β 0] w λe w'=>∃m c:MV,e=.r (.tuple #[.agg m.cells,.agg c.cells])/\bW w w'/\((d<f/\m.p=1/\m.ver=f/\m.root=t/\c.p=0/\c.ver=d/\c.root=s)\/(¬d<f/\m.p=0/\m.ver=d/\m.root=s/\c.p=1/\c.ver=f/\c.root=t)):=by
 refine(pQ β w _ _ (decide (d<f)) (xK (p:=0) v u (by omega) y) (xK (p:=1) v u A z) ?_).m ?_
 .rintro _ _ ⟨a,rfl,_,x,_⟩ ⟨b,rfl,_,g,_⟩ X
  rw[<-x,<-g];exact qBh a b X
 .rintro e w' ⟨m,c,rfl,g,⟨o,⟨q,rfl,h,i,j⟩,⟨r,rfl,k,l,n⟩⟩|⟨o,⟨q,rfl,h,i,j⟩,⟨r,rfl,k,l,n⟩⟩⟩
  .exact⟨q,r,rfl,g,.inl ⟨of_decide_eq_true o,h,i,j,k,l,n⟩⟩
  .exact⟨q,r,rfl,g,.inr ⟨of_decide_eq_false o,h,i,j,k,l,n⟩⟩
def Ia(D m)(ver:Nat)(w)(h:aO w m D)(N:D.ver=ver)(L:(D.fs.life==0)=false)(T:1<D.fs.safe.length)(M:gE D.fs (ver % 2) ver D.root):
  cL 156 #[.p D.d 0] w λe w'=>e=.r (.tuple #[])/\bW w w':=by
 have l:cW w D.d #[.int .i32 m,.int .u32 0,.p D.β 0,.i 1,.i ver,.i D.root,.i 0,.s D.ka 0 D.kc,.s D.ia 0 D.ic,.s D.ea 0 D.ec,.e,.i D.aroot,.bool D.failed,.i D.last,D.ov] 83:=by
  have:=h.box;rw[dbO,dbC,N]at this;exact this
 have⟨q,r,c,d,f,g,i,j,c8,c9,c10,s,t,u,x⟩:=eQ l;have A:(((ver % 2:Nat)):Int)=(ver:Int) % 2:=by simp
 have C:Hid (∀X,bW w X->cL 112 #[.p D.β 0,.i ((ver % 2:Nat):Int)] X λe w'=>∃a:MV,e=.r (.agg #[.i a.p,.bool true,.i 1,.i a.ver,.i a.root,.i 0,.s a.ka 0 a.kc,.s a.ia 0 a.ic,.s a.ea 0 a.ec,.e])/\bW X w'):=λX k=>(Ev D.β D.sv D.lv D.fs L (ver % 2) ver D.root X (h.file.on (vV k h.file.lies)) (by omega) M).m λe w' ⟨Q,O,G,R,P,H,K,J⟩=>⟨⟨ver % 2,ver,D.root,Q,O,G,R,P,H⟩,K,J⟩;have B:Hid (∀X,bW w X->cL 112 #[.p D.β 0,.i ((ver:Int) % 2)] X λe w'=>∃a:MV,e=.r (.agg #[.i a.p,.bool true,.i 1,.i a.ver,.i a.root,.i 0,.s a.ka 0 a.kc,.s a.ia 0 a.ic,.s a.ea 0 a.ec,.e])/\bW X w'):=by
  have:=C.o;rw[A]at this;exact this
 have o:Hid (∀X,bW w X->cW X D.d #[.int .i32 m,.int .u32 0,.p D.β 0,.i 1,.i ver,.i D.root,.i 0,.s D.ka 0 D.kc,.s D.ia 0 D.ic,.s D.ea 0 D.ec,.e,.i D.aroot,.bool D.failed,.i D.last,D.ov] 83):=λX k=>(k.block _ (gL l)).t l;have y:∀X,cL 159 #[.agg #[.i 1,.i ver,.i D.root,.i 0,.s D.ka 0 D.kc,.s D.ia 0 D.ic,.s D.ea 0 D.ec,.e]] X λe w'=>e=.r (.i ((ver % 2:Nat):Int))/\bW X w':=λX=>Am ⟨0,ver,D.root,D.ka,D.ia,D.ea,D.kc,D.ic,D.ec⟩ X;rw[A]at y;have E:Hid _:=y;have S:∀(a:MV) (W:World),(Instr.field 136 (.agg #[.i a.p,.bool true,.i 1,.i a.ver,.i a.root,.i 0,.s a.ka 0 a.kc,.s a.ia 0 a.ic,.s a.ea 0 a.ec,.e]) 1).run Tryz.prog W=.ok (.bool true) W:=λa W=>by kernel_rfl
 go_enter Tryz.func156,Tryz.ntmps156;go_wp2;go_region_held3 (λX=>X.c D.d 2=some (.p D.β 0)/\X.c D.d 3=some (.i 1)/\X.c D.d 4=some (.i ver)/\X.c D.d 5=some (.i D.root)/\X.c D.d 6=some (.i 0)/\X.c D.d 7=some (.s D.ka 0 D.kc)/\X.c D.d 8=some (.s D.ia 0 D.ic)/\X.c D.d 9=some (.s D.ea 0 D.ec)/\X.c D.d 10=some .e)
  ((first|exact⟨c,d,f,g,i,j,c8,c9,c10⟩|(simp[c,d,f,g,i,j,c8,c9,c10])))
  (first
   |(go_at_call 159;apply Calls.m (E.o _);rintro e F ⟨rfl,I⟩;have b:=(AC _ w).drew.t I;obtain⟨q,r,c,d,f,g,i,j,c8,c9,c10,s,t,u,x⟩:=eQ (o.o F b))
   |(go_at_call 112;(with_reducible refine Calls.m (B.o _ ?_) ?_);(first|exact b.drew|exact b);rintro e p ⟨a,rfl,z⟩;have n:bW w p:=(by first|exact b.t (z.m b.size)|exact b.drew.t (z.m b.size));have⟨q,r,c,d,f,g,i,j,c8,c9,c10,s,t,u,x⟩:=eQ (o.o p n)))
 all_goals go_wp2
 all_goals
  refine bodyPost_end (v:=.tuple #[]) ?_ rfl ⟨rfl,n⟩;simp[results,Tryz.results156]
def iD(k w):
  cL 39 #[.t k] w λe w'=>e=.r (.bool (decide (1<=k.size/\k.size<=24)))/\w'=w:=by
 by_cases h1:1<=k.size
 .by_cases h2:k.size<=24
  .have a:(1:Int)<=(k.size:Int):=by omega
   have b:(k.size:Int)<=24:=by omega
   go_enter Tryz.func39,Tryz.ntmps39;go_wp2;refine BI (v:=.bool true) ?_ rfl ⟨by rw[CU ⟨h1,h2⟩],rfl⟩;simp[results,Tryz.results39,go_sem,h1,h2]
  .have a:(1:Int)<=(k.size:Int):=by omega
   have b:¬(k.size:Int)<=24:=by omega
   go_enter Tryz.func39,Tryz.ntmps39;go_wp2;refine BI (v:=.bool false) ?_ rfl ⟨rfl,rfl⟩;simp[results,Tryz.results39,go_sem,h1,h2]
 .have a:¬(1:Int)<=(k.size:Int):=by omega
  go_enter Tryz.func39,Tryz.ntmps39;go_wp2;refine BI (v:=.bool false) ?_ rfl ⟨rfl,rfl⟩;simp[results,Tryz.results39,go_sem,h1]
def Vv(β c t x w)(d:w.heap[t.b]?=some (txO β t))(f:cW w c #[.i x] 3):
  cL 128 #[.p t.b 0,.p c 0] w λe w'=>e=.r (.bool (t.num==x))/\bW w w':=by
 have a:w.c t.b 0=some (.i t.num):=by simp[World.cell?,d]
 have b:w.c c 0=some (.i x):=by simp[World.cell?,f]
 go_enter Tryz.func128,Tryz.ntmps128;go_wp2;go_region_held3 (λX=>X.c t.b 0=some (.i t.num)/\X.c c 0=some (.i x))
  (exact⟨a,b⟩)
  (fail)
 all_goals go_wp2
 all_goals go_ret
 all_goals exact⟨rfl,(AC _ w).drew⟩
def gG(ts:List Tx)(x:Int):Int:=match ts.findIdx? (λt=>t.num==x) with
 |some i=>i
 |none=>-1
def Qq{a:List Tx}{x j}(h:j<a.length)(d:(a[j].num==x)=true)(c:∀m (b:m<a.length),m<j->(a[m].num==x)=false):gG a x=j:=by
 have:a.findIdx? (λe=>e.num==x)=some j:=by
  rw[GQ];exact⟨h,d,λm b=>by simpa using c m (by omega) b⟩
 unfold gG;rw[this]
def qCh{a x}(d:∀m (b:m<a.length),(a[m].num==x)=false):gG a x = -1:=by
 have:a.findIdx? (λc=>c.num==x)=none:=by
  rw[MQ];intro c e;obtain⟨m,b,rfl⟩:=AV e;exact d m b
 unfold gG;rw[this]
def Hu(β c oa oc ts x S w)(hR:aH w S oa (lR ts))(hS:lW S w)(hT:∀t∈ts,w.heap[t.b]?=some (txO β t))(hc:cW w c #[.i x] 3)(hn:ts.length<=1000000)(hcc:ts.length<=oc):
  cL 127 #[.s oa ts.length oc,.func (.func 128) #[] #[.p c 0]] w λe w'=>e=.r (.i (gG ts x))/\bW w w':=by
 go_enter Tryz.func127,Tryz.ntmps127;go_wp2;go_loopw [8] (λa wr=>∃j:Nat,a=.i j/\j<=ts.length/\bW w wr/\Hid (∀m (A:m<ts.length),m<j->(ts[m].num==x)=false)) (λa _=>ts.length-(intOf a).toNat)
 case atStart=>exact⟨0,rfl,AG _,AC _ _,λm A h=>by omega⟩
 case round =>
  obtain⟨j,rfl,N,y,G⟩:=hrel;by_cases hlt:j<ts.length
  .have C:(j:Int)<(ts.length:Int):=by omega
   have H:=hR.on (vV y hS);have B:lR ts≠[]:=by
    intro e;have:=CI List.length e;simp[lR]at this;subst this;simp at hlt
   rcases H with L|⟨g,o,rfl,M,n⟩
   .exact absurd L B
   have⟨t,E⟩:=nM (ts[j]);have O:wr.c g (o+j)=some (.p t.b 0):=n j _ (by simp[lR,hlt,E]);have F:=Vv β c t x wr ((y.block _ (jJ.1 (hT t (E▸AA hlt))).1).t (hT t (E▸AA hlt))) ((y.block _ (gL hc)).t hc);have I:Hid (ts[j]=t):=E;clear E n hR B;cases he:(t.num==x)
   .rw[he]at F
    go_wp2_with (go_at_call 128;apply Calls.m F;rintro e K ⟨rfl,z⟩);refine⟨⟨j+1,by simp,by omega,y.t (z.m y.size),λm A J=>?_⟩,by simp[intOf];omega⟩;by_cases hmj':m=j
    .subst hmj';rw[I.o];exact he
    .exact G m A (by omega)
   .rw[he]at F
    go_wp2_with (go_at_call 128;apply Calls.m F;rintro e K ⟨rfl,z⟩);refine BI (v:=.i j) ?_ rfl ⟨by rw[Qq hlt (by rw[I.o];exact he) G],y.t (z.m y.size)⟩
    .simp[results,Tryz.results127,go_sem]
  .obtain rfl:j=ts.length:=by omega
   have C:¬(ts.length:Int)<(ts.length:Int):=by omega
   go_wp2;refine BI (v:=.i (-1)) ?_ rfl ⟨by rw[qCh (λm A=>G.o m A A)],y⟩
   .simp[results,Tryz.results127,go_sem]
def zK(D s x w)(h:aO w s D)(l:D.ts.length<=1000000):
  cL 91 #[.p D.d 0,.i x] w λe w'=>e=.r (.i (gG D.ts x))/\bW w w':=by
 have⟨q,r,n,m,o⟩:=bR h.row;obtain⟨b,g,a,u,-⟩:=al1 w (.cells #[.i x] 3);have f:=h.on (vV a h.lies);have⟨v,y,C,E,F,G,H,I,L,M,K,z,A,B,i⟩:=eQ f.box;rw[n]at i;go_enter Tryz.func91,Tryz.ntmps91;go_wp2_with (go_at_call 127;apply Calls.m (Hu D.β w.heap.size q r D.ts x (λd=>D.ov.ownBlock=some d) b (o.on (vV a (λd c=>aK h.row c))) (λd c=>jY (aK h.row c) a.size) (λt p=>(f.each t p).box) u l m);rintro e J ⟨rfl,k⟩);go_ret;exact⟨rfl,a.t (k.m a.size)⟩
def gJ(D j x i t w)(h:aO w j D)(q:D.ts.length<=1000000)(hi:i<D.ts.length)(u:D.ts[i]=t)(v:gG D.ts x=i):
  cL 46 #[.p D.d 0,.i x] w λe w'=>e=.r (.tuple #[.p t.b 0,.i 0])/\bW w w':=by
 have⟨f,y,r,Q,s⟩:=bR h.row;have b:=zK D j x w h q;rw[v]at b;have k:Hid (∀X,bW w X->X.c D.d 14=some (.s f D.ts.length y)/\∃g o,f=some (aD g o)/\X.c g (o+i)=some (.p t.b 0)):=by
  intro X c;have⟨A,B,G,H,I,J,K,L,V,U,T,C,E,F,a⟩:=eQ (h.on (vV c h.lies)).box;rw[r]at a;refine⟨a,?_⟩;rcases s.on (vV c (λR p=>aK h.row p)) with l|⟨g,o,rfl,M,n⟩
  .have:=CI List.length l
   simp[lR]at this;rw[this]at hi;simp at hi
  .exact⟨g,o,rfl,n i _ (by simp[lR,hi,u])⟩
 have O:¬(i:Int)<0:=by omega
 have P:(i:Int)<(D.ts.length:Int):=by omega
 have N:(0:Int)<=(i:Int):=by omega
 go_enter Tryz.func46,Tryz.ntmps46;go_wp2_with (go_at_call 91;apply Calls.m b;rintro e z ⟨rfl,d⟩;obtain⟨a,g,o,rfl,S⟩:=k z d);go_ret2;exact⟨rfl,d⟩
def pC(D b x w)(h:aO w b D)(d:D.ts.length<=1000000)(f:gG D.ts x = -1):
  cL 46 #[.p D.d 0,.i x] w λe w'=>e=.r (.tuple #[.pointer none,.i 3])/\bW w w':=by
 have a:=zK D b x w h d;rw[f]at a;go_enter Tryz.func46,Tryz.ntmps46;go_wp2_with (go_at_call 91;apply Calls.m a;rintro e g ⟨rfl,c⟩);go_ret2;exact⟨rfl,c⟩
def nY(D d x i t w)(h:aO w d D)(k:D.ts.length<=1000000)(hi:i<D.ts.length)(c:D.ts[i]=t)(m:gG D.ts x=i)(l:t.wr=true):
  cL 38 #[.p D.d 0,.i x] w λe w'=>e=.r (.tuple #[.p t.b 0,.i 0])/\bW w w':=by
 have f:Hid (∀X,bW w X->X.c t.b 1=some (.bool true)):=by
  intro X j;have a:=((h.on (vV j h.lies)).each t (c▸AA hi)).box;rw[txO,l]at a;simp[World.cell?,a]
 go_enter Tryz.func38,Tryz.ntmps38;go_wp2_with (go_at_call 46;apply Calls.m (gJ D d x i t w h k hi c m);rintro e n ⟨rfl,b⟩;have o:=f n b);go_ret2;exact⟨rfl,b⟩
def Ad(D a x w)(h:aO w a D)(d:D.ts.length<=1000000)(f:gG D.ts x = -1):
  cL 38 #[.p D.d 0,.i x] w λe w'=>e=.r (.tuple #[.pointer none,.i 3])/\bW w w':=by
 go_enter Tryz.func38,Tryz.ntmps38;go_wp2_with (go_at_call 46;apply Calls.m (pC D a x w h d f);rintro e g ⟨rfl,c⟩);go_ret2;exact⟨rfl,c⟩
def vZ(k):∀(l:List MapEntry) (ks:List ByteArray) (i:Nat),l.map (λe=>(e.key,e.val))=ks.map (λk=>(Value.string k,Value.agg #[])) ->
  (k ∉ ks/\Instr.findNow .string (.string k) l i=some none)\/(k∈ks/\∃j e,Instr.findNow .string (.string k) l i=some (some (i+j,.agg #[]))/\l[j]?=some e/\e.key=.string k/\e.val=.agg #[])
 |[],[],i,_=>.inl ⟨by simp,rfl⟩
 |[],_ :: _,i,a=>by simp at a
 |_ :: _,[],i,a=>by simp at a
 |e :: l,y :: ks,i,a=>by
  simp only[BH,GM,LD]at a;have⟨⟨b,f⟩,m⟩:=a;by_cases hy:k=y
  .subst hy
   refine .inr ⟨by simp,0,e,?_,rfl,b,f⟩;simp[Instr.findNow,b,f,Instr.sameNow,(MapKept.bytes_beq k k).2 rfl]
  .have g:Instr.sameNow .string (.string k) e.key=some false:=by
    rw[b];simp only[Instr.sameNow];congr 1;exact LJ.2 (λa=>hy ((MapKept.bytes_beq k y).1 a))
   rcases vZ k l ks (i+1) m with⟨c,d⟩|⟨c,j,h,d,n,o,p⟩
   .exact .inl ⟨by simp[hy,c],by simp[Instr.findNow,g,d]⟩
   .refine .inr ⟨by simp[c],j+1,h,?_,by grind,o,p⟩
    simp only[Instr.findNow,g,d];grind
def wH:Tryz.prog.underlying 92=some (.map 9 72):=Tryz.underlying92
def qKr{k}:MapKept.IsKey .string (.string k):=by simp[MapKept.IsKey]
def yD(W k b):(Instr.checkKey b 10000 9 (.t k)).run Tryz.prog W=.ok () W:=MapKept.run_checkKey (d:=.string) Tryz.underlying9 qKr b 9999
def Cw{W k l a}(h:Instr.findNow .string (.string k) l 0=some a):(Instr.findKey 9 (.string k) l).run Tryz.prog W=.ok a W:=MapKept.run_findKey (d:=.string) Tryz.underlying9 h
open Classical in
noncomputable def inB (ks:List ByteArray) (k:ByteArray):Bool:=decide (k∈ks)
def Zc {k}:inB ks k=true↔k∈ks:=by unfold inB;simp
def Mg {k}:inB ks k=false↔k ∉ ks:=by unfold inB;simp
def Tk.look (h:Tk w v ks)(k):(Instr.lookup 92 v (.t k) true).run Tryz.prog w=.ok (.tuple #[.agg #[],.bool (inB ks k)]) w:=by
 rcases h with⟨rfl,rfl⟩|⟨r,d,g,rfl,c,e⟩
 .rw[Mg.2 (by simp)];kernel_rfl
 .have f:(zeroValue 72).run Tryz.prog w=.ok (.agg #[]) w:=by kernel_rfl
  rcases vZ k d.toList ks 0 e with⟨a,b⟩|⟨a,j,i,b,_⟩
  .rw[Mg.2 a];simp[Instr.lookup,CZ wH,GZ c,yD,Cw b,f,Result.andThen]
  .rw[Zc.2 a];simp[Instr.lookup,CZ wH,GZ c,yD,Cw b,Result.andThen]
def Tk.drew (h:Tk w v ks):Tk w.drew v ks:=h
def Tk.alloc (h:Tk w v ks)(c):Tk (w.alloc c) v ks:=h.on (Y:=λb=>b<w.heap.size) ((CN _ w).alloc (λb a=>a) c) (λb a=>by have⟨f,e,d⟩:=h.block a;grind)
def Tk.lay {r}(h:Tk w (.map (some r)) ks)(k):∃w' s,(Instr.mapUpdate 92 (.map (some r)) (.t k) (.agg #[])).run Tryz.prog w=.ok () w'/\Tk w' (.map (some r)) s/\Fr (Bl.one r) w w'/\∀c,c∈s↔c∈ks\/c=k:=by
 rcases h with⟨h,_⟩|⟨A,e,g,h,b,i⟩
 .cases h
 cases h
 have p:∀m:Obj,Fr (Bl.one r) w {w with heap:=w.heap.setIfInBounds r m}:=λm=>⟨rfl,rfl,rfl,by simp,λj z u=>(MB b (o':=m)).2 j (λa=>u a)⟩;rcases vZ k e.toList ks 0 i with⟨n,f⟩|⟨n,l,a,f,t,q,x⟩
 .exact⟨{w with heap:=w.heap.setIfInBounds r (.map (e.push {key:=.t k,val:=.agg #[],born:=g}) (g+1))},ks++[k],by simp[Instr.mapUpdate,CZ wH,GZ b,yD,Cw f,MapKept.run_setObj_map _ b,Result.andThen],.inr ⟨r,_,_,rfl,(MB b).1,by simp[i]⟩,p _,λc=>by simp⟩
 .rw[DS]at f
  have o:e[l]?=some a:=by grind
  refine⟨{w with heap:=w.heap.setIfInBounds r (.map (e.modify l λa=>{a with key:=.t k,val:=.agg #[]}) g)},ks,?_,.inr ⟨r,_,_,rfl,(MB b).1,?_⟩,p _,λc=>⟨.inl,λy=>y.elim id (λa=>a▸n)⟩⟩
  .have v:(Instr.keyThatStays (.t k) (.t k)).run Tryz.prog w=.ok (.t k) w:=MapKept.run_keyThatStays (d:=.string) qKr
   simp[Instr.mapUpdate,CZ wH,GZ b,yD,Cw f,MapKept.run_setObj_map _ b,Result.andThen,o,q,v]
  .rw[<-i]
   apply DU;grind
def vC(β t w)(h:eI w β t)(hn:t.cs.length<=1000000):
  cL 93 #[.p t.b 0] w λe w'=>∃b,e=.r (.bool b)/\(b=true↔∃c∈t.cs,c.key∈t.ks)/\bW w w':=by
 have⟨O,oc,A,Z,d⟩:=bR h.row;have K:t.cs.length<=t.cc:=by grind
 have E:t.ca=O:=by grind
 subst E;have z:Hid (∀X,bW w X->X.c t.b 4=some (.s t.ca t.cs.length t.cc)/\X.c t.b 5=some t.tk/\Tk X t.tk t.ks):=by
  intro X M;have H:=(M.block _ (gL h.box)).t h.box;rw[txO]at H;exact⟨by simp[World.cell?,H],by simp[World.cell?,H],h.tk.on (vV M (Y:=λk=>t.tk=.map (some k)) (λk g=>by have⟨es,cl,o⟩:=h.tk.block g;grind)) (λk g=>g)⟩
 have hS:∀k,t.cv.ownBlock=some k->k<w.heap.size:=λk g=>aK h.row g;have T:=(gL h.box);have⟨c4,L,_⟩:=z w (AC _ _);have⟨tv,J⟩:=nM (t.tk);rw[J]at z L;clear A h;go_enter Tryz.func93,Tryz.ntmps93;go_wp2;go_loopw [13] (λa wr=>∃j:Nat,a=.i j/\j<=t.cs.length/\bW w wr/\Hid (∀i (u:i<t.cs.length),i<j->(t.cs[i]).key ∉ t.ks)) (λa _=>t.cs.length-(intOf a).toNat)
 case atStart=>exact⟨0,rfl,AG _,AC _ _,λi _ h=>by omega⟩
 case round =>
  obtain⟨j,rfl,hj,o,N⟩:=hrel;by_cases hlt:j<t.cs.length
  .have v:(j:Int)<(t.cs.length:Int):=by omega
   have⟨rb,ro,G,Q,k0,k1,U⟩:=(d.on (vV o hS)).ch hlt;have⟨c,l⟩:=nM (t.cs[j]);rw[l]at k0 k1 U;obtain⟨W1,C,-,D,-⟩:=al1 wr (.cells #[.t c.key,.t c.val,.bool c.gone] 101);have f:bW w W1:=C▸o.alloc o.size _;have⟨d4,d5,I⟩:=z W1 f;have W:W1.c wr.heap.size 0=some (.t c.key):=by simp[World.cell?,D]
   rw[G];have q:Hid (t.cs[j]=c):=l;clear d l c4 L;go_wp2;have lw:=(gL D);have S:(W1.alloc (.cells #[] 72)).c wr.heap.size 0=some (.t c.key)/\(W1.alloc (.cells #[] 72)).c t.b 5=some tv:=by
    have:=aQ (.cells #[] 72) D;refine⟨by simp[World.cell?,this],(z _ (f.alloc f.size _)).2.1⟩
   have⟨B,F⟩:=S;have x:=I.drew.look c.key;have y:=(I.drew.alloc (.cells #[] 72)).look c.key;have⟨bb,m⟩:=nM (inB t.ks c.key);rw[m]at x y;have n:Hid (inB t.ks c.key=bb):=m;clear m I;go_region_held3 (λX=>X.c t.b 5=some tv/\X.c wr.heap.size 0=some (.t c.key)/\(Instr.lookup 92 tv (.t c.key) true).run Tryz.prog X=.ok (.tuple #[.agg #[],.bool bb]) X)
    ((first|exact⟨by simpa using d5,by simpa using W,x⟩|exact⟨by simpa using F,by simpa using B,y⟩))
    (fail)
   all_goals
    cases bb with
    |false =>
     go_wp2;refine⟨⟨j+1,by simp,by omega,(f.alloc f.size _).drew,λi u R=>?_⟩,by simp[intOf];omega⟩;rcases BR i j with h|h
     .exact N i u h
     .obtain rfl:i=j:=by omega
      rw[q.o];exact Mg.1 n
    |true =>
     go_wp2;go_ret;exact⟨true,rfl,by simp only[true_iff];exact⟨c,q.o▸AA hlt,Zc.1 n⟩,(f.alloc f.size _).drew⟩
  .obtain rfl:j=t.cs.length:=by omega
   have v:¬(t.cs.length:Int)<(t.cs.length:Int):=by omega
   go_wp2;go_ret;exact .inl ⟨rfl,λc V g=>by
    obtain⟨i,u,rfl⟩:=AV V;exact N i u u g,o⟩
def Gq(β t w)(h:eI w β t)(j:t.cs.length<=1000000)(i:∀c∈t.cs,c.key ∉ t.ks):
  cL 93 #[.p t.b 0] w λe w'=>e=.r (.bool false)/\bW w w':=by
 apply(vC β t w h j).m;rintro e w' ⟨b,rfl,d,a⟩;cases b with
 |false=>exact⟨rfl,a⟩
 |true =>
  have⟨c,f,g⟩:=d.1 rfl;exact absurd g (i c f)
def qHl (z)(hi:i<xs.length):(uT (uT xs i (xs.drop (i+1))) (xs.length-1) [z]).take (xs.length-1)=xs.eraseIdx i:=by
 apply DU;intro a;rw[DE,KG];by_cases ht:a<xs.length-1
 .rw[AU ht,oI _ _ _ (by rw[oH];simp;omega),AR (by simp;omega),oI _ _ _ (by simp;omega)]
  grind
 grind
def xG {B g n c}(h:w.ownsRow B e 1 (.q g n c) n xs)(t)(s:t<n):(∃u,xs[t]?=some u/\w.c g t=some u)/\w.frozen? (aD g t)=false:=by
 have⟨m,d⟩:=id h;rcases d with⟨a,_⟩|⟨l,j,k,a,o,i,r,p,q,v⟩
 .simp at a
 .simp only[AQ,BB,CC,DD,CV]at a
  obtain⟨rfl,rfl⟩:=a;refine⟨?_,aA i t⟩;have b:t<xs.length:=by omega
  refine⟨xs[t],jQ b,?_⟩;have:=(DG (w:=w) h (g:=g) rfl) t _ (jQ b);rw[show((aD g 0):Addr).add t=(aD g t) by unfold Addr.add;split<;>simp_all]at this;exact this
def Rw(g n c i j:Nat)(B xs w)(h:w.ownsRow B 86 1 (.s (some (aD g 0)) n c) n xs)(T:∀u∈xs,u.oneCell'=true)(F:j=i+1)(hi:i<n)(a6:n<=1000000)(a7:n<=c)(a1:c<=9223372036854775807):
  cL 92 #[.s (some (aD g 0)) n c,.i i,.i j] w λe w'=>e=.r (.s (some (aD g 0)) (n-1) c)/\w'.ownsRow B 86 1 (.s (some (aD g 0)) (n-1) c) (n-1) (xs.eraseIdx i)/\Fr (Bl.one g) w w':=by
 have G:xs.length=n:=by have:=h.1;omega
 have⟨b,o⟩:∃b,b=xs.drop (i+1):=⟨_,rfl⟩;have s:b.length=n-j:=by grind
 have r:w.drew.ownsRow B 86 1 (.s (some (aD g 0)) n c) n xs:=h;have⟨q,Z,S⟩:∃q:Addr,(if c=j then some ((aD g 0):Addr) else some (aD g j))=some q/\Hid (∀a u,b[a]?=some u->w.drew.cell? (q.add a)=some u):=by
  by_cases hc:c=j
  .refine⟨(aD g 0),by simp[hc],λa u f=>?_⟩
   grind
  .refine⟨(aD g j),by simp[hc],λa u f=>?_⟩
   rw[o,DX]at f;have p:i+1+a<n:=by grind
   have⟨⟨H,k,l⟩,_⟩:=xG r (i+1+a) p;rw[f]at k;cases k;rw[show((aD g j):Addr).add a=(aD g (i+1+a)) by unfold Addr.add;split<;>simp_all];exact l
 have W:Hid (b.length=(n-j) * 1):=by rw[Nat.mul_one];exact s
 have X:Hid (∀u∈b,u.oneCell'=true):=λu f=>T u (BS (o▸f));have Y:Hid (∀a,a<b.length->(w.drew.cell? (aD g (0+i * 1+a))).isSome=true/\w.drew.frozen? (aD g (0+i * 1+a))=false):=by
  intro a p;rw[s]at p;have⟨⟨H,k,l⟩,C⟩:=xG r (i+a) (by omega);grind
 have⟨d,x⟩:∃d,d=w.drew.setCells g (0+i * 1) b:=⟨_,rfl⟩;have y:d=w.drew.setCells g i b:=by grind
 have t:d.ownsRow B 86 1 (.s (some (aD g 0)) n c) n (uT xs i b):=by
  rw[y];exact gN b i r (by omega)
 have A:Fr (Bl.one g) w d:=by rw[y];exact iV b i (AE _ w).drew
 have a0:∀z,(Builtin.clear_ #[81] z #[.s (some (aD g (i+(n-j)))) (n-(i+(n-j))) (c-(i+(n-j)))]).run Tryz.prog d=.ok (.tuple #[]) (d.setCells g (i+(n-j)) (List.replicate (n-(i+(n-j))) (.pointer none))):=
  λz=>Lib.run_clear_slice d _ _ z _ Tryz.underlying81 Tryz.zeroValue86 rfl rfl g (i+(n-j)) _ _ (by omega) (λa p=>by have⟨⟨H,k,l⟩,C⟩:=xG t (i+(n-j)+a) (by omega);exact BJ.2 ⟨_,l⟩) (λa p=>(xG t (i+(n-j)+a) (by omega)).2)
 have M:Hid _:=t;have I:Hid _:=A;have P:Hid (d=w.drew.setCells g (0+i * 1) b):=x;have L:Hid (b=xs.drop (i+1)):=o;have J:Hid (j=i+1):=F;have K:Hid (xs.length=n):=G;have⟨V,Q,a9,U,N⟩:=EX qGp;have a5:i<j:=by omega
 have a3:j<=n:=by omega
 have a2:i<=c:=by omega
 have a4:j<=c:=by omega
 have a8:¬(i:Int)=(j:Int):=by omega
 clear x y t A o s F r G h;go_enter Tryz.func92,Tryz.ntmps92;go_wp2_with fail;go_region_held3 (λ_=>True) (trivial)
  (first|(apply step_append_room rfl (.tmp 22) (.tmp 25) 81 rfl 86 V 1 Tryz.underlying81 Q U g 0 i c (by simp[Act.eval,Act.put]) q (n-j) (c-j) b (by simp[Act.eval,Act.put]) W S X (by omega) Y;rw[<-P.o]))
 all_goals go_wp2
 have k:i+(n-j)=n-1:=by have:=J.o;omega
 refine BI (v:=.s (some (aD g 0)) (i+(n-j)) c) ?_ rfl ⟨by rw[k],?_,iV _ _ I⟩
 .simp[results,Tryz.results92,go_sem]
 .rw[k,show n-(n-1)=1 by omega]
  have R:=K.o;have O:=gN [.pointer none] (n-1) M (by rw[oH];simp;omega);have D:=Yj O (m:=n-1) (by omega);have E:=qHl (xs:=xs) (i:=i) (.pointer none) (by omega);rw[R,<-L.o]at E;grind
def Ul(a i):lR (a.eraseIdx i)=(lR a).eraseIdx i:=by
 unfold lR;apply DU;intro b;rw[BN,KG,KG];split<;>rw[BN]
def aO.dropped {l e v g c i t}(h:aO l v D)(x:D.ov=.q g D.ts.length c)(hi:i<D.ts.length)(z:D.ts[i]=t)(s:e.ownsRow 0 86 1 (.q g (D.ts.length-1) c) (D.ts.length-1) ((lR D.ts).eraseIdx i))(f:Fr (Bl.one g) l e):
  aO (e.setCell (aD D.d 14) (.q g (D.ts.length-1) c)) v {D with ov:=.q g (D.ts.length-1) c,ts:=D.ts.eraseIdx i}/\eI (e.setCell (aD D.d 14) (.q g (D.ts.length-1) c)) D.β t:=by
 have r:D.ov.ownBlock=some g:=by rw[x];rfl
 have u:∀{n:Bl},(∀b,n b->b<l.heap.size/\D.ov.ownBlock≠some b/\b≠D.d)->On n l (e.setCell (aD D.d 14) (.q g (D.ts.length-1) c)):=λm=>(f.on (λb a=>⟨(m b a).1,λd=>by simp only[Bl.one]at d;grind⟩)).setCell (p:=(aD D.d 14)) (λa=>(m _ a).2.2 rfl) _;have o:=f.heap h.box (λd=>by simp only[Bl.one]at d;exact h.noRow (by rw[d];exact r));have q:∀j∈D.ts,eI (e.setCell (aD D.d 14) (.q g (D.ts.length-1) c)) D.β j:=λj k=>(h.each j k).on (u (λb a=>⟨(h.each j k).lies b a,h.txRow (h.each j k) b a,λd=>h.noTx k (d▸a)⟩));refine⟨⟨by have:=aB o 14 (.q g (D.ts.length-1) c);simpa using this,h.file.on (u (λb a=>⟨h.file.lies b a,h.fileRow b a,λd=>h.noFile (d▸a)⟩)),?_,?_,h.apart.sublist (DF _ _)⟩,q t (z▸AA hi)⟩
 .have y:e.ownsRow 0 86 1 (.q g (D.ts.length-1) c) (D.ts.eraseIdx i).length (lR (D.ts.eraseIdx i)):=by
   rw[List.length_eraseIdx,AU hi,Ul];exact s
  exact aS y ((CN (λb=>(Value.q g (D.ts.length-1) c).ownBlock=some b) e).setCell (p:=(aD D.d 14)) (λa=>(aP s o (by decide)) a) _) (λb a=>a)
 .intro j k
  exact q j (List.mem_of_mem_eraseIdx k)
def Mm(D j x i t w)(h:aO w j D)(n:D.ts.length<=1000000)(hi:i<D.ts.length)(A:D.ts[i]=t)(B:gG D.ts x=i):
  cL 43 #[.p D.d 0,.i x] w λe w'=>e=.r (.tuple #[.p t.b 0,.i 0])/\∃g c,D.ov=.q g D.ts.length c/\aO w' j {D with ov:=.q g (D.ts.length-1) c,ts:=D.ts.eraseIdx i}/\eI w' D.β t/\Fr (λk=>k=D.d\/k=g) w w':=by
 obtain⟨g,c,l,ac,_⟩:=wW h.row (by omega);have s:D.ts.length<=c/\c<=9223372036854775807:=by
  obtain⟨_,G⟩:=h.row;rw[l]at G;rcases G with⟨o,_⟩|⟨ak,ag,ah,o,al,ac,ad,aa,am,ao⟩
  .simp at o
  .simp only[AQ,BB,CC,DD,CV]at o
   obtain⟨rfl,rfl⟩:=o;exact⟨ad,aa⟩
 have a8:=gJ D j x i t w h n hi A B;have P:Hid (∀X,bW w X->cL 91 #[.p D.d 0,.i x] X λe w'=>e=.r (.i (i:Int))/\bW X w'):=by
  intro X b;have:=zK D j x X (h.on (vV b h.lies)) n;rw[B]at this;exact this
 have O:Hid (∀X,bW w X->cL 92 #[.q g D.ts.length c,.i (i:Int),.i ((i:Int)+1)] X λe w'=>e=.r (.q g (D.ts.length-1) c)/\w'.ownsRow 0 86 1 (.q g (D.ts.length-1) c) (D.ts.length-1) ((lR D.ts).eraseIdx i)/\Fr (Bl.one g) X w'):=by
  intro X b;have F:=(h.on (vV b h.lies)).row;rw[l]at F;have:=Rw g D.ts.length c i (i+1) 0 (lR D.ts) X F (λu H=>by unfold lR at H;obtain⟨y,_,rfl⟩:=AW.1 H;rfl) rfl hi n s.1 s.2;simpa using this
 have Q:Hid (∀X,bW w X->aO X j D):=λX b=>h.on (vV b h.lies);have N:Hid (∀X,aO X j D->X.c D.d 14=some (.q g D.ts.length c)):=by
  intro X b;obtain⟨S,T,Y,Z,a0,a1,a2,a3,c8,c9,ar,U,V,W,m⟩:=eQ b.box;rw[l]at m;exact m
 have M:Hid (∀X a,aO X j D->Fr (Bl.one g) X a->(∃v,a.c D.d 14=some v)/\∀k,a.frozen? (aD D.d k)=false):=by
  intro X a b ab;have E:=ab.heap b.box (λe=>by simp only[Bl.one]at e;exact b.noRow (by rw[e,l];rfl));obtain⟨S,T,Y,Z,a0,a1,a2,a3,c8,c9,ar,U,V,W,m⟩:=eQ E;exact⟨⟨_,m⟩,aA E⟩
 have an:(i:Int)+1<=9223372036854775807:=by omega
 have C:Hid (D.ov=.q g D.ts.length c):=l;have R:Hid (D.ts[i]=t):=A;have ap:=(gL h.box);clear l A B h s;go_enter Tryz.func43,Tryz.ntmps43;go_wp2_with (first
  |(go_at_call 46;apply Calls.m a8;rintro e af ⟨rfl,r⟩;have a7:=P.o af r)
  |(go_at_call 91;apply Calls.m a7;rintro e a ⟨rfl,a9⟩;have d:=r.t (a9.m r.size);have q:=Q.o a d;have m:=N.o a q;have a6:=O.o a d)
  |(go_at_call 92;apply Calls.m a6;rintro e I ⟨rfl,ae,f⟩;obtain⟨⟨aq,ai⟩,aj⟩:=M.o a I q f))
 obtain⟨a4,a5⟩:=aO.dropped q C.o hi R.o ae f;have J:Fr (λk=>k=D.d\/k=g) w a:=⟨d.os,d.tape,d.output,d.size,λk z _=>d.block k z⟩;have K:Fr (λk=>k=D.d\/k=g) a I:=⟨f.os,f.tape,f.output,f.size,λk z n=>f.block k z (λe=>n (.inr e))⟩;have L:=(J.t K).setCell (p:=(aD D.d 14)) (.inl (.inl rfl)) (.q g (D.ts.length-1) c);go_ret2;exact⟨rfl,g,c,C.o,a4,a5,L⟩
def Ns(β sv lv fs)(m:(fs.life==0)=false)(root d g f a o u w)(n:bQ fs root o)(p:Hg u o)(q:u.length=4096)(l:aF w β sv lv fs)(j:bB w a u)(c b)(r:cW w c #[.p β 0,.i root,.s d g f] 90)(s:cW w b #[.q a 4096 4096] 139):
  cL 115 #[.p c 0,.p b 0] w λe w'=>e=.r (.i 0)/\bB w' a (marks u (cR o))/\Fr (Bl.one a) w w':=by
 have⟨t,x,y⟩:=eC r;have z:w.c b 0=some (.q a 4096 4096):=by simp[World.cell?,s]
 go_enter Tryz.func115,Tryz.ntmps115;go_wp2_with (go_at_call 84;apply Calls.m (Hh β sv lv fs m root d g f a o u w n p q l j);rintro e A ⟨⟨v,rfl⟩,k,i⟩);go_ret;simp_all
def Tv(β sv lv fs)(C:(fs.life==0)=false)(root d g f a o u w)(D:bQ fs root o)(E:Hg u o)(G:u.length=4096)(n:aF w β sv lv fs)(z:bB w a u)(L:a<w.heap.size):
  cL 85 #[.agg #[.p β 0,.i root,.s d g f],.q a 4096 4096] w λe w'=>e=.r (.bool true)/\bB w' a (marks u (cR o))/\Fr (Bl.one a) w w':=by
 obtain⟨b,k,i,I,r,-⟩:=al2 w (.cells #[.p β 0,.i root,.s d g f] 90) (.cells #[.q a 4096 4096] 139); have K:=(gL r);obtain⟨c,h,-,m,-⟩:=al1 b (.cells #[.i 0] 48);have j:bW w c:=h▸i.alloc i.size _;have x:=Gv 115 #[] #[.p w.heap.size 0,.p (w.heap.size+1) 0] (λ_ _=>rfl) b (λs w'=>s=0/\bB w' a (marks u (cR o))/\Fr (Bl.one a) c w') (by
  rw[h];exact (Ns β sv lv fs C root d g f a o u c D E G (n.on (vV j n.lies)) (z.on (Y:=Bl.one a) (vV j (oK (by omega))) rfl) w.heap.size (w.heap.size+1) (h▸aQ _ I) (h▸aQ _ r)).m λe w' ⟨B,H,q⟩=>⟨0,B,q.heap m (oN (by omega)),rfl,H,q⟩)
 have J:=(gL m);go_enter Tryz.func85,Tryz.ntmps85;go_wp2_with (go_at_call 81;apply Calls.m x;rintro e O ⟨s,t,rfl,⟨rfl,A,y⟩,M⟩);go_ret;exact⟨rfl,A.on (Y:=Bl.one a) ((CN (Bl.one a) t).setCell (p:=(aD b.heap.size 0)) (λl=>by simp only[Bl.one,aD]at l;omega) _) rfl,((AB j).t y).s b.heap.size 0 (.inr i.size)⟩
def qGq:(Tryz.prog.info? 4).map (λi=>(i.zero,i.size,i.bytes))=some (some (.bool false),1,1):=by kernel_rfl
def Va(n):(madeCells (Value.bool false).cells (n * 1)).toList=(List.replicate n false).map Value.bool:=by
 apply GB
 .simp[madeCells]
 .intro c a b
  simp[madeCells,Value.cells,Nat.mod_one]
def Jn(W):∃b,(Instr.makeSlice 139 (.i 4096) (.i 4096)).run Tryz.prog W=.ok (.q W.heap.size 4096 4096) b/\bB b W.heap.size (List.replicate 4096 false)/\bW W b:=by
 have⟨j,d,g,h,i⟩:=EX qGq;have⟨b,f,c,a⟩:=JP (P:=Tryz.prog) W 0 139 4 j (.bool false) 1 Tryz.underlying139 d g h .i64 .i64 4096 (by omega) (by rw[i];omega) (by unfold maxLen;omega) (AG _);rw[Va]at c;exact⟨b,f,c,a.os,a.tape,a.output,a.size,λk e=>a.block k e (by simp)⟩
def qNa(s:ByteArray):Prop:=¬(s.size=256/\(dN s.data.toList).encE=0/\(dN s.data.toList).encS=s)
abbrev kH(z:Int):List PanicEntry:=[{v:=.iface 172 (.agg #[.int .i64 z]),recovered:=false}]
def Fy(z w):cL 139 #[.i z] w λe w'=>e=.panicked (kH z)/\w'=w:=by
 go_enter Tryz.func139,Tryz.ntmps139;go_wp2;exact⟨rfl,rfl,rfl⟩
def Bp{s}(f:qNa s)(w):
  cL 143 #[.t s] w λe w'=>e=.r (.tuple #[.agg #[.i 0,.i 0,.i 0,.i 0,.n,.n,.n,.e],.i 2])/\bW w w':=by
 apply(wC s w).m;rintro e w' ⟨d,(⟨a,b,c,_⟩|⟨_,rfl⟩)⟩
 .exact absurd ⟨a,b,c⟩ f
 grind
def enc1(y:Nat×Pg):Nat×ByteArray:=(y.1,y.2.encS)
def Ur(next d)(h:d.size<=240):(iP next d).small:=by
 exact⟨by simp[iP],by simp[iP],by simp[iP],by simp[iP],by simp[iP,eS,aL],by simp[iP,mS,aL],(by simp only[iP];omega)⟩
def Um(w S g)(b:g.keys=[])(c:g.kids=[])(d:g.ents=[])(f e a):Hf w S g none none none f e a:=⟨.inl (by rw[b];rfl),.inl (by rw[c];rfl),.inl (by rw[d];rfl)⟩
def iK(b:Nat)(Sf:Bl)(fr:List Nat)(wv:Value)(ws:List (Nat×ByteArray))(w:World)(x:Nat)(l:List (Nat×Pg))(e:Ending)(w':World):Prop :=
 Fr (fpL b wv) w w'/\((l.length<=fr.length/\e=.returned (.int .i64 x)/\∃fa' fc' wv',fG w' b Sf fa' fc' (fr.drop l.length) wv' (ws++l.map enc1)/\∀k,wv'.ownBlock=some k->wv.ownBlock=some k\/w.heap.size<=k)\/(fr.length<l.length/\e=.panicked (kH 8)))
def iK.seq {g f p o w m n q l j e}(h:Fr (fpL b f) w m)(i:∀k,p.ownBlock=some k->f.ownBlock=some k\/w.heap.size<=k)(A:l.length<=fr.length)(c:iK b g (fr.drop l.length) p (o++l.map enc1) m q j e n):iK b g fr f o w q (l++j) e n:=by
 have⟨v,c⟩:=c;rw[BE]at c;refine⟨h.grow v (λk a=>?_),?_⟩
 .rcases a with a|a
  .exact .inl (.inl a)
  .exact(i k a).imp (λt=>.inr t) id
 .rw[jK]
  rcases c with⟨u,rfl,r,s,z,x,y⟩|⟨u,rfl⟩
  .refine .inl ⟨by omega,rfl,r,s,z,by simp_all,λk a=>?_⟩
   .rcases y k a with d|d
    .exact i k d
    .exact .inr (vJ h.size d)
  grind
def iK.full {d c g w a h l f}(e:Fr (fpL b c) w a)(i:fr.length<l.length):iK b d fr c g w h (l++f) (.panicked (kH 8)) a:=⟨e,.inr ⟨by grind,rfl⟩⟩
def iK.ahead {c a i w f g j e}(d:Fr (fpL b a) w f)(h:iK b c fr a i f j l e g):iK b c fr a i w j l e g:=⟨d.t h.1,h.2.imp (λ⟨n,o,k,m,t,p,q⟩=>⟨n,o,k,m,t,p,λs r=>(q s r).imp id (λh=>vJ d.size h)⟩) id⟩
def qAy(b m n o q p a c d f g i j k w)(h:fG w b m n o [] q p):
  cL 209 #[.p b 0,.agg #[a,c,d,f,g,i,j,k]] w λe w'=>e=.panicked (kH 8)/\bW w w':=by
 have l:bW w (w.alloc (.cells #[a,c,d,f,g,i,j,k] 80)):=bA _ _;have⟨t,u⟩:=bY ((h.fr l).box);go_enter Tryz.func209,Tryz.ntmps209;go_wp2_with (go_at_call 139;apply(Fy 8 _).m;rintro e w' ⟨rfl,s⟩;subst w');exact⟨rfl,rfl,l⟩
def Eg(b c i j fr d a g n l e o m f S w)(h:fG w b c i j fr d a)(v:Hf w S g n l e o m f)(x:lW S w)(y:¬S b)(k:0<fr.length->g.small/\g.encE=0)(B:a.length<=100000):
  cL 209 #[.p b 0,.agg #[.i g.kind,.i g.ver,.i g.root,.i g.next,.s n g.keys.length o,.s l g.kids.length m,.s e g.ents.length f,.t g.data]] w (iK b c fr d a w (fr.getD 0 0) [(fr.getD 0 0,g)]):=by
 cases fr with
 |nil =>
  apply(qAy b c i j d a _ _ _ _ _ _ _ _ w h).m;rintro q w' ⟨rfl,z⟩;exact⟨AB z,.inr ⟨by simp,rfl⟩⟩
 |cons p fr =>
  have⟨k,s⟩:=k (by simp);apply(qFj b c i j p fr d a g n l e o m f S w h v x y k s B).m;rintro q w' ⟨rfl,r,C,u,t,A⟩;exact⟨t,.inl ⟨by simp,rfl,r,_,C,u,A⟩⟩
def Il(b x):∀(k:Nat) (v:ByteArray) (F:Option Addr) (G:Nat) (fr:List Nat) (E:Value) (u:List (Nat×ByteArray)) (w:World) (h:fG w b x F G fr E u) (a8:v.size<=240 * k) (a9:v.size<=100000) (P:∀p∈fr,bI (p:Nat)=true) (Z:u.length+fr.length<=100000),
  cL 211 #[.p b 0,.t v] w (iK b x fr E u w (jW (iJ k v fr)) (iJ k v fr).reverse)
 |k,v,F,G,fr,E,u,w,h,a8,a9,P,Z=>by
  by_cases z:v.size=0
  .have a2:=uC z
   subst a2;rw[kN _ _ _ z];go_enter Tryz.func211,Tryz.ntmps211;go_wp2;go_ret;exact⟨AE _ _,.inl ⟨AG _,rfl,F,G,E,by grind,λk a5=>.inl a5⟩⟩
  .cases k with
   |zero=>omega
   |succ k =>
    have a7:¬v=⟨#[]⟩:=λm=>z (by rw[m];rfl);rw[kO _ _ _ z];have g:=Il b x k (v.extract (min v.size 240) v.size) F G fr E u w.drew (h.fr ((AC _ w).drew)) (by rw[iA _ _ _ (jU _)];omega) (by rw[iA _ _ _ (jU _)];omega) P Z;have⟨c,O⟩:=nM (iJ k (v.extract (min v.size 240) v.size) fr);have V:c.length<=fr.length->∀R∈c,R.1∈fr:=λC=>by rw[<-O]at C⊢;exact tG (k:=k) (v:=v.extract (min v.size 240) v.size) (fr:=fr) C
    rw[O]at g⊢;have I:(v.extract 0 (min v.size 240)).size=min v.size 240:=by simp
    have f:Hid (∀(n:Option Addr) (o:Nat) (j:Value) (w':World),c.reverse.length<=fr.length->fG w' b x n o (fr.drop c.reverse.length) j (u++c.reverse.map enc1)->cL 209 #[.p b 0,.agg #[.i 4,.i 0,.i 0,.i (jW c:Nat),.n,.n,.n,.t (v.extract 0 (min v.size 240))]] w' (iK b x (fr.drop c.reverse.length) j (u++c.reverse.map enc1) w' (fr.getD c.length 0) [(fr.getD c.length 0,iP (jW c) (v.extract 0 (min v.size 240)))])):=by
     intro n o j w' C y;rw[DT]at C y⊢;have m:fr.getD c.length 0=(fr.drop c.length).getD 0 0:=by simp
     rw[m];refine Eg b x n o _ j _ (iP (jW c) (v.extract 0 (min v.size 240))) none none none 0 0 0 Bl.none w' y (Um _ _ _ rfl rfl rfl 0 0 0) (λ_ h=>h.elim) (λh=>h) (λz=>⟨Ur _ _ (by rw[I];omega),Rp _ _ ?_ (by rw[I];omega) (by rw[I];omega)⟩) (by grind);cases c with
     |nil=>exact .inl rfl
     |cons R l=>exact .inr (P _ (V C R (by simp)))
    rw[GU];have⟨J,X⟩:=nM (fr.getD c.length 0);have T:Hid (jW ((J,iP (jW c) (v.extract 0 (min v.size 240))):: c)=J):=rfl;rw[X]at f⊢;rw[T.o];have⟨B,U⟩:=nM (jW c);rw[U]at g f⊢;have⟨a0,W⟩:=nM (iP B (v.extract 0 (min v.size 240)));rw[W]at f⊢;have⟨a1,Y⟩:=nM (c.reverse);rw[Y]at g f⊢;clear O V X I T U W Y;have ad:v.toList.isEmpty=false:=Qk.2 a7;by_cases hle:v.size<=240
    .have H:min v.size 240=v.size:=by omega
     rw[H]at g f;have a3:v.extract v.size v.size=ByteArray.empty:=by simp
     have a4:v.extract 0 v.size=v:=extract_all (jU _);rw[a3]at g;rw[a4]at f;have a6:(v.size:Int)<=240:=by omega
     go_enter Tryz.func211,Tryz.ntmps211;go_wp2;apply cS (S:=λ_=>True) 11 (by kernel_rfl);have M:True:=trivial;apply tks [(0,.p b 0),(1,.p b 0),(2,.t v),(3,.i v.size),(4,.t ByteArray.empty),(6,.t v),(7,.i v.size),(8,.t v)] (by assumption);iterate 8 (refine⟨_,rfl,by kernel_rfl,λ_ _ _ h=>h,.inl ⟨by rfl,λw s=>by(try dsimp only at s);go_simp⟩,?_⟩;try simp only[pS])
     apply tke;refine aR (i:=5) (by kernel_rfl) rfl (λK d=>?_);go_simp;go_at_call 211
     apply Calls.m g
     intro m Q ⟨L,r⟩;have q:=(AE _ w).drew.t L;rcases r.symm with⟨e,rfl⟩|⟨e,rfl,n,o,j,y,D⟩
     .exact⟨rfl,iK.full q e⟩
     simp only[];apply d _ _ (λ_=>trivial);try simp only[pS]
     refine mE (i:=9) (v:=.agg #[.i 4,.i 0,.i 0,.i B,.n,.n,.n,.t v]) rfl (by kernel_rfl) (λ_ _ _ h=>h) (.inl ⟨by rfl,λw s=>by(try dsimp only at s);go_simp⟩) (by assumption) (λM=>?_);try simp only[pS]
     refine aR (i:=10) (by kernel_rfl) rfl (λK d=>?_);go_simp;go_at_call 209
     apply Calls.m (f n o j Q e y)
     intro m aa ⟨A,r⟩;rcases r.symm with⟨t,rfl⟩|⟨t,rfl,N⟩
     .exact⟨rfl,iK.seq q D e ⟨A,.inr ⟨t,rfl⟩⟩⟩
     simp only[];apply d _ _ (λ_=>trivial);try simp only[pS]
     refine aR (i:=11) (by kernel_rfl) rfl (λK d=>?_);go_simp;apply d _ _ (λ_=>by trivial);clear d K;try simp only[pS]
     refine dC (by kernel_rfl) ?_ _;go_wp2;go_ret;exact iK.seq q D e ⟨A,.inl ⟨t,rfl,N⟩⟩
    .have H:min v.size 240=240:=by omega
     rw[H]at g f;have a6:¬(v.size:Int)<=240:=by omega
     have ac:(240:Int)<=(v.size:Int):=by omega
     have ab:240<=v.size:=by omega
     clear H;go_enter Tryz.func211,Tryz.ntmps211;go_wp2;apply cS (S:=λ_=>True) 11 (by kernel_rfl);have M:True:=trivial;apply tks [(0,.p b 0),(1,.p b 0),(2,.t v),(3,.i 240),(4,.t (v.extract 240 v.size)),(6,.t v),(7,.i 240),(8,.t (v.extract 0 240))] (by assumption);iterate 8 (refine⟨_,rfl,by kernel_rfl,λ_ _ _ h=>h,.inl ⟨by rfl,λw s=>by(try dsimp only at s);go_simp⟩,?_⟩;try simp only[pS])
     apply tke;refine aR (i:=5) (by kernel_rfl) rfl (λK d=>?_);go_simp;go_at_call 211
     apply Calls.m g
     intro m Q ⟨L,r⟩;have q:=(AE _ w).drew.t L;rcases r.symm with⟨e,rfl⟩|⟨e,rfl,n,o,j,y,D⟩
     .exact⟨rfl,iK.full q e⟩
     simp only[];apply d _ _ (λ_=>trivial);try simp only[pS]
     refine mE (i:=9) (v:=.agg #[.i 4,.i 0,.i 0,.i B,.n,.n,.n,.t (v.extract 0 240)]) rfl (by kernel_rfl) (λ_ _ _ h=>h) (.inl ⟨by rfl,λw s=>by(try dsimp only at s);go_simp⟩) (by assumption) (λM=>?_);try simp only[pS]
     refine aR (i:=10) (by kernel_rfl) rfl (λK d=>?_);go_simp;go_at_call 209
     apply Calls.m (f n o j Q e y)
     intro m aa ⟨A,r⟩;rcases r.symm with⟨t,rfl⟩|⟨t,rfl,N⟩
     .exact⟨rfl,iK.seq q D e ⟨A,.inr ⟨t,rfl⟩⟩⟩
     simp only[];apply d _ _ (λ_=>trivial);try simp only[pS]
     refine aR (i:=11) (by kernel_rfl) rfl (λK d=>?_);go_simp;apply d _ _ (λ_=>by trivial);try simp only[pS]
     refine dC (by kernel_rfl) ?_ _;go_wp2;go_ret;exact iK.seq q D e ⟨A,.inl ⟨t,rfl,N⟩⟩
def qBa(w:World)(a z):(w.alloc (.cells #[] a)).ownsRow 0 a z (.q w.heap.size 0 0) 0 []:=by
 refine⟨by simp,.inr ⟨w.heap.size,0,#[],rfl,AG _,aC w _,jU _,by unfold maxLen;omega,by simp,by simp⟩⟩
def qDb(b a f es S w)(l:aH w S (some (aD b a)) (aT es))(m:lW S w)(t:es.length<=100000)(s:es≠[]):
  cL 210 #[.s (some (aD b a)) es.length f] w λe w'=>∃v,e=.r v/\w'.ownsRow 0 69 4 v es.length (aT es)/\bW w w'/\nW v w:=by
 have p:∀d c,(aT es)[d]?=some c->(w.alloc (.cells #[] 69)).cell? (((aD b a):Addr).add d)=some c:=by
  intro d c q;have⟨r,x,j,n,o⟩:=l.val q;simp only[BB,CC,DD]at j;obtain⟨rfl,rfl⟩:=j;have e:((aD b a):Addr).add d=(aD b (a+d)):=by unfold Addr.add;split<;>simp_all
  rw[e,CK (w:=w) (DA w _ b (m b n))];exact o
 have u:∀(c:World),(binOp .eql 67 (.s (some (aD b a)) es.length f) .n).run Tryz.prog c=.ok (.bool false) c:=λc=>Go.Lib.run_eql_slice_nil (P:=Tryz.prog) c 67 69 (some (aD b a)) es.length f 0 0 Tryz.underlying67;go_enter Tryz.func210,Tryz.ntmps210;go_wp2_with (at_builtin;apply yK (w.alloc (.cells #[] 69)) rfl (.tmp 5) (.tmp 6) 67 69 _ 4 48 rfl Tryz.underlying67 Fq rfl (by decide) (.q w.heap.size 0 0) 0 [] rfl (qBa w _ 4) (aD b a) es.length f (aT es) rfl (by rw[oT]) p (Gj es) (by omega) (by omega);intro A y g);go_ret;refine⟨_,rfl,by simpa using g.row,((AC _ w).alloc (jU _) _).t (g.fr.below (by simp) (λk i=>by simp[Value.ownBlock]at i;omega)),λk i=>?_⟩;rcases g.lies k i with h|h
 .simp[Value.ownBlock]at h;omega
 .simp at h;omega
def Fh:∀(es:List En) (x:En) (fr:List Nat),aX (es++[x]) fr=((aX es fr).1++[oY x (fr.drop (aX es fr).2.length)],(aX es fr).2++(dU x (fr.drop (aX es fr).2.length)).reverse)
 |[],x,fr=>by simp[aX]
 |y :: es,x,fr=>by
  simp only[jF,aX,Fh es x,KW,jK,DT,BU]
def Px(es:List En)(fr j)(a:j<es.length):aX (es.take (j+1)) fr=((aX (es.take j) fr).1++[oY es[j] (fr.drop (aX (es.take j) fr).2.length)],(aX (es.take j) fr).2++(dU es[j] (fr.drop (aX (es.take j) fr).2.length)).reverse):=by
 rw[AN a,Fh]
def pY:∀(es:List En) (fr:List Nat) (j:Nat),(aX (es.take j) fr).2.length<=(aX es fr).2.length
 |[],_,_=>by simp[aX]
 |x :: es,fr,0=>by simp[aX]
 |x :: es,fr,j+1=>by
  have:=pY es (fr.drop (dU x fr).length) j;simp only[EQ,aX,jK,DT];omega
def Ws(a B x b o s)(f:b.e=⟨x.e.key,s,x.e.size,o⟩):((aT (a++x :: B)).set (a.length * 4+3) (.i o)).set (a.length * 4+1) (.t s)=aT (a++b :: B):=by
 have c:aT (a++x :: B)=aT a++(x.e.cells++aT B):=by simp[aT]
 have d:aT (a++b :: B)=aT a++(b.e.cells++aT B):=by simp[aT]
 rw[c,d,<-(oT a),EW _ _ (by omega),EW _ _ (by omega)];congr 1;rw[show(aT a).length+3-(aT a).length=3 by omega,show(aT a).length+1-(aT a).length=1 by omega,f];rfl
def Vg(es)(o:es.length<=100000)(d:∀x∈es,x.fits):(eM es).small:=by
 refine⟨by simp[eM],by simp[eM],by simp[eM];omega,?_,?_,?_,AG _⟩
 .intro l e
  obtain⟨x,f,rfl⟩:=AW.1 e;have:=d x f;exact⟨by have:=this.1;omega,by have:=this.2;omega⟩
 .simp[eM,eS,aL]
 .have h:∀(a:List En),(∀x∈a,x.fits)->((a.map (·.e)).flatMap Ent.bytes).length<=500 * a.length:=by
   intro a;induction a with
   |nil=>simp
   |cons x a ih =>
    intro b;have m:=ih (λi g=>b i (by simp[g]));have c:=b x (by simp);have n:(Ent.bytes x.e).length<=500:=by
     unfold Ent.bytes mM;have:=qC x.e.key;have:=qC x.e.val;have j:=c.1;have k:=c.2;split
     .rw[jK,jK];simp;omega
     .rw[jK,jK,jK,aL,aL];simp;omega
    rw[BH,AK,jK,jB];omega
  have:=h es d;simp only[eM,mS,jK,aL];omega
def fG.not {d f g c l}(h:fG w b d f g fr c l){cs t}(a:w.heap[k]?=some (.cells cs t))(i:t≠238)(j:t≠226):¬fpL b c k:=by
 rintro(rfl|e)
 .rw[h.box]at a
  simp at a;exact i a.2.symm
 .exact aP h.own a j e
def fG.beside {e g d l}(h:fG w b e g i fr d l){Y}(f:Fr Y w w')(j:∀k,Y k->¬fpL b d k)(m:∀k,Y k->¬e k):fG w' b e g i fr d l :=
 ⟨f.heap h.box (λc=>j b c (.inl rfl)),h.free.on (f.on (λk a=>⟨(h.apart k a).1,λc=>m k c a⟩)),h.some',h.cap,aS h.own (f.on (Z:=λk=>d.ownBlock=some k) (λk a=>⟨aK h.own a,λc=>j k c (.inr a)⟩)) (λk a=>a),λk a=>⟨jY (h.apart k a).1 f.size,(h.apart k a).2⟩⟩
def kZ {z g n c}(h:w.ownsRow 0 e z (.q g n c) n xs):∃b,cW w g b e:=by
 have⟨_,d⟩:=h;rcases d with⟨a,_⟩|⟨j,i,b,a,_,f,_⟩
 .simp at a
 .simp only[AQ,BB,CC,DD,CV]at a
  obtain⟨rfl,_⟩:=a;exact⟨b,f⟩
def qGg(b Sf fs es ea ec S fa fc fr wv ws w)(h:fG w b Sf fa fc fr wv ws)(hR:aH w S ea (aT es))(hS:lW S w)(hne:es≠[])(hr:cQ es)(hg:∀x∈es,x.good fs)(ht:tot esz es<=250)(hn:es.length<=1000)(hp:∀p∈fr,bI (p:Nat)=true)(hws:ws.length+fr.length<=10000):
  cL 194 #[.p b 0,.s ea es.length ec] w (iK b Sf fr wv ws w (fr.getD (aX es fr).2.length 0) ((aX es fr).2++[(fr.getD (aX es fr).2.length 0,eM (aX es fr).1)])):=by
 obtain⟨b0,o0,rfl,hb0⟩:=hR.addr (zN (BQ.2 hne));have hC:=qDb b0 o0 ec es S w hR hS (by omega) hne;go_enter Tryz.func194,Tryz.ntmps194;go_wp2_with (go_at_call 210;apply Calls.m hC;rintro e wc ⟨v,rfl,hown,hbc,hlies⟩;obtain⟨g,cE,rfl,hgl,hcE⟩:=wW hown (BQ.2 hne));have hgw:w.heap.size<=g:=hlies g rfl;have hL0:=h.fr hbc;have bP:bW wc (wc.alloc (.cells #[.i 3,.i 0,.i 0,.i 0,.n,.n,.q g es.length cE,.e] 80)):=bA _ _;have xP:=aC wc (.cells #[.i 3,.i 0,.i 0,.i 0,.n,.n,.q g es.length cE,.e] 80);have hLP:=hL0.fr bP;have hoP:=CH (w:=wc) hown (.cells #[.i 3,.i 0,.i 0,.i 0,.n,.n,.q g es.length cE,.e] 80);obtain⟨WP,hWP⟩:=nM (wc.alloc (.cells #[.i 3,.i 0,.i 0,.i 0,.n,.n,.q g es.length cE,.e] 80));obtain⟨p0,p1,p2,p3,p4,p5,p6,p7⟩:=bO xP;have FP:Fr (fpL b wv) w WP:=(AB hbc).t (hWP▸AB bP);go_loopw [14] (λi wr=>∃(j:Nat) (fa':Option Addr) (fc':Nat) (wv':Value),i=.i j/\j<=es.length/\(aX (es.take j) fr).2.length<=fr.length/\fG wr b Sf fa' fc' (fr.drop (aX (es.take j) fr).2.length) wv' (ws++(aX (es.take j) fr).2.map enc1)/\wr.ownsRow 0 69 4 (.q g es.length cE) es.length (aT ((aX (es.take j) fr).1++es.drop j))/\cW wr wc.heap.size #[.i 3,.i 0,.i 0,.i 0,.n,.n,.q g es.length cE,.e] 80/\Fr (fpL b wv) w wr/\∀k,wv'.ownBlock=some k->wv.ownBlock=some k\/w.heap.size<=k) (λi _=>es.length-(intOf i).toNat)
 case atStart=>rw[hWP]at hLP hoP xP⊢;exact⟨0,fa,fc,wv,rfl,AG _,by simp[aX],by simpa[aX] using hLP,by simpa[aX] using hoP,xP,FP,λk hk=>.inl hk⟩
 case round =>
  obtain⟨j,fa',fc',wv',rfl,hj,hrm,hL,ho,xp,hF,hli⟩:=hrel;clear p0 p1 p2 p3 p4 p5 p6 p7;obtain⟨p0,p1,p2,p3,p4,p5,p6,p7⟩:=bO xp;have zF:=hF.size;by_cases hlt:j<es.length
  .obtain⟨x,hx⟩:=nM (es[j])
   have hxm:x∈es:=hx▸AA hlt;obtain⟨A,hA⟩:=nM ((aX (es.take j) fr).1);have hAl:A.length=j:=by rw[<-hA,rL,AY];omega
   obtain⟨f,hf⟩:=nM (fr.drop (aX (es.take j) fr).2.length);have hst:=Px es fr j hlt;rw[hx,hA,hf]at hst;have hle1:=pY es fr (j+1);rw[hst]at hle1;simp only[jK,DT]at hle1;have hfl2:f.length=fr.length-(aX (es.take j) fr).2.length:=by rw[<-hf,BE]
   have hfp:∀p∈f,bI (p:Nat)=true:=λp hpp=>hp p (BS (hf▸hpp));have hdr:es.drop j=x :: es.drop (j+1):=by rw[CA hlt,hx]
   rw[hA,hdr]at ho;rw[hf]at hL;have hcell:∀i (u:Value),i<4->x.e.cells[i]?=some u->wr.cell? (aD g (j * 4+i))=some u:=λi u hi hu=>by
    have hidx:(aT (A++x :: es.drop (j+1)))[j * 4+i]?=some u:=by
     have e1:aT (A++x :: es.drop (j+1))=aT A++(x.e.cells++aT (es.drop (j+1))):=by simp[aT]
     have hA4:(aT A).length=j * 4:=by rw[oT,hAl]
     rw[e1,BC (by omega),hA4,show j * 4+i-j * 4=i by omega,BO (by have:x.e.cells.length=4:=rfl;omega)];exact hu
    obtain⟨g',e1,_,_,e2⟩:=xD ho hidx;simp only[BB,CC,DD]at e1;rw[e1];exact e2
   have hgx:=hg x hxm;obtain⟨⟨xk,xv,xs,xo⟩,xch⟩:=x;have c0:wr.cell? (aD g (j * 4))=some (.t xk):=hcell 0 _ (by decide) rfl;have c1:wr.cell? (aD g (j * 4+1))=some (.t xv):=hcell 1 _ (by decide) rfl;have c2:wr.cell? (aD g (j * 4+2))=some (.i xs):=hcell 2 _ (by decide) rfl;have c3:wr.cell? (aD g (j * 4+3))=some (.i xo):=hcell 3 _ (by decide) rfl;have hcE':es.length<=cE:=by have:=ho.2;rcases this with⟨h1,_⟩|⟨_,cap,cur,h1,_,_,h2,_⟩;simp at h1;simp at h1;omega
   have nE:=aC wr (.cells #[.t xk,.t xv,.i xs,.i xo] 69);obtain⟨q0,q1,q2,q3⟩:=kA nE;have bE:bW wr (wr.alloc (.cells #[.t xk,.t xv,.i xs,.i xo] 69)):=bA _ _;have xpE:=aQ (.cells #[.t xk,.t xv,.i xs,.i xo] 69) xp;obtain⟨r0,r1,r2,r3,r4,r5,r6,r7⟩:=bO xpE;have hLE:=hL.fr bE;have hoE:=CH (w:=wr) ho (.cells #[.t xk,.t xv,.i xs,.i xo] 69);have FE:Fr (fpL b wv) w (wr.alloc (.cells #[.t xk,.t xv,.i xs,.i xo] 69)):=hF.t (AB bE);have HST:Hid (aX (es.take (j+1)) fr=(A++[oY ⟨⟨xk,xv,xs,xo⟩,xch⟩ f],(aX (es.take j) fr).2++(dU ⟨⟨xk,xv,xs,xo⟩,xch⟩ f).reverse)):=hst;have HF:Hid (fr.drop (aX (es.take j) fr).2.length=f):=hf;have HAL:Hid (A.length=j):=hAl;have same:(⟨⟨xk,xv,xs,xo⟩,xch⟩:En).newB=false->(∃(j_1:Nat) (fa':Option Addr) (fc':Nat) (wv':Value),(Value.int IntKind.i64 ((j:Int)+1))=.i j_1/\j_1<=es.length/\(aX (es.take j_1) fr).2.length<=fr.length/\fG (wr.alloc (.cells #[.t xk,.t xv,.i xs,.i xo] 69)) b Sf fa' fc' (fr.drop (aX (es.take j_1) fr).2.length) wv' (ws++(aX (es.take j_1) fr).2.map enc1)/\(wr.alloc (.cells #[.t xk,.t xv,.i xs,.i xo] 69)).ownsRow 0 69 4 (.q g es.length cE) es.length (aT ((aX (es.take j_1) fr).1++es.drop j_1))/\(wr.alloc (.cells #[.t xk,.t xv,.i xs,.i xo] 69)).heap[wc.heap.size]?=some (.cells #[.i 3,.i 0,.i 0,.i 0,.n,.n,.q g es.length cE,.e] 80)/\Fr (fpL b wv) w (wr.alloc (.cells #[.t xk,.t xv,.i xs,.i xo] 69))/\∀k,wv'.ownBlock=some k->wv.ownBlock=some k\/w.heap.size<=k):=by
    intro hnb;have e1:dU ⟨⟨xk,xv,xs,xo⟩,xch⟩ f=[]:=by rw[dU,hnb];rfl
    have e2:oY ⟨⟨xk,xv,xs,xo⟩,xch⟩ f=⟨⟨xk,xv,xs,xo⟩,xch⟩:=by rw[oY,hnb];rfl
    have e3:=HST.o;rw[e1,e2,List.reverse_nil,FD]at e3;refine⟨j+1,fa',fc',wv',by simp,by omega,by rw[e3];exact hrm,?_,?_,xpE,FE,hli⟩
    .rw[e3,HF.o];exact hLE
    .rw[e3,BU];exact hoE
   clear hst hf hAl hcell hx hA hdr hcE;by_cases ho0:xo=0
   .subst ho0
    by_cases hs60:60<xs
    .have hnb:(⟨⟨xk,xv,xs,0⟩,xch⟩:En).newB=true:=by simp[En.newB];omega
     obtain⟨gs1,gs2,gs3,gs4⟩:=nU hgx hnb;have ech:dU ⟨⟨xk,xv,xs,0⟩,xch⟩ f=iJ 2 xv f:=by rw[dU,hnb];rfl
     obtain⟨ch,hch⟩:=nM (iJ 2 xv f);have hlenw:(ws++(aX (es.take j) fr).2.map enc1).length+f.length<=100000:=by
      rw[jK,AF];omega
     have hV:=Il b Sf 2 xv fa' fc' f wv' (ws++(aX (es.take j) fr).2.map enc1) (wr.alloc (.cells #[.t xk,.t xv,.i xs,.i 0] 69)).drew (hLE.fr ((AC _ _).drew)) (by simp only at gs2;omega) (by simp only at gs2;omega) hfp hlenw;rw[hch]at hV;have elx:oY ⟨⟨xk,xv,xs,0⟩,xch⟩ f=⟨⟨xk,⟨#[]⟩,xs,(jW ch:Nat)⟩,ch⟩:=by rw[oY,hnb,AU rfl,ech,hch]
     have HST2:Hid (aX (es.take (j+1)) fr=(A++[⟨⟨xk,⟨#[]⟩,xs,(jW ch:Nat)⟩,ch⟩],(aX (es.take j) fr).2++ch.reverse)):=by
      show _=_;rw[HST.o,elx,ech,hch]
     obtain⟨hd,hhd⟩:=nM (jW ch);rw[hhd]at hV HST2;have HFU:Hid (f.length<ch.reverse.length->fr.length<(aX es fr).2.length):=λhh=>by have h1:=pY es fr (j+1);rw[HST2.o]at h1;simp only[jK]at h1;omega
     have hs6:(60:Int)<xs:=hs60;obtain⟨curE,hgE⟩:=kZ hoE;have zE:g<wr.heap.size:=(jJ.1 (kZ ho).choose_spec).1;have cB:∀{o:Nat}{u:Value},wr.cell? (aD g o)=some u->(wr.alloc (.cells #[.t xk,.t xv,.i xs,.i 0] 69)).cell? (aD g o)=some u:=λh=>by rw[CK (w:=wr) (bE.block g zE)];exact h
     have d1:=cB c1;have d3:=cB c3;have hnp:g≠wc.heap.size:=by omega
     have hpz:=(gL xp);clear same HST hnb ech hch elx hhd cB hs60 gs1 gs2 gs3 gs4;go_wp2;refine cS (S:=(λX=>X.cell? (aD wc.heap.size 6)=some (.q g es.length cE)/\X.cell? (aD wr.heap.size 1)=some (.t xv))) 9 (by kernel_rfl) ?_;have hHeld:=(show((λX:World=>X.cell? (aD wc.heap.size 6)=some (.q g es.length cE)/\X.cell? (aD wr.heap.size 1)=some (.t xv))) ((wr.alloc (.cells #[.t xk,.t xv,.i xs,.i 0] 69)).drew) from ⟨r6,q1⟩);refine tks [(0,.p wc.heap.size 6),(1,.q g es.length cE),(2,.i j),(3,.p b 0),(4,.p wr.heap.size 1),(5,.t xv)] (by assumption) ?_;iterate 6 (refine⟨_,rfl,by kernel_rfl,λ_ _ _ h=>h,.inl ⟨by rfl,λw hSw=>by(try dsimp only at hSw);go_simp⟩,?_⟩;try simp only[pS])
     refine tke ?_;refine aR (i:=6) (by kernel_rfl) rfl (λK hK=>?_);go_simp;go_at_call 211
     apply Calls.m hV
     rintro e wt ⟨hF2,hQ⟩;have hF4:Fr (fpL b wv) w wt:=FE.grow ((AE _ _).drew.t hF2) (λk hk=>by rcases hk with hk|hk;exact .inl (.inl hk);exact(hli k hk).imp (λh=>.inr h) id);rcases hQ.symm with⟨hl1,rfl⟩|⟨hl1,rfl,fa2,fc2,wv2,hL2,hli2⟩
     .exact⟨rfl,iK.full hF4 (HFU.o hl1)⟩
     simp only[]
     (have hF3:Fr (fpL b wv') (wr.alloc (.cells #[.t xk,.t xv,.i xs,.i 0] 69)) wt:=(AE _ _).drew.t hF2;have xpT:=hF3.heap xpE (hLE.not xpE (by decide) (by decide));have nET:=hF3.heap nE (hLE.not nE (by decide) (by decide));have hng:=hLE.not hgE (by decide) (by decide);have hoT:=aS hoE (hF3.on (Z:=λk=>k=g) (λk hk=>⟨by subst hk;exact(gL hgE),by subst hk;exact hng⟩)) (λk hk=>by simp[Value.ownBlock]at hk;exact hk.symm);obtain⟨r0,r1,r2,r3,r4,r5,r6,r7⟩:=bO xpT;obtain⟨q0,q1,q2,q3⟩:=kA nET;have d1T:=(hF3.cell (o:=j * 4+1) (gL hgE) hng).t d1;have d3T:=(hF3.cell (o:=j * 4+3) (gL hgE) hng).t d3;have gfr:=aA (hF3.heap hgE hng))
     refine hK.out _ _ (λ_=>⟨r6,q1⟩) ?_;clear hK K;try simp only[pS]
     have hHeld:=(show((λX:World=>X.cell? (aD wc.heap.size 6)=some (.q g es.length cE)/\X.cell? (aD wr.heap.size 1)=some (.t xv))) wt from ⟨r6,q1⟩);refine tks [(7,.p g (j * 4)),(8,.p g (j * 4+3))] (by assumption) ?_;iterate 2 (refine⟨_,rfl,by kernel_rfl,λ_ _ _ h=>h,.inl ⟨by rfl,λw hSw=>by(try dsimp only at hSw);go_simp⟩,?_⟩;try simp only[pS])
     refine tke ?_;refine aR (i:=9) (by kernel_rfl) rfl (λK hK=>?_);go_simp;refine hK.out _ _ (λe=>by cases e) ?_;clear hK K;try simp only[pS]
     refine dC (by kernel_rfl) ?_ _
     all_goals
      obtain⟨wz,hwz⟩:=nM (wt.setCell (aD g (j * 4+3)) (.i hd));rw[hwz];have fz:Fr (Bl.one g) wt wz:=hwz▸(AE (Bl.one g) wt).s g (j * 4+3);have xpz:=fz.heap xpT (oN (by omega));have hAl:=HAL.o;have hlenE:(aT (A++⟨⟨xk,xv,xs,0⟩,xch⟩:: es.drop (j+1))).length=es.length * 4:=by rw[oT,jK,jB,BE];omega
      have hoz:=dR hoT (j * 4+3) (by omega) (.i hd);rw[hwz]at hoz;have hoz2:=dR hoz (j * 4+1) (by rw[CL];omega) .e;have d1z:wz.cell? (aD g (j * 4+1))=some (.t xv):=by rw[<-hwz,DV _ _ _ _ (by simp)];exact d1T
      obtain⟨curz,hgz⟩:=kZ hoz;have zfr:=aA hgz;obtain⟨s0,s1,s2,s3,s4,s5,s6,s7⟩:=bO xpz;clear r0 r1 r2 r3 r4 r5 r6 r7 q0 q1 q2 q3 d1T d3T gfr p0 p1 p2 p3 p4 p5 p6 p7 d1 d3 c0 c1 c2 c3;go_wp2;have hput:=Ws A (es.drop (j+1)) ⟨⟨xk,xv,xs,0⟩,xch⟩ ⟨⟨xk,⟨#[]⟩,xs,(hd:Nat)⟩,ch⟩ (hd:Nat) ⟨#[]⟩ rfl;rw[hAl]at hput;rw[hput]at hoz2;have fz2:Fr (Bl.one g) wt (wz.setCell (aD g (j * 4+1)) .e):=fz.s g (j * 4+1);have hngT:¬fpL b wv2 g:=hL2.not (hF3.heap hgE hng) (by decide) (by decide);refine⟨⟨j+1,fa2,fc2,wv2,by simp,by omega,by rw[HST2.o,jK];omega,?_,?_,fz2.heap xpT (oN (by omega)),?_,?_⟩,by simp[intOf];omega⟩
      .rw[HST2.o]
       simp only[jK,BM];rw[<-KW,HF.o,<-BU];exact hL2.beside fz2 (λk hk=>by simp only[Bl.one]at hk;subst hk;exact hngT) (λk hk=>by simp only[Bl.one]at hk;subst hk;intro hs;have:=(h.apart k hs).1;omega)
      .rw[HST2.o,BU]
       exact hoz2
      .exact hF4.grow fz2 (λk hk=>.inr (by simp only[Bl.one]at hk;omega))
      .intro k hk
       rcases hli2 k hk with h1|h1
       .exact hli k h1
       .have h2:wr.heap.size+1<=k:=by simpa using h1
        exact .inr (by omega)
    .have SM:=same (by simp[En.newB];omega)
     have hs6:¬(60:Int)<xs:=hs60;clear same;go_wp2;exact⟨SM,by simp[intOf];omega⟩
   .have SM:=same (by simp[En.newB,ho0])
    have hob:(xo==0)=false:=by simpa using ho0
    clear same;go_wp2;exact⟨SM,by simp[intOf];omega⟩
  .obtain rfl:j=es.length:=by omega
   rw[BK]at hL ho;rw[List.drop_length,FD]at ho;obtain⟨les,hles⟩:=nM ((aX es fr).1);have hll:les.length=es.length:=by rw[<-hles];exact rL es fr
   have hE:0<(fr.drop (aX es fr).2.length).length->(eM les).small/\(eM les).encE=0:=λh0=>by
    rw[BE]at h0;refine⟨Vg les (by omega) (λy hy=>?_),?_⟩
    .rw[<-hles]at hy
     obtain⟨x,hx,f',hf',hfl',rfl,_⟩:=rN (P:=λ_ _=>True) es fr (by omega) y hy;have hgx:=hg x hx;refine⟨by rw[xN];exact hgx.2.1,?_⟩;unfold oY;split
     .exact AG _
     .exact(qQ hgx).2
    .rw[<-hles]
     exact Pq (fs:=fs) (n:=.leaf ⟨iW es,⟨#[]⟩⟩ es) ⟨hne,rfl,hr,ht,hg⟩ fr (by simp only[lG,jK,AM];omega) hp (fr.getD (aX es fr).2.length 0,eM (aX es fr).1) (by simp[lG])
   rw[hles]at ho;obtain⟨_,_,e1,_,hrow⟩:=bR ho;simp only[AQ,CV]at e1;obtain⟨rfl,rfl⟩:=e1;have hgz:g<wr.heap.size:=by obtain⟨_,h1⟩:=kZ ho;exact(gL h1)
   obtain⟨curE,hgE⟩:=kZ ho;rw[BK]at hrm;have hPg:=Eg b Sf fa' fc' _ wv' _ (eM les) none none (some (aD g 0)) 0 0 cE (λk=>k=g) wr hL ⟨.inl rfl,.inl rfl,(by
     have e:(eM les).ents.flatMap Ent.cells=aT les:=rfl;rw[e];exact hrow.m (λk hk=>by simp[Value.ownBlock]at hk;exact hk.symm))⟩ (λk hk=>by subst hk;exact hgz) (λe=>hL.not hgE (by decide) (by decide) (.inl e.symm)) hE (by
     rw[jK,AF];omega)
   have e1:(eM les).ents.length=es.length:=by simp[eM,hll]
   rw[e1]at hPg;have e2:(eM les).keys.length=0:=rfl;have e3:(eM les).kids.length=0:=rfl;rw[e2,e3]at hPg;have e4:(fr.drop (aX es fr).2.length).getD 0 0=fr.getD (aX es fr).2.length 0:=by simp[CB]
   rw[e4]at hPg;obtain⟨pl,hpl⟩:=nM (fr.getD (aX es fr).2.length 0);rw[hpl]at hPg;have HQ:Hid (∀e w',iK b Sf fr wv ws w pl ((aX es fr).2++[(pl,eM les)]) e w'->iK b Sf fr wv ws w (fr.getD (aX es fr).2.length 0) ((aX es fr).2++[(fr.getD (aX es fr).2.length 0,eM (aX es fr).1)]) e w'):=λe w' h=>by rw[hles,hpl];exact h
   change cL _ #[_,.agg #[.i 3,.i 0,.i 0,.i 0,.n,.n,.q g es.length cE,.e]] wr _ at hPg;generalize eM les=pg at hPg HQ;clear e1 e2 e3 e4 hles hll hpl;go_wp2_with (go_at_call 209;apply Calls.m hPg;rintro e wp ⟨hF2,hQ⟩;rcases hQ.symm with⟨hl2,rfl⟩|⟨hl2,rfl,hX⟩;exact⟨rfl,HQ.o _ _ (iK.seq hF hli hrm ⟨hF2,.inr ⟨hl2,rfl⟩⟩)⟩);go_ret;exact HQ.o _ _ (iK.seq hF hli hrm ⟨hF2,.inl ⟨hl2,rfl,hX⟩⟩)
def Uu(b f fs s es)(d:Ok0 fs (.leaf s es))(m S n o fr l e w)(h:fG w b f n o fr l e)(J:gH w S (nd0 (.leaf s es)) m)(r:lW S w)(I:es.length<=1000)(K:∀p∈fr,bI (p:Nat)=true)(L:e.length+fr.length<=10000):
  cL 174 #[.p b 0,.agg #[.t m.lo,.t m.hi,.i m.place,.s m.ea m.en m.ec,.s m.ka m.kn m.kc]] w (iK b f fr l e w (fr.getD (aX es fr).2.length 0) ((aX es fr).2++[(fr.getD (aX es fr).2.length 0,eM (aX es fr).1)])):=by
 have⟨y,u,O,g,z,i,v,N,x⟩:=m;have⟨_,_,_,_,_,a4,R,V,A,B,C,W,X,D,Y,T,U⟩:=J;obtain rfl:O=0:=A;obtain rfl:z=es.length:=B;obtain rfl:N=0:=C;obtain⟨a,t,c,P,-⟩:=al1 w (.cells #[.t y,.t u,.i 0,.s g es.length i,.s v 0 x] 242);have⟨Z,a0,a1,E,a3⟩:=cV P;have j:=qGg b f fs es g i S n o fr l e a (h.fr c) (D.on (vV c r)) (λM H=>jY (r M H) c.size) d.1 d.2.2.1 d.2.2.2.2 d.2.2.2.1 I K L;generalize (aX es fr).2++[(fr.getD (aX es fr).2.length 0,eM (aX es fr).1)]=lp at j⊢;generalize fr.getD (aX es fr).2.length 0=pp at j⊢;go_enter Tryz.func174,Tryz.ntmps174;go_wp2_with (go_at_call 194;apply Calls.m j;intro Q a5 ⟨q,F⟩;rcases F.symm with⟨k,rfl⟩|⟨k,rfl,G⟩;exact⟨rfl,iK.ahead (AB c) ⟨q,.inr ⟨k,rfl⟩⟩⟩);go_ret;exact iK.ahead (AB c) ⟨q,.inl ⟨k,rfl,G⟩⟩
def eZ(ns:List NT)(j:Nat):List ByteArray:=(ns.take j).tail.map (λn=>n.sp.lo)
def Vd(ns j)(b:j<ns.length)(c:0<j):eZ ns (j+1)=eZ ns j++[(ns[j]).sp.lo]:=by
 unfold eZ;rw[AN b,List.tail_append_of_ne_nil (by intro a;have:=CI List.length a;grind),BM];rfl
def qBv(ns):eZ ns 1=[]:=by
 unfold eZ;cases ns<;>rfl
def qBw(ns j)(a:j<=ns.length):(eZ ns j).length=j-1:=by
 unfold eZ;grind
def fG.notOwn {d f c r}(h:fG w b d f i fr c r)(p:w.ownsRow 0 e z v n xs)(j:e≠238)(l:e≠226):∀k,v.ownBlock=some k->¬fpL b c k:=by
 intro k a;have⟨_,m⟩:=p;rcases m with⟨rfl,_⟩|⟨g,s,t,rfl,_,o,_⟩
 .simp[Value.ownBlock]at a
 .simp[Value.ownBlock]at a
  subst a;exact h.not o j l
def eJ {Y}(b:w.ownsRow 0 e z v n xs)(f:Fr Y w w')(h:∀k,v.ownBlock=some k->¬Y k):w'.ownsRow 0 e z v n xs :=
 aS b (f.on (Z:=λk=>v.ownBlock=some k) (λk a=>⟨aK b a,h k a⟩)) (λk a=>a)
def Yz:(Tryz.prog.info? 3).map (λi=>(i.zero,i.size,i.bytes))=some (some (.i 0),1,8):=by kernel_rfl
def bB.box {c}(h:bB w c u):∃b,w.heap[c]?=some (.cells b 4 (0,0)):=by
 have⟨_,d⟩:=h;rcases d with⟨a,_⟩|⟨g,f,b,a,i,e,_⟩
 .simp at a
 .simp only[AQ,BB,CC,DD,CV]at a
  obtain⟨rfl,rfl⟩:=a;exact⟨b,e⟩
def mT(u:List Bool)(p:Nat):List Nat:=(List.range' 2 (p-2)).filter (λp=>!(u.getD p true))
def Wh (b:2<=p):mT u (p+1)=mT u p++(if u.getD p true then [] else [p]):=by
 unfold mT;rw[show p+1-2=(p-2)+1 by omega,List.range'_1_concat,GO,show 2+(p-2)=p by omega];congr 1;cases h:u.getD p true
 .have a:=h
  rw[CB]at a;simp[h,a]
 .have a:=h
  rw[CB]at a;simp[h,a]
def qCm (a:n<=p)(b:p<=n\/p=2):mT u p=eP n u:=by
 unfold mT eP;rw[show p-2=n-2 by omega]
def qCl:(mT u p).length<=p:=by
 unfold mT;apply vJ (KN _ _);rw[List.length_range'];omega
def qGy(D st o ao ot w)(h:aO w st D)(hn:D.ts.length<=1000000)(hl:(D.fs.life==0)=false)(ho:bQ D.fs (rootOf o) o)(hr:D.root=rootOf o)(hao:bQ D.fs (rootOf ao) ao)(har:D.aroot=rootOf ao)(hts:∀t∈D.ts,bQ D.fs (rootOf (ot t)) (ot t)/\t.root=rootOf (ot t)):
  cL 158 #[.p D.d 0] w λe w'=>∃v,e=.r v/\w'.ownsRow 0 3 1 v (eP D.fs.safe.length (dD ([o,ao]++D.ts.map ot))).length ((eP D.fs.safe.length (dD ([o,ao]++D.ts.map ot))).map (λn:Nat=>Value.i n))/\bW w w':=by
 have⟨w1,hmk,hU1,hb1⟩:=Jn w;have hmk':(Instr.makeSlice 139 (.i 4096) (.i 4096)).run Tryz.prog w=.ok (.q w.heap.size 4096 4096) w1:=hmk;have hsm:D.fs.safe.length<=4096:=h.file.small;have HK:Hid (∀X,bW w X->X.c D.d 2=some (.p D.β 0)/\X.c D.d 5=some (.i D.root)/\X.c D.d 11=some (.i D.aroot)/\X.c D.d 14=some D.ov/\aO X st D):=by
  intro X hX;have h1:=h.on (vV hX h.lies);have⟨c0,c1,c2,c3,c4,c5,c6,c7,c8,c9,c10,c11,c12,c13,c14⟩:=eQ h1.box;exact⟨c2,c5,c11,c14,h1⟩
 have HM:Hid (∀X os oo,bW w X->(∀y∈os,bQ D.fs (rootOf y) y)->bQ D.fs (rootOf oo) oo->bB X w.heap.size (dD os)->∀root ca cn cc,root=rootOf oo->cL 84 #[.agg #[.p D.β 0,.i ((root:Nat):Int),.s ca cn cc],.q w.heap.size 4096 4096] X λe w'=>(∃v,e=.r v)/\bB w' w.heap.size (dD (os++[oo]))/\bW w w'):=by
  intro X os oo hX hos hoo hU root ca cn cc hroot;subst hroot;rw[Dg];exact(Hh D.β D.sv D.lv D.fs hl _ ca cn cc w.heap.size oo (dD os) X hoo (Tq hsm os hos oo hoo) (tV os) (h.file.on (vV hX h.file.lies)) hU).m λe w' ⟨he,hu',hf'⟩=>⟨he,hu',hX.t (hf'.below hX.size (oK (by omega)))⟩
 have hT1:Hid (∀X (root:Nat),bW w X->cL 36 #[.p D.d 0,.i (root:Int)] X λe w'=>e=.r (.agg #[.p D.β 0,.i (root:Int),.n])/\bW w w'/\∀os,bB X w.heap.size os->bB w' w.heap.size os):=λX root hX=>(oB D.d D.β root X (HK X hX).1).m λe w' ⟨he,hb⟩=>⟨he,hX.t (hb.m hX.size),λos hu=>hu.on (Y:=Bl.one w.heap.size) (vV hb (λk hk=>by simp only[Bl.one]at hk;have:=hu.lt;omega)) rfl⟩;have⟨c2,c5,c11,c14,_⟩:=HK w1 hb1;have hA:=hT1 w1 D.root hb1;have HTS:Hid _:=hts;have HO:Hid _:=ho;have HAO:Hid _:=hao;have HR:Hid _:=hr;have HAR:Hid _:=har;have HU1:Hid (bB w1 w.heap.size (dD [])):=hU1;have⟨oa,oc,hov,hoc,hrow⟩:=bR h.row;have HOV:Hid _:=hov;clear hts ho hao hr har hmk hov;go_enter Tryz.func158,Tryz.ntmps158;go_wp2_with (first
  |(go_at_call 36;(with_reducible apply Calls.m hA);rintro e w2 ⟨rfl,hb2,hk2⟩;have hM:=HM w2 [] o hb2 (by simp) HO (hk2 _ HU1) D.root none 0 0 HR)
  |(go_at_call 84;(with_reducible apply Calls.m hM);rintro e w3 ⟨⟨v3,rfl⟩,hU3,hb3⟩;have⟨d2,d5,d11,d14,_⟩:=HK w3 hb3;have hB:=hT1 w3 D.aroot hb3)
  |(go_at_call 36;apply Calls.m hB;rintro e w4 ⟨rfl,hb4,hk4⟩;have hN:=HM w4 [o] ao hb4 (by intro y hy;rw[AJ]at hy;subst hy;exact HO) HAO (hk4 _ hU3) D.aroot none 0 0 HAR)
  |(go_at_call 84;apply Calls.m hN;rintro e w5 ⟨⟨v5,rfl⟩,hU5,hb5⟩;have⟨e2,e5,e11,e14,_⟩:=HK w5 hb5;rw[HOV.o]at e14))
 have HRow:Hid (aH w (λk=>D.ov.ownBlock=some k) oa (lR D.ts)):=hrow;have HS:Hid (∀k,D.ov.ownBlock=some k->k<w.heap.size):=λk hk=>aK h.row hk;have HU5:Hid (bB w5 w.heap.size (dD ([o,ao]++(D.ts.take 0).map ot))):=hU5;clear hA hM hB hN hmk' hU3 hU5 hrow h hU1 hk2 hk4 c2 c5 c11 c14 d2 d5 d11 d14 hT1 HU1;go_loopw [31] (λa wr=>∃j:Nat,a=.i j/\j<=D.ts.length/\bW w wr/\Hid (bB wr w.heap.size (dD ([o,ao]++(D.ts.take j).map ot)))) (λa _=>D.ts.length-(intOf a).toNat)
 case atStart=>exact⟨0,rfl,AG _,hb5,HU5⟩
 case round =>
  obtain⟨j,rfl,hj,hb,HI⟩:=hrel;by_cases hlt:j<D.ts.length
  .have hlti:(j:Int)<(D.ts.length:Int):=by omega
   have⟨t,ht⟩:=nM (D.ts[j]);have htm:t∈D.ts:=ht▸AA hlt;rcases HRow.on (vV hb HS) with h0|⟨g,off,rfl,hg,hcell⟩
   .have:=CI List.length h0
    simp[lR]at this;rw[this]at hlt;simp at hlt
   have k0:wr.c g (off+j)=some (.p t.b 0):=hcell j _ (by simp[lR,hlt,ht]);have hbx:=((HK wr hb).2.2.2.2.each t htm).box;have q2:wr.c t.b 2=some (.p D.β 0):=by simp[World.cell?,hbx]
   have q3:wr.c t.b 3=some (.i t.root):=by simp[World.cell?,hbx]
   have q4:wr.c t.b 4=some (.s t.ca t.cs.length t.cc):=by simp[World.cell?,hbx]
   have hM:=HM wr ([o,ao]++(D.ts.take j).map ot) (ot t) hb (by
    intro y hy;simp only[jF,jE,AS,AW]at hy;rcases hy with rfl|rfl|⟨x,hx,rfl⟩
    .exact HO
    .exact HAO
    .exact(HTS x (DC hx)).1) (HTS t htm).1 HI t.root t.ca t.cs.length t.cc (HTS t htm).2
   have HE:Hid ([o,ao]++(D.ts.take j).map ot++[ot t]=[o,ao]++(D.ts.take (j+1)).map ot):=by
    show _=_
    rw[AN hlt,ht,BM,BU];rfl
   rw[HE.o]at hM;clear hcell ht hbx e2 e5 e11 e14;go_wp2_with (go_at_call 84;apply Calls.m hM;rintro e w6 ⟨⟨v6,rfl⟩,hU6,hb6⟩);exact⟨⟨j+1,by simp,by omega,hb6,hU6⟩,by simp[intOf];omega⟩
  .obtain rfl:j=D.ts.length:=by omega
   have hlti:¬(D.ts.length:Int)<(D.ts.length:Int):=by omega
   rw[BK]at HI;have⟨U,hUd⟩:=nM (dD ([o,ao]++D.ts.map ot));have hUl:U.length=4096:=by rw[<-hUd];exact tV _
   rw[hUd]at HI;have HUD:Hid (dD ([o,ao]++D.ts.map ot)=U):=hUd;clear hUd;clear e2 e5 e11 e14 hlti;go_wp2;go_loopw [6,7] (λa b wq=>∃p:Nat,b=.i p/\2<=p/\(p<=D.fs.safe.length\/p=2)/\bW w wq/\Hid (bB wq w.heap.size U)/\Hid (wq.ownsRow 0 3 1 a (mT U p).length ((mT U p).map (λn:Nat=>Value.i n))/\nW a w)) (λ_ b _=>D.fs.safe.length-(intOf b).toNat)
   case atStart=>exact⟨2,rfl,jU _,.inr rfl,hb,HI,AL _ _ _ _,λk hk=>by simp[Value.ownBlock]at hk⟩
   case round =>
    obtain⟨p,rfl,hp2,hpn,hbq,HUq,HOq⟩:=hrel;have⟨hown,hlies⟩:=HOq.o;have⟨c2,c5,c11,c14,hDq⟩:=HK wr hbq;have hPg:=nN D.β D.sv D.lv D.fs wr hDq.file;obtain⟨aa,ac,rfl⟩:=aG hown;by_cases hlt2:p<D.fs.safe.length
    .have hl2:(p:Int)<(D.fs.safe.length:Int):=by omega
     have hp4:p<4096:=by omega
     have hp4i:(p:Int)<4096:=by omega
     have ucell:=HUq.cell hp4 hUl;have hgd:U.getD p true=U[p]'(by omega):=by rw[CB,jQ (by omega)];rfl
     have HST:Hid _:=Wh (u:=U) hp2;have hlenq:(mT U p).length<=4096:=vJ qCl (by omega);cases hb':(U[p]'(by omega):Bool)
     .rw[hb']at ucell hgd
      have HG:Hid _:=hgd;clear hgd;have⟨L,hL⟩:=nM (mT U p);rw[hL]at hown hlenq HOq HST hlies;rw[hL];have HS1:Hid (mT U (p+1)=L++[p]):=by
       show _=_
       rw[HST.o,HG.o];rfl
      clear HST hL c5 c11 c14 hlt hDq;go_wp2_with (first
       |(go_at_call 31;apply Calls.m hPg;rintro e w7 ⟨rfl,hw7⟩;subst w7)
       |(at_builtin;apply fQ wr rfl (.tmp 56) (.tmp 58) 44 3 _ 1 8 rfl Tryz.underlying44 Yz rfl (by decide) (.s aa L.length ac) L.length (L.map (λn:Nat=>Value.i n)) rfl hown [.i (p:Int)] rfl rfl (by simp[Value.oneCell']) (by omega) (by omega);intro v3 w3 A3;obtain⟨g3,k3,rfl⟩:=A3.shape (by decide)))
      have⟨cur,hcur⟩:=HUq.box;refine⟨⟨p+1,by simp,by omega,.inl (by omega),hbq.t (A3.fr.below hbq.size (λk hk=>hlies k hk)),HUq.on (Y:=Bl.one w.heap.size) (A3.fr.on (λk hk=>⟨by simp only[Bl.one]at hk;have:=HUq.lt;omega,by simp only[Bl.one]at hk;subst hk;exact (aP hown hcur (by decide))⟩)) rfl,?_,λk hk=>?_⟩,by simp[intOf];omega⟩
      .rw[HS1.o,jK,AM,BM]
       exact A3.row
      .rcases A3.lies k hk with h'|h'
       .exact hlies k h'
       .exact vJ hbq.size h'
     .rw[hb']at ucell hgd
      have HG:Hid _:=hgd;have HS1:Hid (mT U (p+1)=mT U p):=by
       show _=_
       rw[HST.o,HG.o];simp
      clear HST HG hgd c5 c11 c14 hlt hDq;go_wp2_with (go_at_call 31;apply Calls.m hPg;rintro e w7 ⟨rfl,hw7⟩;subst w7);refine⟨⟨p+1,by simp,by omega,.inl (by omega),hbq,HUq,?_,hlies⟩,by simp[intOf];omega⟩;rw[HS1.o];exact hown
    .have hl2:¬(p:Int)<(D.fs.safe.length:Int):=by omega
     have HFE:Hid (mT U p=eP D.fs.safe.length U):=qCm (by omega) hpn;clear c5 c11 c14 hlt hDq;go_wp2_with (go_at_call 31;apply Calls.m hPg;rintro e w7 ⟨rfl,hw7⟩;subst w7);go_ret;refine⟨.s aa (mT U p).length ac,rfl,?_,hbq⟩;rw[show dD (o :: ao :: D.ts.map ot)=U from HUD.o,<-HFE.o];exact hown
def Fs.well(fs:Fs):Prop:=fs.wait = -1/\fs.life = -1
def Fs.well_ok{fs:Fs}(h:fs.well):fs.chOk=true/\fs.ch=fs:=by
 have⟨a,b⟩:=h;have c:fs.chOk=true:=by unfold Fs.chOk;rw[a,b];rfl
 refine⟨c,?_⟩;unfold Fs.ch;rw[AU c,a,b];cases fs;grind
def ED:=@Fs.well_ok
def Fs.well_alive{fs:Fs}(h:fs.well):(fs.life==0)=false:=by rw[h.2];rfl
def LF:=@Fs.well_alive
def qBb {B}(h:w.ownsRow B e z v n xs)(a:v.ownBlock=some k):∃b,cW w k b e:=by
 have⟨_,d⟩:=h;rcases d with⟨c,_⟩|⟨i,g,b,c,_,f,_⟩
 .rw[c]at a;simp[Value.ownBlock]at a
 .rw[c]at a
  simp only[Value.ownBlock,BB]at a;grind
def aO.txFile {e}(h:aO w e D){t}(b:eI w D.β t):∀k,fpT t k->¬fpF D.β D.sv D.lv k:=by
 rintro k (rfl|a|a)
 .exact fW h.file b.box (by decide) (by decide) (by decide)
 .have⟨g,d⟩:=qBb b.row a
  exact fW h.file d (by decide) (by decide) (by decide)
 .have⟨i,f,c⟩:=b.tk.block a
  exact qCs h.file c
def aO.refile {i g e}(h:aO w i D)(j:aF w' D.β D.sv g e)(f:Fr (fpF D.β D.sv D.lv) w w'):aO w' i {D with lv:=g,fs:=e}:=
 ⟨f.heap h.box h.noFile,j,eJ h.row f (λb a k=>h.fileRow b k a),λd c=>(h.each d c).on (f.on (λb a=>⟨(h.each d c).lies b a,h.txFile (h.each d c) b a⟩)),h.apart⟩
