import Derived.BigQuiet
import Derived.Test.YtdhgdcjmhofhaaaGreatD9
set_option linter.all false
set_option maxHeartbeats 8000000
namespace Go.Proofs.YtdhgdcjmhofhaaaGreat.Pages
open Go.RowKit Tryz
variable {a:Type} {e:TypeId} {j β ρ:Nat} {w:World}
theorem cF{a b}(h:a=b):Ending.returned (.bool a)=.r (.bool b):=by rw[h]
def bF(n:Int):Bool:=decide (2<=n)&&decide (n<4096)
theorem mW(n w):
  cL 198 #[.i n] w λe w'=>e=.r (.bool (bF n))/\w'=w:=by
 go_enter func198,ntmps198;go_wp2;all_goals go_ret
 all_goals refine⟨cF ?_,rfl⟩
 all_goals (rw[FN];simp only[bF,AM,BO,FI,false_iff];omega)
def iG(last key:ByteArray):Bool:=Op.bytesLess last.toList key.toList&&decide (key.size<=24)
theorem mX(a key w):
  cL 199 #[.t a,.t key] w λe w'=>e=.r (.bool (iG a key))/\w'=w:=by
 go_enter func199,ntmps199;go_wp2;all_goals go_ret
 all_goals refine⟨cF ?_,rfl⟩
 all_goals (rw[FN];simp only[iG,AM,BO,FI,false_iff,not_and, *,CV,false_implies];try omega)
def qRr(key:ByteArray):Bool:=decide (1<=key.size)&&decide (key.size<=24)
theorem iL(key w):
  cL 68 #[.t key] w λe w'=>e=.r (.bool (qRr key))/\w'=w:=by
 go_enter func68,ntmps68;go_wp2;all_goals go_ret
 all_goals refine⟨cF ?_,rfl⟩
 all_goals (rw[FN];simp only[qRr,AM,BO,FI,false_iff];omega)
theorem zY(k v n o w):
  cL 201 #[.agg #[.t k,.t v,.i n,.i o]] w λe w'=>e=.r (.bool (o==0))/\bW w w':=by
 go_enter func201,ntmps201;go_wp2;go_ret;exact⟨rfl,(AC _ _).alloc (CB _) _⟩
theorem qMv{W c}(d:bW W c):(∀b o,b<W.1.size->c.c b o=W.c b o)/\(∀b o,b<W.1.size->c.frozen? (aD b o)=W.frozen? (aD b o)):=
 ⟨λb o a=>d.cell (p:=(aD b o)) a,λb o a=>d.frozen (p:=(aD b o)) a⟩
theorem pW:bF 0=false:=rfl
def qS(v:ByteArray)(n o:Int):Bool:=(o==0&&decide ((v.size:Int)<=60)&&n==(v.size:Int))||(bF o&&v.toList.isEmpty&&decide (60<n)&&decide (n<=400))
theorem tY(k v n o w):
  cL 200 #[.agg #[.t k,.t v,.i n,.i o]] w λe w'=>e=.r (.bool (qS v n o))/\bW w w':=by
 go_enter func200,ntmps200;go_wp2_with (first|(go_at_call 201;apply(zY _ _ _ _ _).m;rintro e d ⟨rfl,a⟩;have⟨b,c⟩:=qMv a)|(go_at_call 198;apply(mW _ _).m;rintro e w' ⟨rfl,rfl⟩));all_goals go_ret
 all_goals refine⟨cF ?_,((AC _ _).alloc (CB _) _).t (a.m σ)⟩
 all_goals clear a b c
 all_goals simp_all[qS,pW]
 all_goals omega
def eF(s:ByteArray):List UInt8:=[UInt8.ofNat s.size]++s.data.toList
def mY(k v:ByteArray)(n o:Int):List UInt8 :=
 eF k++(if (o==0)=true then [0]++eF v else [1]++beB 2 n++beB 2 o)
theorem aB(w:World)(o):(w.alloc o).1[w.1.size]?=some o:=by
 show(w.heap.push o)[w.1.size]?=_;simp
theorem kI {a b c d}(h:cW w β #[a,b,c,d] e):
  w.c β 0=some a/\w.c β 1=some b/\w.c β 2=some c/\w.c β 3=some d:=by
 simp[World.cell?,h]
theorem Eh(b k v n o f B w)(x:Buf w B b f)(g:B<=w.1.size)(F:f.length+k.size+v.size+20<=140737488355328):
  cL 186 #[b,.agg #[.t k,.t v,.i n,.i o]] w λe w'=>∃s,e=.r s/\Buf w' B s (f++mY k v n o)/\dD B w w':=by
 have C:B<=(w.alloc (.cells #[.t k,.t v,.i n,.i o] 69)):=by simp;omega
 have E:=aB w (.cells #[.t k,.t v,.i n,.i o] 69);have A:=(dD.refl B w).alloc g (.cells #[.t k,.t v,.i n,.i o] 69);have G:=x.alloc (.cells #[.t k,.t v,.i n,.i o] 69);have y:f.length+k.size+1<=140737488355328:=ω;have u:(f++[UInt8.ofNat k.size]++k.data.toList).length+1<=140737488355328:=by simp;omega
 have z:(f++[UInt8.ofNat k.size]++k.data.toList++[0]).length+v.size+1<=140737488355328:=by simp;omega
 cases ho:(o==0)
 all_goals
  go_enter func186,ntmps186;go_wp2_with (first
   |(go_at_call 187;refine(pK _ _ _ B _ (by assumption) (by assumption) (by first|exact y|exact z)).m ?_;rintro e q ⟨r,rfl,p,a⟩;have d:=a.other _ _ (by assumption) rfl;obtain⟨h,i,j,l⟩:=kI d;have c:=dD.t (show dD B w _ by assumption) a;have m:=CF g c.size;clear a)
   |(go_at_call 201;refine(zY _ _ _ _ _).m ?_;rintro e q ⟨rfl,t⟩;have a:=dD.of_below t (by assumption);have D:=Buf.below (by assumption) t;have d:=a.other _ _ (by assumption) rfl;obtain⟨h,i,j,l⟩:=kI d;have c:=dD.t (show dD B w _ by assumption) a;have m:=CF g c.size;clear a)
   |(at_builtin;refine lB _ rfl (.tmp 18) (.tmp 19) rfl B _ _ rfl (by assumption) (by assumption) _ 1 rfl rfl u ?_;intro r q p a;have d:=a.other _ _ (by assumption) rfl;obtain⟨h,i,j,l⟩:=kI d;have c:=dD.t (show dD B w _ by assumption) a;have m:=CF g c.size;clear a)
   |(at_builtin;refine lB _ rfl (.tmp 11) (.tmp 12) rfl B _ _ rfl (by assumption) (by assumption) _ 0 rfl rfl u ?_;intro r q p a;have d:=a.other _ _ (by assumption) rfl;obtain⟨h,i,j,l⟩:=kI d;have c:=dD.t (show dD B w _ by assumption) a;have m:=CF g c.size;clear a)
   |(go_at_call 170;refine(eW _ _ _ _ B _ (by assumption) (by assumption) δ δ (by simp[aK];omega)).m ?_;rintro e q ⟨r,rfl,p,a⟩;have d:=a.other _ _ (by assumption) rfl;obtain⟨h,i,j,l⟩:=kI d;have c:=dD.t (show dD B w _ by assumption) a;have m:=CF g c.size;clear a))
  go_ret;exact⟨_,rfl,by simpa[mY,eF,ho] using p,c⟩
theorem wH (f:a->List UInt8)(l:List a)(j)(h:j<l.length):(l.take (j+1)).flatMap f=(l.take j).flatMap f++f l[j]:=by
 rw[AJ h];simp only[BS,AK,MQ,EY]
theorem Ph (f:a->List UInt8)(l:List a)(j)(h:j<l.length):((l.take j).flatMap f).length+(f l[j])<=(l.flatMap f):=by
 have b:l.flatMap f=(l.take (j+1)).flatMap f++(l.drop (j+1)).flatMap f:=by rw[<-BS,BU]
 rw[b,wH f l j h];simp
theorem bU {a b c d a' f g i}(h:cW w β #[a,b,c,d,a',f,g,i] e):
  w.c β 0=some a/\w.c β 1=some b/\w.c β 2=some c/\w.c β 3=some d /\
  w.c β 4=some a'/\w.c β 5=some f/\w.c β 6=some g/\w.c β 7=some i:=by
 simp[World.cell?,h]
def eU(keys:List ByteArray)(kids:List Int):List UInt8:=beB 1 keys.length++kids.flatMap (beB 2)++keys.flatMap eF
theorem fI.at {e:Type}{f:e->Value}{B:Nat}{a:Option Addr}{l:List e}(h:fI w B a (l.map f))(d:j<l):∃b c,a=some (aD b c)/\b<B/\w.c b (c+j)=some (f l[j]):=by
 rcases h with h|⟨b,c,g,i,k⟩
 .simp at h;subst h;simp at d
 .exact⟨b,c,g,i,k j _ (by simp[FX d])⟩
theorem Cd(b kind ver root next k j l r q n m data a d h B w)(V:Buf w B b h)(t:B<=w.1.size)(R:fI w B k (a.map .string))(Q:fI w B j (d.map (.int .i64)))(a5:a.length<=1073741824)(a2:d.length<=1073741824)(N:h.length+(eU a d).length+8<=140737488355328):
  cL 185 #[b,.agg #[.i kind,.i ver,.i root,.i next,.s k a r,.s j d q,.s l n m,.t data]] w λe w'=>∃K,e=.r K/\Buf w' B K (h++eU a d)/\dD B w w':=by
 have Y:B<=(w.alloc (.cells #[.i kind,.i ver,.i root,.i next,.s k a r,.s j d q,.s l n m,.t data] 80)):=by simp;omega
 have Z:=aB w (.cells #[.i kind,.i ver,.i root,.i next,.s k a r,.s j d q,.s l n m,.t data] 80);have X:=(dD.refl B w).alloc t (.cells #[.i kind,.i ver,.i root,.i next,.s k a r,.s j d q,.s l n m,.t data] 80);have a6:=V.alloc (.cells #[.i kind,.i ver,.i root,.i next,.s k a r,.s j d q,.s l n m,.t data] 80);have W:h.length+8<=140737488355328:=ω
 go_enter func185,ntmps185;go_wp2_with (go_at_call 170;refine(eW _ _ _ _ B _ (by assumption) (by assumption) δ δ W).m ?_;rintro e O ⟨L,rfl,u,f⟩;have i:=f.other _ _ (by assumption) rfl;obtain⟨x,y,z,A,C,D,E,F⟩:=bU i;have g:=dD.t (show dD B w _ by assumption) f;have M:=CF t g.size;clear f);go_loopw [0,17] (λJ p s=>∃c:Nat,c<=d.length/\p=.i c/\Buf s B J (h++beB 1 a.length++(d.take c).flatMap (beB 2))/\dD B w s/\cW s w #[.i kind,.i ver,.i root,.i next,.s k a r,.s j d q,.s l n m,.t data] 80) (λ_ p _=>d-(intOf p).toNat)
 case atStart=>exact⟨0,AG _,rfl,by simpa using u,g,i⟩
 case round =>
  obtain⟨c,T,rfl,v,o,G⟩:=hrel;have P:=CF t o.size;by_cases hlt:c<d.length
  .obtain⟨a7,a8,S,a0,a1⟩:=(Q.below o.below).at hlt
   have I:=Ph (beB 2) d c hlt;have H:(h++beB 1 a.length++(d.take c).flatMap (beB 2)).length+8<=140737488355328:=by simp only[eU,aK,CC]at N I⊢;omega
   subst S;go_wp2_with (go_at_call 170;refine(eW _ _ _ _ B _ (by assumption) (by assumption) δ δ H).m ?_;rintro e O ⟨L,rfl,u,f⟩;have i:=f.other _ _ (by assumption) rfl;obtain⟨x,y,z,A,C,D,E,F⟩:=bU i;have g:=dD.t (show dD B w _ by assumption) f;have M:=CF t g.size;clear f);go_roundw
   case rel=>exact⟨c+1,ω,by go_num,by rw[wH _ _ _ hlt,<-CA];exact u,g,i⟩
   case measure=>simp[intOf];omega
  .obtain rfl:c=d.length:=ω;rw[BN]at v;obtain⟨x,y,z,A,C,D,E,F⟩:=bU G;go_wp2;go_loopw [0,28] (λJ p s=>∃c:Nat,c<=a.length/\p=.i c/\Buf s B J (h++beB 1 a.length++d.flatMap (beB 2)++(a.take c).flatMap eF)/\dD B w s/\cW s w #[.i kind,.i ver,.i root,.i next,.s k a r,.s j d q,.s l n m,.t data] 80) (λ_ p _=>a-(intOf p).toNat)
   case atStart=>exact⟨0,AG _,rfl,by simpa using v,o,G⟩
   case round =>
    obtain⟨c,T,rfl,v,o,G⟩:=hrel;have P:=CF t o.size;by_cases hlt:c<a.length
    .obtain⟨a9,aa,U,a3,a4⟩:=(R.below o.below).at hlt;have I:=Ph eF a c hlt;have H:(h++beB 1 a.length++d.flatMap (beB 2)++(a.take c).flatMap eF).length+a[c].size+1<=140737488355328:=by simp only[eU,eF,aK,CC,Dp,FD,LF]at N I⊢;omega
     subst U;go_wp2_with (go_at_call 187;refine(pK _ _ _ B _ (by assumption) (by assumption) H).m ?_;rintro e O ⟨L,rfl,u,f⟩;have i:=f.other _ _ (by assumption) rfl;obtain⟨x,y,z,A,C,D,E,F⟩:=bU i;have g:=dD.t (show dD B w _ by assumption) f;have M:=CF t g.size;clear f);go_roundw
     case rel=>exact⟨c+1,ω,by go_num,by rw[wH _ _ _ hlt];simpa[eF] using u,g,i⟩
     case measure=>simp[intOf];omega
    .obtain rfl:c=a.length:=ω;rw[BN]at v;go_wp2;go_ret;exact⟨_,rfl,by simpa[eU] using v,o⟩
structure eD (ρ:Nat) (w w':World):Prop where
 os:w'.os=w.os
 tape:w'.tape=w.tape
 output:w'.output=w.output
 size:w.1.size<=w'.1.size
 block:∀(k:Nat),k<w.1.size->k≠ρ->w'.1[k]?=w.1[k]?
theorem eD.refl(ρ w):eD ρ w w:=⟨rfl,rfl,rfl,CB _,λ_ _ _=>rfl⟩
theorem eD.t {a b c:World}(h:eD ρ a b)(k:eD ρ b c):eD ρ a c :=
 ⟨k.os.t h.os,k.tape.t h.tape,k.output.t h.output,CF h.size k.size,λf d e=>(k.block f (GZ d h.size) e).t (h.block f d e)⟩
theorem eD.drewN {a w}(h:eD ρ a w)(n):eD ρ a (w.drewN n):=h.t ⟨rfl,rfl,rfl,CB _,λ_ _ _=>rfl⟩
theorem eD.setCell {a w}(h:eD ρ a w)(i v):eD ρ a (w.setCell (aD ρ i) v):=
 h.t ⟨rfl,rfl,rfl,by simp[World.setCell],λc _ b=>DI _ _ _ _ b⟩
theorem eD.of_below {w w'}(h:bW w w'):eD ρ w w':=⟨h.os,h.tape,h.output,h.size,λb a _=>h.block b a⟩
structure Rd (w:World) (ρ g c:Nat) (bs:List UInt8) (at_:Nat):Prop where
 box:w.1[ρ]?=some (.cells #[.slice (some (aD g 0)) bs.length c,.int .i64 at_] 247)
 bytes:∀(j:Nat) (hj:j<bs.length),w.cell? (aD g j)=some (eO bs[j])
 ne:g≠ρ
 lt:g<w.1.size
 le:at_<=bs.length
 len:bs.length<=1000
 cap:bs.length<=c
theorem cM {a b}(h:cW w β #[a,b] e):w.c β 0=some a/\w.c β 1=some b:=by simp[World.cell?,h]
theorem aF {cs}(h:cW w β cs e)(i):w.frozen? (aD β i)=false:=by simp[World.frozen?,h]
theorem aC {cs}(h:cW w β cs e)(i v):(w.setCell (aD β i) v).1[β]?=some (.cells (cs.setIfInBounds i v) e):=by
 simp only[World.setCell];rw[JI,AU rfl,h];rfl
theorem Rd.only{w w':World}{ρ g c:Nat}{b:List UInt8}{a a':Nat}(h:Rd w ρ g c b a)(d:eD ρ w w')(i:cW w' ρ #[.q g b c,.i a'] 247)(f:a'<=b):Rd w' ρ g c b a' :=
 ⟨i,λj e=>by rw[CP (w:=w) (d.block g h.lt h.ne)];exact h.bytes j e,h.ne,GZ h.lt d.size,f,h.len,h.cap⟩
theorem Gf{u v}(h:u=v):Ending.returned u=.r v:=by rw[h]
def Ct(bs:List UInt8)(a:Nat):UInt8:=bs.getD a 0
def Gy(bs:List UInt8)(a:Nat):Nat:=min (a+1) bs.length
theorem qKb(ρ g c b a w)(h:Rd w ρ g c b a):
  cL 197 #[.p ρ 0] w λe w'=>e=.r (eO (Ct b a))/\Rd w' ρ g c b (Gy b a)/\eD ρ w w':=by
 obtain⟨x,y⟩:=cM h.box;have p:=h.le;have s:=h.len;have r:=aF h.box;by_cases hlt:a<b
 .have o:=h.bytes a hlt;have m:(a:Int)<(b.length:Int):=ω;have i:=λn=>by
   have:=aC (w:=w.drewN n) h.box 1 (.i ((a:Int)+1));simpa using this
  have t:=λn=>(cM (i n)).1;have v:=λn=>(cM (i n)).2;have q:∀n,((w.drewN n).setCell (aD ρ 1) (.i ((a:Int)+1))).cell? (aD g a)=some (eO b[a]):=λn=>by rw[CP (w:=w.drewN n) (DI _ _ _ _ h.ne)];exact o
  have d:Ct b a=b[a]:=by simp[Ct,List.getD,FX hlt]
  have f:Gy b a=a+1:=by unfold Gy;omega
  have j:Hid (Ct b a=b[a]):=d;have k:Hid _:=f;have l:Hid (∀n,((w.drewN n).setCell (aD ρ 1) (.i ((a:Int)+1))).1[ρ]?=some (.cells #[.q g b c,.i ((a:Int)+1)] 247)):=i;go_enter func197,ntmps197;go_wp2;go_quiet (fail);go_wp2;go_quiet (fail);go_wp2;go_ret;exact⟨Gf (u:=eO b[a]) (BR eO j.o.symm),by rw[k.o];exact h.only ((((eD.refl ρ w).drewN _).setCell 1 _).drewN _) (l.o _) ω,(((eD.refl ρ w).drewN _).setCell 1 _).drewN _⟩
 .have m:(b.length:Int)<=(a:Int):=ω;go_enter func197,ntmps197;go_wp2;go_quiet (fail);go_wp2;go_ret;have d:Ct b a=0:=by simp[Ct,List.getD,CL (by omega:b.length<=a)]
  have f:Gy b a=a:=by unfold Gy;omega
  exact⟨Gf (by rw[d];rfl),by rw[f];exact h.only ((eD.refl ρ w).drewN _) h.box p,(eD.refl ρ w).drewN _⟩
def iR(bs:List UInt8)(a:Nat):Nat->Nat
 |0=>0
 |k+1=>iR bs a k * 256+(bs.getD (a+k) 0).toNat
def bD(bs:List UInt8)(a k:Nat):Nat:=min (a+k) bs.length
theorem qCb(b a k):iR b a k<256 ^ k:=by
 induction k with
 |zero=>simp[iR]
 |succ k ih =>
  have:=(b.getD (a+k) 0).toNat_lt;simp only[iR,Nat.pow_succ];omega
theorem qNt (h:j<=7):256 ^ j<=72057594037927936:=by
 have:256 ^ j<=256 ^ 7:=Nat.pow_le_pow_right ω h;simpa using this
theorem qFl(b a j)(h:a<=b.length):Ct b (bD b a j)=b.getD (a+j) 0:=by
 unfold Ct bD;by_cases hl:a+j<=b.length
 .rw[GI hl]
 .rw[Nat.min_eq_right ω];simp[List.getD,CL (by omega:b.length<=a+j)]
theorem Li{b:List UInt8}{a:Nat}(h:a<=b):bD b a 0=a:=by unfold bD;omega
theorem qFm(b a j):Gy b (bD b a j)=bD b a (j+1):=by unfold Gy bD;omega
theorem qNv{a n:Nat}(d:a<72057594037927936)(c:n<2 ^ 8):bits BinOp.or IntKind.u64 ((a:Int) * 256) (n:Int)=((a * 256+n:Nat):Int):=by
 have b:(a:Int) * 256=((a * 256:Nat):Int):=ω;rw[b,u64_or_nat _ _ ω ω,nat_join 8 _ _ ω c]
theorem xM(ρ g c bs)(a k:Nat)(w)(h:Rd w ρ g c bs a)(hk:k<=8):
  cL 177 #[.p ρ 0,.i k] w λe w'=>e=.r (.i (wrap64 (iR bs a k)))/\Rd w' ρ g c bs (bD bs a k)/\eD ρ w w':=by
 have o:=h.le;go_enter func177,ntmps177;go_wp2;go_loopw [5,7] (λu i wr=>∃j:Nat,j<=k/\i=.i j/\u=.int .u64 (iR bs a j:Nat)/\Rd wr ρ g c bs (bD bs a j)/\eD ρ w wr) (λ_ i _=>k-(intOf i).toNat)
 case atStart=>exact⟨0,AG _,rfl,rfl,by rw[Li o];exact h,eD.refl _ _⟩
 case round =>
  obtain⟨j,G,rfl,rfl,C,A⟩:=hrel;have D:=qCb bs a j;by_cases hlt:j<k
  .have F:=qNt (show j<=7 by omega);have s:=qKb ρ g c bs (bD bs a j) wr C;rw[qFl bs a j o,qFm]at s;have m:=(bs.getD (a+j) 0).toNat_lt;have⟨b,t⟩:∃b,b=bs.getD (a+j) 0:=⟨_,rfl⟩;have B:Hid (iR bs a (j+1)=iR bs a j * 256+b.toNat):=by show _=_;rw[t];rfl
   rw[<-t]at s m;have⟨V,z⟩:∃V,V=iR bs a j:=⟨_,rfl⟩;rw[<-z]at D B;rw[<-z];clear t z;unfold eO at s;go_wp2_with (apply s.m;rintro e E ⟨rfl,y,x⟩);go_roundw
   case rel=>exact⟨j+1,ω,by go_num,by rw[B.o,qNv ω m],y,A.t x⟩
   case measure=>simp[intOf];omega
  .obtain rfl:j=k:=ω;go_wp2;go_ret;exact⟨rfl,C,A⟩
theorem lN(ρ g c b a w)(h:Rd w ρ g c b a):
  cL 177 #[.p ρ 0,.i 1] w λe w'=>e=.r (.i ((b.getD a 0).toNat:Nat))/\Rd w' ρ g c b (bD b a 1)/\eD ρ w w':=by
 refine(xM ρ g c b a 1 w h ω).m λe w' ⟨d,i,f⟩=>⟨?_,i,f⟩;rw[d];refine Gf (BR (Value.int .i64) ?_);have:=(b.getD a 0).toNat_lt;simp only[iR,EC,EO,EA];unfold wrap64;omega
theorem Af(u g p S c)(a:List UInt8)(h:∀(j:Nat) (b:j<a),u.cell? (aD g j)=some (eO a[j]))(i:p+S<=a.length)(k:a.length<=c):
  (convert 108 9 (.s (if c=p then some (aD g 0) else some (aD g p)) S (c-p))).run prog u=.ok (.t ⟨((a.drop p).take S).toArray⟩) u:=by
 have d:((a.drop p).take S).length=S:=χ
 by_cases hc:c=p
 .have f:S=0:=ω
  subst f;rw[AU hc];have:=run_convert_bytes_back (P:=prog) u 108 9 5 (aD g 0) (c-p) [] underlying108 underlying5 underlying9 (λj b=>by simp at b);simpa using this
 .rw[AQ hc]
  have:=run_convert_bytes_back (P:=prog) u 108 9 5 (aD g p) (c-p) ((a.drop p).take S) underlying108 underlying5 underlying9 (λj b=>by
   have e:((aD g p):Addr).add j=(aD g (p+j)):=by unfold Addr.add;split<;>simp_all
   rw[d]at b;rw[e,h (p+j) ω];simp[eO])
  rw[d]at this;exact this
theorem qDp{l:List UInt8}{p S:Nat}(h:l<=p+S):(l.drop p).take (l-p)=(l.drop p).take S:=by
 rw[CN σ,CN χ]
def oO(bs:List UInt8)(a:Nat):List UInt8:=(bs.drop (bD bs a 1)).take (bs.getD a 0).toNat
def iP(bs:List UInt8)(a:Nat):Nat:=min (bD bs a 1+(bs.getD a 0).toNat) bs.length
theorem vN(ρ g c b a w)(h:Rd w ρ g c b a):
  cL 180 #[.p ρ 0] w λe w'=>e=.r (.t ⟨(oO b a).toArray⟩)/\Rd w' ρ g c b (iP b a)/\eD ρ w w':=by
 have L:=h.len;have G:=h.cap;have H:=(b.getD a 0).toNat_lt;have⟨S,u⟩:∃S,S=(b.getD a 0).toNat:=⟨_,rfl⟩;have⟨p,v⟩:∃p,p=bD b a 1:=⟨_,rfl⟩;have t:=lN ρ g c b a w h;rw[<-u,<-v]at t;have M:p<=b:=by rw[v];unfold bD;omega
 rw[<-u]at H;have y:Hid (oO b a=(b.drop p).take S):=by rw[u,v];rfl
 have x:Hid (iP b a=min (p+S) b.length):=by rw[u,v];rfl
 clear u v;by_cases ht:p+S<=b
 .have I:(p:Int)+(S:Int)<=(b.length:Int):=ω
  have J:(p:Int)<=(p:Int)+(S:Int):=ω;have K:(p:Int)+(S:Int)<=(c:Int):=ω;have k:∀(f:World),(∀(i:Nat) (o:i<b),f.c g i=some (eO b[i]))->(convert 108 9 (.s (if c=p then some (aD g 0) else some (aD g p)) (((p:Int)+(S:Int)).toNat-p) (c-p))).run prog f=.ok (.t ⟨((b.drop p).take S).toArray⟩) f:=λf s=>by
   rw[show((p:Int)+(S:Int)).toNat-p=S by omega];exact Af f g p S c b s ω G
  by_cases hc:c=p
  focus
   have z:=hc.symm;subst z;clear k;have k:∀(f:World),(∀(i:Nat) (o:i<b),f.c g i=some (eO b[i]))->(convert 108 9 (.q g 0 0)).run prog f=.ok (.t ⟨((b.drop p).take S).toArray⟩) f:=λf s=>by
    have q:=Af f g p S p b s ω ω;have e:S=0:=ω;rw[AU rfl,JX]at q;rw[e]at q⊢;exact q
  rotate_left
  simp only[AQ hc]at k
  all_goals
   go_enter func180,ntmps180;go_wp2_with (apply t.m;rintro e l ⟨rfl,d,r⟩;have⟨E,F⟩:=cM d.box;have B:=aF d.box;have j:=aC d.box 1 (.i ((p:Int)+(S:Int)));have C:=(cM j).1;have D:=(cM j).2;have m:Hid _:=j;clear j;have A:=λn=>k ((l.setCell (aD ρ 1) (.i ((p:Int)+(S:Int)))).drewN n) (λi o=>(CP (w:=l) (DI _ _ _ _ d.ne)).t (d.bytes i o)));clear k;go_quiet (fail);go_wp2
  all_goals go_ret
  all_goals exact⟨Gf (u:=.t ⟨((b.drop p).take S).toArray⟩) (by rw[y.o]),by rw[x.o,show min (p+S) b=p+S by omega];exact d.only (((eD.refl ρ l).setCell 1 _).drewN _) (by unfold cW;first|simpa using m.o|(rw[show((p+S:Nat):Int)=(p:Int)+(S:Int) by omega];simpa using m.o)) ω,(r.setCell 1 (.i ((p:Int)+(S:Int)))).drewN _⟩
 .have I:(b.length:Int)<(p:Int)+(S:Int):=ω;have J:(p:Int)<=(b.length:Int):=ω;have K:(b.length:Int)<=(c:Int):=ω;have k:∀(f:World),(∀(i:Nat) (o:i<b),f.c g i=some (eO b[i]))->(convert 108 9 (.s (if c=p then some (aD g 0) else some (aD g p)) (b-p) (c-p))).run prog f=.ok (.t ⟨((b.drop p).take (b-p)).toArray⟩) f:=λf s=>by
   rw[show b-p=(b-p) by omega];exact Af f g p (b-p) c b s ω G
  by_cases hc:c=p
  focus
   have z:=hc.symm;subst z;clear k;have k:∀(f:World),(∀(i:Nat) (o:i<b),f.c g i=some (eO b[i]))->(convert 108 9 (.q g 0 0)).run prog f=.ok (.t ⟨((b.drop p).take (b-p)).toArray⟩) f:=λf s=>by
    have q:=Af f g p (b-p) p b s ω ω;have e:(b-p)=0:=ω
    rw[AU rfl,JX]at q;rw[e]at q⊢;exact q
  rotate_left;simp only[AQ hc]at k
  all_goals
   go_enter func180,ntmps180;go_wp2_with (apply t.m;rintro e l ⟨rfl,d,r⟩;have⟨E,F⟩:=cM d.box;have B:=aF d.box;have j:=aC d.box 1 (.i (b.length:Int));have C:=(cM j).1;have D:=(cM j).2;have m:Hid _:=j;clear j;have A:=λn=>k ((l.setCell (aD ρ 1) (.i (b.length:Int))).drewN n) (λi o=>(CP (w:=l) (DI _ _ _ _ d.ne)).t (d.bytes i o)));clear k;go_quiet (fail);go_wp2
  all_goals go_ret
  all_goals
   first
   |exact⟨Gf (u:=.t ⟨((b.drop p).take (b-p)).toArray⟩) (by rw[y.o];rw[qDp (S:=S) ω]),by rw[x.o,show min (p+S) b=b by omega];exact d.only (((eD.refl ρ l).setCell 1 _).drewN _) (by unfold cW;first|simpa using m.o|(rw[show((p+S:Nat):Int)=(p:Int)+(S:Int) by omega];simpa using m.o)) ω,(r.setCell 1 (.i (b.length:Int))).drewN _⟩
   |exact⟨Gf (u:=.e) (by rw[y.o,CW ω];simp),by rw[x.o,show min (p+S) b=b by omega];exact d.only (((eD.refl ρ l).setCell 1 _).drewN _) (by unfold cW;first|simpa using m.o|(rw[show((p+S:Nat):Int)=(p:Int)+(S:Int) by omega];simpa using m.o)) ω,(r.setCell 1 (.i (b.length:Int))).drewN _⟩
structure Ent where
 key:ByteArray
 val:ByteArray
 size:Int
 over:Int
def Ent.cells(e:Ent):List Value:=[.string e.key,.string e.val,.int .i64 e.size,.int .i64 e.over]
def Ent.bytes(e:Ent):List UInt8:=mY e.key e.val e.size e.over
theorem qMm(a:List Ent)(j i)(b:j<a.length)(hi:i<4):(a.flatMap Ent.cells)[4 * j+i]?=(a[j].cells)[i]?:=by
 induction a generalizing j with
 |nil=>simp at b
 |cons e l ih =>
  cases j with
  |zero =>
   simp only[AK,MC,EA,CX];rw[BK (by simp[Ent.cells];omega)]
  |succ j =>
   simp only[AK,DL];have c:e.cells.length=4:=rfl;rw[AZ ω,c,show 4 * (j+1)+i-4=4 * j+i by omega];exact ih j (by simpa using b)
theorem fI.ent {B:Nat}{a:Option Addr}{l:List Ent}(h:fI w B a (l.flatMap Ent.cells))(m:j<l):∃b d,a=some (aD b d)/\b<B /\
  w.c b (d+j * 4)=some (.t l[j].key)/\w.c b (d+j * 4+1)=some (.t l[j].val)/\w.c b (d+j * 4+2)=some (.i l[j].size)/\w.c b (d+j * 4+3)=some (.i l[j].over):=by
 have c:=λf (k:f<4)=>qMm l j f m k;rcases h with h|⟨b,d,g,i,e⟩
 .have:=c 0 ω;rw[h]at this;simp[Ent.cells]at this
 .exact⟨b,d,g,i,by rw[MD];exact e (4 * j) _ (c 0 ω),by rw[MD,GL];exact e (4 * j+1) _ (c 1 ω),by rw[MD,GL];exact e (4 * j+2) _ (c 2 ω),by rw[MD,GL];exact e (4 * j+3) _ (c 3 ω)⟩
def nI(ents:List Ent):List UInt8:=beB 1 ents.length++ents.flatMap Ent.bytes
theorem Uo(ver root next g d a h f b data)(i:List ByteArray)(j:List Int)(c:List Ent)(B w)(n:B<=w.1.size):
  cL 169 #[.agg #[.i 1,.i ver,.i root,.i next,.s g i h,.s d j f,.s a c b,.t data]] w λe w'=>∃m,e=.r m/\Buf w' B m (beB 1 1++beB 8 ver++beB 2 root)/\dD B w w':=by
 have C:B<=(w.alloc (.cells #[.i 1,.i ver,.i root,.i next,.s g i h,.s d j f,.s a c b,.t data] 80)):=χ
 have E:=aB w (.cells #[.i 1,.i ver,.i root,.i next,.s g i h,.s d j f,.s a c b,.t data] 80);have A:=(dD.refl B w).alloc n (.cells #[.i 1,.i ver,.i root,.i next,.s g i h,.s d j f,.s a c b,.t data] 80);have F:=Buf.nil (w.alloc (.cells #[.i 1,.i ver,.i root,.i next,.s g i h,.s d j f,.s a c b,.t data] 80)) B;go_enter func169,ntmps169;go_wp2_with (go_at_call 170;refine(eW _ _ _ _ B _ ψ ψ δ δ (by simp[aK])).m ?_;rintro e G ⟨q,rfl,o,k⟩;have p:=k.other _ _ ψ rfl;obtain⟨r,s,t,u,v,x,y,z⟩:=bU p;have l:=dD.t (show dD B w _ by assumption) k;have D:=CF n l.size;clear k);go_ret;exact⟨_,rfl,by simpa using o,l⟩
theorem Kg(ver root next g f h l k i data a b)(j:List Ent)(B w)(m:B<=w.1.size)(E:fI w B g (a.map .string))(C:fI w B f (b.map (.int .i64)))(H:a.length<=1073741824)(G:b.length<=1073741824)(N:(eU a b).length+20<=140737488355328):
  cL 169 #[.agg #[.i 2,.i ver,.i root,.i next,.s g a l,.s f b k,.s h j i,.t data]] w λe w'=>∃o,e=.r o/\Buf w' B o (beB 1 2++eU a b)/\dD B w w':=by
 have L:B<=(w.alloc (.cells #[.i 2,.i ver,.i root,.i next,.s g a l,.s f b k,.s h j i,.t data] 80)):=by simp;omega
 have M:=aB w (.cells #[.i 2,.i ver,.i root,.i next,.s g a l,.s f b k,.s h j i,.t data] 80);have K:=(dD.refl B w).alloc m (.cells #[.i 2,.i ver,.i root,.i next,.s g a l,.s f b k,.s h j i,.t data] 80);have O:=Buf.nil (w.alloc (.cells #[.i 2,.i ver,.i root,.i next,.s g a l,.s f b k,.s h j i,.t data] 80)) B;have I:([]++beB (Int.toNat 1) 2).length+(eU a b).length+8<=140737488355328:=by simp only[CC,LF,aK];omega
 go_enter func169,ntmps169;go_wp2_with (first
  |(go_at_call 170;refine(eW _ _ _ _ B _ (by assumption) (by assumption) δ δ (by simp[aK])).m ?_;rintro e J ⟨q,rfl,p,d⟩;have n:=d.other _ _ (by assumption) rfl;obtain⟨r,s,t,u,v,x,y,z⟩:=bU n;have c:=dD.t (show dD B w _ by assumption) d;have A:=CF m c.size;have F:=E.below c.below;have D:=C.below c.below)
  |(go_at_call 185;refine(Cd _ _ _ _ _ _ _ _ _ _ _ _ _ _ _ _ B _ (by assumption) (by assumption) F D H G I).m ?_;rintro e J ⟨q,rfl,p,d⟩;have n:=d.other _ _ (by assumption) rfl;obtain⟨r,s,t,u,v,x,y,z⟩:=bU n;have c:=dD.t (show dD B w _ by assumption) d;have A:=CF m c.size;clear d))
 go_ret;exact⟨_,rfl,by simpa using p,c⟩
theorem Un(ver root next h f b i g c data)(j:List ByteArray)(k:List Int)(d:List Ent)(B w)(m:B<=w.1.size)(G:data.size+4<=140737488355328):
  cL 169 #[.agg #[.i 4,.i ver,.i root,.i next,.s h j i,.s f k g,.s b d c,.t data]] w λe w'=>∃o,e=.r o/\Buf w' B o (beB 1 4++beB 2 next++eF data)/\dD B w w':=by
 have E:B<=(w.alloc (.cells #[.i 4,.i ver,.i root,.i next,.s h j i,.s f k g,.s b d c,.t data] 80)):=by simp;omega
 have F:=aB w (.cells #[.i 4,.i ver,.i root,.i next,.s h j i,.s f k g,.s b d c,.t data] 80);have D:=(dD.refl B w).alloc m (.cells #[.i 4,.i ver,.i root,.i next,.s h j i,.s f k g,.s b d c,.t data] 80);have H:=Buf.nil (w.alloc (.cells #[.i 4,.i ver,.i root,.i next,.s h j i,.s f k g,.s b d c,.t data] 80)) B;go_enter func169,ntmps169;go_wp2_with (first
  |(go_at_call 170;refine(eW _ _ _ _ B _ (by assumption) (by assumption) δ δ (by simp[aK])).m ?_;rintro e C ⟨q,rfl,p,a⟩;have n:=a.other _ _ (by assumption) rfl;obtain⟨r,s,t,u,v,x,y,z⟩:=bU n;have l:=dD.t (show dD B w _ by assumption) a;have A:=CF m l.size;clear a)
  |(go_at_call 187;refine(pK _ _ _ B _ (by assumption) (by assumption) (by simp[aK];omega)).m ?_;rintro e C ⟨q,rfl,p,a⟩;have n:=a.other _ _ (by assumption) rfl;obtain⟨r,s,t,u,v,x,y,z⟩:=bU n;have l:=dD.t (show dD B w _ by assumption) a;have A:=CF m l.size;clear a))
 go_ret;exact⟨_,rfl,by simpa[eF] using p,l⟩
theorem Uq(ver root next ka ia ea kc ic ec data)(keys:List ByteArray)(kids:List Int)(ents B w)(hB:B<=w.1.size)(hE:fI w B ea (ents.flatMap Ent.cells))(hen:ents.length<=1073741824)(hsm:∀e∈ents,e.key.size<=1073741824/\e.val.size<=1073741824)(hl:1+(nI ents).length<=1407374883553):
  cL 169 #[.agg #[.i 3,.i ver,.i root,.i next,.s ka keys kc,.s ia kids ic,.s ea ents ec,.t data]] w λe w'=>∃b',e=.r b'/\Buf w' B b' (beB 1 3++nI ents)/\dD B w w':=by
 have J:B<=(w.alloc (.cells #[.i 3,.i ver,.i root,.i next,.s ka keys kc,.s ia kids ic,.s ea ents ec,.t data] 80)):=χ
 have I:=aB w (.cells #[.i 3,.i ver,.i root,.i next,.s ka keys kc,.s ia kids ic,.s ea ents ec,.t data] 80);have gW:=(dD.refl B w).alloc hB (.cells #[.i 3,.i ver,.i root,.i next,.s ka keys kc,.s ia kids ic,.s ea ents ec,.t data] 80);have M:=Buf.nil (w.alloc (.cells #[.i 3,.i ver,.i root,.i next,.s ka keys kc,.s ia kids ic,.s ea ents ec,.t data] 80)) B;go_enter func169,ntmps169;go_wp2_with (go_at_call 170;refine(eW _ _ _ _ B _ ψ ψ δ δ (by simp[aK])).m ?_;rintro e K ⟨Q,rfl,q,v⟩;have D:=v.other _ _ ψ rfl;obtain⟨e0,U,e2,e3,e4,Z,Y,e7⟩:=bU D;have x:=dD.t (show dD B w _ by assumption) v;have T:=CF hB x.size;clear v);go_loopw [3,36] (λu i wr=>∃j:Nat,j<=ents/\i=.i j/\Buf wr B u (beB 1 3++beB 1 ents.length++(ents.take j).flatMap Ent.bytes)/\dD B w wr) (λ_ i _=>ents-(intOf i).toNat)
 case atStart=>exact⟨0,AG _,rfl,by simpa using q,x⟩
 case round =>
  obtain⟨j,hj,rfl,p,y⟩:=hrel;have A:=CF hB y.size;by_cases hlt:j<ents
  .obtain⟨X,W,z,S,d0,d1,d2,V⟩:=(hE.below y.below).ent hlt;have L:=Ph Ent.bytes ents j hlt;have sj:=hsm ents[j] (AA hlt);have R:(beB 1 3++beB 1 ents.length++(ents.take j).flatMap Ent.bytes).length+ents[j].key.size+ents[j].val+20<=140737488355328:=by simp only[nI,aK,CC]at hl L⊢;omega
   subst z;have O:j * 4<=4294967296:=ω;have F:∀o:Obj,B<=(wr.alloc o).1.size:=λo=>χ
   go_wp2_with (go_at_call 186;refine(Eh _ _ _ _ _ _ B _ (p.alloc _) (F _) R).m ?_;rintro e K ⟨Q,rfl,q,v⟩);have x:=y.t (((dD.refl B wr).alloc A _).t v);go_roundw
   case rel=>exact⟨j+1,ω,ν,by rw[wH _ _ _ hlt,<-CA];exact q,x⟩
   case measure=>simp[intOf];omega
  .obtain rfl:j=ents:=ω;rw[BN]at p;go_wp2;go_ret;exact⟨_,rfl,by simpa[nI] using p,y⟩
theorem qRc {p:a->Bool}{l:List a}(h:j<l)(b:p l[j]=false):(l.drop j).all p=false:=by
 rw[BZ h,List.all_cons,b];rfl
theorem qPd {p:a->Bool}{l:List a}(h:j<l)(b:p l[j]=true):(l.drop j).all p=(l.drop (j+1)).all p:=by
 rw[BZ h,List.all_cons,b];rfl
def Ly(ver root:Int):Bool:=decide (0<=ver)&&(root==0||bF root)
def Gv(next:Int)(data:ByteArray):Bool:=(next==0||bF next)&&(decide (1<=data.size)&&decide (data.size<=240))
theorem Ka(kind ver root next g d a h f b data)(i:List ByteArray)(j:List Int)(c:List Ent)(w):
  cL 181 #[.agg #[.i kind,.i ver,.i root,.i next,.s g i h,.s d j f,.s a c b,.t data]] w λe w'=>e=.r (.bool (Ly ver root))/\bW w w':=by
 go_enter func181,ntmps181;go_wp2_with (go_at_call 198;apply(mW _ _).m;rintro e w' ⟨rfl,rfl⟩);all_goals go_ret
 all_goals refine⟨cF ?_,(AC _ _).alloc (CB _) _⟩
 all_goals simp_all[Ly,pW]
 all_goals omega
theorem Jz(kind ver root next g d a h f b data)(i:List ByteArray)(j:List Int)(c:List Ent)(w):
  cL 184 #[.agg #[.i kind,.i ver,.i root,.i next,.s g i h,.s d j f,.s a c b,.t data]] w λe w'=>e=.r (.bool (Gv next data))/\bW w w':=by
 go_enter func184,ntmps184;go_wp2_with (go_at_call 198;apply(mW _ _).m;rintro e w' ⟨rfl,rfl⟩);all_goals go_ret
 all_goals refine⟨cF ?_,(AC _ _).alloc (CB _) _⟩
 all_goals simp_all[Gv,pW]
 all_goals first|omega|(rw[FN];simp;omega)
def gE:ByteArray->List ByteArray->Bool
 |_,[]=>true
 |last,k :: r=>iG last k&&gE k r
def iH(keys:List ByteArray)(kids:List Int):Bool:=decide (keys.length≠0)&&decide (kids.length=keys.length+1)&&kids.all bF&&gE ⟨#[]⟩ keys
theorem Ef(kind ver root next r q s x v t data a b)(u:List Ent)(w)(k:fI w w r (a.map .string))(j:fI w w q (b.map (.int .i64)))(O:a.length<=1073741824)(L:b.length<=1073741824):
  cL 182 #[.agg #[.i kind,.i ver,.i root,.i next,.s r a.length x,.s q b.length v,.s s u t,.t data]] w λe w'=>e=.r (.bool (iH a b))/\bW w w':=by
 have d:=(AC w w).alloc (CB _) (.cells #[.i kind,.i ver,.i root,.i next,.s r a x,.s q b v,.s s u t,.t data] 80);by_cases h0:a.length=0
 .have z:((a.length:Int)==0)=true:=CU.2 ω
  have y:Hid (a.length=0):=h0;clear h0;go_enter func182,ntmps182;go_wp2;go_ret;exact⟨cF (by simp[iH,y.o]),d⟩
 have z:((a.length:Int)==0)=false:=DP.2 ω;by_cases h1:b.length=a+1
 .have A:((b.length:Int) != (a.length:Int)+1)=false:=χ
  have m:Hid (b.length=a+1):=h1;clear h1;go_enter func182,ntmps182;go_wp2;go_loop [25] (λg=>∃c:Nat,c<=b/\g=.i c/\Hid (b.all bF=(b.drop c).all bF)) (λg=>b-(intOf g).toNat)
  case atStart=>exact⟨0,AG _,rfl,by show _=_;simp⟩
  case round =>
   obtain⟨c,D,rfl,h⟩:=hrel;by_cases hlt:c<b
   .have f:=BZ hlt;have⟨G,P,B,C,K⟩:=(j.below d).at hlt;subst B;cases hp:bF b[c]
    .have o:Hid (b.all bF=false):=h.t (qRc hlt hp)
     clear h f k j;go_wp2_with (go_at_call 198;apply(mW _ _).m;rintro e w' ⟨rfl,rfl⟩);go_ret;exact⟨cF (by simp[iH,o.o]),d⟩
    .have n:Hid (b.all bF=(b.drop (c+1)).all bF):=h.t (qPd hlt hp)
     clear h f k j;go_wp2_with (go_at_call 198;apply(mW _ _).m;rintro e w' ⟨rfl,rfl⟩);go_round
     case rel=>exact⟨c+1,ω,ν,n⟩
     case measure=>simp[intOf];omega
   .have n:Hid (b.all bF=true):=by show _=_;rw[h.o,CW ω];rfl
    clear h;go_wp2;go_loop [5,36] (λI g=>∃(c:Nat) (l:ByteArray),c<=a/\g=.i c/\I=.t l/\Hid (gE ⟨#[]⟩ a=gE l (a.drop c))) (λ_ g=>a-(intOf g).toNat)
    case atStart=>exact⟨0,_,AG _,rfl,rfl,by show _=_;simp⟩
    case round =>
     obtain⟨c,l,D,rfl,rfl,i⟩:=hrel;by_cases hlt:c<a
     .have f:=BZ hlt
      have⟨H,Q,E,F,N⟩:=(k.below d).at hlt;subst E;cases hp:iG l a[c]
      .have o:Hid (gE ⟨#[]⟩ a=false):=by show _=_;rw[i.o,f];simp[gE,hp]
       clear i f k j;go_wp2_with (go_at_call 199;apply(mX _ _ _).m;rintro e w' ⟨rfl,rfl⟩);go_ret;exact⟨cF (by simp[iH,o.o]),d⟩
      .have p:Hid (gE ⟨#[]⟩ a=gE a[c] (a.drop (c+1))):=by show _=_;rw[i.o,f];simp[gE,hp]
       clear i f k j;go_wp2_with (go_at_call 199;apply(mX _ _ _).m;rintro e w' ⟨rfl,rfl⟩);go_round
       case rel=>exact⟨c+1,_,ω,ν,rfl,p⟩
       case measure=>simp[intOf];omega
     .have p:Hid (gE ⟨#[]⟩ a=true):=by show _=_;rw[i.o,CW ω];rfl
      clear i;go_wp2;go_ret;exact⟨cF (by simp[iH,n.o,p.o,m.o,h0]),d⟩
 .have A:=bne_iff_ne.2 ω;have m:Hid (¬b.length=a+1):=h1;go_enter func182,ntmps182;go_wp2;go_ret;exact⟨cF (by simp[iH,m.o]),d⟩
def gJ:ByteArray->List Ent->Bool
 |_,[]=>true
 |last,e :: r=>iG last e.key&&qS e.val e.size e.over&&gJ e.key r
theorem Kb(kind ver root next s q l t r o data)(u:List ByteArray)(v:List Int)(a w)(h:fI w w l (a.flatMap Ent.cells))(L:a.length<=1073741824):
  cL 183 #[.agg #[.i kind,.i ver,.i root,.i next,.s s u t,.s q v r,.s l a.length o,.t data]] w λe w'=>e=.r (.bool (decide (a.length≠0)&&gJ ⟨#[]⟩ a))/\bW w w':=by
 have p:=(AC w w).alloc (CB _) (.cells #[.i kind,.i ver,.i root,.i next,.s s u t,.s q v r,.s l a o,.t data] 80);by_cases h0:a.length=0
 .have y:((a.length:Int)==0)=true:=CU.2 ω
  have x:Hid (a.length=0):=h0;clear h0;go_enter func183,ntmps183;go_wp2;go_ret;exact⟨cF (by simp[x.o]),p⟩
 have y:((a.length:Int)==0)=false:=DP.2 ω;go_enter func183,ntmps183;go_wp2;go_loopw [3,13] (λE n G=>∃(b:Nat) (i:ByteArray),b<=a/\n=.i b/\E=.t i/\Hid (gJ ⟨#[]⟩ a=gJ i (a.drop b))/\bW w G) (λ_ n _=>a-(intOf n).toNat)
 case atStart=>exact⟨0,_,AG _,rfl,rfl,by show _=_;simp,p⟩
 case round =>
  obtain⟨b,i,N,rfl,rfl,c,d⟩:=hrel;have m:=d.size;by_cases hlt:b<a
  .have f:=BZ hlt
   have⟨D,P,B,C,H,I,J,K⟩:=(h.below d).ent hlt;have O:b * 4<=4294967296:=ω
   subst B;cases hp:iG i a[b].key
   .have j:Hid (gJ ⟨#[]⟩ a=false):=by show _=_;rw[c.o,f];simp[gJ,hp]
    clear c f h;go_wp2_with (go_at_call 199;apply(mX _ _ _).m;rintro e w' ⟨rfl,rfl⟩);go_ret;exact⟨cF (by simp[j.o]),d.alloc m _⟩
   .cases hq:qS a[b].val a[b].size a[b].over
    .have j:Hid (gJ ⟨#[]⟩ a=false):=by show _=_;rw[c.o,f];simp[gJ,hq]
     clear c f h;go_wp2_with (first|(go_at_call 199;apply(mX _ _ _).m;rintro e w' ⟨rfl,rfl⟩)|(go_at_call 200;apply(tY _ _ _ _ _).m;rintro e F ⟨rfl,g⟩;have⟨z,A⟩:=qMv g));go_ret;exact⟨cF (by simp[j.o]),(d.alloc m _).t (g.m χ)⟩
    .have k:Hid (gJ ⟨#[]⟩ a=gJ a[b].key (a.drop (b+1))):=by show _=_;rw[c.o,f];simp[gJ,hp,hq]
     clear c f h;go_wp2_with (first|(go_at_call 199;apply(mX _ _ _).m;rintro e w' ⟨rfl,rfl⟩)|(go_at_call 200;apply(tY _ _ _ _ _).m;rintro e F ⟨rfl,g⟩;have⟨z,A⟩:=qMv g));go_roundw
     case rel=>exact⟨b+1,_,ω,ν,rfl,k,(d.alloc m _).t (g.m χ)⟩
     case measure=>simp[intOf];omega
  .have k:Hid (gJ ⟨#[]⟩ a=true):=by rw[c.o,CW ω];rfl
   go_wp2;go_ret;exact⟨cF (by simp[k.o,h0]),d⟩
