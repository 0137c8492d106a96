import Derived.BigQuiet
import Derived.Test.YtdhgdcjmhofhaaaGreatD9
set_option linter.all false
set_option maxHeartbeats 8000000
namespace Go.Proofs.YtdhgdcjmhofhaaaGreat.Pages
open Go.RowKit
variable {a:Type} {e:TypeId} {j β ρ:Nat} {w:World}
def bZ{a b}(h:a=b):Ending.returned (.bool a)=.r (.bool b):=by rw[h]
def bI(n:Int):Bool:=decide (2<=n)&&decide (n<4096)
def mK(n w):
  cL 198 #[.i n] w λe w'=>e=.r (.bool (bI n))/\w'=w:=by
 go_enter Tryz.func198,Tryz.ntmps198;go_wp2
 all_goals go_ret
 all_goals refine⟨bZ ?_,rfl⟩
 all_goals (rw[FC];simp only[bI,AP,BT,EV,false_iff];omega)
def gX(last key:ByteArray):Bool:=Op.bytesLess last.toList key.toList&&decide (key.size<=24)
def mL(a key w):
  cL 199 #[.t a,.t key] w λe w'=>e=.r (.bool (gX a key))/\w'=w:=by
 go_enter Tryz.func199,Tryz.ntmps199;go_wp2
 all_goals go_ret
 all_goals refine⟨bZ ?_,rfl⟩
 all_goals (rw[FC];simp only[gX,AP,BT,EV,false_iff,not_and, *,CV,false_implies];try omega)
def qMm(key:ByteArray):Bool:=decide (1<=key.size)&&decide (key.size<=24)
def iD(key w):
  cL 68 #[.t key] w λe w'=>e=.r (.bool (qMm key))/\w'=w:=by
 go_enter Tryz.func68,Tryz.ntmps68;go_wp2
 all_goals go_ret
 all_goals refine⟨bZ ?_,rfl⟩
 all_goals (rw[FC];simp only[qMm,AP,BT,EV,false_iff];omega)
def xT(k v n o w):
  cL 201 #[.agg #[.t k,.t v,.i n,.i o]] w λe w'=>e=.r (.bool (o==0))/\bW w w':=by
 go_enter Tryz.func201,Tryz.ntmps201;go_wp2;go_ret;exact⟨rfl,(AC _ _).alloc (BZ _) _⟩
def qIg{W c}(d:bW W c):(∀b o,b<W.heap.size->c.c b o=W.c b o)/\(∀b o,b<W.heap.size->c.frozen? (aD b o)=W.frozen? (aD b o)):=
 ⟨λb o a=>d.cell (p:=(aD b o)) a,λb o a=>d.frozen (p:=(aD b o)) a⟩
def pE:bI 0=false:=rfl
def qB(v:ByteArray)(n o:Int):Bool:=(o==0&&decide ((v.size:Int)<=60)&&n==(v.size:Int))||(bI o&&v.toList.isEmpty&&decide (60<n)&&decide (n<=400))
def sO(k v n o w):
  cL 200 #[.agg #[.t k,.t v,.i n,.i o]] w λe w'=>e=.r (.bool (qB v n o))/\bW w w':=by
 go_enter Tryz.func200,Tryz.ntmps200;go_wp2_with (first|(go_at_call 201;apply(xT _ _ _ _ _).m;rintro e d ⟨rfl,a⟩;have⟨b,c⟩:=qIg a)|(go_at_call 198;apply(mK _ _).m;rintro e w' ⟨rfl,rfl⟩))
 all_goals go_ret
 all_goals refine⟨bZ ?_,((AC _ _).alloc (BZ _) _).t (a.m (by simp))⟩
 all_goals clear a b c
 all_goals simp_all[qB,pE]
 all_goals omega
def dX(s:ByteArray):List UInt8:=[UInt8.ofNat s.size]++s.data.toList
def mM(k v:ByteArray)(n o:Int):List UInt8 :=
 dX k++(if (o==0)=true then [0]++dX v else [1]++beB 2 n++beB 2 o)
def aC(w:World)(o):(w.alloc o).heap[w.heap.size]?=some o:=by
 show(w.heap.push o)[w.heap.size]?=_
 simp
def kA {a b c d}(h:cW w β #[a,b,c,d] e):
  w.c β 0=some a/\w.c β 1=some b/\w.c β 2=some c/\w.c β 3=some d:=by
 simp[World.cell?,h]
def Ci(b k v n o f B w)(x:Buf w B b f)(g:B<=w.heap.size)(F:f.length+k.size+v.size+20<=140737488355328):
  cL 186 #[b,.agg #[.t k,.t v,.i n,.i o]] w λe w'=>∃s,e=.r s/\Buf w' B s (f++mM k v n o)/\cY B w w':=by
 have C:B<=(w.alloc (.cells #[.t k,.t v,.i n,.i o] 69)).heap.size:=by simp;omega
 have E:=aC w (.cells #[.t k,.t v,.i n,.i o] 69);have A:=(cY.refl B w).alloc g (.cells #[.t k,.t v,.i n,.i o] 69);have G:=x.alloc (.cells #[.t k,.t v,.i n,.i o] 69);have y:f.length+k.size+1<=140737488355328:=by omega
 have u:(f++[UInt8.ofNat k.size]++k.data.toList).length+1<=140737488355328:=by simp;omega
 have z:(f++[UInt8.ofNat k.size]++k.data.toList++[0]).length+v.size+1<=140737488355328:=by simp;omega
 cases ho:(o==0)
 all_goals
  go_enter Tryz.func186,Tryz.ntmps186;go_wp2_with (first
   |(go_at_call 187;refine(oW _ _ _ B _ (by assumption) (by assumption) (by first|exact y|exact z)).m ?_;rintro e q ⟨r,rfl,p,a⟩;have d:=a.other _ _ (by assumption) rfl;obtain⟨h,i,j,l⟩:=kA d;have c:=cY.t (show cY B w _ by assumption) a;have m:=CF g c.size;clear a)
   |(go_at_call 201;refine(xT _ _ _ _ _).m ?_;rintro e q ⟨rfl,t⟩;have a:=cY.of_below t (by assumption);have D:=Buf.below (by assumption) t;have d:=a.other _ _ (by assumption) rfl;obtain⟨h,i,j,l⟩:=kA d;have c:=cY.t (show cY B w _ by assumption) a;have m:=CF g c.size;clear a)
   |(at_builtin;refine kT _ rfl (.tmp 18) (.tmp 19) rfl B _ _ rfl (by assumption) (by assumption) _ 1 rfl rfl u ?_;intro r q p a;have d:=a.other _ _ (by assumption) rfl;obtain⟨h,i,j,l⟩:=kA d;have c:=cY.t (show cY B w _ by assumption) a;have m:=CF g c.size;clear a)
   |(at_builtin;refine kT _ rfl (.tmp 11) (.tmp 12) rfl B _ _ rfl (by assumption) (by assumption) _ 0 rfl rfl u ?_;intro r q p a;have d:=a.other _ _ (by assumption) rfl;obtain⟨h,i,j,l⟩:=kA d;have c:=cY.t (show cY B w _ by assumption) a;have m:=CF g c.size;clear a)
   |(go_at_call 170;refine(eU _ _ _ _ B _ (by assumption) (by assumption) (by decide) (by decide) (by simp[aL];omega)).m ?_;rintro e q ⟨r,rfl,p,a⟩;have d:=a.other _ _ (by assumption) rfl;obtain⟨h,i,j,l⟩:=kA d;have c:=cY.t (show cY B w _ by assumption) a;have m:=CF g c.size;clear a))
  go_ret;exact⟨_,rfl,by simpa[mM,dX,ho] using p,c⟩
def uP (f:a->List UInt8)(l:List a)(j)(h:j<l.length):(l.take (j+1)).flatMap f=(l.take j).flatMap f++f l[j]:=by
 rw[AN h];simp only[BV,AK,List.flatMap_nil,FD]
def Mh (f:a->List UInt8)(l:List a)(j)(h:j<l.length):((l.take j).flatMap f).length+(f l[j]).length<=(l.flatMap f).length:=by
 have b:l.flatMap f=(l.take (j+1)).flatMap f++(l.drop (j+1)).flatMap f:=by rw[<-BV,CD]
 rw[b,uP f l j h];simp
def bO {a b c d a' f g i}(h:cW w β #[a,b,c,d,a',f,g,i] e):
  w.c β 0=some a/\w.c β 1=some b/\w.c β 2=some c/\w.c β 3=some d /\
  w.c β 4=some a'/\w.c β 5=some f/\w.c β 6=some g/\w.c β 7=some i:=by
 simp[World.cell?,h]
def eS(keys:List ByteArray)(kids:List Int):List UInt8:=beB 1 keys.length++kids.flatMap (beB 2)++keys.flatMap dX
def fB.at {e:Type}{f B a}{l:List e}(h:fB w B a (l.map f))(d:j<l.length):∃b c,a=some (aD b c)/\b<B/\w.c b (c+j)=some (f l[j]):=by
 rcases h with h|⟨b,c,g,i,k⟩
 .simp at h;subst h;simp at d
 .exact⟨b,c,g,i,k j _ (by simp[GH d])⟩
def zV(b kind ver root next k j l r q n m data a d h B w)(V:Buf w B b h)(t:B<=w.heap.size)(R:fB w B k (a.map .string))(Q:fB w B j (d.map (.int .i64)))(a5:a.length<=1073741824)(a2:d.length<=1073741824)(N:h.length+(eS a d).length+8<=140737488355328):
  cL 185 #[b,.agg #[.i kind,.i ver,.i root,.i next,.s k a.length r,.s j d.length q,.s l n m,.t data]] w λe w'=>∃K,e=.r K/\Buf w' B K (h++eS a d)/\cY B w w':=by
 have Y:B<=(w.alloc (.cells #[.i kind,.i ver,.i root,.i next,.s k a.length r,.s j d.length q,.s l n m,.t data] 80)).heap.size:=by simp;omega
 have Z:=aC w (.cells #[.i kind,.i ver,.i root,.i next,.s k a.length r,.s j d.length q,.s l n m,.t data] 80);have X:=(cY.refl B w).alloc t (.cells #[.i kind,.i ver,.i root,.i next,.s k a.length r,.s j d.length q,.s l n m,.t data] 80);have a6:=V.alloc (.cells #[.i kind,.i ver,.i root,.i next,.s k a.length r,.s j d.length q,.s l n m,.t data] 80);have W:h.length+8<=140737488355328:=by omega
 go_enter Tryz.func185,Tryz.ntmps185;go_wp2_with (go_at_call 170;refine(eU _ _ _ _ B _ (by assumption) (by assumption) (by decide) (by decide) W).m ?_;rintro e O ⟨L,rfl,u,f⟩;have i:=f.other _ _ (by assumption) rfl;obtain⟨x,y,z,A,C,D,E,F⟩:=bO i;have g:=cY.t (show cY B w _ by assumption) f;have M:=CF t g.size;clear f);go_loopw [0,17] (λJ p s=>∃c:Nat,c<=d.length/\p=.i c/\Buf s B J (h++beB 1 a.length++(d.take c).flatMap (beB 2))/\cY B w s/\cW s w.heap.size #[.i kind,.i ver,.i root,.i next,.s k a.length r,.s j d.length q,.s l n m,.t data] 80) (λ_ p _=>d.length-(intOf p).toNat)
 case atStart=>exact⟨0,AG _,rfl,by simpa using u,g,i⟩
 case round =>
  obtain⟨c,T,rfl,v,o,G⟩:=hrel;have P:=CF t o.size;by_cases hlt:c<d.length
  .obtain⟨a7,a8,S,a0,a1⟩:=(Q.below o.below).at hlt
   have I:=Mh (beB 2) d c hlt;have H:(h++beB 1 a.length++(d.take c).flatMap (beB 2)).length+8<=140737488355328:=by simp only[eS,aL,CG]at N I⊢;omega
   subst S;go_wp2_with (go_at_call 170;refine(eU _ _ _ _ B _ (by assumption) (by assumption) (by decide) (by decide) H).m ?_;rintro e O ⟨L,rfl,u,f⟩;have i:=f.other _ _ (by assumption) rfl;obtain⟨x,y,z,A,C,D,E,F⟩:=bO i;have g:=cY.t (show cY B w _ by assumption) f;have M:=CF t g.size;clear f);go_roundw
   case rel=>exact⟨c+1,by omega,by go_num,by rw[uP _ _ _ hlt,<-BU];exact u,g,i⟩
   case measure=>simp[intOf];omega
  .obtain rfl:c=d.length:=by omega
   rw[BK]at v;obtain⟨x,y,z,A,C,D,E,F⟩:=bO G;go_wp2;go_loopw [0,28] (λJ p s=>∃c:Nat,c<=a.length/\p=.i c/\Buf s B J (h++beB 1 a.length++d.flatMap (beB 2)++(a.take c).flatMap dX)/\cY B w s/\cW s w.heap.size #[.i kind,.i ver,.i root,.i next,.s k a.length r,.s j d.length q,.s l n m,.t data] 80) (λ_ p _=>a.length-(intOf p).toNat)
   case atStart=>exact⟨0,AG _,rfl,by simpa using v,o,G⟩
   case round =>
    obtain⟨c,T,rfl,v,o,G⟩:=hrel;have P:=CF t o.size;by_cases hlt:c<a.length
    .obtain⟨a9,aa,U,a3,a4⟩:=(R.below o.below).at hlt
     have I:=Mh dX a c hlt;have H:(h++beB 1 a.length++d.flatMap (beB 2)++(a.take c).flatMap dX).length+a[c].size+1<=140737488355328:=by simp only[eS,dX,aL,CG,Bq,ET,KI]at N I⊢;omega
     subst U;go_wp2_with (go_at_call 187;refine(oW _ _ _ B _ (by assumption) (by assumption) H).m ?_;rintro e O ⟨L,rfl,u,f⟩;have i:=f.other _ _ (by assumption) rfl;obtain⟨x,y,z,A,C,D,E,F⟩:=bO i;have g:=cY.t (show cY B w _ by assumption) f;have M:=CF t g.size;clear f);go_roundw
     case rel=>exact⟨c+1,by omega,by go_num,by rw[uP _ _ _ hlt];simpa[dX] using u,g,i⟩
     case measure=>simp[intOf];omega
    .obtain rfl:c=a.length:=by omega
     rw[BK]at v;go_wp2;go_ret;exact⟨_,rfl,by simpa[eS] using v,o⟩
structure eA (ρ:Nat) (w w':World):Prop where
 os:w'.os=w.os
 tape:w'.tape=w.tape
 output:w'.output=w.output
 size:w.heap.size<=w'.heap.size
 block:∀(k:Nat),k<w.heap.size->k≠ρ->w'.heap[k]?=w.heap[k]?
def eA.refl(ρ w):eA ρ w w:=⟨rfl,rfl,rfl,BZ _,λ_ _ _=>rfl⟩
def eA.t {a b c:World}(h:eA ρ a b)(k:eA ρ b c):eA ρ a c :=
 ⟨k.os.t h.os,k.tape.t h.tape,k.output.t h.output,CF h.size k.size,λf d e=>(k.block f (JI d h.size) e).t (h.block f d e)⟩
def eA.drewN {a w}(h:eA ρ a w)(n):eA ρ a (w.drewN n):=h.t ⟨rfl,rfl,rfl,BZ _,λ_ _ _=>rfl⟩
def eA.setCell {a w}(h:eA ρ a w)(i v):eA ρ a (w.setCell (aD ρ i) v):=
 h.t ⟨rfl,rfl,rfl,by simp[World.setCell],λc _ b=>CY _ _ _ _ b⟩
def eA.of_below {w w'}(h:bW w w'):eA ρ w w':=⟨h.os,h.tape,h.output,h.size,λb a _=>h.block b a⟩
structure Rd (w:World) (ρ g c:Nat) (bs:List UInt8) (at_:Nat):Prop where
 box:w.heap[ρ]?=some (.cells #[.slice (some (aD g 0)) bs.length c,.int .i64 at_] 247)
 bytes:∀(j:Nat) (hj:j<bs.length),w.cell? (aD g j)=some (fO bs[j])
 ne:g≠ρ
 lt:g<w.heap.size
 le:at_<=bs.length
 len:bs.length<=1000
 cap:bs.length<=c
def bY {a b}(h:cW w β #[a,b] e):w.c β 0=some a/\w.c β 1=some b:=by simp[World.cell?,h]
def aA {cs}(h:cW w β cs e)(i):w.frozen? (aD β i)=false:=by simp[World.frozen?,h]
def aB {cs}(h:cW w β cs e)(i v):(w.setCell (aD β i) v).heap[β]?=some (.cells (cs.setIfInBounds i v) e):=by
 simp only[World.setCell];rw[KJ,AU rfl,h];rfl
def Rd.only{w w' ρ g c b}{a a':Nat}(h:Rd w ρ g c b a)(d:eA ρ w w')(i:cW w' ρ #[.q g b.length c,.i a'] 247)(f:a'<=b.length):Rd w' ρ g c b a' :=
 ⟨i,λj e=>by rw[CK (w:=w) (d.block g h.lt h.ne)];exact h.bytes j e,h.ne,JI h.lt d.size,f,h.len,h.cap⟩
def Al{u v}(h:u=v):Ending.returned u=.r v:=by rw[h]
def Aq(bs:List UInt8)(a:Nat):UInt8:=bs.getD a 0
def As(bs:List UInt8)(a:Nat):Nat:=min (a+1) bs.length
def qFw(ρ g c b a w)(h:Rd w ρ g c b a):
  cL 197 #[.p ρ 0] w λe w'=>e=.r (fO (Aq b a))/\Rd w' ρ g c b (As b a)/\eA ρ w w':=by
 obtain⟨x,y⟩:=bY h.box;have p:=h.le;have s:=h.len;have r:=aA h.box;by_cases hlt:a<b.length
 .have o:=h.bytes a hlt
  have m:(a:Int)<(b.length:Int):=by omega
  have i:∀n,((w.drewN n).setCell (aD ρ 1) (.i ((a:Int)+1))).heap[ρ]?=some (.cells #[.q g b.length c,.i ((a:Int)+1)] 247):=λn=>by
   have:=aB (w:=w.drewN n) h.box 1 (.i ((a:Int)+1));simpa using this
  have t:=λn=>(bY (i n)).1;have v:=λn=>(bY (i n)).2;have q:∀n,((w.drewN n).setCell (aD ρ 1) (.i ((a:Int)+1))).cell? (aD g a)=some (fO b[a]):=λn=>by rw[CK (w:=w.drewN n) (CY _ _ _ _ h.ne)];exact o
  have d:Aq b a=b[a]:=by simp[Aq,List.getD,GH hlt]
  have f:As b a=a+1:=by unfold As;omega
  have j:Hid (Aq b a=b[a]):=d;have k:Hid (As b a=a+1):=f;have l:Hid (∀n,((w.drewN n).setCell (aD ρ 1) (.i ((a:Int)+1))).heap[ρ]?=some (.cells #[.q g b.length c,.i ((a:Int)+1)] 247)):=i;go_enter Tryz.func197,Tryz.ntmps197;go_wp2;go_quiet (fail);go_wp2;go_quiet (fail);go_wp2;go_ret;exact⟨Al (u:=fO b[a]) (CI fO j.o.symm),by rw[k.o];exact h.only ((((eA.refl ρ w).drewN _).setCell 1 _).drewN _) (l.o _) (by omega),(((eA.refl ρ w).drewN _).setCell 1 _).drewN _⟩
 .have m:(b.length:Int)<=(a:Int):=by omega
  go_enter Tryz.func197,Tryz.ntmps197;go_wp2;go_quiet (fail);go_wp2;go_ret;have d:Aq b a=0:=by simp[Aq,List.getD,CE (by omega:b.length<=a)]
  have f:As b a=a:=by unfold As;omega
  exact⟨Al (by rw[d];rfl),by rw[f];exact h.only ((eA.refl ρ w).drewN _) h.box p,(eA.refl ρ w).drewN _⟩
def iI(bs:List UInt8)(a:Nat):Nat->Nat
 |0=>0
 |k+1=>iI bs a k * 256+(bs.getD (a+k) 0).toNat
def aZ(bs:List UInt8)(a k:Nat):Nat:=min (a+k) bs.length
def Yn(b a k):iI b a k<256 ^ k:=by
 induction k with
 |zero=>simp[iI]
 |succ k ih =>
  have:=(b.getD (a+k) 0).toNat_lt;simp only[iI,Nat.pow_succ];omega
def qJa (h:j<=7):256 ^ j<=72057594037927936:=by
 have:256 ^ j<=256 ^ 7:=Nat.pow_le_pow_right (by omega) h;simpa using this
def qBl(b a j)(h:a<=b.length):Aq b (aZ b a j)=b.getD (a+j) 0:=by
 unfold Aq aZ;by_cases hl:a+j<=b.length
 .rw[GL hl]
 .rw[Nat.min_eq_right (by omega)]
  simp[List.getD,CE (by omega:b.length<=a+j)]
def Jb{b a}(h:a<=b.length):aZ b a 0=a:=by unfold aZ;omega
def qBm(b a j):As b (aZ b a j)=aZ b a (j+1):=by unfold As aZ;omega
def qJc{a n:Nat}(d:a<72057594037927936)(c:n<2 ^ 8):bits BinOp.or IntKind.u64 ((a:Int) * 256) (n:Int)=((a * 256+n:Nat):Int):=by
 have b:(a:Int) * 256=((a * 256:Nat):Int):=by omega
 rw[b,u64_or_nat _ _ (by omega) (by omega),nat_join 8 _ _ (by omega) c]
def vO(ρ g c bs)(a k:Nat)(w)(h:Rd w ρ g c bs a)(hk:k<=8):
  cL 177 #[.p ρ 0,.i k] w λe w'=>e=.r (.i (wrap64 (iI bs a k)))/\Rd w' ρ g c bs (aZ bs a k)/\eA ρ w w':=by
 have o:=h.le;go_enter Tryz.func177,Tryz.ntmps177;go_wp2;go_loopw [5,7] (λu i wr=>∃j:Nat,j<=k/\i=.i j/\u=.int .u64 (iI bs a j:Nat)/\Rd wr ρ g c bs (aZ bs a j)/\eA ρ w wr) (λ_ i _=>k-(intOf i).toNat)
 case atStart=>exact⟨0,AG _,rfl,rfl,by rw[Jb o];exact h,eA.refl _ _⟩
 case round =>
  obtain⟨j,G,rfl,rfl,C,A⟩:=hrel;have D:=Yn bs a j;by_cases hlt:j<k
  .have F:=qJa (show j<=7 by omega)
   have s:=qFw ρ g c bs (aZ bs a j) wr C;rw[qBl bs a j o,qBm]at s;have m:=(bs.getD (a+j) 0).toNat_lt;have⟨b,t⟩:∃b,b=bs.getD (a+j) 0:=⟨_,rfl⟩;have B:Hid (iI bs a (j+1)=iI bs a j * 256+b.toNat):=by show _=_;rw[t];rfl
   rw[<-t]at s m;have⟨V,z⟩:∃V,V=iI bs a j:=⟨_,rfl⟩;rw[<-z]at D B;rw[<-z];clear t z;unfold fO at s;go_wp2_with (go_at_call 197;apply s.m;rintro e E ⟨rfl,y,x⟩);go_roundw
   case rel=>exact⟨j+1,by omega,by go_num,by rw[B.o,qJc (by omega) m],y,A.t x⟩
   case measure=>simp[intOf];omega
  .obtain rfl:j=k:=by omega
   go_wp2;go_ret;exact⟨rfl,C,A⟩
def lB(ρ g c b a w)(h:Rd w ρ g c b a):
  cL 177 #[.p ρ 0,.i 1] w λe w'=>e=.r (.i ((b.getD a 0).toNat:Nat))/\Rd w' ρ g c b (aZ b a 1)/\eA ρ w w':=by
 refine(vO ρ g c b a 1 w h (by omega)).m λe w' ⟨d,i,f⟩=>⟨?_,i,f⟩;rw[d];refine Al (CI (Value.int .i64) ?_);have:=(b.getD a 0).toNat_lt;simp only[iI,DW,EB,DS];unfold wrap64;omega
def yB(u g p S c)(a:List UInt8)(h:∀(j:Nat) (b:j<a.length),u.cell? (aD g j)=some (fO a[j]))(i:p+S<=a.length)(k:a.length<=c):
  (convert 108 9 (.s (if c=p then some (aD g 0) else some (aD g p)) S (c-p))).run Tryz.prog u=.ok (.t ⟨((a.drop p).take S).toArray⟩) u:=by
 have d:((a.drop p).take S).length=S:=by simp;omega
 by_cases hc:c=p
 .have f:S=0:=by omega
  subst f;rw[AU hc];have:=run_convert_bytes_back (P:=Tryz.prog) u 108 9 5 (aD g 0) (c-p) [] Tryz.underlying108 Tryz.underlying5 Tryz.underlying9 (λj b=>by simp at b);simpa using this
 .rw[AR hc]
  have:=run_convert_bytes_back (P:=Tryz.prog) u 108 9 5 (aD g p) (c-p) ((a.drop p).take S) Tryz.underlying108 Tryz.underlying5 Tryz.underlying9 (λj b=>by
   have e:((aD g p):Addr).add j=(aD g (p+j)):=by unfold Addr.add;split<;>simp_all
   rw[d]at b;rw[e,h (p+j) (by omega)];simp[fO])
  rw[d]at this;exact this
def Zw{l:List UInt8}{p S}(h:l.length<=p+S):(l.drop p).take (l.length-p)=(l.drop p).take S:=by
 rw[CQ (by simp),CQ (by simp;omega)]
def nZ(bs:List UInt8)(a:Nat):List UInt8:=(bs.drop (aZ bs a 1)).take (bs.getD a 0).toNat
def iH(bs:List UInt8)(a:Nat):Nat:=min (aZ bs a 1+(bs.getD a 0).toNat) bs.length
def tZ(ρ g c b a w)(h:Rd w ρ g c b a):
  cL 180 #[.p ρ 0] w λe w'=>e=.r (.t ⟨(nZ b a).toArray⟩)/\Rd w' ρ g c b (iH b a)/\eA ρ w w':=by
 have L:=h.len;have G:=h.cap;have H:=(b.getD a 0).toNat_lt;have⟨S,u⟩:∃S,S=(b.getD a 0).toNat:=⟨_,rfl⟩;have⟨p,v⟩:∃p,p=aZ b a 1:=⟨_,rfl⟩;have t:=lB ρ g c b a w h;rw[<-u,<-v]at t;have M:p<=b.length:=by rw[v];unfold aZ;omega
 rw[<-u]at H;have y:Hid (nZ b a=(b.drop p).take S):=by show _=_;rw[u,v];rfl
 have x:Hid (iH b a=min (p+S) b.length):=by show _=_;rw[u,v];rfl
 clear u v;by_cases ht:p+S<=b.length
 .have I:(p:Int)+(S:Int)<=(b.length:Int):=by omega
  have J:(p:Int)<=(p:Int)+(S:Int):=by omega
  have K:(p:Int)+(S:Int)<=(c:Int):=by omega
  have k:∀(f:World),(∀(i:Nat) (o:i<b.length),f.c g i=some (fO b[i]))->(convert 108 9 (.s (if c=p then some (aD g 0) else some (aD g p)) (((p:Int)+(S:Int)).toNat-p) (c-p))).run Tryz.prog f=.ok (.t ⟨((b.drop p).take S).toArray⟩) f:=λf s=>by
   rw[show((p:Int)+(S:Int)).toNat-p=S by omega];exact yB f g p S c b s (by omega) G
  by_cases hc:c=p
  .have z:p=c:=hc.symm
   subst z;clear k;have k:∀(f:World),(∀(i:Nat) (o:i<b.length),f.c g i=some (fO b[i]))->(convert 108 9 (.q g 0 0)).run Tryz.prog f=.ok (.t ⟨((b.drop p).take S).toArray⟩) f:=λf s=>by
    have q:=yB f g p S p b s (by omega) (by omega);have e:S=0:=by omega
    rw[AU rfl,JF]at q;rw[e]at q⊢;exact q
   go_enter Tryz.func180,Tryz.ntmps180;go_wp2_with (go_at_call 177;apply t.m;rintro e l ⟨rfl,d,r⟩;have⟨E,F⟩:=bY d.box;have B:=aA d.box;have j:=aB d.box 1 (.i ((p:Int)+(S:Int)));have C:=(bY j).1;have D:=(bY j).2;have m:Hid _:=j;clear j;have A:=λn=>k ((l.setCell (aD ρ 1) (.i ((p:Int)+(S:Int)))).drewN n) (λi o=>(CK (w:=l) (CY _ _ _ _ d.ne)).t (d.bytes i o)));clear k;go_quiet (fail);go_wp2
   all_goals go_ret
   all_goals exact⟨Al (u:=.t ⟨((b.drop p).take S).toArray⟩) (by rw[y.o]),by rw[x.o,show min (p+S) b.length=p+S by omega];exact d.only (((eA.refl ρ l).setCell 1 _).drewN _) (by unfold cW;first|simpa using m.o|(rw[show((p+S:Nat):Int)=(p:Int)+(S:Int) by omega];simpa using m.o)) (by omega),(r.setCell 1 (.i ((p:Int)+(S:Int)))).drewN _⟩
  .simp only[AR hc]at k
   go_enter Tryz.func180,Tryz.ntmps180;go_wp2_with (go_at_call 177;apply t.m;rintro e l ⟨rfl,d,r⟩;have⟨E,F⟩:=bY d.box;have B:=aA d.box;have j:=aB d.box 1 (.i ((p:Int)+(S:Int)));have C:=(bY j).1;have D:=(bY j).2;have m:Hid _:=j;clear j;have A:=λn=>k ((l.setCell (aD ρ 1) (.i ((p:Int)+(S:Int)))).drewN n) (λi o=>(CK (w:=l) (CY _ _ _ _ d.ne)).t (d.bytes i o)));clear k;go_quiet (fail);go_wp2
   all_goals go_ret
   all_goals exact⟨Al (u:=.t ⟨((b.drop p).take S).toArray⟩) (by rw[y.o]),by rw[x.o,show min (p+S) b.length=p+S by omega];exact d.only (((eA.refl ρ l).setCell 1 _).drewN _) (by unfold cW;first|simpa using m.o|(rw[show((p+S:Nat):Int)=(p:Int)+(S:Int) by omega];simpa using m.o)) (by omega),(r.setCell 1 (.i ((p:Int)+(S:Int)))).drewN _⟩
 .have I:(b.length:Int)<(p:Int)+(S:Int):=by omega
  have J:(p:Int)<=(b.length:Int):=by omega
  have K:(b.length:Int)<=(c:Int):=by omega
  have k:∀(f:World),(∀(i:Nat) (o:i<b.length),f.c g i=some (fO b[i]))->(convert 108 9 (.s (if c=p then some (aD g 0) else some (aD g p)) (b.length-p) (c-p))).run Tryz.prog f=.ok (.t ⟨((b.drop p).take (b.length-p)).toArray⟩) f:=λf s=>by
   rw[show b.length-p=(b.length-p) by omega];exact yB f g p (b.length-p) c b s (by omega) G
  by_cases hc:c=p
  .have z:p=c:=hc.symm
   subst z;clear k;have k:∀(f:World),(∀(i:Nat) (o:i<b.length),f.c g i=some (fO b[i]))->(convert 108 9 (.q g 0 0)).run Tryz.prog f=.ok (.t ⟨((b.drop p).take (b.length-p)).toArray⟩) f:=λf s=>by
    have q:=yB f g p (b.length-p) p b s (by omega) (by omega);have e:(b.length-p)=0:=by omega
    rw[AU rfl,JF]at q;rw[e]at q⊢;exact q
   go_enter Tryz.func180,Tryz.ntmps180;go_wp2_with (go_at_call 177;apply t.m;rintro e l ⟨rfl,d,r⟩;have⟨E,F⟩:=bY d.box;have B:=aA d.box;have j:=aB d.box 1 (.i (b.length:Int));have C:=(bY j).1;have D:=(bY j).2;have m:Hid _:=j;clear j;have A:=λn=>k ((l.setCell (aD ρ 1) (.i (b.length:Int))).drewN n) (λi o=>(CK (w:=l) (CY _ _ _ _ d.ne)).t (d.bytes i o)));clear k;go_quiet (fail);go_wp2
   all_goals go_ret
   all_goals exact⟨Al (u:=.e) (by rw[y.o,CW (by omega)];simp),by rw[x.o,show min (p+S) b.length=b.length by omega];exact d.only (((eA.refl ρ l).setCell 1 _).drewN _) (by unfold cW;first|simpa using m.o|(rw[show((p+S:Nat):Int)=(p:Int)+(S:Int) by omega];simpa using m.o)) (by omega),(r.setCell 1 (.i (b.length:Int))).drewN _⟩
  .simp only[AR hc]at k
   go_enter Tryz.func180,Tryz.ntmps180;go_wp2_with (go_at_call 177;apply t.m;rintro e l ⟨rfl,d,r⟩;have⟨E,F⟩:=bY d.box;have B:=aA d.box;have j:=aB d.box 1 (.i (b.length:Int));have C:=(bY j).1;have D:=(bY j).2;have m:Hid _:=j;clear j;have A:=λn=>k ((l.setCell (aD ρ 1) (.i (b.length:Int))).drewN n) (λi o=>(CK (w:=l) (CY _ _ _ _ d.ne)).t (d.bytes i o)));clear k;go_quiet (fail);go_wp2
   all_goals go_ret
   all_goals exact⟨Al (u:=.t ⟨((b.drop p).take (b.length-p)).toArray⟩) (by rw[y.o];rw[Zw (S:=S) (by omega)]),by rw[x.o,show min (p+S) b.length=b.length by omega];exact d.only (((eA.refl ρ l).setCell 1 _).drewN _) (by unfold cW;first|simpa using m.o|(rw[show((p+S:Nat):Int)=(p:Int)+(S:Int) by omega];simpa using m.o)) (by omega),(r.setCell 1 (.i (b.length:Int))).drewN _⟩
structure Ent where
 key:ByteArray
 val:ByteArray
 size:Int
 over:Int
def Ent.cells(e:Ent):List Value:=[.string e.key,.string e.val,.int .i64 e.size,.int .i64 e.over]
def Ent.bytes(e:Ent):List UInt8:=mM e.key e.val e.size e.over
def qHy(a:List Ent)(j i)(b:j<a.length)(hi:i<4):(a.flatMap Ent.cells)[4 * j+i]?=(a[j].cells)[i]?:=by
 induction a generalizing j with
 |nil=>simp at b
 |cons e l ih =>
  cases j with
  |zero =>
   simp only[AK,Nat.mul_zero,DS,CX];rw[BO (by simp[Ent.cells];omega)]
  |succ j =>
   simp only[AK,DI];have c:e.cells.length=4:=rfl;rw[BC (by omega),c,show 4 * (j+1)+i-4=4 * j+i by omega];exact ih j (by simpa using b)
def fB.ent {B a}{l:List Ent}(h:fB w B a (l.flatMap Ent.cells))(m:j<l.length):∃b d,a=some (aD b d)/\b<B /\
  w.c b (d+j * 4)=some (.t l[j].key)/\w.c b (d+j * 4+1)=some (.t l[j].val)/\w.c b (d+j * 4+2)=some (.i l[j].size)/\w.c b (d+j * 4+3)=some (.i l[j].over):=by
 have c:=λf (k:f<4)=>qHy l j f m k;rcases h with h|⟨b,d,g,i,e⟩
 .have:=c 0 (by omega);rw[h]at this;simp[Ent.cells]at this
 .exact⟨b,d,g,i,by rw[LI];exact e (4 * j) _ (c 0 (by omega)),by rw[LI,FN];exact e (4 * j+1) _ (c 1 (by omega)),by rw[LI,FN];exact e (4 * j+2) _ (c 2 (by omega)),by rw[LI,FN];exact e (4 * j+3) _ (c 3 (by omega))⟩
def mS(ents:List Ent):List UInt8:=beB 1 ents.length++ents.flatMap Ent.bytes
def Rf(ver root next g d a h f b data)(i:List ByteArray)(j:List Int)(c:List Ent)(B w)(n:B<=w.heap.size):
  cL 169 #[.agg #[.i 1,.i ver,.i root,.i next,.s g i.length h,.s d j.length f,.s a c.length b,.t data]] w λe w'=>∃m,e=.r m/\Buf w' B m (beB 1 1++beB 8 ver++beB 2 root)/\cY B w w':=by
 have C:B<=(w.alloc (.cells #[.i 1,.i ver,.i root,.i next,.s g i.length h,.s d j.length f,.s a c.length b,.t data] 80)).heap.size:=by simp;omega
 have E:=aC w (.cells #[.i 1,.i ver,.i root,.i next,.s g i.length h,.s d j.length f,.s a c.length b,.t data] 80);have A:=(cY.refl B w).alloc n (.cells #[.i 1,.i ver,.i root,.i next,.s g i.length h,.s d j.length f,.s a c.length b,.t data] 80);have F:=Buf.nil (w.alloc (.cells #[.i 1,.i ver,.i root,.i next,.s g i.length h,.s d j.length f,.s a c.length b,.t data] 80)) B;go_enter Tryz.func169,Tryz.ntmps169;go_wp2_with (go_at_call 170;refine(eU _ _ _ _ B _ (by assumption) (by assumption) (by decide) (by decide) (by simp[aL])).m ?_;rintro e G ⟨q,rfl,o,k⟩;have p:=k.other _ _ (by assumption) rfl;obtain⟨r,s,t,u,v,x,y,z⟩:=bO p;have l:=cY.t (show cY B w _ by assumption) k;have D:=CF n l.size;clear k);go_ret;exact⟨_,rfl,by simpa using o,l⟩
def Hw(ver root next g f h l k i data a b)(j:List Ent)(B w)(m:B<=w.heap.size)(E:fB w B g (a.map .string))(C:fB w B f (b.map (.int .i64)))(H:a.length<=1073741824)(G:b.length<=1073741824)(N:(eS a b).length+20<=140737488355328):
  cL 169 #[.agg #[.i 2,.i ver,.i root,.i next,.s g a.length l,.s f b.length k,.s h j.length i,.t data]] w λe w'=>∃o,e=.r o/\Buf w' B o (beB 1 2++eS a b)/\cY B w w':=by
 have L:B<=(w.alloc (.cells #[.i 2,.i ver,.i root,.i next,.s g a.length l,.s f b.length k,.s h j.length i,.t data] 80)).heap.size:=by simp;omega
 have M:=aC w (.cells #[.i 2,.i ver,.i root,.i next,.s g a.length l,.s f b.length k,.s h j.length i,.t data] 80);have K:=(cY.refl B w).alloc m (.cells #[.i 2,.i ver,.i root,.i next,.s g a.length l,.s f b.length k,.s h j.length i,.t data] 80);have O:=Buf.nil (w.alloc (.cells #[.i 2,.i ver,.i root,.i next,.s g a.length l,.s f b.length k,.s h j.length i,.t data] 80)) B;have I:([]++beB (Int.toNat 1) 2).length+(eS a b).length+8<=140737488355328:=by simp only[CG,KI,aL];omega
 go_enter Tryz.func169,Tryz.ntmps169;go_wp2_with (first
  |(go_at_call 170;refine(eU _ _ _ _ B _ (by assumption) (by assumption) (by decide) (by decide) (by simp[aL])).m ?_;rintro e J ⟨q,rfl,p,d⟩;have n:=d.other _ _ (by assumption) rfl;obtain⟨r,s,t,u,v,x,y,z⟩:=bO n;have c:=cY.t (show cY B w _ by assumption) d;have A:=CF m c.size;have F:=E.below c.below;have D:=C.below c.below)
  |(go_at_call 185;refine(zV _ _ _ _ _ _ _ _ _ _ _ _ _ _ _ _ B _ (by assumption) (by assumption) F D H G I).m ?_;rintro e J ⟨q,rfl,p,d⟩;have n:=d.other _ _ (by assumption) rfl;obtain⟨r,s,t,u,v,x,y,z⟩:=bO n;have c:=cY.t (show cY B w _ by assumption) d;have A:=CF m c.size;clear d))
 go_ret;exact⟨_,rfl,by simpa using p,c⟩
def Rb(ver root next h f b i g c data)(j:List ByteArray)(k:List Int)(d:List Ent)(B w)(m:B<=w.heap.size)(G:data.size+4<=140737488355328):
  cL 169 #[.agg #[.i 4,.i ver,.i root,.i next,.s h j.length i,.s f k.length g,.s b d.length c,.t data]] w λe w'=>∃o,e=.r o/\Buf w' B o (beB 1 4++beB 2 next++dX data)/\cY B w w':=by
 have E:B<=(w.alloc (.cells #[.i 4,.i ver,.i root,.i next,.s h j.length i,.s f k.length g,.s b d.length c,.t data] 80)).heap.size:=by simp;omega
 have F:=aC w (.cells #[.i 4,.i ver,.i root,.i next,.s h j.length i,.s f k.length g,.s b d.length c,.t data] 80);have D:=(cY.refl B w).alloc m (.cells #[.i 4,.i ver,.i root,.i next,.s h j.length i,.s f k.length g,.s b d.length c,.t data] 80);have H:=Buf.nil (w.alloc (.cells #[.i 4,.i ver,.i root,.i next,.s h j.length i,.s f k.length g,.s b d.length c,.t data] 80)) B;go_enter Tryz.func169,Tryz.ntmps169;go_wp2_with (first
  |(go_at_call 170;refine(eU _ _ _ _ B _ (by assumption) (by assumption) (by decide) (by decide) (by simp[aL])).m ?_;rintro e C ⟨q,rfl,p,a⟩;have n:=a.other _ _ (by assumption) rfl;obtain⟨r,s,t,u,v,x,y,z⟩:=bO n;have l:=cY.t (show cY B w _ by assumption) a;have A:=CF m l.size;clear a)
  |(go_at_call 187;refine(oW _ _ _ B _ (by assumption) (by assumption) (by simp[aL];omega)).m ?_;rintro e C ⟨q,rfl,p,a⟩;have n:=a.other _ _ (by assumption) rfl;obtain⟨r,s,t,u,v,x,y,z⟩:=bO n;have l:=cY.t (show cY B w _ by assumption) a;have A:=CF m l.size;clear a))
 go_ret;exact⟨_,rfl,by simpa[dX] using p,l⟩
def Rh(ver root next ka ia ea kc ic ec data)(keys:List ByteArray)(kids:List Int)(ents B w)(hB:B<=w.heap.size)(hE:fB w B ea (ents.flatMap Ent.cells))(hen:ents.length<=1073741824)(hsm:∀e∈ents,e.key.size<=1073741824/\e.val.size<=1073741824)(hl:1+(mS ents).length<=1407374883553):
  cL 169 #[.agg #[.i 3,.i ver,.i root,.i next,.s ka keys.length kc,.s ia kids.length ic,.s ea ents.length ec,.t data]] w λe w'=>∃b',e=.r b'/\Buf w' B b' (beB 1 3++mS ents)/\cY B w w':=by
 have J:B<=(w.alloc (.cells #[.i 3,.i ver,.i root,.i next,.s ka keys.length kc,.s ia kids.length ic,.s ea ents.length ec,.t data] 80)).heap.size:=by simp;omega
 have I:=aC w (.cells #[.i 3,.i ver,.i root,.i next,.s ka keys.length kc,.s ia kids.length ic,.s ea ents.length ec,.t data] 80);have gW:=(cY.refl B w).alloc hB (.cells #[.i 3,.i ver,.i root,.i next,.s ka keys.length kc,.s ia kids.length ic,.s ea ents.length ec,.t data] 80);have M:=Buf.nil (w.alloc (.cells #[.i 3,.i ver,.i root,.i next,.s ka keys.length kc,.s ia kids.length ic,.s ea ents.length ec,.t data] 80)) B;go_enter Tryz.func169,Tryz.ntmps169;go_wp2_with (go_at_call 170;refine(eU _ _ _ _ B _ (by assumption) (by assumption) (by decide) (by decide) (by simp[aL])).m ?_;rintro e K ⟨Q,rfl,q,v⟩;have D:=v.other _ _ (by assumption) rfl;obtain⟨e0,U,e2,e3,e4,Z,Y,e7⟩:=bO D;have x:=cY.t (show cY B w _ by assumption) v;have T:=CF hB x.size;clear v);go_loopw [3,36] (λu i wr=>∃j:Nat,j<=ents.length/\i=.i j/\Buf wr B u (beB 1 3++beB 1 ents.length++(ents.take j).flatMap Ent.bytes)/\cY B w wr) (λ_ i _=>ents.length-(intOf i).toNat)
 case atStart=>exact⟨0,AG _,rfl,by simpa using q,x⟩
 case round =>
  obtain⟨j,hj,rfl,p,y⟩:=hrel;have A:=CF hB y.size;by_cases hlt:j<ents.length
  .obtain⟨X,W,z,S,d0,d1,d2,V⟩:=(hE.below y.below).ent hlt
   have L:=Mh Ent.bytes ents j hlt;have sj:=hsm ents[j] (AA hlt);have R:(beB 1 3++beB 1 ents.length++(ents.take j).flatMap Ent.bytes).length+ents[j].key.size+ents[j].val.size+20<=140737488355328:=by simp only[mS,aL,CG]at hl L⊢;omega
   subst z;have O:j * 4<=4294967296:=by omega
   have F:∀o:Obj,B<=(wr.alloc o).heap.size:=λo=>by simp;omega
   go_wp2_with (go_at_call 186;refine(Ci _ _ _ _ _ _ B _ (p.alloc _) (F _) R).m ?_;rintro e K ⟨Q,rfl,q,v⟩);have x:=y.t (((cY.refl B wr).alloc A _).t v);go_roundw
   case rel=>exact⟨j+1,by omega,by go_num,by rw[uP _ _ _ hlt,<-BU];exact q,x⟩
   case measure=>simp[intOf];omega
  .obtain rfl:j=ents.length:=by omega
   rw[BK]at p;go_wp2;go_ret;exact⟨_,rfl,by simpa[mS] using p,y⟩
def qMa {p}{l:List a}(h:j<l.length)(b:p l[j]=false):(l.drop j).all p=false:=by
 rw[CA h,List.all_cons,b];rfl
def qKi {p}{l:List a}(h:j<l.length)(b:p l[j]=true):(l.drop j).all p=(l.drop (j+1)).all p:=by
 rw[CA h,List.all_cons,b];rfl
def Jl(ver root:Int):Bool:=decide (0<=ver)&&(root==0||bI root)
def Ek(next:Int)(data:ByteArray):Bool:=(next==0||bI next)&&(decide (1<=data.size)&&decide (data.size<=240))
def Hp(kind ver root next g d a h f b data)(i:List ByteArray)(j:List Int)(c:List Ent)(w):
  cL 181 #[.agg #[.i kind,.i ver,.i root,.i next,.s g i.length h,.s d j.length f,.s a c.length b,.t data]] w λe w'=>e=.r (.bool (Jl ver root))/\bW w w':=by
 go_enter Tryz.func181,Tryz.ntmps181;go_wp2_with (go_at_call 198;apply(mK _ _).m;rintro e w' ⟨rfl,rfl⟩)
 all_goals go_ret
 all_goals refine⟨bZ ?_,(AC _ _).alloc (BZ _) _⟩
 all_goals simp_all[Jl,pE]
 all_goals omega
def Ho(kind ver root next g d a h f b data)(i:List ByteArray)(j:List Int)(c:List Ent)(w):
  cL 184 #[.agg #[.i kind,.i ver,.i root,.i next,.s g i.length h,.s d j.length f,.s a c.length b,.t data]] w λe w'=>e=.r (.bool (Ek next data))/\bW w w':=by
 go_enter Tryz.func184,Tryz.ntmps184;go_wp2_with (go_at_call 198;apply(mK _ _).m;rintro e w' ⟨rfl,rfl⟩)
 all_goals go_ret
 all_goals refine⟨bZ ?_,(AC _ _).alloc (BZ _) _⟩
 all_goals simp_all[Ek,pE]
 all_goals first|omega|(rw[FC];simp;omega)
def fZ:ByteArray->List ByteArray->Bool
 |_,[]=>true
 |last,k :: r=>gX last k&&fZ k r
def gY(keys:List ByteArray)(kids:List Int):Bool:=decide (keys.length≠0)&&decide (kids.length=keys.length+1)&&kids.all bI&&fZ ⟨#[]⟩ keys
def Ce(kind ver root next r q s x v t data a b)(u:List Ent)(w)(k:fB w w.heap.size r (a.map .string))(j:fB w w.heap.size q (b.map (.int .i64)))(O:a.length<=1073741824)(L:b.length<=1073741824):
  cL 182 #[.agg #[.i kind,.i ver,.i root,.i next,.s r a.length x,.s q b.length v,.s s u.length t,.t data]] w λe w'=>e=.r (.bool (gY a b))/\bW w w':=by
 have d:=(AC w.heap.size w).alloc (BZ _) (.cells #[.i kind,.i ver,.i root,.i next,.s r a.length x,.s q b.length v,.s s u.length t,.t data] 80);by_cases h0:a.length=0
 .have z:((a.length:Int)==0)=true:=CT.2 (by omega)
  have y:Hid (a.length=0):=h0;clear h0;go_enter Tryz.func182,Tryz.ntmps182;go_wp2;go_ret;exact⟨bZ (by simp[gY,y.o]),d⟩
 have z:((a.length:Int)==0)=false:=DK.2 (by omega);by_cases h1:b.length=a.length+1
 .have A:((b.length:Int) != (a.length:Int)+1)=false:=by simp;omega
  have m:Hid (b.length=a.length+1):=h1;clear h1;go_enter Tryz.func182,Tryz.ntmps182;go_wp2;go_loop [25] (λg=>∃c:Nat,c<=b.length/\g=.i c/\Hid (b.all bI=(b.drop c).all bI)) (λg=>b.length-(intOf g).toNat)
  case atStart=>exact⟨0,AG _,rfl,by show _=_;simp⟩
  case round =>
   obtain⟨c,D,rfl,h⟩:=hrel;by_cases hlt:c<b.length
   .have f:=CA hlt
    have⟨G,P,B,C,K⟩:=(j.below d).at hlt;have J:G<w.heap.size:=C;subst B;cases hp:bI b[c]
    .have o:Hid (b.all bI=false):=h.t (qMa hlt hp)
     clear h f k j;go_wp2_with (go_at_call 198;apply(mK _ _).m;rintro e w' ⟨rfl,rfl⟩);go_ret;exact⟨bZ (by simp[gY,o.o]),d⟩
    .have n:Hid (b.all bI=(b.drop (c+1)).all bI):=h.t (qKi hlt hp)
     clear h f k j;go_wp2_with (go_at_call 198;apply(mK _ _).m;rintro e w' ⟨rfl,rfl⟩);go_round
     case rel=>exact⟨c+1,by omega,by go_num,n⟩
     case measure=>simp[intOf];omega
   .have n:Hid (b.all bI=true):=by show _=_;rw[h.o,CW (by omega)];rfl
    clear h;go_wp2;go_loop [5,36] (λI g=>∃(c:Nat) (l:ByteArray),c<=a.length/\g=.i c/\I=.t l/\Hid (fZ ⟨#[]⟩ a=fZ l (a.drop c))) (λ_ g=>a.length-(intOf g).toNat)
    case atStart=>exact⟨0,_,AG _,rfl,rfl,by show _=_;simp⟩
    case round =>
     obtain⟨c,l,D,rfl,rfl,i⟩:=hrel;by_cases hlt:c<a.length
     .have f:=CA hlt
      have⟨H,Q,E,F,N⟩:=(k.below d).at hlt;have M:H<w.heap.size:=F;subst E;cases hp:gX l a[c]
      .have o:Hid (fZ ⟨#[]⟩ a=false):=by show _=_;rw[i.o,f];simp[fZ,hp]
       clear i f k j;go_wp2_with (go_at_call 199;apply(mL _ _ _).m;rintro e w' ⟨rfl,rfl⟩);go_ret;exact⟨bZ (by simp[gY,o.o]),d⟩
      .have p:Hid (fZ ⟨#[]⟩ a=fZ a[c] (a.drop (c+1))):=by show _=_;rw[i.o,f];simp[fZ,hp]
       clear i f k j;go_wp2_with (go_at_call 199;apply(mL _ _ _).m;rintro e w' ⟨rfl,rfl⟩);go_round
       case rel=>exact⟨c+1,_,by omega,by go_num,rfl,p⟩
       case measure=>simp[intOf];omega
     .have p:Hid (fZ ⟨#[]⟩ a=true):=by show _=_;rw[i.o,CW (by omega)];rfl
      clear i;go_wp2;go_ret;exact⟨bZ (by simp[gY,n.o,p.o,m.o,h0]),d⟩
 .have A:=bne_iff_ne.2 (by omega)
  have m:Hid (¬b.length=a.length+1):=h1;go_enter Tryz.func182,Tryz.ntmps182;go_wp2;go_ret;exact⟨bZ (by simp[gY,m.o]),d⟩
def gC:ByteArray->List Ent->Bool
 |_,[]=>true
 |last,e :: r=>gX last e.key&&qB e.val e.size e.over&&gC e.key r
def Hq(kind ver root next s q l t r o data)(u:List ByteArray)(v:List Int)(a w)(h:fB w w.heap.size l (a.flatMap Ent.cells))(L:a.length<=1073741824):
  cL 183 #[.agg #[.i kind,.i ver,.i root,.i next,.s s u.length t,.s q v.length r,.s l a.length o,.t data]] w λe w'=>e=.r (.bool (decide (a.length≠0)&&gC ⟨#[]⟩ a))/\bW w w':=by
 have p:=(AC w.heap.size w).alloc (BZ _) (.cells #[.i kind,.i ver,.i root,.i next,.s s u.length t,.s q v.length r,.s l a.length o,.t data] 80);by_cases h0:a.length=0
 .have y:((a.length:Int)==0)=true:=CT.2 (by omega)
  have x:Hid (a.length=0):=h0;clear h0;go_enter Tryz.func183,Tryz.ntmps183;go_wp2;go_ret;exact⟨bZ (by simp[x.o]),p⟩
 have y:((a.length:Int)==0)=false:=DK.2 (by omega);go_enter Tryz.func183,Tryz.ntmps183;go_wp2;go_loopw [3,13] (λE n G=>∃(b:Nat) (i:ByteArray),b<=a.length/\n=.i b/\E=.t i/\Hid (gC ⟨#[]⟩ a=gC i (a.drop b))/\bW w G) (λ_ n _=>a.length-(intOf n).toNat)
 case atStart=>exact⟨0,_,AG _,rfl,rfl,by show _=_;simp,p⟩
 case round =>
  obtain⟨b,i,N,rfl,rfl,c,d⟩:=hrel;have m:=d.size;by_cases hlt:b<a.length
  .have f:=CA hlt
   have⟨D,P,B,C,H,I,J,K⟩:=(h.below d).ent hlt;have M:D<w.heap.size:=C;have O:b * 4<=4294967296:=by omega
   subst B;cases hp:gX i a[b].key
   .have j:Hid (gC ⟨#[]⟩ a=false):=by show _=_;rw[c.o,f];simp[gC,hp]
    clear c f h;go_wp2_with (go_at_call 199;apply(mL _ _ _).m;rintro e w' ⟨rfl,rfl⟩);go_ret;exact⟨bZ (by simp[j.o]),d.alloc m _⟩
   .cases hq:qB a[b].val a[b].size a[b].over
    .have j:Hid (gC ⟨#[]⟩ a=false):=by show _=_;rw[c.o,f];simp[gC,hq]
     clear c f h;go_wp2_with (first|(go_at_call 199;apply(mL _ _ _).m;rintro e w' ⟨rfl,rfl⟩)|(go_at_call 200;apply(sO _ _ _ _ _).m;rintro e F ⟨rfl,g⟩;have⟨z,A⟩:=qIg g));go_ret;exact⟨bZ (by simp[j.o]),(d.alloc m _).t (g.m (by simp;omega))⟩
    .have k:Hid (gC ⟨#[]⟩ a=gC a[b].key (a.drop (b+1))):=by show _=_;rw[c.o,f];simp[gC,hp,hq]
     clear c f h;go_wp2_with (first|(go_at_call 199;apply(mL _ _ _).m;rintro e w' ⟨rfl,rfl⟩)|(go_at_call 200;apply(sO _ _ _ _ _).m;rintro e F ⟨rfl,g⟩;have⟨z,A⟩:=qIg g));go_roundw
     case rel=>exact⟨b+1,_,by omega,by go_num,rfl,k,(d.alloc m _).t (g.m (by simp;omega))⟩
     case measure=>simp[intOf];omega
  .have k:Hid (gC ⟨#[]⟩ a=true):=by show _=_;rw[c.o,CW (by omega)];rfl
   go_wp2;go_ret;exact⟨bZ (by simp[k.o,h0]),d⟩
