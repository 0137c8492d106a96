import Derived.BigQuiet
import Derived.Test.YtdhgdcjmhofhaaaGreatD9
set_option linter.all false
set_option maxHeartbeats 8000000
namespace Go.Proofs.YtdhgdcjmhofhaaaGreat.Pages
open Go.RowKit
variable {a:Type} {e:TypeId} {j β ρ:Nat} {w:World}
theorem bQ{a b}(h:a=b):Ending.returned (.bool a)=.returned (.bool b):=by rw[h]
def bH(n:Int):Bool:=decide (2<=n)&&decide (n<4096)
theorem mA(n w):
  cL 198 #[.i n] w λe w'=>e=.returned (.bool (bH n))/\w'=w:=by
 go_enter Tryz.func198,Tryz.ntmps198;go_wp2
 all_goals go_ret
 all_goals refine⟨bQ ?_,rfl⟩
 all_goals (rw[EU];simp only[bH,AN,BQ,EO,false_iff];omega)
def gO(last key:ByteArray):Bool:=Op.bytesLess last.toList key.toList&&decide (key.size<=24)
theorem mB(a key w):
  cL 199 #[.string a,.string key] w λe w'=>e=.returned (.bool (gO a key))/\w'=w:=by
 go_enter Tryz.func199,Tryz.ntmps199;go_wp2
 all_goals go_ret
 all_goals refine⟨bQ ?_,rfl⟩
 all_goals (rw[EU];simp only[gO,AN,BQ,EO,false_iff,not_and, *,CT,false_implies];try omega)
def qKa(key:ByteArray):Bool:=decide (1<=key.size)&&decide (key.size<=24)
theorem kE(key w):
  cL 68 #[.string key] w λe w'=>e=.returned (.bool (qKa key))/\w'=w:=by
 go_enter Tryz.func68,Tryz.ntmps68;go_wp2
 all_goals go_ret
 all_goals refine⟨bQ ?_,rfl⟩
 all_goals (rw[EU];simp only[qKa,AN,BQ,EO,false_iff];omega)
theorem wJ(k v n o w):
  cL 201 #[.agg #[.string k,.string v,.i n,.i o]] w λe w'=>e=.returned (.bool (o==0))/\bW w w':=by
 go_enter Tryz.func201,Tryz.ntmps201;go_wp2;go_ret;exact⟨rfl,(AC _ _).alloc (BV _) _⟩
theorem qGe{W c}(d:bW W c):(∀b o,b<W.heap.size->c.c b o=W.c b o)/\(∀b o,b<W.heap.size->c.frozen? ⟨b,o,none⟩=W.frozen? ⟨b,o,none⟩):=
 ⟨λb o a=>d.cell (p:=⟨b,o,none⟩) a,λb o a=>d.frozen (p:=⟨b,o,none⟩) a⟩
theorem oL:bH 0=false:=rfl
def pI(v:ByteArray)(n o:Int):Bool:=(o==0&&decide ((v.size:Int)<=60)&&n==(v.size:Int))||(bH o&&v.toList.isEmpty&&decide (60<n)&&decide (n<=400))
theorem rW(k v n o w):
  cL 200 #[.agg #[.string k,.string v,.i n,.i o]] w λe w'=>e=.returned (.bool (pI v n o))/\bW w w':=by
 go_enter Tryz.func200,Tryz.ntmps200;go_wp2_with (first|(go_at_call 201;apply(wJ _ _ _ _ _).mono;rintro e d ⟨rfl,a⟩;have⟨b,c⟩:=qGe a)|(go_at_call 198;apply(mA _ _).mono;rintro e w' ⟨rfl,rfl⟩))
 all_goals go_ret
 all_goals refine⟨bQ ?_,((AC _ _).alloc (BV _) _).trans (a.mono (by simp))⟩
 all_goals clear a b c
 all_goals simp_all[pI,oL]
 all_goals omega
def dQ(s:ByteArray):List UInt8:=[UInt8.ofNat s.size]++s.data.toList
def mC(k v:ByteArray)(n o:Int):List UInt8 :=
 dQ k++(if (o==0)=true then [0]++dQ v else [1]++beB 2 n++beB 2 o)
theorem aA(w:World)(o):(w.alloc o).heap[w.heap.size]?=some o:=by
 show(w.heap.push o)[w.heap.size]?=_
 simp
theorem iM {a b c d}(h:w.heap[β]?=some (.cells #[a,b,c,d] e)):
  w.c β 0=some a/\w.c β 1=some b/\w.c β 2=some c/\w.c β 3=some d:=by
 simp[World.cell?,h]
theorem Bb(b k v n o f B w)(x:Buf w B b f)(g:B<=w.heap.size)(F:f.length+k.size+v.size+20<=140737488355328):
  cL 186 #[b,.agg #[.string k,.string v,.i n,.i o]] w λe w'=>∃s,e=.returned s/\Buf w' B s (f++mC k v n o)/\cP B w w':=by
 have C:B<=(w.alloc (.cells #[.string k,.string v,.i n,.i o] 69)).heap.size:=by simp;omega
 have E:=aA w (.cells #[.string k,.string v,.i n,.i o] 69);have A:=(cP.refl B w).alloc g (.cells #[.string k,.string v,.i n,.i o] 69);have G:=x.alloc (.cells #[.string k,.string v,.i n,.i o] 69);have y:f.length+k.size+1<=140737488355328:=by omega
 have u:(f++[UInt8.ofNat k.size]++k.data.toList).length+1<=140737488355328:=by simp;omega
 have z:(f++[UInt8.ofNat k.size]++k.data.toList++[0]).length+v.size+1<=140737488355328:=by simp;omega
 cases ho:(o==0)
 all_goals
  go_enter Tryz.func186,Tryz.ntmps186;go_wp2_with (first
   |(go_at_call 187;refine(nZ _ _ _ B _ (by assumption) (by assumption) (by first|exact y|exact z)).mono ?_;rintro e q ⟨r,rfl,p,a⟩;have d:=a.other _ _ (by assumption) rfl;obtain⟨h,i,j,l⟩:=iM d;have c:=cP.trans (show cP B w _ by assumption) a;have m:=CD g c.size;clear a)
   |(go_at_call 201;refine(wJ _ _ _ _ _).mono ?_;rintro e q ⟨rfl,t⟩;have a:=cP.of_below t (by assumption);have D:=Buf.below (by assumption) t;have d:=a.other _ _ (by assumption) rfl;obtain⟨h,i,j,l⟩:=iM d;have c:=cP.trans (show cP B w _ by assumption) a;have m:=CD g c.size;clear a)
   |(at_builtin;refine kH _ rfl (.tmp 18) (.tmp 19) rfl B _ _ rfl (by assumption) (by assumption) _ 1 rfl rfl u ?_;intro r q p a;have d:=a.other _ _ (by assumption) rfl;obtain⟨h,i,j,l⟩:=iM d;have c:=cP.trans (show cP B w _ by assumption) a;have m:=CD g c.size;clear a)
   |(at_builtin;refine kH _ rfl (.tmp 11) (.tmp 12) rfl B _ _ rfl (by assumption) (by assumption) _ 0 rfl rfl u ?_;intro r q p a;have d:=a.other _ _ (by assumption) rfl;obtain⟨h,i,j,l⟩:=iM d;have c:=cP.trans (show cP B w _ by assumption) a;have m:=CD g c.size;clear a)
   |(go_at_call 170;refine(eP _ _ _ _ B _ (by assumption) (by assumption) (by decide) (by decide) (by simp[aK];omega)).mono ?_;rintro e q ⟨r,rfl,p,a⟩;have d:=a.other _ _ (by assumption) rfl;obtain⟨h,i,j,l⟩:=iM d;have c:=cP.trans (show cP B w _ by assumption) a;have m:=CD g c.size;clear a))
  go_ret;exact⟨_,rfl,by simpa[mC,dQ,ho] using p,c⟩
theorem tT (f:a->List UInt8)(l:List a)(j)(h:j<l.length):(l.take (j+1)).flatMap f=(l.take j).flatMap f++f l[j]:=by
 rw[AK h];simp only[BU,AJ,List.flatMap_nil,EV]
theorem Kw (f:a->List UInt8)(l:List a)(j)(h:j<l.length):((l.take j).flatMap f).length+(f l[j]).length<=(l.flatMap f).length:=by
 have b:l.flatMap f=(l.take (j+1)).flatMap f++(l.drop (j+1)).flatMap f:=by rw[<-BU,CB]
 rw[b,tT f l j h];simp
theorem bM {a b c d a' f g i}(h:w.heap[β]?=some (.cells #[a,b,c,d,a',f,g,i] e)):
  w.c β 0=some a/\w.c β 1=some b/\w.c β 2=some c/\w.c β 3=some d /\
  w.c β 4=some a'/\w.c β 5=some f/\w.c β 6=some g/\w.c β 7=some i:=by
 simp[World.cell?,h]
def eM(keys:List ByteArray)(kids:List Int):List UInt8:=beB 1 keys.length++kids.flatMap (beB 2)++keys.flatMap dQ
theorem eX.at {e:Type}{f B a}{l:List e}(h:eX w B a (l.map f))(d:j<l.length):∃b c,a=some ⟨b,c,none⟩/\b<B/\w.c b (c+j)=some (f l[j]):=by
 rcases h with h|⟨b,c,g,i,k⟩
 ·simp at h;subst h;simp at d
 ·exact⟨b,c,g,i,k j _ (by simp[FW d])⟩
theorem yK(b kind ver root next k j l r q n m data a d h B w)(V:Buf w B b h)(t:B<=w.heap.size)(R:eX w B k (a.map .string))(Q:eX w B j (d.map (.int .i64)))(a5:a.length<=1073741824)(a2:d.length<=1073741824)(N:h.length+(eM a d).length+8<=140737488355328):
  cL 185 #[b,.agg #[.i kind,.i ver,.i root,.i next,.slice k a.length r,.slice j d.length q,.slice l n m,.string data]] w λe w'=>∃K,e=.returned K/\Buf w' B K (h++eM a d)/\cP B w w':=by
 have Y:B<=(w.alloc (.cells #[.i kind,.i ver,.i root,.i next,.slice k a.length r,.slice j d.length q,.slice l n m,.string data] 80)).heap.size:=by simp;omega
 have Z:=aA w (.cells #[.i kind,.i ver,.i root,.i next,.slice k a.length r,.slice j d.length q,.slice l n m,.string data] 80);have X:=(cP.refl B w).alloc t (.cells #[.i kind,.i ver,.i root,.i next,.slice k a.length r,.slice j d.length q,.slice l n m,.string data] 80);have a6:=V.alloc (.cells #[.i kind,.i ver,.i root,.i next,.slice k a.length r,.slice j d.length q,.slice l n m,.string data] 80);have W:h.length+8<=140737488355328:=by omega
 go_enter Tryz.func185,Tryz.ntmps185;go_wp2_with (go_at_call 170;refine(eP _ _ _ _ B _ (by assumption) (by assumption) (by decide) (by decide) W).mono ?_;rintro e O ⟨L,rfl,u,f⟩;have i:=f.other _ _ (by assumption) rfl;obtain⟨x,y,z,A,C,D,E,F⟩:=bM i;have g:=cP.trans (show cP B w _ by assumption) f;have M:=CD t g.size;clear f);go_loopw [0,17] (λJ p s=>∃c:Nat,c<=d.length/\p=.i c/\Buf s B J (h++beB 1 a.length++(d.take c).flatMap (beB 2))/\cP B w s/\s.heap[w.heap.size]?=some (.cells #[.i kind,.i ver,.i root,.i next,.slice k a.length r,.slice j d.length q,.slice l n m,.string data] 80)) (λ_ p _=>d.length-(intOf p).toNat)
 case atStart=>exact⟨0,AH _,rfl,by simpa using u,g,i⟩
 case round =>
  obtain⟨c,T,rfl,v,o,G⟩:=hrel;have P:=CD t o.size;by_cases hlt:c<d.length
  ·obtain⟨a7,a8,S,a0,a1⟩:=(Q.below o.below).at hlt
   have I:=Kw (beB 2) d c hlt;have H:(h++beB 1 a.length++(d.take c).flatMap (beB 2)).length+8<=140737488355328:=by simp only[eM,aK,CE]at N I⊢;omega
   subst S;go_wp2_with (go_at_call 170;refine(eP _ _ _ _ B _ (by assumption) (by assumption) (by decide) (by decide) H).mono ?_;rintro e O ⟨L,rfl,u,f⟩;have i:=f.other _ _ (by assumption) rfl;obtain⟨x,y,z,A,C,D,E,F⟩:=bM i;have g:=cP.trans (show cP B w _ by assumption) f;have M:=CD t g.size;clear f);go_roundw
   case rel=>exact⟨c+1,by omega,by go_num,by rw[tT _ _ _ hlt,<-BX];exact u,g,i⟩
   case measure=>simp[intOf];omega
  ·obtain rfl:c=d.length:=by omega
   rw[BG]at v;obtain⟨x,y,z,A,C,D,E,F⟩:=bM G;go_wp2;go_loopw [0,28] (λJ p s=>∃c:Nat,c<=a.length/\p=.i c/\Buf s B J (h++beB 1 a.length++d.flatMap (beB 2)++(a.take c).flatMap dQ)/\cP B w s/\s.heap[w.heap.size]?=some (.cells #[.i kind,.i ver,.i root,.i next,.slice k a.length r,.slice j d.length q,.slice l n m,.string data] 80)) (λ_ p _=>a.length-(intOf p).toNat)
   case atStart=>exact⟨0,AH _,rfl,by simpa using v,o,G⟩
   case round =>
    obtain⟨c,T,rfl,v,o,G⟩:=hrel;have P:=CD t o.size;by_cases hlt:c<a.length
    ·obtain⟨a9,aa,U,a3,a4⟩:=(R.below o.below).at hlt
     have I:=Kw dQ a c hlt;have H:(h++beB 1 a.length++d.flatMap (beB 2)++(a.take c).flatMap dQ).length+a[c].size+1<=140737488355328:=by simp only[eM,dQ,aK,CE,Ai,EM,JY]at N I⊢;omega
     subst U;go_wp2_with (go_at_call 187;refine(nZ _ _ _ B _ (by assumption) (by assumption) H).mono ?_;rintro e O ⟨L,rfl,u,f⟩;have i:=f.other _ _ (by assumption) rfl;obtain⟨x,y,z,A,C,D,E,F⟩:=bM i;have g:=cP.trans (show cP B w _ by assumption) f;have M:=CD t g.size;clear f);go_roundw
     case rel=>exact⟨c+1,by omega,by go_num,by rw[tT _ _ _ hlt];simpa[dQ] using u,g,i⟩
     case measure=>simp[intOf];omega
    ·obtain rfl:c=a.length:=by omega
     rw[BG]at v;go_wp2;go_ret;exact⟨_,rfl,by simpa[eM] using v,o⟩
structure dU (ρ:Nat) (w w':World):Prop where
 os:w'.os=w.os
 tape:w'.tape=w.tape
 output:w'.output=w.output
 size:w.heap.size<=w'.heap.size
 block:∀(k:Nat),k<w.heap.size->k≠ρ->w'.heap[k]?=w.heap[k]?
theorem dU.refl(ρ w):dU ρ w w:=⟨rfl,rfl,rfl,BV _,λ_ _ _=>rfl⟩
theorem dU.trans {a b c}(h:dU ρ a b)(k:dU ρ b c):dU ρ a c :=
 ⟨k.os.trans h.os,k.tape.trans h.tape,k.output.trans h.output,CD h.size k.size,λf d e=>(k.block f (JD d h.size) e).trans (h.block f d e)⟩
theorem dU.drewN {a w}(h:dU ρ a w)(n):dU ρ a (w.drewN n):=h.trans ⟨rfl,rfl,rfl,BV _,λ_ _ _=>rfl⟩
theorem dU.setCell {a w}(h:dU ρ a w)(i v):dU ρ a (w.setCell ⟨ρ,i,none⟩ v):=
 h.trans ⟨rfl,rfl,rfl,by simp[World.setCell],λc _ b=>CY _ _ _ _ b⟩
theorem dU.of_below {w w'}(h:bW w w'):dU ρ w w':=⟨h.os,h.tape,h.output,h.size,λb a _=>h.block b a⟩
structure Rd (w:World) (ρ g c:Nat) (bs:List UInt8) (at_:Nat):Prop where
 box:w.heap[ρ]?=some (.cells #[.slice (some ⟨g,0,none⟩) bs.length c,.int .i64 at_] 247)
 bytes:∀(j:Nat) (hj:j<bs.length),w.cell? ⟨g,j,none⟩=some (fJ bs[j])
 ne:g≠ρ
 lt:g<w.heap.size
 le:at_<=bs.length
 len:bs.length<=1000
 cap:bs.length<=c
theorem bS {a b}(h:w.heap[β]?=some (.cells #[a,b] e)):w.c β 0=some a/\w.c β 1=some b:=by simp[World.cell?,h]
theorem aB {cs}(h:w.heap[β]?=some (.cells cs e))(i):w.frozen? ⟨β,i,none⟩=false:=by simp[World.frozen?,h]
theorem aC {cs}(h:w.heap[β]?=some (.cells cs e))(i v):(w.setCell ⟨β,i,none⟩ v).heap[β]?=some (.cells (cs.setIfInBounds i v) e):=by
 simp only[World.setCell];rw[JZ,AW rfl,h];rfl
theorem Rd.only{w w' ρ g c b}{a a':Nat}(h:Rd w ρ g c b a)(d:dU ρ w w')(i:w'.heap[ρ]?=some (.cells #[.q g b.length c,.i a'] 247))(f:a'<=b.length):Rd w' ρ g c b a' :=
 ⟨i,λj e=>by rw[CF (w:=w) (d.block g h.lt h.ne)];exact h.bytes j e,h.ne,JD h.lt d.size,f,h.len,h.cap⟩
theorem yY{u v}(h:u=v):Ending.returned u=.returned v:=by rw[h]
def zD(bs:List UInt8)(a:Nat):UInt8:=bs.getD a 0
def zG(bs:List UInt8)(a:Nat):Nat:=min (a+1) bs.length
theorem qEb(ρ g c b a w)(h:Rd w ρ g c b a):
  cL 197 #[.p ρ 0] w λe w'=>e=.returned (fJ (zD b a))/\Rd w' ρ g c b (zG b a)/\dU ρ w w':=by
 obtain⟨x,y⟩:=bS h.box;have p:=h.le;have s:=h.len;have r:=aB h.box;by_cases hlt:a<b.length
 ·have o:=h.bytes a hlt
  have m:(a:Int)<(b.length:Int):=by omega
  have i:∀n,((w.drewN n).setCell ⟨ρ,1,none⟩ (.i ((a:Int)+1))).heap[ρ]?=some (.cells #[.q g b.length c,.i ((a:Int)+1)] 247):=λn=>by
   have:=aC (w:=w.drewN n) h.box 1 (.i ((a:Int)+1));simpa using this
  have t:=λn=>(bS (i n)).1;have v:=λn=>(bS (i n)).2;have q:∀n,((w.drewN n).setCell ⟨ρ,1,none⟩ (.i ((a:Int)+1))).cell? ⟨g,a,none⟩=some (fJ b[a]):=λn=>by rw[CF (w:=w.drewN n) (CY _ _ _ _ h.ne)];exact o
  have d:zD b a=b[a]:=by simp[zD,List.getD,FW hlt]
  have f:zG b a=a+1:=by unfold zG;omega
  have j:Hid (zD b a=b[a]):=d;have k:Hid (zG b a=a+1):=f;have l:Hid (∀n,((w.drewN n).setCell ⟨ρ,1,none⟩ (.i ((a:Int)+1))).heap[ρ]?=some (.cells #[.q g b.length c,.i ((a:Int)+1)] 247)):=i;go_enter Tryz.func197,Tryz.ntmps197;go_wp2;go_quiet (fail);go_wp2;go_quiet (fail);go_wp2;go_ret;exact⟨yY (u:=fJ b[a]) (BZ fJ j.out.symm),by rw[k.out];exact h.only ((((dU.refl ρ w).drewN _).setCell 1 _).drewN _) (l.out _) (by omega),(((dU.refl ρ w).drewN _).setCell 1 _).drewN _⟩
 ·have m:(b.length:Int)<=(a:Int):=by omega
  go_enter Tryz.func197,Tryz.ntmps197;go_wp2;go_quiet (fail);go_wp2;go_ret;have d:zD b a=0:=by simp[zD,List.getD,CU (by omega:b.length<=a)]
  have f:zG b a=a:=by unfold zG;omega
  exact⟨yY (by rw[d];rfl),by rw[f];exact h.only ((dU.refl ρ w).drewN _) h.box p,(dU.refl ρ w).drewN _⟩
def iU(bs:List UInt8)(a:Nat):Nat->Nat
 |0=>0
 |k+1=>iU bs a k * 256+(bs.getD (a+k) 0).toNat
def bB(bs:List UInt8)(a k:Nat):Nat:=min (a+k) bs.length
theorem Wz(b a k):iU b a k<256 ^ k:=by
 induction k with
 |zero=>simp[iU]
 |succ k ih =>
  have:=(b.getD (a+k) 0).toNat_lt;simp only[iU,Nat.pow_succ];omega
theorem qGy (h:j<=7):256 ^ j<=72057594037927936:=by
 have:256 ^ j<=256 ^ 7:=Nat.pow_le_pow_right (by omega) h;simpa using this
theorem Zq(b a j)(h:a<=b.length):zD b (bB b a j)=b.getD (a+j) 0:=by
 unfold zD bB;by_cases hl:a+j<=b.length
 ·rw[GB hl]
 ·rw[Nat.min_eq_right (by omega)]
  simp[List.getD,CU (by omega:b.length<=a+j)]
theorem Hr{b a}(h:a<=b.length):bB b a 0=a:=by unfold bB;omega
theorem Zr(b a j):zG b (bB b a j)=bB b a (j+1):=by unfold zG bB;omega
theorem qHa{a n:Nat}(d:a<72057594037927936)(c:n<2 ^ 8):bits BinOp.or IntKind.u64 ((a:Int) * 256) (n:Int)=((a * 256+n:Nat):Int):=by
 have b:(a:Int) * 256=((a * 256:Nat):Int):=by omega
 rw[b,u64_or_nat _ _ (by omega) (by omega),nat_join 8 _ _ (by omega) c]
theorem uR(ρ g c bs)(a k:Nat)(w)(h:Rd w ρ g c bs a)(hk:k<=8):
  cL 177 #[.p ρ 0,.i k] w λe w'=>e=.returned (.i (wrap64 (iU bs a k)))/\Rd w' ρ g c bs (bB bs a k)/\dU ρ w w':=by
 have hle:=h.le;go_enter Tryz.func177,Tryz.ntmps177;go_wp2;go_loopw [5,7] (λu i wr=>∃j:Nat,j<=k/\i=.i j/\u=.int .u64 (iU bs a j:Nat)/\Rd wr ρ g c bs (bB bs a j)/\dU ρ w wr) (λ_ i _=>k-(intOf i).toNat)
 case atStart=>exact⟨0,AH _,rfl,rfl,by rw[Hr hle];exact h,dU.refl _ _⟩
 case round =>
  obtain⟨j,hj,rfl,rfl,hr,ho⟩:=hrel;have hv:=Wz bs a j;by_cases hlt:j<k
  ·have hp:=qGy (show j<=7 by omega)
   have hN:=qEb ρ g c bs (bB bs a j) wr hr;rw[Zq bs a j hle,Zr]at hN;have hbt:=(bs.getD (a+j) 0).toNat_lt;have⟨b,hb⟩:∃b,b=bs.getD (a+j) 0:=⟨_,rfl⟩;have HB:Hid (iU bs a (j+1)=iU bs a j * 256+b.toNat):=by show _=_;rw[hb];rfl
   rw[<-hb]at hN hbt;have⟨V,hV⟩:∃V,V=iU bs a j:=⟨_,rfl⟩;rw[<-hV]at hv HB;rw[<-hV];clear hb hV;unfold fJ at hN;go_wp2_with (go_at_call 197;apply hN.mono;rintro e wn ⟨rfl,hrn,hon⟩);go_roundw
   case rel=>exact⟨j+1,by omega,by go_num,by rw[HB.out,qHa (by omega) hbt],hrn,ho.trans hon⟩
   case measure=>simp[intOf];omega
  ·obtain rfl:j=k:=by omega
   go_wp2;go_ret;exact⟨rfl,hr,ho⟩
theorem kQ(ρ g c b a w)(h:Rd w ρ g c b a):
  cL 177 #[.p ρ 0,.i 1] w λe w'=>e=.returned (.i ((b.getD a 0).toNat:Nat))/\Rd w' ρ g c b (bB b a 1)/\dU ρ w w':=by
 refine(uR ρ g c b a 1 w h (by omega)).mono λe w' ⟨d,i,f⟩=>⟨?_,i,f⟩;rw[d];refine yY (BZ (Value.int .i64) ?_);have:=(b.getD a 0).toNat_lt;simp only[iU,DR,DV,DO];unfold wrap64;omega
theorem wP(u g p S c)(a:List UInt8)(h:∀(j:Nat) (b:j<a.length),u.cell? ⟨g,j,none⟩=some (fJ a[j]))(i:p+S<=a.length)(k:a.length<=c):
  (convert 108 9 (.slice (if c=p then some ⟨g,0,none⟩ else some ⟨g,p,none⟩) S (c-p))).run Tryz.prog u=.ok (.string ⟨((a.drop p).take S).toArray⟩) u:=by
 have d:((a.drop p).take S).length=S:=by simp;omega
 by_cases hc:c=p
 ·have f:S=0:=by omega
  subst f;rw[AW hc];have:=run_convert_bytes_back (P:=Tryz.prog) u 108 9 5 ⟨g,0,none⟩ (c-p) [] Tryz.underlying108 Tryz.underlying5 Tryz.underlying9 (λj b=>by simp at b);simpa using this
 ·rw[AQ hc]
  have:=run_convert_bytes_back (P:=Tryz.prog) u 108 9 5 ⟨g,p,none⟩ (c-p) ((a.drop p).take S) Tryz.underlying108 Tryz.underlying5 Tryz.underlying9 (λj b=>by
   have e:(⟨g,p,none⟩:Addr).add j=⟨g,p+j,none⟩:=by unfold Addr.add;split<;>simp_all
   rw[d]at b;rw[e,h (p+j) (by omega)];simp[fJ])
  rw[d]at this;exact this
theorem Yg{l:List UInt8}{p S}(h:l.length<=p+S):(l.drop p).take (l.length-p)=(l.drop p).take S:=by
 rw[CW (by simp),CW (by simp;omega)]
def nC(bs:List UInt8)(a:Nat):List UInt8:=(bs.drop (bB bs a 1)).take (bs.getD a 0).toNat
def gU(bs:List UInt8)(a:Nat):Nat:=min (bB bs a 1+(bs.getD a 0).toNat) bs.length
theorem tF(ρ g c b a w)(h:Rd w ρ g c b a):
  cL 180 #[.p ρ 0] w λe w'=>e=.returned (.string ⟨(nC b a).toArray⟩)/\Rd w' ρ g c b (gU b a)/\dU ρ w w':=by
 have L:=h.len;have G:=h.cap;have H:=(b.getD a 0).toNat_lt;have⟨S,u⟩:∃S,S=(b.getD a 0).toNat:=⟨_,rfl⟩;have⟨p,v⟩:∃p,p=bB b a 1:=⟨_,rfl⟩;have t:=kQ ρ g c b a w h;rw[<-u,<-v]at t;have M:p<=b.length:=by rw[v];unfold bB;omega
 rw[<-u]at H;have y:Hid (nC b a=(b.drop p).take S):=by show _=_;rw[u,v];rfl
 have x:Hid (gU b a=min (p+S) b.length):=by show _=_;rw[u,v];rfl
 clear u v;by_cases ht:p+S<=b.length
 ·have I:(p:Int)+(S:Int)<=(b.length:Int):=by omega
  have J:(p:Int)<=(p:Int)+(S:Int):=by omega
  have K:(p:Int)+(S:Int)<=(c:Int):=by omega
  have k:∀(f:World),(∀(i:Nat) (o:i<b.length),f.c g i=some (fJ b[i]))->(convert 108 9 (.slice (if c=p then some ⟨g,0,none⟩ else some ⟨g,p,none⟩) (((p:Int)+(S:Int)).toNat-p) (c-p))).run Tryz.prog f=.ok (.string ⟨((b.drop p).take S).toArray⟩) f:=λf s=>by
   rw[show((p:Int)+(S:Int)).toNat-p=S by omega];exact wP f g p S c b s (by omega) G
  by_cases hc:c=p
  ·have z:p=c:=hc.symm
   subst z;clear k;have k:∀(f:World),(∀(i:Nat) (o:i<b.length),f.c g i=some (fJ b[i]))->(convert 108 9 (.q g 0 0)).run Tryz.prog f=.ok (.string ⟨((b.drop p).take S).toArray⟩) f:=λf s=>by
    have q:=wP f g p S p b s (by omega) (by omega);have e:S=0:=by omega
    rw[AW rfl,JA]at q;rw[e]at q⊢;exact q
   go_enter Tryz.func180,Tryz.ntmps180;go_wp2_with (go_at_call 177;apply t.mono;rintro e l ⟨rfl,d,r⟩;have⟨E,F⟩:=bS d.box;have B:=aB d.box;have j:=aC d.box 1 (.i ((p:Int)+(S:Int)));have C:=(bS j).1;have D:=(bS j).2;have m:Hid _:=j;clear j;have A:=λn=>k ((l.setCell ⟨ρ,1,none⟩ (.i ((p:Int)+(S:Int)))).drewN n) (λi o=>(CF (w:=l) (CY _ _ _ _ d.ne)).trans (d.bytes i o)));clear k;go_quiet (fail);go_wp2
   all_goals go_ret
   all_goals exact⟨yY (u:=.string ⟨((b.drop p).take S).toArray⟩) (by rw[y.out]),by rw[x.out,show min (p+S) b.length=p+S by omega];exact d.only (((dU.refl ρ l).setCell 1 _).drewN _) (by first|simpa using m.out|(rw[show((p+S:Nat):Int)=(p:Int)+(S:Int) by omega];simpa using m.out)) (by omega),(r.setCell 1 (.i ((p:Int)+(S:Int)))).drewN _⟩
  ·simp only[AQ hc]at k
   go_enter Tryz.func180,Tryz.ntmps180;go_wp2_with (go_at_call 177;apply t.mono;rintro e l ⟨rfl,d,r⟩;have⟨E,F⟩:=bS d.box;have B:=aB d.box;have j:=aC d.box 1 (.i ((p:Int)+(S:Int)));have C:=(bS j).1;have D:=(bS j).2;have m:Hid _:=j;clear j;have A:=λn=>k ((l.setCell ⟨ρ,1,none⟩ (.i ((p:Int)+(S:Int)))).drewN n) (λi o=>(CF (w:=l) (CY _ _ _ _ d.ne)).trans (d.bytes i o)));clear k;go_quiet (fail);go_wp2
   all_goals go_ret
   all_goals exact⟨yY (u:=.string ⟨((b.drop p).take S).toArray⟩) (by rw[y.out]),by rw[x.out,show min (p+S) b.length=p+S by omega];exact d.only (((dU.refl ρ l).setCell 1 _).drewN _) (by first|simpa using m.out|(rw[show((p+S:Nat):Int)=(p:Int)+(S:Int) by omega];simpa using m.out)) (by omega),(r.setCell 1 (.i ((p:Int)+(S:Int)))).drewN _⟩
 ·have I:(b.length:Int)<(p:Int)+(S:Int):=by omega
  have J:(p:Int)<=(b.length:Int):=by omega
  have K:(b.length:Int)<=(c:Int):=by omega
  have k:∀(f:World),(∀(i:Nat) (o:i<b.length),f.c g i=some (fJ b[i]))->(convert 108 9 (.slice (if c=p then some ⟨g,0,none⟩ else some ⟨g,p,none⟩) (b.length-p) (c-p))).run Tryz.prog f=.ok (.string ⟨((b.drop p).take (b.length-p)).toArray⟩) f:=λf s=>by
   rw[show b.length-p=(b.length-p) by omega];exact wP f g p (b.length-p) c b s (by omega) G
  by_cases hc:c=p
  ·have z:p=c:=hc.symm
   subst z;clear k;have k:∀(f:World),(∀(i:Nat) (o:i<b.length),f.c g i=some (fJ b[i]))->(convert 108 9 (.q g 0 0)).run Tryz.prog f=.ok (.string ⟨((b.drop p).take (b.length-p)).toArray⟩) f:=λf s=>by
    have q:=wP f g p (b.length-p) p b s (by omega) (by omega);have e:(b.length-p)=0:=by omega
    rw[AW rfl,JA]at q;rw[e]at q⊢;exact q
   go_enter Tryz.func180,Tryz.ntmps180;go_wp2_with (go_at_call 177;apply t.mono;rintro e l ⟨rfl,d,r⟩;have⟨E,F⟩:=bS d.box;have B:=aB d.box;have j:=aC d.box 1 (.i (b.length:Int));have C:=(bS j).1;have D:=(bS j).2;have m:Hid _:=j;clear j;have A:=λn=>k ((l.setCell ⟨ρ,1,none⟩ (.i (b.length:Int))).drewN n) (λi o=>(CF (w:=l) (CY _ _ _ _ d.ne)).trans (d.bytes i o)));clear k;go_quiet (fail);go_wp2
   all_goals go_ret
   all_goals exact⟨yY (u:=.string ⟨#[]⟩) (by rw[y.out,CR (by omega)];simp),by rw[x.out,show min (p+S) b.length=b.length by omega];exact d.only (((dU.refl ρ l).setCell 1 _).drewN _) (by first|simpa using m.out|(rw[show((p+S:Nat):Int)=(p:Int)+(S:Int) by omega];simpa using m.out)) (by omega),(r.setCell 1 (.i (b.length:Int))).drewN _⟩
  ·simp only[AQ hc]at k
   go_enter Tryz.func180,Tryz.ntmps180;go_wp2_with (go_at_call 177;apply t.mono;rintro e l ⟨rfl,d,r⟩;have⟨E,F⟩:=bS d.box;have B:=aB d.box;have j:=aC d.box 1 (.i (b.length:Int));have C:=(bS j).1;have D:=(bS j).2;have m:Hid _:=j;clear j;have A:=λn=>k ((l.setCell ⟨ρ,1,none⟩ (.i (b.length:Int))).drewN n) (λi o=>(CF (w:=l) (CY _ _ _ _ d.ne)).trans (d.bytes i o)));clear k;go_quiet (fail);go_wp2
   all_goals go_ret
   all_goals exact⟨yY (u:=.string ⟨((b.drop p).take (b.length-p)).toArray⟩) (by rw[y.out];rw[Yg (S:=S) (by omega)]),by rw[x.out,show min (p+S) b.length=b.length by omega];exact d.only (((dU.refl ρ l).setCell 1 _).drewN _) (by first|simpa using m.out|(rw[show((p+S:Nat):Int)=(p:Int)+(S:Int) by omega];simpa using m.out)) (by omega),(r.setCell 1 (.i (b.length:Int))).drewN _⟩
structure Ent where
 key:ByteArray
 val:ByteArray
 size:Int
 over:Int
def Ent.cells(e:Ent):List Value:=[.string e.key,.string e.val,.int .i64 e.size,.int .i64 e.over]
def Ent.bytes(e:Ent):List UInt8:=mC e.key e.val e.size e.over
theorem qFw(a:List Ent)(j i)(b:j<a.length)(hi:i<4):(a.flatMap Ent.cells)[4 * j+i]?=(a[j].cells)[i]?:=by
 induction a generalizing j with
 |nil=>simp at b
 |cons e l ih =>
  cases j with
  |zero =>
   simp only[AJ,Nat.mul_zero,DO,CS];rw[BT (by simp[Ent.cells];omega)]
  |succ j =>
   simp only[AJ,DE];have c:e.cells.length=4:=rfl;rw[BJ (by omega),c,show 4 * (j+1)+i-4=4 * j+i by omega];exact ih j (by simpa using b)
theorem eX.ent {B a}{l:List Ent}(h:eX w B a (l.flatMap Ent.cells))(m:j<l.length):∃b d,a=some ⟨b,d,none⟩/\b<B /\
  w.c b (d+j * 4)=some (.string l[j].key)/\w.c b (d+j * 4+1)=some (.string l[j].val)/\w.c b (d+j * 4+2)=some (.i l[j].size)/\w.c b (d+j * 4+3)=some (.i l[j].over):=by
 have c:=λf (k:f<4)=>qFw l j f m k;rcases h with h|⟨b,d,g,i,e⟩
 ·have:=c 0 (by omega);rw[h]at this;simp[Ent.cells]at this
 ·exact⟨b,d,g,i,by rw[KT];exact e (4 * j) _ (c 0 (by omega)),by rw[KT,FI];exact e (4 * j+1) _ (c 1 (by omega)),by rw[KT,FI];exact e (4 * j+2) _ (c 2 (by omega)),by rw[KT,FI];exact e (4 * j+3) _ (c 3 (by omega))⟩
def mG(ents:List Ent):List UInt8:=beB 1 ents.length++ents.flatMap Ent.bytes
theorem Pt(ver root next g d a h f b data)(i:List ByteArray)(j:List Int)(c:List Ent)(B w)(n:B<=w.heap.size):
  cL 169 #[.agg #[.i 1,.i ver,.i root,.i next,.slice g i.length h,.slice d j.length f,.slice a c.length b,.string data]] w λe w'=>∃m,e=.returned m/\Buf w' B m (beB 1 1++beB 8 ver++beB 2 root)/\cP B w w':=by
 have C:B<=(w.alloc (.cells #[.i 1,.i ver,.i root,.i next,.slice g i.length h,.slice d j.length f,.slice a c.length b,.string data] 80)).heap.size:=by simp;omega
 have E:=aA w (.cells #[.i 1,.i ver,.i root,.i next,.slice g i.length h,.slice d j.length f,.slice a c.length b,.string data] 80);have A:=(cP.refl B w).alloc n (.cells #[.i 1,.i ver,.i root,.i next,.slice g i.length h,.slice d j.length f,.slice a c.length b,.string data] 80);have F:=Buf.nil (w.alloc (.cells #[.i 1,.i ver,.i root,.i next,.slice g i.length h,.slice d j.length f,.slice a c.length b,.string data] 80)) B;go_enter Tryz.func169,Tryz.ntmps169;go_wp2_with (go_at_call 170;refine(eP _ _ _ _ B _ (by assumption) (by assumption) (by decide) (by decide) (by simp[aK])).mono ?_;rintro e G ⟨q,rfl,o,k⟩;have p:=k.other _ _ (by assumption) rfl;obtain⟨r,s,t,u,v,x,y,z⟩:=bM p;have l:=cP.trans (show cP B w _ by assumption) k;have D:=CD n l.size;clear k);go_ret;exact⟨_,rfl,by simpa using o,l⟩
theorem Gs(ver root next g f h l k i data a b)(j:List Ent)(B w)(m:B<=w.heap.size)(E:eX w B g (a.map .string))(C:eX w B f (b.map (.int .i64)))(H:a.length<=1073741824)(G:b.length<=1073741824)(N:(eM a b).length+20<=140737488355328):
  cL 169 #[.agg #[.i 2,.i ver,.i root,.i next,.slice g a.length l,.slice f b.length k,.slice h j.length i,.string data]] w λe w'=>∃o,e=.returned o/\Buf w' B o (beB 1 2++eM a b)/\cP B w w':=by
 have L:B<=(w.alloc (.cells #[.i 2,.i ver,.i root,.i next,.slice g a.length l,.slice f b.length k,.slice h j.length i,.string data] 80)).heap.size:=by simp;omega
 have M:=aA w (.cells #[.i 2,.i ver,.i root,.i next,.slice g a.length l,.slice f b.length k,.slice h j.length i,.string data] 80);have K:=(cP.refl B w).alloc m (.cells #[.i 2,.i ver,.i root,.i next,.slice g a.length l,.slice f b.length k,.slice h j.length i,.string data] 80);have O:=Buf.nil (w.alloc (.cells #[.i 2,.i ver,.i root,.i next,.slice g a.length l,.slice f b.length k,.slice h j.length i,.string data] 80)) B;have I:([]++beB (Int.toNat 1) 2).length+(eM a b).length+8<=140737488355328:=by simp only[CE,JY,aK];omega
 go_enter Tryz.func169,Tryz.ntmps169;go_wp2_with (first
  |(go_at_call 170;refine(eP _ _ _ _ B _ (by assumption) (by assumption) (by decide) (by decide) (by simp[aK])).mono ?_;rintro e J ⟨q,rfl,p,d⟩;have n:=d.other _ _ (by assumption) rfl;obtain⟨r,s,t,u,v,x,y,z⟩:=bM n;have c:=cP.trans (show cP B w _ by assumption) d;have A:=CD m c.size;have F:=E.below c.below;have D:=C.below c.below)
  |(go_at_call 185;refine(yK _ _ _ _ _ _ _ _ _ _ _ _ _ _ _ _ B _ (by assumption) (by assumption) F D H G I).mono ?_;rintro e J ⟨q,rfl,p,d⟩;have n:=d.other _ _ (by assumption) rfl;obtain⟨r,s,t,u,v,x,y,z⟩:=bM n;have c:=cP.trans (show cP B w _ by assumption) d;have A:=CD m c.size;clear d))
 go_ret;exact⟨_,rfl,by simpa using p,c⟩
theorem Ps(ver root next h f b i g c data)(j:List ByteArray)(k:List Int)(d:List Ent)(B w)(m:B<=w.heap.size)(G:data.size+4<=140737488355328):
  cL 169 #[.agg #[.i 4,.i ver,.i root,.i next,.slice h j.length i,.slice f k.length g,.slice b d.length c,.string data]] w λe w'=>∃o,e=.returned o/\Buf w' B o (beB 1 4++beB 2 next++dQ data)/\cP B w w':=by
 have E:B<=(w.alloc (.cells #[.i 4,.i ver,.i root,.i next,.slice h j.length i,.slice f k.length g,.slice b d.length c,.string data] 80)).heap.size:=by simp;omega
 have F:=aA w (.cells #[.i 4,.i ver,.i root,.i next,.slice h j.length i,.slice f k.length g,.slice b d.length c,.string data] 80);have D:=(cP.refl B w).alloc m (.cells #[.i 4,.i ver,.i root,.i next,.slice h j.length i,.slice f k.length g,.slice b d.length c,.string data] 80);have H:=Buf.nil (w.alloc (.cells #[.i 4,.i ver,.i root,.i next,.slice h j.length i,.slice f k.length g,.slice b d.length c,.string data] 80)) B;go_enter Tryz.func169,Tryz.ntmps169;go_wp2_with (first
  |(go_at_call 170;refine(eP _ _ _ _ B _ (by assumption) (by assumption) (by decide) (by decide) (by simp[aK])).mono ?_;rintro e C ⟨q,rfl,p,a⟩;have n:=a.other _ _ (by assumption) rfl;obtain⟨r,s,t,u,v,x,y,z⟩:=bM n;have l:=cP.trans (show cP B w _ by assumption) a;have A:=CD m l.size;clear a)
  |(go_at_call 187;refine(nZ _ _ _ B _ (by assumption) (by assumption) (by simp[aK];omega)).mono ?_;rintro e C ⟨q,rfl,p,a⟩;have n:=a.other _ _ (by assumption) rfl;obtain⟨r,s,t,u,v,x,y,z⟩:=bM n;have l:=cP.trans (show cP B w _ by assumption) a;have A:=CD m l.size;clear a))
 go_ret;exact⟨_,rfl,by simpa[dQ] using p,l⟩
theorem Pv(ver root next ka ia ea kc ic ec data)(keys:List ByteArray)(kids:List Int)(ents B w)(hB:B<=w.heap.size)(hE:eX w B ea (ents.flatMap Ent.cells))(hen:ents.length<=1073741824)(hsm:∀e∈ents,e.key.size<=1073741824/\e.val.size<=1073741824)(hl:1+(mG ents).length<=1407374883553):
  cL 169 #[.agg #[.i 3,.i ver,.i root,.i next,.slice ka keys.length kc,.slice ia kids.length ic,.slice ea ents.length ec,.string data]] w λe w'=>∃b',e=.returned b'/\Buf w' B b' (beB 1 3++mG ents)/\cP B w w':=by
 have hBW:B<=(w.alloc (.cells #[.i 3,.i ver,.i root,.i next,.slice ka keys.length kc,.slice ia kids.length ic,.slice ea ents.length ec,.string data] 80)).heap.size:=by simp;omega
 have hbox:=aA w (.cells #[.i 3,.i ver,.i root,.i next,.slice ka keys.length kc,.slice ia kids.length ic,.slice ea ents.length ec,.string data] 80);have gW:=(cP.refl B w).alloc hB (.cells #[.i 3,.i ver,.i root,.i next,.slice ka keys.length kc,.slice ia kids.length ic,.slice ea ents.length ec,.string data] 80);have hvW:=Buf.nil (w.alloc (.cells #[.i 3,.i ver,.i root,.i next,.slice ka keys.length kc,.slice ia kids.length ic,.slice ea ents.length ec,.string data] 80)) B;go_enter Tryz.func169,Tryz.ntmps169;go_wp2_with (go_at_call 170;refine(eP _ _ _ _ B _ (by assumption) (by assumption) (by decide) (by decide) (by simp[aK])).mono ?_;rintro e wn ⟨bn,rfl,hbn,gn⟩;have hxn:=gn.other _ _ (by assumption) rfl;obtain⟨e0,e1,e2,e3,e4,e5,e6,e7⟩:=bM hxn;have Gn:=cP.trans (show cP B w _ by assumption) gn;have hBn:=CD hB Gn.size;clear gn);go_loopw [3,36] (λu i wr=>∃j:Nat,j<=ents.length/\i=.i j/\Buf wr B u (beB 1 3++beB 1 ents.length++(ents.take j).flatMap Ent.bytes)/\cP B w wr) (λ_ i _=>ents.length-(intOf i).toNat)
 case atStart=>exact⟨0,AH _,rfl,by simpa using hbn,Gn⟩
 case round =>
  obtain⟨j,hj,rfl,hbr,gr⟩:=hrel;have hBr:=CD hB gr.size;by_cases hlt:j<ents.length
  ·obtain⟨ib,io,hia,hib,d0,d1,d2,d3⟩:=(hE.below gr.below).ent hlt
   have lj:=Kw Ent.bytes ents j hlt;have sj:=hsm ents[j] (AB hlt);have l3:(beB 1 3++beB 1 ents.length++(ents.take j).flatMap Ent.bytes).length+ents[j].key.size+ents[j].val.size+20<=140737488355328:=by simp only[mG,aK,CE]at hl lj⊢;omega
   subst hia;have hjw:j * 4<=4294967296:=by omega
   have hBa:∀o:Obj,B<=(wr.alloc o).heap.size:=λo=>by simp;omega
   go_wp2_with (go_at_call 186;refine(Bb _ _ _ _ _ _ B _ (hbr.alloc _) (hBa _) l3).mono ?_;rintro e wn ⟨bn,rfl,hbn,gn⟩);have Gn:=gr.trans (((cP.refl B wr).alloc hBr _).trans gn);go_roundw
   case rel=>exact⟨j+1,by omega,by go_num,by rw[tT _ _ _ hlt,<-BX];exact hbn,Gn⟩
   case measure=>simp[intOf];omega
  ·obtain rfl:j=ents.length:=by omega
   rw[BG]at hbr;go_wp2;go_ret;exact⟨_,rfl,by simpa[mG] using hbr,gr⟩
theorem qJr {p}{l:List a}(h:j<l.length)(b:p l[j]=false):(l.drop j).all p=false:=by
 rw[CC h,List.all_cons,b];rfl
theorem qIf {p}{l:List a}(h:j<l.length)(b:p l[j]=true):(l.drop j).all p=(l.drop (j+1)).all p:=by
 rw[CC h,List.all_cons,b];rfl
def Ib(ver root:Int):Bool:=decide (0<=ver)&&(root==0||bH root)
def Dg(next:Int)(data:ByteArray):Bool:=(next==0||bH next)&&(decide (1<=data.size)&&decide (data.size<=240))
theorem Gi(kind ver root next g d a h f b data)(i:List ByteArray)(j:List Int)(c:List Ent)(w):
  cL 181 #[.agg #[.i kind,.i ver,.i root,.i next,.slice g i.length h,.slice d j.length f,.slice a c.length b,.string data]] w λe w'=>e=.returned (.bool (Ib ver root))/\bW w w':=by
 go_enter Tryz.func181,Tryz.ntmps181;go_wp2_with (go_at_call 198;apply(mA _ _).mono;rintro e w' ⟨rfl,rfl⟩)
 all_goals go_ret
 all_goals refine⟨bQ ?_,(AC _ _).alloc (BV _) _⟩
 all_goals simp_all[Ib,oL]
 all_goals omega
theorem Gh(kind ver root next g d a h f b data)(i:List ByteArray)(j:List Int)(c:List Ent)(w):
  cL 184 #[.agg #[.i kind,.i ver,.i root,.i next,.slice g i.length h,.slice d j.length f,.slice a c.length b,.string data]] w λe w'=>e=.returned (.bool (Dg next data))/\bW w w':=by
 go_enter Tryz.func184,Tryz.ntmps184;go_wp2_with (go_at_call 198;apply(mA _ _).mono;rintro e w' ⟨rfl,rfl⟩)
 all_goals go_ret
 all_goals refine⟨bQ ?_,(AC _ _).alloc (BV _) _⟩
 all_goals simp_all[Dg,oL]
 all_goals first|omega|(rw[EU];simp;omega)
def fS:ByteArray->List ByteArray->Bool
 |_,[]=>true
 |last,k :: r=>gO last k&&fS k r
def gP(keys:List ByteArray)(kids:List Int):Bool:=decide (keys.length≠0)&&decide (kids.length=keys.length+1)&&kids.all bH&&fS ⟨#[]⟩ keys
theorem Ay(kind ver root next r q s x v t data a b)(u:List Ent)(w)(k:eX w w.heap.size r (a.map .string))(j:eX w w.heap.size q (b.map (.int .i64)))(O:a.length<=1073741824)(L:b.length<=1073741824):
  cL 182 #[.agg #[.i kind,.i ver,.i root,.i next,.slice r a.length x,.slice q b.length v,.slice s u.length t,.string data]] w λe w'=>e=.returned (.bool (gP a b))/\bW w w':=by
 have d:=(AC w.heap.size w).alloc (BV _) (.cells #[.i kind,.i ver,.i root,.i next,.slice r a.length x,.slice q b.length v,.slice s u.length t,.string data] 80);by_cases h0:a.length=0
 ·have z:((a.length:Int)==0)=true:=CP.2 (by omega)
  have y:Hid (a.length=0):=h0;clear h0;go_enter Tryz.func182,Tryz.ntmps182;go_wp2;go_ret;exact⟨bQ (by simp[gP,y.out]),d⟩
 have z:((a.length:Int)==0)=false:=DH.2 (by omega);by_cases h1:b.length=a.length+1
 ·have A:((b.length:Int) != (a.length:Int)+1)=false:=by simp;omega
  have m:Hid (b.length=a.length+1):=h1;clear h1;go_enter Tryz.func182,Tryz.ntmps182;go_wp2;go_loop [25] (λg=>∃c:Nat,c<=b.length/\g=.i c/\Hid (b.all bH=(b.drop c).all bH)) (λg=>b.length-(intOf g).toNat)
  case atStart=>exact⟨0,AH _,rfl,by show _=_;simp⟩
  case round =>
   obtain⟨c,D,rfl,h⟩:=hrel;by_cases hlt:c<b.length
   ·have f:=CC hlt
    have⟨G,P,B,C,K⟩:=(j.below d).at hlt;have J:G<w.heap.size:=C;subst B;cases hp:bH b[c]
    ·have o:Hid (b.all bH=false):=h.trans (qJr hlt hp)
     clear h f k j;go_wp2_with (go_at_call 198;apply(mA _ _).mono;rintro e w' ⟨rfl,rfl⟩);go_ret;exact⟨bQ (by simp[gP,o.out]),d⟩
    ·have n:Hid (b.all bH=(b.drop (c+1)).all bH):=h.trans (qIf hlt hp)
     clear h f k j;go_wp2_with (go_at_call 198;apply(mA _ _).mono;rintro e w' ⟨rfl,rfl⟩);go_round
     case rel=>exact⟨c+1,by omega,by go_num,n⟩
     case measure=>simp[intOf];omega
   ·have n:Hid (b.all bH=true):=by show _=_;rw[h.out,CR (by omega)];rfl
    clear h;go_wp2;go_loop [5,36] (λI g=>∃(c:Nat) (l:ByteArray),c<=a.length/\g=.i c/\I=.string l/\Hid (fS ⟨#[]⟩ a=fS l (a.drop c))) (λ_ g=>a.length-(intOf g).toNat)
    case atStart=>exact⟨0,_,AH _,rfl,rfl,by show _=_;simp⟩
    case round =>
     obtain⟨c,l,D,rfl,rfl,i⟩:=hrel;by_cases hlt:c<a.length
     ·have f:=CC hlt
      have⟨H,Q,E,F,N⟩:=(k.below d).at hlt;have M:H<w.heap.size:=F;subst E;cases hp:gO l a[c]
      ·have o:Hid (fS ⟨#[]⟩ a=false):=by show _=_;rw[i.out,f];simp[fS,hp]
       clear i f k j;go_wp2_with (go_at_call 199;apply(mB _ _ _).mono;rintro e w' ⟨rfl,rfl⟩);go_ret;exact⟨bQ (by simp[gP,o.out]),d⟩
      ·have p:Hid (fS ⟨#[]⟩ a=fS a[c] (a.drop (c+1))):=by show _=_;rw[i.out,f];simp[fS,hp]
       clear i f k j;go_wp2_with (go_at_call 199;apply(mB _ _ _).mono;rintro e w' ⟨rfl,rfl⟩);go_round
       case rel=>exact⟨c+1,_,by omega,by go_num,rfl,p⟩
       case measure=>simp[intOf];omega
     ·have p:Hid (fS ⟨#[]⟩ a=true):=by show _=_;rw[i.out,CR (by omega)];rfl
      clear i;go_wp2;go_ret;exact⟨bQ (by simp[gP,n.out,p.out,m.out,h0]),d⟩
 ·have A:=bne_iff_ne.2 (by omega)
  have m:Hid (¬b.length=a.length+1):=h1;go_enter Tryz.func182,Tryz.ntmps182;go_wp2;go_ret;exact⟨bQ (by simp[gP,m.out]),d⟩
def fV:ByteArray->List Ent->Bool
 |_,[]=>true
 |last,e :: r=>gO last e.key&&pI e.val e.size e.over&&fV e.key r
theorem Gj(kind ver root next s q l t r o data)(u:List ByteArray)(v:List Int)(a w)(h:eX w w.heap.size l (a.flatMap Ent.cells))(L:a.length<=1073741824):
  cL 183 #[.agg #[.i kind,.i ver,.i root,.i next,.slice s u.length t,.slice q v.length r,.slice l a.length o,.string data]] w λe w'=>e=.returned (.bool (decide (a.length≠0)&&fV ⟨#[]⟩ a))/\bW w w':=by
 have p:=(AC w.heap.size w).alloc (BV _) (.cells #[.i kind,.i ver,.i root,.i next,.slice s u.length t,.slice q v.length r,.slice l a.length o,.string data] 80);by_cases h0:a.length=0
 ·have y:((a.length:Int)==0)=true:=CP.2 (by omega)
  have x:Hid (a.length=0):=h0;clear h0;go_enter Tryz.func183,Tryz.ntmps183;go_wp2;go_ret;exact⟨bQ (by simp[x.out]),p⟩
 have y:((a.length:Int)==0)=false:=DH.2 (by omega);go_enter Tryz.func183,Tryz.ntmps183;go_wp2;go_loopw [3,13] (λE n G=>∃(b:Nat) (i:ByteArray),b<=a.length/\n=.i b/\E=.string i/\Hid (fV ⟨#[]⟩ a=fV i (a.drop b))/\bW w G) (λ_ n _=>a.length-(intOf n).toNat)
 case atStart=>exact⟨0,_,AH _,rfl,rfl,by show _=_;simp,p⟩
 case round =>
  obtain⟨b,i,N,rfl,rfl,c,d⟩:=hrel;have m:=d.size;by_cases hlt:b<a.length
  ·have f:=CC hlt
   have⟨D,P,B,C,H,I,J,K⟩:=(h.below d).ent hlt;have M:D<w.heap.size:=C;have O:b * 4<=4294967296:=by omega
   subst B;cases hp:gO i a[b].key
   ·have j:Hid (fV ⟨#[]⟩ a=false):=by show _=_;rw[c.out,f];simp[fV,hp]
    clear c f h;go_wp2_with (go_at_call 199;apply(mB _ _ _).mono;rintro e w' ⟨rfl,rfl⟩);go_ret;exact⟨bQ (by simp[j.out]),d.alloc m _⟩
   ·cases hq:pI a[b].val a[b].size a[b].over
    ·have j:Hid (fV ⟨#[]⟩ a=false):=by show _=_;rw[c.out,f];simp[fV,hq]
     clear c f h;go_wp2_with (first|(go_at_call 199;apply(mB _ _ _).mono;rintro e w' ⟨rfl,rfl⟩)|(go_at_call 200;apply(rW _ _ _ _ _).mono;rintro e F ⟨rfl,g⟩;have⟨z,A⟩:=qGe g));go_ret;exact⟨bQ (by simp[j.out]),(d.alloc m _).trans (g.mono (by simp;omega))⟩
    ·have k:Hid (fV ⟨#[]⟩ a=fV a[b].key (a.drop (b+1))):=by show _=_;rw[c.out,f];simp[fV,hp,hq]
     clear c f h;go_wp2_with (first|(go_at_call 199;apply(mB _ _ _).mono;rintro e w' ⟨rfl,rfl⟩)|(go_at_call 200;apply(rW _ _ _ _ _).mono;rintro e F ⟨rfl,g⟩;have⟨z,A⟩:=qGe g));go_roundw
     case rel=>exact⟨b+1,_,by omega,by go_num,rfl,k,(d.alloc m _).trans (g.mono (by simp;omega))⟩
     case measure=>simp[intOf];omega
  ·have k:Hid (fV ⟨#[]⟩ a=true):=by show _=_;rw[c.out,CR (by omega)];rfl
   go_wp2;go_ret;exact⟨bQ (by simp[k.out,h0]),d⟩
