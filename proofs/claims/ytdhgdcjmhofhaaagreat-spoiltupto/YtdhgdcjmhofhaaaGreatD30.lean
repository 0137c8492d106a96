import Derived.Test.YtdhgdcjmhofhaaaGreatD28
import Derived.Test.YtdhgdcjmhofhaaaGreatD29
set_option linter.all false
set_option maxRecDepth 100000
set_option maxHeartbeats 8000000
namespace Go.Proofs.YtdhgdcjmhofhaaaGreat.Tree
open Go.RowKit Pages Tryz
variable {a safe:List ByteArray} {ao o t:Option (Nat×T)} {b d i k v:Nat} {fs:Fs} {late:List (Nat×ByteArray)} {s:ByteArray} {w:World}
theorem rW:(dG (eA 256).data.toList).kind=0:=by
 have a:((eA 256).data.toList).getD 0 0=0:=by
  show((List.replicate 256 (0:UInt8)).toArray.toList).getD 0 0=0;rfl
 unfold dG;rw[a];rfl
theorem qOc {v r}(h:yE s (bL v r)):s≠eA 256:=by
 rintro rfl;have:=BR Pg.kind h.2.2.2;rw[rW]at this;simp[bL]at this
abbrev qKj(p:Int)(ver root:Int)(ka ia ea:Option Addr)(kc ic ec:Nat):Array Value:=#[.int .i64 p,.bool true,.int .i64 1,.int .i64 ver,.int .i64 root,.int .i64 0,.slice ka 0 kc,.slice ia 0 ic,.slice ea 0 ec,.string ⟨#[]⟩]
abbrev meta0:Obj:=.cells #[.int .i64 0,.bool false,.int .i64 0,.int .i64 0,.int .i64 0,.int .i64 0,.slice none 0 0,.slice none 0 0,.slice none 0 0,.string ⟨#[]⟩] 136
theorem cH {cs t v}(h:cW w b cs t)(c:cs[i]?=some v):w.setCell (aD b i) v=w:=by
 have⟨f,g⟩:=jJ.1 h;have a:cs.setIfInBounds i v=cs:=by
  apply Array.ext_getElem?;intro j;rw[JT];split
  .next e=>subst e;rw[c];split<;>simp_all
  .rfl
 have:(w.setCell (aD b i) v).heap=w.heap:=by
  apply Array.ext_getElem?;intro d;by_cases hk:b=d
  .subst hk;rw[aC h,a,h]
  .simp only[World.setCell];rw[JI,AQ hk]
 cases w;simp only[World.setCell]at this⊢;simp only[this]
theorem nL {β a b c d e f g i j k t}(h:cW w β #[a,b,c,d,e,f,g,i,j,k] t):
  w.c β 0=some a/\w.c β 1=some b/\w.c β 2=some c/\w.c β 3=some d/\w.c β 4=some e/\w.c β 5=some f/\w.c β 6=some g/\w.c β 7=some i/\w.c β 8=some j/\w.c β 9=some k:=by
 simp[World.cell?,h]
abbrev La(w:World)(b:Nat)(v0 v1 v2 v3 v4 v5 v6 v7 v8 v9:Value):World:=(((((((((w.setCell (aD b 0) v0).setCell (aD b 1) v1).setCell (aD b 2) v2).setCell (aD b 3) v3).setCell (aD b 4) v4).setCell (aD b 5) v5).setCell (aD b 6) v6).setCell (aD b 7) v7).setCell (aD b 8) v8).setCell (aD b 9) v9
theorem yP(w b a c d v3 e f g h i j):Fr (Bl.one b) w (La w b a c d v3 e f g h i j):=
 ((((((((((AE (Bl.one b) w).s b 0).s b 1).s b 2).s b 3).s b 4).s b 5).s b 6).s b 7).s b 8).s b 9
theorem vR {l m n o p q r s u v t}(h:cW w b #[l,m,n,o,p,q,r,s,u,v] t)(a c d v3 e f g i j k):(La w b a c d v3 e f g i j k).1[b]?=some (.cells #[a,c,d,v3,e,f,g,i,j,k] t):=by
 have:=aC (aC (aC (aC (aC (aC (aC (aC (aC (aC h 0 a) 1 c) 2 d) 3 v3) 4 e) 5 f) 6 g) 7 i) 8 j) 9 k;simpa using this
theorem Hf(β sv lv fs)(Y:(fs.life==0)=false)(p ver root w)(W:aA w β sv lv fs)(a0:p<fs.safe.length)(o:bT fs p ver root):
  cL 112 #[.p β 0,.i p] w λe w'=>∃h f c i g d,e=.r (.agg (qKj p ver root h f c i g d))/\bW w w':=by
 obtain⟨a,R,C,a6,-⟩:=al1 w meta0;have ac:=W.bl C;have l:=lH β sv lv fs p a ac;have af:fs.readS p=fs.at p:=by unfold Fs.readS;simp[a0,Y]
 have ae:(decide (p<fs.safe)&&!(fs.life==0))=true:=by simp[a0,Y]
 rw[af,ae]at l;obtain⟨ah,X,a3,a4,a5⟩:=FL Mo;obtain⟨b,Z,E,m⟩:=KH (P:=prog) a 0 108 5 ah (.int .u8 0) 1 underlying108 X a3 a4 .i64 .i64 256 ω (by rw[a5];omega) (by unfold maxLen;omega) (AG _);rw[xR]at E;have U:Buf b 0 (.q a 256 256) (List.replicate 256 0):=by
  unfold Buf;rw[CT];exact E
 have V:=Buf.string U;have H:bW a b:=⟨m.os,m.tape,m.output,m.size,λF n=>m.block F n σ⟩;have ao:(Instr.makeSlice 108 (.i 256) (.i 256)).run prog a=.ok (.q a 256 256) b:=Z;obtain⟨A,q⟩:=nM (eA 256);have an:(convert 108 9 (.q a 256 256)).run prog b=.ok (.t A) b:=by rw[<-q];exact V
 have r:=H.kp a6;obtain⟨I,J,K,L,M,N,O,Q,c8,c9⟩:=nL r;have ab:=aF r;have B:=C.tm H;clear U E m V Z X a3 a4 a5;rcases o with⟨a2,rfl,rfl⟩|o
 .rw[a2,q]at l
  clear a2 q;have z:=vR r (.i p) (.bool true) (.i 1) (.i 0) (.i 0) (.i 0) .n .n .n .e;have u:=yP b w (.i p) (.bool true) (.i 1) (.i 0) (.i 0) (.i 0) .n .n .n .e;have aa:Hid _:=z;have a8:Hid _:=u;clear z u;go_enter func112,ntmps112;go_wp2_with (apply Calls.m l;rintro e G ⟨rfl,ag⟩;subst G);refine BH (v:=.agg (qKj p 0 0 none none none 0 0 0)) ?_ rfl ⟨none,none,none,0,0,0,rfl,B.t (a8.o.below (η B.size) (λ_=>φ))⟩;exact ER (p:=4) rfl _ _ w _ _ _ _ rfl aa.o underlying136 rfl κ
 .have ad:((fs.at p).toList==A.toList)=false:=by rw[<-q];exact zL (qOc o)
  obtain⟨s,a1⟩:=nM (fs.at p);rw[a1]at l o ad;clear q a1;have D:=Nb o b;simp only[bL,jN,NG]at D;have ai:=(gL r);go_enter func112,ntmps112;go_wp2_with (first
   |(apply Calls.m l;rintro e G ⟨rfl,ag⟩;subst G)
   |(apply Calls.m D;rintro e t ⟨h,f,c,i,g,d,rfl,aj,ak,al,am,T⟩;clear aj ak al am l D;obtain⟨j,S,-,y,-⟩:=al1 t (.cells #[.i 1,.i ver,.i root,.i 0,.s h 0 i,.s f 0 g,.s c 0 d,.e] 80);obtain⟨ap,aq,ar,au,av,aw,ax,ay⟩:=bU y;have b0:=aF y;have az:j.setCell (aD t 7) .e=j:=cH y rfl;have k:=T.t (S▸(AC _ _).alloc T.size _);have x:=(k.block _ ai).t r;clear I J K L M N O Q c8 c9 ab;obtain⟨I,J,K,L,M,N,O,Q,c8,c9⟩:=nL x;have b1:=aF x;have a7:Hid _:=k;have a9:Hid _:=x;clear k x y))
  have z:=vR a9.o (.i p) (.bool true) (.i 1) (.i ver) (.i root) (.i 0) (.s h 0 i) (.s f 0 g) (.s c 0 d) .e;have u:=yP j w (.i p) (.bool true) (.i 1) (.i ver) (.i root) (.i 0) (.s h 0 i) (.s f 0 g) (.s c 0 d) .e;have k:=B.t (a7.o.m ω);refine BH (v:=.agg (qKj p ver root h f c i g d)) ?_ rfl ⟨h,f,c,i,g,d,rfl,k.t (u.below (η k.size) (λ_=>φ))⟩;exact ER (p:=4) rfl _ _ w _ _ _ _ rfl z underlying136 rfl κ
theorem Rf{s t:ByteArray}(d:s.size=256)(ht:t.size=256)(h:∀k,k<4->sect s k=sect t k):s=t:=by
 have b:=fT s;have c:=fT t;apply FZ;apply Array.ext';apply CZ;intro i;by_cases hi:i<256
 .have a:i % 64<64:=Nat.mod_lt i δ;have:=BR (λl:List UInt8=>l[i % 64]?) (h (i / 64) ω);simp only[sect,DW a,DE]at this;rwa[show 64 * (i / 64)+i % 64=i by omega]at this
 grind
theorem getD_in{l:List ByteArray}{p:Nat}(h:p<l):l.getD p ⟨#[]⟩=l[p]:=ζ
theorem iB.same (h:iB safe late a)(f:∀s∈safe,s.size=256){p:Nat}(e:∀x∈late,x.1≠p):a.getD p ⟨#[]⟩=safe.getD p ⟨#[]⟩:=by
 by_cases hl:p<a
 .have b:=h.len▸hl;rw[getD_in hl,getD_in b];exact Rf (h.size p hl) (f _ (AA b)) (λg d=>(h.sect p hl g d).resolve_right (λ⟨x,hx,c,_⟩=>e x hx c))
 .have:=h.len;rw[CI,CI,CL ω,CL ω]
theorem iB.sizes (h:iB safe late a):∀s∈a,s.size=256:=λs b=>by
 obtain⟨i,c,rfl⟩:=AW b;exact h.size i c
def qI(s:ByteArray):Prop:=s≠eA 256/\¬(s.size=256/\(dG s.data.toList).encE=0/\(dG s.data.toList).encS=s)
theorem qCs {s a:ByteArray}(h:sect s 0=sect a 0)(hi:i<64):s.data.toList.getD i 0=a.data.toList.getD i 0:=by
 have:=BR (λl:List UInt8=>l[i]?) h;simp only[sect,DW hi,MC,FJ]at this;rw[CI,CI,this]
theorem Hy{s b:ByteArray}(h:sect s 0=sect b 0)(a:Nat):∀k,a+k<=64->iR s.data.toList a k=iR b.data.toList a k
 |0,_=>rfl
 |k+1,hk=>by simp only[iR];rw[Hy h a k ω,qCs h ω]
theorem As{s b:ByteArray}{v t:Int}(m:s.size=256)(h:sect s 0=sect b 0)(c:b=eA 256\/yE b (bL v t)):s=b\/qI s:=by
 have f:=qCs h (i:=0) δ;rcases c with rfl|c
 .by_cases e:s=eA 256
  .grind
  .refine .inr ⟨e,λ⟨_,d,_⟩=>?_⟩
   have k:((eA 256).data.toList).getD 0 0=0:=by
    rfl
   rw[k]at f;unfold dG at d;rw[f]at d;simp[kJ,Pg.encE,Pages.cV,dV]at d
 .have u:=(fT s).t m
  have w:=(fT b).t c.1;have j:(b.data.toList.getD 0 0).toNat=1:=by
   have a:=BR Pg.kind c.2.2.2;unfold dG kJ at a;split at a
   .assumption
   .split at a
    .simp[bL]at a
    .split at a
     .simp[bL]at a
     .split at a
      .simp[bL]at a
      .simp only[bL]at a
       omega
  have g:dG s.data.toList=dG b.data.toList:=by
   unfold dG kJ;rw[f,AU j,AU j];have o:bD s.data.toList 0 1=1:=by unfold bD;omega
   have p:bD b.data.toList 0 1=1:=by unfold bD;omega
   have q:bD s.data.toList 1 8=9:=by unfold bD;omega
   have r:bD b.data.toList 1 8=9:=by unfold bD;omega
   rw[o,p,q,r,Hy h 1 8 ω,Hy h 9 2 ω]
  by_cases e:s=b
  .grind
  .refine .inr ⟨λn=>?_,λ⟨_,_,l⟩=>e (l.symm.t (by rw[g];exact c.2.2.1))⟩;have a:=BR Pg.kind c.2.2.2;rw[<-g,n,rW]at a;simp[bL]at a
theorem zQ (e:∀s∈safe,s.size=256)(f:∀x∈late,x.2.size=256)(g:∀x∈late,x.1<safe):iB safe late (laid safe late):=by
 refine⟨dM _ _,λb a=>(vZ late safe e f) _ (AA a),λb a k j=>?_⟩;have h:=by rw[dM]at a;exact a
 have c:=Pb late safe b g;rw[getD_in a,getD_in h]at c;rw[c];cases hl:rJ late b with
 |none=>simp
 |some d =>
  unfold rJ at hl;obtain⟨x,i,rfl⟩:=GG.1 hl;grind
def jS(A:ByteArray)(ver root:Nat):Prop:=(A=eA 256/\ver=0/\root=0)\/yE A (bL ver root)
theorem jS.size{a:ByteArray}{ver root:Nat}(h:jS a ver root):a.size=256:=h.elim (λh=>by rw[h.1];exact pQ 256) (λh=>h.1)
def qH(s:ByteArray):Prop:=¬(s.size=256/\(dG s.data.toList).encE=0/\(dG s.data.toList).encS=s)
abbrev eS(z:Int):List PanicEntry:=[{v:=.iface 172 (.agg #[.int .i64 z]),recovered:=false}]
theorem xX(z w):cL 139 #[.i z] w λe w'=>e=.panicked (eS z)/\w'=w:=by
 go_enter func139,ntmps139;go_wp2;exact⟨rfl,rfl,rfl⟩
theorem vA (f:qH s)(w):
  cL 143 #[.t s] w λe w'=>e=.r (.tuple #[.agg #[.i 0,.i 0,.i 0,.i 0,.n,.n,.n,.e],.i 2])/\bW w w':=by
 apply(yB s w).m;rintro e w' ⟨d,(⟨a,b,c,_⟩|⟨_,rfl⟩)⟩
 .exact absurd ⟨a,b,c⟩ f
 grind
def oP(s : ByteArray)(k : Nat)(v : UInt8): ByteArray := ⟨(s.data.toList.set k v).toArray⟩
theorem wW(s : ByteArray)(k : Nat)(v : UInt8): (oP s k v).size = s := by
  show(s.data.toList.set k v).toArray.size = s.data.size
  simp
theorem xH (h : ¬qH s): Whole s.data.toList := by
  obtain⟨c, a, b⟩:= Classical.not_not.1 h
  rw[<-b]
  exact Na _ a
theorem qMa(v : UInt8)(a : v ≠ 0)(c : v.toNat <= 4): Crc.vC (v :: List.replicate 251 0) ≠ 4294967295 := by
  have b : v = 1 \/ v = 2 \/ v = 3 \/ v = 4 := by
    have h : v.toNat = 0 \/ v.toNat = 1 \/ v.toNat = 2 \/ v.toNat = 3 \/ v.toNat = 4 := by omega
    rcases h with h | h | h | h | h
    . exact absurd (FO.1 h) a
    . exact .inl (FO.1 h)
    . exact .inr (.inl (FO.1 h))
    . exact .inr (.inr (.inl (FO.1 h)))
    . exact .inr (.inr (.inr (FO.1 h)))
  rcases b with rfl|rfl|rfl|rfl<;>decide +kernel
theorem Kt(s : ByteArray)(k : Nat)(v : UInt8): (oP s k v).data.toList = s.data.toList.set k v := rfl
theorem rU: (eA 256).data.toList = List.replicate 256 0 := rfl
theorem qDh (t : k < 256){v : UInt8}(m : v ≠ 0): qH (oP (eA 256) k v):= by
  intro⟨s, a, h⟩
  have l : (oP (eA 256) k v).data.toList = (List.replicate 256 0).set k v := rfl
  by_cases h0 : k = 0
  . subst h0
    have c : (oP (eA 256) 0 v).data.toList = v :: List.replicate 255 0 := rfl
    by_cases h4 : v.toNat <= 4
    . have i := c ▸ h ▸ Na _ a
      have b := pR i
      have d : (v :: List.replicate 255 (0 : UInt8)).drop 252 = [0, 0, 0, 0]:= by rfl
      have e : (v :: List.replicate 255 (0 : UInt8)).take 252 = v :: List.replicate 251 0 := by rw[show 252 = 251 + 1 from rfl, EJ, List.take_replicate, GI δ]
      rw[d, e]at b
      have f : beB 4 ((0 : Nat): Int) = [0, 0, 0, 0]:= by decide
      rw[<-f]at b
      have g := Pz δ (Crc.Bz _) b
      have r := Crc.mT (v :: List.replicate 251 0)
      unfold Crc.crc at g
      exact qMa v m h4 ω
    . unfold dG kJ at a
      rw[c, show(v :: List.replicate 255 (0 : UInt8)).getD 0 0 = v from rfl, AQ ω, AQ ω, AQ ω, AQ ω]at a
      have n : ((v.toNat : Nat): Int) ≠ 1 := by omega
      have o : ((v.toNat : Nat): Int) ≠ 2 := by omega
      have p : ((v.toNat : Nat): Int) ≠ 3 := by omega
      have q : ((v.toNat : Nat): Int) ≠ 4 := by omega
      simp[Pg.encE, Pages.cV, dV, n, o, p, q]at a
  . have j : (oP (eA 256) k v).data.toList.getD 0 0 = 0 := by
      grind
    unfold dG at a
    rw[j]at a
    simp[kJ, Pg.encE, Pages.cV, dV]at a
theorem Lo {g : Pg}(h : yE s g)(f : k < 256){v : UInt8}(e : s.data.toList[k]? ≠ some v): qH (oP s k v):= by
  intro d
  have a := xH (s := s) (λhn => hn ⟨h.1, h.2.1, h.2.2.1⟩)
  have c := xH (s := oP s k v) (λhn => hn d)
  have i := Kr a
  refine Qr a k ω v (λb => e ?_) c
  rw[jQ ω, b]
def m11(v r : Nat): List UInt8 := beB 1 1 ++ beB 8 v ++ beB 2 r
theorem dQ(v a : Nat): (m11 v a).length = 11 := by rfl
theorem rF {b : ByteArray}(h : yE b (bL v d)): b.data.toList = kN (m11 v d):= by
  obtain⟨_, a, c, e⟩:= h
  rw[<-e]at a c
  rw[<-c]
  unfold Pg.encE Pages.cV at a
  unfold Pg.encS Pages.encS
  split at a
  . rename_i hT
    rw[AU hT]; rfl
  . cases a
theorem qPz(a b n : Nat): (a / 2 ^ n % 256) ^^^ (b / 2 ^ n % 256) = (a ^^^ b) / 2 ^ n % 256 := by
  apply LR; intro i
  rw[show(256 : Nat) = 2 ^ 8 from rfl]
  simp only[GK, Nat.testBit_mod_two_pow, Nat.testBit_div_two_pow]
  cases decide (i < 8) <;> simp
theorem qMu(n k : Nat): UInt8.ofNat (((n : Int) / 2 ^ (8 * k) % 256).toNat) = UInt8.ofNat (n / 2 ^ (8 * k) % 256):= by
  rfl
theorem qCx: ∀(l m : List UInt8) (k : Nat) (u : UInt8) (c : k < m), l.length = m -> Crc.dif (l.set k u) m = (Crc.dif l m).set k (u.toNat ^^^ (m[k]).toNat)
  |[], [], _, _, c, _ => absurd c (FQ _)
  |[], _ :: _, _, _, _, h => by cases h
  |_ :: _, [], _, _, c, _ => absurd c (FQ _)
  |a :: l, b :: m, 0, u, _, _ => rfl
  |a :: l, b :: m, k + 1, u, c, h => by
    show _ :: _ = _ :: _
    rw[qCx l m k u ζ ζ]; rfl
theorem qLt: ∀(l m : List UInt8), l.length = m -> Crc.dif l m = List.replicate l 0 -> l = m
  |[], [], _, _ => rfl
  |a :: l, b :: m, h, d => by
    have d : (a.toNat ^^^ b.toNat):: Crc.dif l m = 0 :: List.replicate l 0 := d
    have ⟨e, e2⟩:= List.cons.inj d
    rw[qLt l m ζ e2, show a = b from FO.1 (Crc.oL (c := b.toNat) (by rw[e, FV]))]
theorem qOx{c e d g : Nat}(k : c < 524288)(l : d < 524288)(m : e < 4096)(o : g < 4096):
    Crc.dif (m11 c e) (m11 d g) = [0, 0, 0, 0, 0, 0, (c ^^^ d) / 65536, (c ^^^ d) / 256 % 256, (c ^^^ d) % 256, (e ^^^ g) / 256, (e ^^^ g) % 256]:= by
  have hx : c ^^^ d < 2 ^ 19 := GH ω ω
  have p : e ^^^ g < 2 ^ 12 := GH ω ω
  have i : ∀a b n : Nat, (UInt8.ofNat (a / 2 ^ n % 256)).toNat ^^^ (UInt8.ofNat (b / 2 ^ n % 256)).toNat = (a ^^^ b) / 2 ^ n % 256 := λa b n => by
    rw[<-qPz, DV ζ, DV ζ]
  have j : Crc.dif (m11 c e) (m11 d g) = [0, (c ^^^ d) / 2 ^ 56 % 256, (c ^^^ d) / 2 ^ 48 % 256, (c ^^^ d) / 2 ^ 40 % 256, (c ^^^ d) / 2 ^ 32 % 256, (c ^^^ d) / 2 ^ 24 % 256, (c ^^^ d) / 2 ^ 16 % 256, (c ^^^ d) / 2 ^ 8 % 256, (c ^^^ d) / 2 ^ 0 % 256, (e ^^^ g) / 2 ^ 8 % 256, (e ^^^ g) / 2 ^ 0 % 256]:= by
    simp only[m11, beB, qMu, jF, jE, Crc.dif, i]
    rfl
  rw[j]
  have f : ∀n, 2 ^ 19 <= 2 ^ n -> (c ^^^ d) / 2 ^ n = 0 := λn h => Nat.div_eq_of_lt ω
  rw[f 56 δ, f 48 δ, f 40 δ, f 32 δ, f 24 δ]
  simp only[Nat.zero_mod, Nat.pow_zero, Nat.div_one]
  rw[show(c ^^^ d) / 2 ^ 16 % 256 = (c ^^^ d) / 65536 by omega, show(e ^^^ g) / 2 ^ 8 % 256 = (e ^^^ g) / 256 by omega]
theorem qRn{b e a d k : Nat}{u : UInt8}(t : b = a \/ b = a + 1 \/ a = b + 1)(p : b < 524288)(q : a < 524288)(r : e < 4096)(s : d < 4096)(l : k < 11){o : Nat}(h : ((m11 b e).set k u).foldl Crc.kG o = (m11 a d).foldl Crc.kG o): (m11 b e).set k u = m11 a d := by
  have m : ((m11 b e).set k u).length = (m11 a d) := by rw[BQ, dQ, dQ]
  have n := Crc.qLs m h
  have i := qCx (m11 b e) (m11 a d) k u (by rw[dQ]; exact l) (by rw[dQ, dQ])
  rw[qOx p q r s]at i
  obtain⟨c, j, hx⟩: ∃c, c < 21 /\ b ^^^ a = 2 ^ c - 1 := by
    rcases t with f | f | f
    . exact⟨0, by decide, by rw[f, FV]⟩
    . obtain⟨c, j, g⟩:= Crc.Ff 19 a ω
      grind
    . obtain⟨c, j, g⟩:= Crc.Ff 19 b ω
      grind
  have v : e ^^^ d < 2 ^ 12 := GH ω ω
  have ht : u.toNat ^^^ ((m11 a d)[k]' ζ).toNat < 2 ^ 8 := GH (UInt8.toNat_lt _) (UInt8.toNat_lt _)
  rw[i]at n
  have := Crc.mix l j hx v ht n
  apply qLt _ _ m
  rw[i, this, BQ, dQ]
theorem Em {s t : ByteArray}{j : Nat}(h : sect s j = sect t j)(a : 64 * j <= i)(b : i < 64 * j + 64): s.data.toList[i]? = t.data.toList[i]? := by
  have := BR (λl : List UInt8 => l[i - 64 * j]?) h
  simp only[sect, DW (show i - 64 * j < 64 by omega), DE]at this
  rwa[show 64 * j + (i - 64 * j) = i by omega]at this
theorem Gr{l : List UInt8}(h : l.length <= 252): (iQ l).length = 252 := by unfold iQ; grind
theorem qCf(v a : Nat): (iQ (m11 v a)).length = 252 := Gr (by rw[dQ]; decide)
theorem Ry(l : List UInt8)(h : l.length <= 252): (kN l).take 252 = iQ l := by
  have : (iQ l).length = 252 := by simp[iQ]; omega
  unfold kN; rw[GD ω, CN ω]
theorem qJo(l : List UInt8)(h : l.length <= 252): (kN l).drop 252 = beB 4 (Crc.crc (iQ l): Nat):= by
  have : (iQ l).length = 252 := by simp[iQ]; omega
  unfold kN; rw[<-this, List.drop_left]
theorem Mq {l : List UInt8}(a : l <= i)(b : i < 252): (kN l)[i]? = some 0 := by
  unfold kN iQ
  rw[BK (by simp; omega), AZ a, DY, AU ω]
theorem Bi {a : ByteArray}(h : jS a v d)(b : 11 <= i)(c : i < 252): a.data.toList[i]? = some 0 := by
  rcases h with ⟨rfl, _⟩ | h
  . rw[rU, DY, AU ω]
  . rw[rF h]; exact Mq (by rw[dQ]; exact b) c
theorem qOz{a b : List UInt8}(d : a.length = 11)(e : b.length = 11)(h : Crc.crc (iQ a) = Crc.crc (iQ b)): a.foldl Crc.kG 4294967295 = b.foldl Crc.kG 4294967295 := by
  have c : Crc.vC (iQ a) = Crc.vC (iQ b):= by
    have := Crc.mT (iQ a); have := Crc.mT (iQ b); unfold Crc.crc at h; omega
  unfold Crc.vC iQ at c
  rw[EX, EX, d, e]at c
  exact Crc.Ms _ (Crc.Ih _ δ) (Crc.Ih _ δ) c
theorem qNn(l : List UInt8)(k : Nat)(u : UInt8)(h : k < l): (iQ l).set k u = iQ (l.set k u):= by
  unfold iQ; rw[List.set_append_left _ _ h, BQ]
theorem qRq (h : s.data.toList.getD 0 0 = 0): (dG s.data.toList).encE ≠ 0 := λa => by
  unfold dG at a; rw[h]at a; simp[kJ, Pg.encE, Pages.cV, dV]at a
theorem qRp (h : s.data.toList.getD 0 0 = 1): ∃v a : Int, dG s.data.toList = bL v a := by
  unfold dG kJ; rw[h, AU δ]; exact⟨_, _, rfl⟩
theorem qKh{d B s : ByteArray}{e g r M k : Nat}{u : UInt8}(f : jS d e g)(w : yE B (bL r M))(a1 : e = r \/ e = r + 1 \/ r = e + 1)(V : e < 524288)(W : r < 524288)(Y : g < 4096)(Z : M < 4096)(z : s.size = 256)(F : k < 256)(A : d.data.toList[k]? ≠ some u)(y : ∀j, j < 4 -> sect s j = sect (oP d k u) j \/ sect s j = sect B j): jS s e g \/ s = B \/ qI s := by
  have a8  := (fT s).trans z
  have a6  := (fT d).trans f.size
  have a7  := (fT B).trans w.1
  rcases y 0 δ with p | p
  case inr => exact .inr ((As z p (.inr w)))
  have a9 : ∀i, i ≠ k -> (oP d k u).data.toList[i]? = d.data.toList[i]? := λi hi => by rw[Kt, ET (λc => hi c.symm)]
  by_cases hk6 : k < 64
  case neg =>
    have c : sect s 0 = sect d 0 := by
      rw[p]; unfold sect; rw[Kt, MC, FJ, FJ]
      apply CZ; grind
    rcases As z c (f.imp (λh => h.1) id) with c | c
    . grind
    grind
  -- what s is up to its sum
  have o : ∀i, i < 252 -> s.data.toList[i]? = (d.data.toList.set k u)[i]? := λi hi => by
    have E := y (i / 64) ω
    rcases E with c | c
    . exact Em c ω ω
    . by_cases hi6 : i < 64
      . exact Em p ω ω
      . rw[Em c ω ω, ET ω, Bi (.inr w) ω hi, Bi f ω hi]
  have a0 : s.data.toList[k]? = some u := by rw[o k ω, JC ω]
  by_cases hz : s = eA 256
  . -- zeros: the kind of the page of a new store was turned
    left; left; refine⟨hz, ?_⟩
    rcases f with h | h
    . exact h.2
    . have x := rF h
      have O : ∀i, i < 252 -> i ≠ k -> (kN (m11 e g))[i]? = some 0 := λi hi hn => by
        have := o i hi; rw[ET (λc => hn c.symm), x, hz, rU, DY, AU ω]at this; grind
      have I  := Classical.byContradiction λhn => by
        have := O 0 δ (λc => hn c.symm); cases this
      have t : ∀i, 1 <= i -> i < 11 -> (m11 e g)[i]? = some 0 := λi C T => by
        have := O i ω ω; unfold kN iQ at this; rwa[BK (by rw[jK, dQ, CT]; omega), BK (by rw[dQ]; exact T)]at this
      have b : ∀n m : Nat, some (UInt8.ofNat (((n : Int) / 2 ^ (8 * m) % 256).toNat)) = some (0 : UInt8) -> n / 2 ^ (8 * m) % 256 = 0 := λn m h => by
        rw[qMu]at h; have := BR UInt8.toNat (GY h); rwa[DV ζ]at this
      have a5 := b e 2 (t 6 δ δ); have v1 := b e 1 (t 7 δ δ); have a4 := b e 0 (t 8 δ δ)
      have a3 := b g 1 (t 9 δ δ); have a2 := b g 0 (t 10 δ δ)
      omega
  by_cases hb' : qH s
  . exact .inr (.inr ⟨hz, hb'⟩)
  obtain⟨_, q, H⟩:= Classical.not_not.1 hb'
  have U := xH hb'
  have N : k ≠ 0 -> s.data.toList.getD 0 0 = d.data.toList.getD 0 0 := λhn => by
    rw[CI, CI, o 0 δ, ET hn]
  have P : d = eA 256 \/ d.data.toList.getD 0 0 = 1 := by
    rcases f with h | h
    . grind
    . right; rw[rF h]; rfl
  have K : k = 0 \/ d.data.toList.getD 0 0 = 1 := by
    rcases P with c | c
    . by_cases hn : k = 0
      . omega
      . exact absurd q (qRq ((N hn).trans (by rw[c]; rfl)))
    grind
  by_cases hk11 : k < 11
  case neg =>
    -- a byte behind the fields: Encode writes 0 there
    exfalso
    obtain⟨v, L, c⟩:= qRp ((N ω).trans (K.resolve_left ω))
    rw[c]at q H
    have : s.data.toList = kN (beB 1 1 ++ beB 8 v ++ beB 2 L):= by
      rw[<-H]; unfold Pg.encE Pages.cV at q; unfold Pg.encS Pages.encS
      split at q
      . rename_i hT; rw[AU hT]; rfl
      . cases q
    have C := Mq (l := beB 1 1 ++ beB 8 v ++ beB 2 L) (i := k) (by simp[aK]; omega) ω
    rw[<-this, a0]at C
    exact A ((Bi f ω ω).trans C.symm)
  -- the fields, as those of a Meta page with a byte set
  have G : s.data.toList.take 252 = iQ ((m11 e g).set k u):= by
    rw[<-qNn _ _ _ (by rw[dQ]; exact hk11)]
    apply CZ; intro i
    by_cases hi : i < 252
    case neg => rw[CL (by simp; omega), CL (by rw[BQ, qCf]; omega)]
    rw[DW hi, o i hi]
    by_cases hik : i = k
    . subst hik; rw[JC ω, JC (by rw[qCf]; omega)]
    rw[ET (λc => hik c.symm), ET (λc => hik c.symm)]
    rcases f with ⟨c, S, R⟩ | h
    . have I := K.resolve_right (by rw[c]; decide)
      rw[c, S, R, rU, DY, AU ω]
      have : iQ (m11 0 0) = 1 :: List.replicate 251 0 := by unfold iQ; rw[show m11 0 0 = 1 :: List.replicate 10 0 by decide]; rw[jF, jB, CT, List.replicate_append_replicate]
      grind
    . rw[rF h, <-Ry _ (by rw[dQ]; decide), DW hi]
  rcases y 3 δ with D | D
  . -- its own sum: a turned page
    have c  := Rf z ((wW d k u).trans f.size) (λj E => by
      rcases y j E with c | c
      . exact c
      . obtain rfl | rfl | rfl | rfl : j = 0 \/ j = 1 \/ j = 2 \/ j = 3 := by omega
        . exact p
        . unfold sect; apply CZ; grind
        . unfold sect; apply CZ; grind
        . exact D)
    exfalso; apply hb'
    rw[c]
    rcases f with ⟨Q, _⟩ | h
    . rw[Q]at A⊢; exact qDh F (λc => A (by rw[c, rU, DY, AU F]))
    . exact Lo h F A
  . -- the other one's sum
    have x := rF w
    have c : s.data.toList.drop 252 = B.data.toList.drop 252 := by
      apply CZ; intro i
      by_cases hi : i < 4
      . rw[DE, DE]; exact Em D ω ω
      grind
    have J := pR U
    rw[c, x, qJo _ (by rw[dQ]; decide), G]at J
    have X := Pz (Crc.Bz _) (Crc.Bz _) J
    have := qRn a1 V W Y Z hk11 (qOz (by rw[BQ, dQ]) (dQ _ _) X.symm)
    right; left
    apply FZ; apply Array.ext'
    rw[<-BU 252 s.data.toList, <-BU 252 B.data.toList, c, G, this, x, Ry _ (by rw[dQ]; decide)]
abbrev bare(s:List ByteArray):Fs:=⟨s,[],-1,-1,0⟩
abbrev mtB(v:Nat)(o:Option (Nat×T)):ByteArray:=(bL (v:Nat) (rootOf o:Nat)).encS
def qE(safe:List ByteArray)(t:Option (Nat×T)):Prop:=∃p0 s0,p0∈bI t/\p0<safe.length/\qH (safe.getD p0 ⟨#[]⟩)/\Tr [] (bare (safe.set p0 s0)) t
def Mx(s:ByteArray)(late:List (Nat×ByteArray))(q:Nat)(B A:ByteArray):Prop:=∃k u,k<256/\A.data.toList[k]?≠some u/\(∀j,j<4->sect s j=sect (oP A k u) j\/sect s j=sect B j)/\∀x∈late,x.1=1-q->x.2=B
structure fN (n q:Nat) (safe:List ByteArray) (late:List (Nat×ByteArray)) (v:Nat) (o:Option (Nat×T)) (C:Nat->Option (Nat×T)->Prop):Prop where
 size:∀s∈safe,s.size=256
 lsize:∀x∈late,x.2.size=256
 fits:∀x∈late,x.1<safe.length
 len:safe.length=n
 hq:q<2
 par:q=v % 2\/∀v' t,C v' t->v'=v/\rootOf t=rootOf o
 m0:jS (safe.getD q ⟨#[]⟩) v (rootOf o)
 sure:Tr [] (bare safe) o
 oth:∃v' t A,C v' t/\jS A v' (rootOf t)/\(sect (safe.getD (1-q) ⟨#[]⟩) 0=sect A 0\/Mx (safe.getD (1-q) ⟨#[]⟩) late q (mtB v o) A)
 cs:∀v' t,C v' t->(Tr [] (bare safe) t\/(v'≠v+1/\qE safe t))/\(v'+1=v\/(v'=v/\rootOf t=rootOf o)\/v'=v+1)
 late:∀x∈late,(x.1=1-q/\∃v' t,C v' t/\jS x.2 v' (rootOf t))\/(2<=x.1/\x.1 ∉ bI o/\∀v' t,C v' t->x.1 ∉ bI t)
section
variable {n q v:Nat}{safe:List ByteArray}{late:List (Nat×ByteArray)}{o:Option (Nat×T)}{C:Nat->Option (Nat×T)->Prop}
theorem Tr.ge {K:List ByteArray}(h:Tr K fs o):∀p∈bI o,2<=p:=Bb h.rooted h.flat h.root
theorem qE.ge (h:qE safe t):∀p∈bI t,2<=p:=by
 obtain⟨_,_,_,_,_,h⟩:=h;exact h.ge
theorem qD(s:List ByteArray)(p:Nat):(bare s).at p=s.getD p ⟨#[]⟩:=rfl
theorem yM(l:List ByteArray)(p k:Nat)(s:ByteArray)(h:p<l):(l.set p s).getD k ⟨#[]⟩=if k=p then s else l.getD k ⟨#[]⟩:=by
 grind
theorem qE.stays (h:qE safe t)(l:a.length=safe)(e:∀p∈bI t,a.getD p ⟨#[]⟩=safe.getD p ⟨#[]⟩):qE a t:=by
 obtain⟨p,s,c,j,f,d⟩:=h
 refine⟨p,s,c,ω,ζ,d.stays (λk i g b=>⟨by have:=b.1;grind,?_⟩)⟩
 have:=b.2;rw[qD,yM _ _ _ _ j]at this;rw[qD,yM _ _ _ _ ω,e k i];exact this
theorem fN.cge(h:fN n q safe late v o C):∀v' t,C v' t->∀p∈bI t,2<=p:=λv' t c=>(h.cs v' t c).1.elim Tr.ge (λa=>a.2.ge)
theorem fN.off(h:fN n q safe late v o C):(∀x∈late,x.1≠q)/\(∀p∈bI o,∀x∈late,x.1≠p)/\∀v' t,C v' t->∀p∈bI t,∀x∈late,x.1≠p:=by
 have i:=h.hq
 refine⟨λx e b=>?_,λp a x e b=>?_,λv' t c p a x e b=>?_⟩<;>rcases h.late x e with⟨d,_⟩|⟨d,g,f⟩
 .omega
 .omega
 .have:=h.sure.ge p a;omega
 .grind
 .have:=h.cge v' t c p a;omega
 grind
theorem fN.crash(h:fN n q safe late v o C)(hn:2<=n){f:List ByteArray}(a:iB safe late f):fN n q f [] v o C:=by
 have⟨J,x2,x3⟩:=h.off
 have z:∀t,Tr [] (bare safe) t->(∀e∈bI t,∀x∈late,x.1≠e)->Tr [] (bare f) t:=λt E i=>E.stays (λe w g m=>⟨by have p:=a.len;have L:=m.1;grind,by rw[qD,a.same h.size (i e w)];exact m.2⟩)
 have K:=h.len;have H:=h.hq;have F:=a.len
 refine⟨a.sizes,σ,σ,ω,H,h.par,by rw[a.same h.size J];exact h.m0,z o h.sure x2,?_,λB t l=>⟨(h.cs B t l).1.imp (λe=>z t e (x3 B t l)) (λe=>⟨e.1,e.2.stays F (λk j=>a.same h.size (x3 B t l k j))⟩),(h.cs B t l).2⟩,σ⟩
 have i:1-q<f:=ω
 have u:1-q<safe:=ω
 obtain⟨v',t,r,c,m,d⟩:=h.oth
 rcases d with d|⟨k,p,j,I,G,hx⟩
 .rcases a.sect _ i 0 δ with e|⟨x,D,A,e⟩
  .grind
  .rcases h.late x D with⟨_,B,t,b,c⟩|⟨p,_⟩
   .grind
   .omega
 .refine⟨v',t,r,c,m,.inr ⟨k,p,j,I,λy s=>?_,σ⟩⟩
  rw[getD_in i]
  rcases a.sect _ i y s with e|⟨x,D,A,e⟩
  .grind
  grind
theorem fN.laid(h:fN n q safe late v o C)(hn:2<=n):fN n q (laid safe late) [] v o C:=h.crash hn (zQ h.size h.lsize h.fits)
theorem fN.view (h:fN n q fs.safe fs.late v o C):bT fs q v (rootOf o)/\Tr [] fs o/\∀v' t,C v' t->Tr [] fs t\/(v'≠v+1/\qE fs.safe t):=by
 have⟨i,j,k⟩:=h.off;have c:∀a,(∀x∈fs.late,x.1≠a)->fs.at a=fs.safe.getD a ⟨#[]⟩:=λa b=>by unfold Fs.at;rw[sS b];rfl
 have f:∀t,Tr [] (bare fs.safe) t->(∀a∈bI t,∀x∈fs.late,x.1≠a)->Tr [] fs t:=λt m b=>m.stays (λa l g e=>⟨e.1,by rw[c a (b a l)];exact e.2⟩)
 refine⟨?_,f o h.sure j,λv' t d=>(h.cs v' t d).1.imp (λe=>f t e (k v' t d)) id⟩;unfold bT;rw[c _ i];exact h.m0
theorem Tr.rootlt (h:Tr [] fs t):rootOf t<4096:=by
 rcases h.root with a|a
 .omega
 .simp only[bF,AM,BO]at a;omega
theorem fN.rlt (h:fN n q safe late v o C){v':Nat}(c:C v' t):rootOf t<4096:=by
 rcases(h.cs v' t c).1 with a|⟨_,_,_,_,_,_,a⟩<;>exact a.rootlt
theorem Ot (h:Tr [] fs o)(a:v<9223372036854775808):yE (mtB v o) (bL (v:Nat) (rootOf o:Nat)):=Ab _ (by show((v:Nat):Int)<_;omega) (uY (v:Nat) (rootOf o:Nat) ω (h.root.imp (λh=>by rw[h];rfl) id))
theorem Nl {q v c:Nat}(d:q<2)(a:bT fs q v c)(b:bT fs (1-q) v c):bT fs (v % 2) v c/\bT fs ((v+1) % 2) v c:=by
 rcases EG v with x|x<;>(obtain rfl|rfl:q=0\/q=1:=by omega)
 .grind
 .grind
 .grind
 grind
theorem fN.two (h:fN n q fs.safe [] v o C)(b:fs.late=[])(s:2<=n)(I:v+1<524288):(∃t,dN [] n fs v o t/\∃v',bT fs ((v+1) % 2) v' (rootOf t)/\((v'=v/\t=o)\/(v'≠v+1/\C v' t)))\/(∃t,C (v+1) t/\dN [] n fs (v+1) t o)\/qI (fs.at (1-q))\/∃v' t,v'≠v+1/\C v' t/\bT fs (1-q) v' (rootOf t)/\qE fs.safe t:=by
 have H:fN n q fs.safe fs.late v o C:=ζ
 have⟨c,d,e⟩:=H.view;have⟨v',t,A,a,j,u⟩:=h.oth;have l:fs.at (1-q)=fs.safe.getD (1-q) ⟨#[]⟩:=by unfold Fs.at;rw[b];rfl
 have E:=h.hq
 rw[<-l]at u;have y:(fs.at (1-q)).size=256:=by
  have m:1-q<fs.safe:=by have:=h.len;omega
  rw[l,getD_in m];exact h.size _ (AA m)
 have cs:=(h.cs v' t a).2
 have K:bT fs (1-q) v' (rootOf t)\/bT fs (1-q) v (rootOf o)\/qI (fs.at (1-q)):=by
  rcases u with u|⟨u,J,B,F,D,_⟩
  .rcases As y u (j.imp (λh=>h.1) id) with f|f
   .left;unfold bT;rw[f];exact j
   grind
  .rcases qKh j (Ot d ω) ω ω ω (h.rlt a) d.rootlt y B F D with f|f|f
   .exact .inl f
   .right;left;unfold bT;rw[f];exact .inr (Ot d ω)
   grind
 have w:∀r,bT fs (1-q) v (rootOf r)->rootOf r=rootOf o->Tr [] fs r->dN [] n fs v o r/\bT fs ((v+1) % 2) v (rootOf r):=λr g x k=>by
  have⟨G,m2⟩:=Nl E c (x▸g);rw[<-x]at m2;exact⟨⟨b,h.len,G,⟨v,m2,.inr ⟨rfl,x⟩⟩,d,k,h.size⟩,m2⟩
 rcases K with g|g|g
 .rcases e v' t a with k|⟨hn,z⟩
  case inr=>grind
  rcases cs with i|⟨rfl,i⟩|rfl
  .rcases h.par with p|p
   case inr=>grind
   rw[show 1-q=(v+1) % 2 by omega]at g
   exact .inl ⟨t,⟨b,h.len,p▸c,⟨v',g,.inl i⟩,d,k,h.size⟩,v',g,.inr ⟨ω,a⟩⟩
  .grind
  .rcases h.par with p|p
   case inr=>grind
   exact .inr (.inl ⟨t,a,b,h.len,ζ,⟨v,ζ,.inl rfl⟩,k,d,h.size⟩)
 .grind
 grind
theorem fN.put(h:fN n q safe late v o C)(k:2<=n)(w:v<9223372036854775808):fN n q safe (late++[(1-q,mtB v o)]) v o (λv' t=>C v' t\/(v'=v/\t=o)):=by
 have e:=Ot h.sure w;have y:=h.len;have s:=h.hq;have l:=h.sure.ge;refine⟨h.size,λx d=>?_,λx d=>?_,y,s,h.par.imp id (λg v' t a=>a.elim (g v' t) (λa=>ζ)),h.m0,h.sure,?_,λv' t a=>?_,λx d=>?_⟩
 .rcases AN.1 d with d|d
  .exact h.lsize x d
  .rw[AL.1 d];exact e.1
 .rcases AN.1 d with d|d
  .exact h.fits x d
  grind
 .obtain⟨v',t,j,f,m,c⟩:=h.oth
  refine⟨v',t,j,.inl f,m,c.imp id (λ⟨k,z,p,u,r,hx⟩=>⟨k,z,p,u,r,λx d A=>?_⟩)⟩
  grind
 .rcases a with a|⟨rfl,rfl⟩
  .exact h.cs v' t a
  .exact⟨.inl h.sure,.inr (.inl ⟨rfl,rfl⟩)⟩
 .rcases AN.1 d with d|d
  .rcases h.late x d with⟨i,v',t,c,b⟩|⟨c,b,g⟩
   .grind
   grind
  .rw[AL.1 d];exact .inl ⟨rfl,v,o,.inr ⟨rfl,rfl⟩,.inr e⟩
theorem dN.hold (S:dN [] n fs v o ao):∃v1,(v1+1=v\/(v1=v/\rootOf ao=rootOf o))/\jS (fs.safe.getD (1-v % 2) ⟨#[]⟩) v1 (rootOf ao)/\fN n (v % 2) fs.safe fs.late v o (λv' t=>v'=v1/\t=ao):=by
 have⟨v1,e,j⟩:=S.meta1;have c:=S.late;have h:∀d,fs.at d=fs.safe.getD d ⟨#[]⟩:=λd=>by unfold Fs.at;rw[c];rfl
 have k:∀t,Tr [] fs t->Tr [] (bare fs.safe) t:=λt l=>l.stays (λd _ g i=>⟨i.1,by rw[qD,<-h];exact i.2⟩);have f:=S.meta0;unfold bT at f e;rw[h]at f e
 rw[show(v+1) % 2=1-v % 2 by omega]at e
 exact⟨v1,j,e,S.size,by simp[c],by simp[c],S.len,Nat.mod_lt _ δ,.inl rfl,f,k o S.sure,⟨v1,ao,_,⟨rfl,rfl⟩,e,.inl rfl⟩,λv' t ⟨a,b⟩=>by subst a b;exact⟨.inl (k _ S.ahead),j.imp id .inl⟩,by simp[c]⟩
end
def Cut(fs:Fs)(l:List (Nat×Pg))(m:Nat)(mt:Pg)(fs1:Fs):Prop:=(fs1.safe=fs.safe/\∀x∈fs1.late,∃y∈l,x=(y.1,y.2.encS))\/(fs1.safe=(fs.puts l).synced.safe/\(fs1.late=[]\/fs1.late=[(m,mt.encS)]))
theorem qLx {n v:Nat}{fs l:Fs}{cs:List Ch}{fr:List Nat}(S:dN [] n fs v o ao)(P:qBb [] n fs o cs fr)(D:∀p∈bI ao,p ∉ fr)(K:v+1<9223372036854775808)(hn:2<=n)(f:Cut fs (bY o cs fr).2 ((v+1) % 2) (bL (v+1:Nat) (rootOf (bY o cs fr).1)) l):∃C,fN n (v % 2) l.safe l.late v o C/\∀v' t,C v' t->(t=ao/\(v'+1=v\/(v'=v/\rootOf ao=rootOf o))/\jS (fs.safe.getD (1-v % 2) ⟨#[]⟩) v' (rootOf ao))\/(v'=v+1/\t=(bY o cs fr).1):=by
 have⟨m,u,E,_,_⟩:=nT S P K hn;have⟨r,z,y,H⟩:=S.hold;have B:=tQ E;have w:jS (bL (v+1:Nat) (rootOf (bY o cs fr).1:Nat)).encS (v+1) (rootOf (bY o cs fr).1):=.inr (Ab _ (by show((v+1:Nat):Int)<_;omega) (uY (v+1:Nat) (rootOf (bY o cs fr).1:Nat) ω (m.sure.root.imp (λh=>by rw[h];rfl) id)));have k:∀x∈(bY o cs fr).2,2<=x.1/\x.1 ∉ bI o/\x.1 ∉ bI ao/\x.1<fs.safe:=λx e=>by
  have:=P.free _ (B x e);exact⟨this.1,λh=>P.away _ h (B x e),λh=>D _ h (B x e),by rw[S.len];omega⟩
 rcases f with⟨i,d⟩|⟨i,d⟩
 .refine⟨λv' t=>v'=r/\t=ao,⟨by rw[i];exact H.size,λx e=>?_,λx e=>?_,by rw[i];exact H.len,H.hq,.inl rfl,by rw[i];exact H.m0,by rw[i];exact H.sure,ζ,by rw[i];exact H.cs,λx e=>?_⟩,λv' t f=>.inl ⟨f.2,ζ⟩⟩<;>obtain⟨c,j,rfl⟩:=d x e
  .exact lU _ (u c j)
  .grind
  grind
 .have A:fN n (v % 2) (fs.puts (bY o cs fr).2).synced.safe [] v o (λv' t=>v'=r/\t=ao):=by
   have:fN n (v % 2) fs.safe ((bY o cs fr).2.map λc=>(c.1,c.2.encS)) v o (λv' t=>v'=r/\t=ao):=by
    refine⟨H.size,λx e=>?_,λx e=>?_,H.len,H.hq,.inl rfl,H.m0,H.sure,⟨r,ao,_,⟨rfl,rfl⟩,y,.inl rfl⟩,H.cs,λx e=>?_⟩<;>obtain⟨c,j,rfl⟩:=AY.1 e
    .exact lU _ (u c j)
    .grind
    grind
   have:=this.laid hn;unfold Fs.puts Fs.synced;rw[S.late];exact this
  have L:=A.len;have T:Tr [] (bare (fs.puts (bY o cs fr).2).synced.safe) (bY o cs fr).1:=m.sure.stays (λp F g y=>⟨by have:=y.1;unfold Fs.made at this;simpa[Fs.synced,dM,Fs.put] using this,by
   have M:=m.sure.ge p F;have q:=y.2;unfold Fs.made at q;rw[nZ _ (λx e=>by simp only[Fs.put,Fs.synced,jE,AL]at e;subst e;show(v+1) % 2<(fs.puts (bY o cs fr).2).synced.safe;omega),Gi,AQ ω]at q;exact q⟩)
  have G:jS ((fs.puts (bY o cs fr).2).synced.safe.getD (1-v % 2) ⟨#[]⟩) r (rootOf ao):=by
   unfold Fs.puts Fs.synced;rw[S.late];show jS ((laid fs.safe _).getD _ _) _ _;rw[(zQ H.size (λx e=>by obtain⟨c,j,rfl⟩:=AY.1 e;exact lU _ (u c j)) (λx e=>ζ)).same H.size (λx e=>ζ)];exact y
  have s:fN n (v % 2) (fs.puts (bY o cs fr).2).synced.safe l.late v o (λv' t=>(v'=r/\t=ao)\/(v'=v+1/\t=(bY o cs fr).1)):=by
   refine⟨A.size,λx e=>?_,λx e=>?_,A.len,A.hq,.inl rfl,A.m0,A.sure,⟨r,ao,_,.inl ⟨rfl,rfl⟩,G,.inl rfl⟩,λv' t f=>?_,λx e=>?_⟩
   .rcases d with d|d<;>rw[d]at e
    .simp at e
    .rw[AL.1 e];exact w.size
   .grind
   .rcases f with f|⟨rfl,rfl⟩
    .exact A.cs v' t f
    grind
   grind
  grind
theorem qQv {fs c:Fs}{l:List (Nat×Pg)}{m:Nat}{mt:Pg}(h:Cut fs l m mt c)(j:fs.late=[])(q:∀y∈l,y.1<fs.safe)(u:m<2)(ht:Tr [] fs t)(k:∀p∈bI t,p ∉ l.map (·.1)):Tr [] c t:=by
 refine ht.stays (λp e g d=>?_);have s:=ht.ge p e;have i:=d.1;have o:fs.at p=fs.safe.getD p ⟨#[]⟩:=by unfold Fs.at;rw[j];rfl
 rcases h with⟨b,a⟩|⟨b,a⟩
 .refine⟨ζ,?_⟩
  have:c.at p=fs.at p:=by
   rw[o];unfold Fs.at;rw[sS (λx w=>?_),b];rfl;grind
  rw[this];exact d.2
 .have r:(fs.puts l).fits:=λx w=>by
   simp only[Fs.puts,j,jE,AY]at w;obtain⟨y,f,rfl⟩:=w;exact q y f
  have:c.at p=fs.at p:=by
   have:c.at p=(fs.puts l).synced.at p:=by
    unfold Fs.at;rw[sS (λx w=>?_),b];rfl;grind
   rw[this,nZ _ r,(Eo l fs p).1 (k p e)]
  exact⟨by rw[b];show p<(laid _ _);rw[dM];exact i,by rw[this];exact d.2⟩
theorem Tr.eq {fs a:Fs}(b:a.safe=fs.safe)(d:a.late=fs.late)(h:Tr [] fs t):Tr [] a t:=h.stays (λe _ g c=>⟨by rw[b];exact c.1,by unfold Fs.at;rw[b,d];exact c.2⟩)
theorem dN.eq {n v:Nat}{fs c:Fs}(a:c.safe=fs.safe)(b:c.late=fs.late)(h:dN [] n fs v o ao):dN [] n c v o ao:=by
 have e:∀d,c.at d=fs.at d:=λd=>by unfold Fs.at;rw[a,b]
 refine⟨b.t h.late,by rw[a];exact h.len,by unfold bT;rw[e];exact h.meta0,?_,h.sure.eq a b,h.ahead.eq a b,by rw[a];exact h.size⟩
 .have⟨i,f,g⟩:=h.meta1
  exact⟨i,by unfold bT;rw[e];exact f,g⟩
theorem Sj(β : Nat)(sv lv : Value)(fs : Fs)(root : Int)(g : Option Addr)(j i : Nat)(p : Nat)(w : World)(h : aA w β sv lv fs)(k : (fs.life == 0) = false)(s : p < fs.safe)(z : qH (fs.at p)):
    Calls prog 138 #[.agg #[.p β 0, .i root, .s g j i], .i p] w λe w' => e = .panicked (eS 10) /\ Below w w w' := by
  have y : fs.readS p = fs.at p := by simp[Fs.readS, s, k]
  have x : (decide (p < fs.safe) && !(fs.life == 0)) = true := by simp[s, k]
  obtain⟨d, o⟩: ∃d, (w.alloc (.cells #[.p β 0, .i root, .s g j i] 90)).alloc xI = d := ⟨_, rfl⟩;have f  := o ▸ (bA _ _).alloc σ _;have l := h.bl f;have n := lH β sv lv fs p d l;rw[y, x]at n;have m := fH β sv lv fs d l;rw[k]at m;have A := o ▸ aP _ (aB w _);have S : d.c w 0 = some (.p β 0):= by simp[World.cell?, A]
  have u := vA z d;go_enter func138, ntmps138;go_wp2_with (first
    |(go_at_call 142; refine n.m ?_; rintro e w' ⟨rfl, t⟩; subst w')
    |(go_at_call 49; refine m.m ?_; rintro e w' ⟨rfl, t⟩; subst w')
    |(go_at_call 143; refine u.m ?_; rintro e b ⟨rfl, r⟩; obtain⟨a, q⟩: ∃a, b.alloc xI = a := ⟨_, rfl⟩; have c  := q ▸ aB b _; obtain⟨B, C, D, E, F, G, H, I⟩:= bU c; have J := aF c; have K : a.setCell (aD b 0) (.i 0) = a := cH c rfl; have L : a.setCell (aD b 1) (.i 0) = a := cH c rfl; have M : a.setCell (aD b 2) (.i 0) = a := cH c rfl; have N : a.setCell (aD b 3) (.i 0) = a := cH c rfl; have O : a.setCell (aD b 4) (.s none 0 0) = a := cH c rfl; have P : a.setCell (aD b 5) (.s none 0 0) = a := cH c rfl; have Q : a.setCell (aD b 6) (.s none 0 0) = a := cH c rfl; have R : a.setCell (aD b 7) (.t ⟨#[]⟩) = a := cH c rfl; have v := xX 10 a)
    |(go_at_call 139; refine v.m ?_; rintro e w' ⟨rfl, t⟩; subst w'))
  exact⟨rfl, rfl, f.t ((r.m f.size).t (q ▸ (AC _ _).alloc (by have := f.size; have := r.size; omega) _))⟩
theorem qKa(β : Nat)(sv lv : Value)(fs : Fs)(root : Int)(b : Option Addr)(d c : Nat)(p : Nat)(s : Sp)(w : World)(h : aA w β sv lv fs)(l : (fs.life == 0) = false)(m : p < fs.safe)(n : qH (fs.at p)):
    Calls prog 144 #[.agg #[.p β 0, .i root, .s b d c], .i p, .agg #[.t s.lo, .t s.hi]] w λe w' => e = .panicked (eS 10) /\ Below w w w' := by
  obtain⟨a, g⟩: ∃a, ((w.alloc (.cells #[.p β 0, .i root, .s b d c] 90)).alloc (.cells #[.t s.lo, .t s.hi] 154)).alloc xI = a := ⟨_, rfl⟩;have f  := g ▸ ((bA _ _).alloc σ _).alloc (by simp; omega) _;have i := h.bl f;have o := g ▸ aP _ (aP _ (aB w _));obtain⟨r, t, u⟩: a.c w 0 = some (.p β 0) /\ a.c w 1 = some (.i root) /\ a.c w 2 = some (.s b d c):= by simp[World.cell?, o]
  have j := Sj β sv lv fs root b d c p a i l m n;go_enter func144, ntmps144;go_wp2_with (go_at_call 138; refine j.m ?_; rintro e q ⟨rfl, k⟩);exact⟨rfl, rfl, f.tm k⟩
open Go.Shelf
attribute [local go_sem] CE
structure Near (fs fs':Fs) (p0:Nat):Prop where
 len:fs'.safe.length=fs.safe.length
 alive:(fs'.life==0)=false
 same:∀p,p≠p0->fs'.at p=fs.at p
structure Spoilt (fs fs':Fs) (p0:Nat):Prop extends Near fs fs' p0 where
 lt:p0<fs.safe.length
 bad:qH (fs'.at p0)
theorem Near.has{fs a : Fs}{c p : Nat}{g : Pg}(h : Near fs a c)(b : fs.has p g)(d : p ≠ c): a.has p g := ⟨by rw[h.len]; exact b.1, by rw[h.same p d]; exact b.2⟩
theorem qHi(be bt β sv lv)(fs fs':Fs)(p0:Nat)(hS:Near fs fs' p0)(hlt:p0<fs.safe)(hbd:qH (fs'.at p0))(root ca cn cc k v size over xs post0 g0 Rd w)(he:w.1[be]?=some (.cells #[.t k,.t v,.i size,.i over] 69))(ht:w.1[bt]?=some (.cells #[.p β 0,.i root,.s ca cn cc] 90))(hf:aA w β sv lv fs')(re:Rd be)(rt:Rd bt)(rf:∀k,fpF β sv lv k->Rd k)(hsz:size<=1000000)(hov:0<over)(hch:eV fs over size (xs++(p0,g0)::post0))(hno:∀x∈xs,x.1≠p0):
  Wz prog 137 #[.p be 0,.p bt 0] Ec xs Rd (eS 10) True w:=λl J Jp Y W z o X lJ sp _ hw hY h0=>(Nk be bt β sv lv fs fs' root ca cn cc k v size over xs _ Rd (eS 10) True w he ht hf re rt rf hsz hS.alive (λx h g=>hS.has g (hno x h)) (.inr ⟨hov,hch⟩) (.inr ⟨trivial,p0,g0,post0,rfl,λX f=>Sj β sv lv fs' root ca cn cc p0 X f hS.alive (hS.len▸hlt) hbd⟩) l J (λ_ _ _=>False) Jp Y W z o X lJ sp hw (λa b c d e f g h i j k m n=>(hY a b c d e f g h i j k m n).mono (λ_ _ h=>h.imp .inl id)) h0).m (λ_ _ h=>.inr (h.resolve_left (λ⟨_,_,_,_,h⟩=>h.elim (λh=>h.1 trivial) (λ⟨_,_,_,h⟩=>h))))
attribute [local go_sem] CE
theorem Near.ok{fs fs':Fs}{p0:Nat}(hS:Near fs fs' p0){x:En}(h:x.ok fs)(hn:p0 ∉ x.pages):x.ok fs':=by
 obtain⟨size,over,h1,h2,h3,h4⟩:=h
 refine⟨size,over,h1,h2,h3,h4.imp id (λ⟨a,b⟩=>⟨a,qB b (λy hy g hg=>hS.has hg (λe=>hn ?_))⟩)⟩
 rw[<-e];exact LX hy
theorem qLj{p0:Nat}{l:List (Nat×Pg)}(h:p0∈l.map (·.1)):∃xs g post,l=xs++(p0,g)::post/\∀x∈xs,x.1≠p0:=by
 induction l with
 |nil=>simp at h
 |cons y l ih =>
  by_cases e:y.1=p0
  .exact⟨[],y.2,l,by rw[<-e];rfl,σ⟩
  grind
def MkR(p0 ub:Nat)(u:List Bool)(L:List Nat)(w:World)(e:Ending)(w':World):Prop:=Fr (Bl.one ub) w w'/\((p0 ∉ L/\(∃v,e=.r v)/\aY w' ub (marks u L))\/(p0∈L/\e=.panicked (eS 10)))
theorem Lz(β:Nat)(sv lv:Value)(fs fs':Fs)(p0:Nat)(hS:Near fs fs' p0)(hb:p0<4096->p0<fs.safe/\qH (fs'.at p0))(root:Int)(ca:Option Addr)(cn cc ub h p:Nat)(kids:List T)(es:List En)(g:Pg)(s:Sp)(u:List Bool)(w:World)(hg:fs.has p g)(hkd:g.kids=kids.map (λt=>(t.place:Int)))(hes:g.ents=es.map (·.e))(hok:∀x∈es,x.ok fs)(hN:∀W,aA W β sv lv fs'->fs'.has p g->cL 144 #[.agg #[.p β 0,.i root,.s ca cn cc],.i p,.agg #[.t s.lo,.t s.hi]] W λe w'=>∃v,e=.r v/\Wt w' (New W w') g v/\bW W w')(hu:u.length=4096)(hf:aA w β sv lv fs')(hU:aY w ub u)(hnot:¬on u p)(hn0:¬on u p0)(ih:∀j (hj:j<kids.length) um W,um=marks (u.set p true) ((kids.take j).flatMap (T.pages h))->aA W β sv lv fs'->aY W ub um->¬on um p0->cL 114 #[.agg #[.p β 0,.i root,.s ca cn cc],.i (kids[j]).place,.agg #[.t (kQ s g.keys j),.t (rO s g.keys j)],.q ub 4096 4096] W (MkR p0 ub um (T.pages h kids[j]) W)):
  cL 114 #[.agg #[.p β 0,.i root,.s ca cn cc],.i p,.agg #[.t s.lo,.t s.hi],.q ub 4096 4096] w (MkR p0 ub u (p::(kids.flatMap (T.pages h)++es.flatMap En.pages)) w):=by
 have hp:p<4096:=jY hg.1 (hS.len▸hf.small);have hpi:(p:Int)<4096:=ω
 have⟨W1,hW1,B1,t1,s1,b1,z1⟩:=al3 w (.cells #[.p β 0,.i root,.s ca cn cc] 90) (.cells #[.t s.lo,.t s.hi] 154) (.cells #[.q ub 4096 4096] 139); have hU1:aY W1 ub u:=hU.on (vV B1 (Y:=Bl.one ub) (λk hk=>by cases hk;exact hU.lt)) rfl;have hcu:=hU1.cell hp hu;have hval:u[p]'(by omega)=false:=by
  cases hv:u[p]'(by omega) with
  |false=>rfl
  |true=>exact absurd (AD.2 ⟨ω,hv⟩) hnot
 rw[hval]at hcu;have hfz:=hU1.free;have⟨W2,hW2⟩:=nM (W1.setCell (aD ub p) (.bool true));have lub:=hU.lt;have f2:Fr (Bl.one ub) W1 W2:=hW2▸(AE (Bl.one ub) W1).s ub p;have hU2:aY W2 ub (u.set p true):=hW2▸hU1.set p;have t2:=f2.heap t1 φ;have s2:=f2.heap s1 φ;have b2:=f2.heap b1 φ;have⟨tc0,tc1,tc2⟩:=eM t2;have⟨sc0,sc1⟩:=cM s2;have bc0:W2.c (w+1+1) 0=some (.q ub 4096 4096):=by simp[World.cell?,b2]
 have bc1:W1.c (w+1+1) 0=some (.q ub 4096 4096):=by simp[World.cell?,b1]
 have hf1:aA W1 β sv lv fs':=hf.bl B1;have hf2:aA W2 β sv lv fs':=hf1.on (f2.on (λk hk=>⟨hf1.lies k hk,λh=>by cases h;exact hU1.apart hf1 hk⟩));have⟨sm1,sm2,sm3⟩:=gB hg
 have hNd:cL 144 #[.agg #[.p β 0,.i root,.s ca cn cc],.i p,.agg #[.t s.lo,.t s.hi]] W2 λe w'=>(p≠p0/\∃v,e=.r v/\Wt w' (New W2 w') g v/\bW W2 w')\/(p=p0/\e=.panicked (eS 10)/\bW W2 w'):=by
  by_cases e:p=p0
  .subst e;exact(qKa β sv lv fs' root ca cn cc p s W2 hf2 hS.alive (hS.len▸hg.1) (hb hp).2).m (λ_ _ h=>.inr ⟨rfl,h⟩)
  .exact(hN W2 hf2 (hS.has hg e)).m (λ_ _ h=>.inl ⟨e,h⟩)
 have HKD:Hid (g.kids=kids.map (λt=>(t.place:Int))):=hkd;have HE:Hid (g.ents=es.map (·.e)):=hes;have HL:Hid (g.ents.length=es):=by show _=_;rw[hes,AF]
 have HU:Hid (u.length=4096):=hu;have HI:Hid _:=ih;have lo0:p0∈p::(kids.flatMap (T.pages h)++es.flatMap En.pages)<->p0=p\/p0∈kids.flatMap (T.pages h)\/p0∈es.flatMap En.pages:=σ
 have LO:Hid _:=lo0;clear hkd hes hu hval z1 ih lo0
 refine Px func114 rfl ?_;simp only[ntmps114,jA,jB,jN,Nat.reduceAdd,Nat.reduceSub,jR,jO,jP,jT,jE,jF]
 refine nX (λK0 hK0=>Ao (n:=0) ?_)
 gi_wp2
 refine nX (λK1 hK1=>Ao (n:=0) ?_)
 gi_wp2
 refine nX (λK2 hK2=>Ao (n:=0) ?_)
 gi_wp2
 refine nX (λK3 hK3=>Ao (n:=0) ?_)
 gi_wp2
 refine⟨trivial,rfl,?_⟩
 gi_at_call 144
 refine(BG.2 hNd).m ?_
 clear hNd
 rintro e W3 (⟨hpp,vv,rfl,⟨ka,ia,ea,kc,ic,ec,rfl,q1,q2,q3,qq⟩,hb3⟩|⟨hpp,rfl,hb3⟩)
 case inr=>
  refine fL (B:=w) (u:=.panicking (eS 10)) σ (GC _ _) (λw' ht'=>?_)
  exact⟨(((AB B1).t f2).t (AB hb3)).took ht' (jU _),.inr ⟨LO.o.2 (.inl hpp.symm),rfl⟩⟩
 obtain⟨W4,hW4,-,x4,-⟩:=al1 W3 (pgO g ka ia ea kc ic ec);have⟨m0,m1,m2,m3,m4,m5,m6,m7⟩:=bU x4;have f4:Fr Bl.none W2 W4:=(AB hb3).t (hW4▸(AE _ W3).alloc _);have⟨sd0,sd1⟩:=cM (f4.heap s2 (λh=>h));have hKc:=rL g s ka ia ea kc ic ec W4
 gi_wp2
 refine nX (λK4 hK4=>?_)
 refine nX (λK5 hK5=>Ao (n:=0) ?_)
 gi_wp2_with (refine⟨trivial,rfl,?_⟩;gi_at_call 145;refine(BG.2 hKc).m ?_;clear hKc;rintro e W5 ⟨rfl,y1,y2,hb5⟩)
 have f5:Fr Bl.none W2 W5:=f4.t (AB hb5);have z4:W3.1.size<W4:=(gL x4);have z3:=hb3.size;have hU5:aY W5 ub (u.set p true):=hU2.fr f5 (λh=>h);have hf5:aA W5 β sv lv fs':=hf2.on (f5.on (λk hk=>⟨hf2.lies k hk,λh=>h⟩));have z5:W4.1.size+1<W5:=(gL y2);have zW2:w.1.size+1+1<W2:=(gL b2);have o35:On (New W2 W3) W3 W5:=(hW4▸(CM _ W3).alloc (λk hk=>hk.2) _:On (New W2 W3) W3 W4).t (vV hb5 (λk hk=>by have:=hk.2;omega));let Rd:Bl:=λk=>k=W4\/k=W4+1\/New W2 W3 k
 have HLp:Hid ((parts s g.keys g.kids).length=kids):=by show _=_;rw[dA,HKD.o,AF]
 let I:List (Int×Sp)->Bl->World->Prop:=λpre Y W=>aY W ub (marks (u.set p true) ((kids.take pre).flatMap (T.pages h)))/\Y=Bl.one ub/\p0 ∉ (kids.take pre).flatMap (T.pages h)
 have t5:=f5.heap t2 (λh=>h);have b5:=f5.heap b2 (λh=>h);have x5:=(hb5.block _ z4).t x4
 refine qDk ?_
 refine qDi (P:=prog) (Has:=vG) (Rd:=Rd) func114 rfl (enters_of func167 κ rfl) (Zf (eS 10) (W4+1) W4 s g.kind g.ver g.root g.next ka ia ea kc ic g.ents ec g.data g.keys g.kids Rd W5 y2 y1 ((q1.on o35).m (λk hk=>.inr (.inr hk))) ((q2.on o35).m (λk hk=>.inr (.inr hk))) (.inr (.inl rfl)) (.inl rfl) sm1 sm2 qq.1 qq.2.1) (λx args S W hH=>by rw[hH];rfl) I (λY W=>Y=Bl.one ub/\ub<W/\p0∈kids.flatMap (T.pages h)) ?_ ?_ ?_ ?_ (λh=>h.elim) (Bl.one ub) ⟨by simpa[vY] using hU5,rfl,σ⟩ ?_ ?_ ?_ ?_
 .rintro pre Y W W' ⟨h1,rfl,h2⟩ ho
  exact⟨h1.on ho rfl,rfl,h2⟩
 .rintro Y W W' ⟨rfl,h1,h2⟩ ho
  exact⟨rfl,jY h1 ho.size,h2⟩
 .rintro pre Y W ⟨h1,rfl,_⟩ k hk
  cases hk;exact h1.lt
 .rintro Y W ⟨rfl,h1,_⟩ k hk
  simp only[Bl.one]at hk;omega
 .rintro k (rfl|rfl|hk)
  .exact⟨φ,ω⟩
  .exact⟨φ,ω⟩
  .exact⟨λh=>by simp only[Bl.one]at h;have:=hk.1;omega,by have:=hk.2;omega⟩
 .rintro l pre x rest args S Y' W hx ⟨hUp,rfl,hnp⟩ hH hS' hFW hGW hl0 hl1 hl2 ⟨r,hr⟩
  have hjl:pre.length<kids:=by rw[<-HLp.o,hx];simp
  have hxe:x=(((kids[pre.length]).place:Int),⟨kQ s g.keys pre,rO s g.keys pre⟩):=by
   have h1:(parts s g.keys g.kids)[pre.length]?=some x:=by rw[hx];simp
   rw[fF s g.keys g.kids pre (by rw[HKD.o,AF];exact hjl)]at h1;simp only[HKD.o,EF]at h1;grind
  have ihk:=HI.o pre hjl;obtain⟨kid,hkid⟩:=nM (kids[pre.length]);rw[hkid]at hxe ihk
  obtain⟨sp,hsp⟩:=nM ((⟨kQ s g.keys pre,rO s g.keys pre⟩:Sp));obtain⟨lo,hi⟩:=sp;obtain⟨e1,e2⟩:=Sp.mk.inj hsp;rw[e1,e2]at hxe ihk;clear hsp
  subst hxe;have hH':args=#[.i kid.place,.agg #[.t lo,.t hi]]:=hH;subst hH'
  have HM:Hid (marks (marks (u.set p true) ((kids.take pre).flatMap (T.pages h))) (T.pages h kid)=marks (u.set p true) ((kids.take (pre+1)).flatMap (T.pages h))):=by
   show _=_
   rw[<-gX,AJ hjl,BS,hkid];simp
  have hmm:p0∈(kids.take (pre+1)).flatMap (T.pages h)<->p0∈(kids.take pre).flatMap (T.pages h)\/p0∈T.pages h kid:=by
   rw[AJ hjl,BS,hkid,AN];simp
  have HNP:Hid _:=hmm
  have HKM:Hid (p0∈T.pages h kid->p0∈kids.flatMap (T.pages h)):=λk=>AV.2 ⟨kid,hkid▸AA hjl,k⟩
  have hnm:¬on (marks (u.set p true) ((kids.take pre).flatMap (T.pages h))) p0:=λhon=>by
   rcases rC.1 hon with h'|⟨h',_⟩
   .exact hn0 (by unfold on at h'⊢;rwa[ET hpp]at h')
   grind
  have tW:=hFW.heap t5 φ;have bW:=hFW.heap b5 φ;have hfW:aA W β sv lv fs':=hf5.on (hFW.on (λk hk=>⟨hf5.lies k hk,λh=>by cases h;exact hU5.apart hf5 hk⟩))
  obtain⟨um,hum⟩:=nM (marks (u.set p true) ((kids.take pre).flatMap (T.pages h)));rw[hum]at hUp hnm HM;replace ihk:=λW f u=>ihk _ W hum.symm f u hnm;clear hum hkid hx hmm e1 e2;unfold Qh;gi_wp2;refine⟨(AE _ W).alloc _,?_⟩;intro W₂ hT;have aW:Fr Bl.none W (W.alloc (.cells #[.t lo,.t hi] 154)):=(AE _ W).alloc _;have bX:=hT.heap (aW.heap bW (λh=>h)) ω;have fX:Fr (Bl.one l) W W₂:=(aW.m (λ_ h=>h.elim)).t hT.fr;have hUX:aY W₂ ub um:=hUp.fr fX φ;have hfX:aA W₂ β sv lv fs':=hfW.on (fX.on (λk hk=>⟨hfW.lies k hk,λh=>by simp only[Bl.one]at h;have:=hf5.lies k hk;omega⟩));have⟨d0,d1,d2⟩:=eM (hT.heap (aW.heap tW (λh=>h)) ω);have⟨e0,e1⟩:=cM (hT.heap (aB W (.cells #[.t lo,.t hi] 154)) ω);have c0:W₂.c (w+1+1) 0=some (.q ub 4096 4096):=by simp[World.cell?,bX]
  have hC:=ihk W₂ hfX hUX;clear ihk
  gi_wp2
  refine⟨trivial,rfl,?_⟩
  gi_at_call 114
  refine(EN l (BG.2 hC)).m ?_
  rintro e W₃ ⟨f3,⟨hk0,⟨v,rfl⟩,hU3⟩|⟨hk0,rfl⟩⟩
  .gi_wp2
   refine⟨Bl.one ub,⟨?_,rfl,?_⟩,f3,CS _ _⟩<;>rw[jK,AP]
   .rw[<-HM.o];exact hU3
   .exact λk=>(HNP.o.1 k).elim hnp hk0
  .exact⟨rfl,rfl,Bl.one ub,⟨rfl,jY hUX.lt f3.size,HKM.o hk0⟩,f3,CS _ _⟩
 .rintro _ D Y' W hD hYD ⟨hUp,rfl,hnp⟩ hFW hGW hDW
  rw[HLp.o,BN]at hUp hnp
  obtain⟨U1,hU1'⟩:∃U1,marks (u.set p true) (kids.flatMap (T.pages h))=U1:=⟨_,rfl⟩;rw[hU1']at hUp
  have HU1:Hid (U1.length=4096):=by show _=_;rw[<-hU1',fJ];simpa using HU.o
  have HUF:Hid (∀L,marks u (p::(kids.flatMap (T.pages h)++L))=marks U1 L):=λL=>by rw[<-hU1',<-gX];rfl
  have xW:=hFW.heap x5 φ;have⟨n0,n1,n2,n3,n4,n5,n6,n7⟩:=bU xW;have hm:Marks w [mk D] W:=(GC w W5).cons (λD' _ h=>hFW.heap h φ) ω hDW hD;have F0:Fr (Bl.one ub) w W:=((AB B1).t f2).t ((f5.m (λ_ h=>h.elim)).t hFW);have tW:=hFW.heap t5 φ;have bW:=hFW.heap b5 φ;have hfW:aA W β sv lv fs':=hf5.on (hFW.on (λk hk=>⟨hf5.lies k hk,λh=>by cases h;exact hU5.apart hf5 hk⟩));have zW:W5.1.size<=W:=hFW.size;have qW:aH W (New W2 W3) ea (g.ents.flatMap Ent.cells):=(q3.on o35).on (hFW.on (λk hk=>⟨by have:=hk.2;omega,λh=>by simp only[Bl.one]at h;have:=hk.1;omega⟩));clear q1 q2 q3 hU1';refine hK4 _ _ (Ao (n:=0) ?_)
  gi_wp2
  refine wpIn_loop (λa wr=>∃(j:Nat) (ds:List Deferred) (x12 x39 x40 x41 x42 x43 x44 x50:Value),j<=g.ents/\a={tmps:=#[.agg #[.p β 0,.i root,.s ca cn cc],.i p,.agg #[.t s.lo,.t s.hi],.q ub 4096 4096,.p w 0,undef,.p (w+1) 0,.p (w+1+1) 0,.p W3 0,undef,undef,undef,x12,undef,.q ub 4096 4096,.i p,.p ub p,.bool false,.q ub 4096 4096,.i p,.p ub p,.agg #[.p β 0,.i root,.s ca cn cc],.i p,.agg #[.t s.lo,.t s.hi],.agg #[.i g.kind,.i g.ver,.i g.root,.i g.next,.s ka g.keys kc,.s ia g.kids ic,.s ea g.ents ec,.t g.data],.agg #[.i g.kind,.i g.ver,.i g.root,.i g.next,.s ka g.keys kc,.s ia g.kids ic,.s ea g.ents ec,.t g.data],.agg #[.t s.lo,.t s.hi],.func (.func 167) #[] #[.p (W4+1) 0,.p W4.1.size 0],undef,undef,undef,undef,undef,undef,undef,.p W3 6,.s ea g.ents ec,.i g.ents.length,.i j,x39,x40,x41,x42,x43,x44,undef,undef,undef,undef,undef,x50],defers:=ds}/\aY wr ub (marks U1 ((es.take j).flatMap En.pages))/\p0 ∉ (es.take j).flatMap En.pages/\Fr (Bl.one ub) W wr/\Marks w ds wr) (λa _=>g.ents-(intOf (a.tmps.getD 38 undef)).toNat) ?_ ?_
  .exact⟨0,_,undef,undef,undef,undef,undef,undef,undef,undef,AG _,rfl,by simpa[vY] using hUp,σ,AE _ _,hm⟩
  .rintro a wr ⟨j,ds,x12,x39,x40,x41,x42,x43,x44,x50,hj,rfl,hUr,hnj,hFr,hMr⟩
   have tR:=hFr.heap tW φ;have bR:=hFr.heap bW φ;have hfR:aA wr β sv lv fs':=hfW.on (hFr.on (λk hk=>⟨hfW.lies k hk,λh=>by cases h;exact hUp.apart hfW hk⟩));have zR:W.1.size<=wr:=hFr.size;have qR:=qW.on (hFr.on (λk hk=>⟨by have:=hk.2;omega,λh=>by simp only[Bl.one]at h;have:=hk.1;omega⟩));by_cases hlt:j<g.ents
   .have hje:j<es:=by rw[<-HL.o];exact hlt
    obtain⟨E,hE⟩:=nM (g.ents[j]);obtain⟨X,hX⟩:=nM (es[j]);have hEX:E=X.e:=by rw[<-hE,<-hX];simp only[HE.o];simp
    have hXok:X.ok fs:=hok X (hX▸AA hje);obtain⟨eb,eo,hea,hebS,r0,r1,r2,r3⟩:=qR.ent hlt;rw[hE]at r0 r1 r2 r3;subst hea;obtain⟨d0,d1,d2⟩:=eM tR;have d3:wr.c (w+1+1) 0=some (.q ub 4096 4096):=by simp[World.cell?,bR]
    obtain⟨Wa,hWa,-,xa,-⟩:=al1 wr (.cells #[.t E.key,.t E.val,.i E.size,.i E.over] 69);obtain⟨g0,g1,g2,g3⟩:=kI xa;have fa:Fr Bl.none wr Wa:=hWa▸(AE _ wr).alloc _;have tA:=fa.heap tR (λh=>h);obtain⟨k0,k1,k2⟩:=eM tA;have hCc:=Iz root β ca cn cc E.key E.val E.size E.over Wa;have HEX:Hid (E=X.e):=hEX;have hmm:p0∈(es.take (j+1)).flatMap En.pages<->p0∈(es.take j).flatMap En.pages\/p0∈X.pages:=by
     rw[AJ hje,BS,hX,AN];simp
    have HNP:Hid _:=hmm;have HXM:Hid (p0∈X.pages->p0∈es.flatMap En.pages):=λk=>AV.2 ⟨X,hX▸AA hje,k⟩;have HM:Hid (∀L,marks (marks U1 ((es.take j).flatMap En.pages)) X.pages=L->marks U1 ((es.take (j+1)).flatMap En.pages)=L):=λL e=>by
     rw[AJ hje,BS,gX,hX,<-e];simp
    clear hEX hE hX hmm;gi_wp2_with (refine⟨trivial,rfl,?_⟩;gi_at_call 99;refine(BG.2 hCc).m ?_;clear hCc;rintro e Wb ⟨rfl,v1,v2,hbb⟩)
    have fb:Fr Bl.none wr Wb:=fa.t (AB hbb);have za:wr.1.size<Wa:=(gL xa);have hfB:aA Wb β sv lv fs':=hfR.on (fb.on (λk hk=>⟨hfR.lies k hk,λh=>h⟩));have hUB:=hUr.fr fb (λh=>h);have bB:=fb.heap bR (λh=>h);let Rc:Bl:=λk=>k=Wa\/k=Wa+1\/fpF β sv lv k;have zb:Wa.1.size+1<Wb:=(gL v2);have hRc:∀k,Rc k->¬Bl.one ub k/\k<Wb:=by
     have lu:=hUr.lt
     rintro k (rfl|rfl|hk)
     .exact⟨φ,ω⟩
     .exact⟨φ,ω⟩
     .exact⟨λh=>by cases h;exact hUB.apart hfB hk,hfB.lies k hk⟩
    have hMb:Marks w ds Wb:=hMr.on (λD' _ h=>fb.heap h (λh=>h))
    let Ic:List (Nat×Pg)->Bl->World->Prop:=λA C ac=>aY ac ub (marks (marks U1 ((es.take j).flatMap En.pages)) (A.map (·.1)))/\C=Bl.one ub
    have st:gM Ic:=by rintro pre Y W W' ⟨h1,rfl⟩ ho;exact⟨h1.on ho rfl,rfl⟩
    have li:tG Ic:=by rintro pre Y W ⟨h1,rfl⟩ k hk;cases hk;exact h1.lt
    have i0:Ic [] (Bl.one ub) Wb:=⟨by simpa[vY] using hUB,rfl⟩
    have pl:∀q∈X.pages,q<4096:=λq hq=>by obtain⟨gg,hgg,_⟩:=tB hXok q hq;exact jY hgg.1 (hS.len▸hf.small)
    obtain⟨cs,hcs,hit⟩:∃cs,(∀x∈cs,x∈X.ch)/\((p0∈X.pages/\Wz prog 137 #[.p (Wa+1) 0,.p Wa.1.size 0] Ec cs Rc (eS 10) True Wb)\/(p0 ∉ X.pages/\cs=X.ch/\nG prog 137 #[.p (Wa+1) 0,.p Wa.1.size 0] Ec cs Rc Wb)):=by
     by_cases hpx:p0∈X.pages
     .have⟨hlt',hbd⟩:=hb (pl _ hpx);obtain⟨size,over,hsz,hov,hle,hch⟩:=hXok
      obtain⟨h0,hch⟩:0<over/\eV fs over size X.ch:=by
       rcases hch with⟨_,h⟩|h
       .rw[En.pages,h]at hpx;simp at hpx
       .exact h
      rw[HEX.o,hsz,hov]at v2;obtain⟨xs0,g0,post0,hxs0,hno0⟩:=qLj hpx;rw[hxs0]at hch⊢
      exact⟨xs0,λx hx=>by simp[hx],.inl ⟨hpx,qHi (Wa+1) Wa β sv lv fs fs' p0 hS hlt' hbd root ca cn cc X.e.key X.e.val size over xs0 post0 g0 Rc Wb v2 v1 hfB (.inr (.inl rfl)) (.inl rfl) (λk hk=>.inr (.inr hk)) ω h0 hch hno0⟩⟩
     .obtain⟨size,over,hsz,hov,hle,hch⟩:=hS.ok hXok hpx
      rw[HEX.o,hsz,hov]at v2
      exact⟨X.ch,λx hx=>hx,.inr ⟨hpx,rfl,Iy (Wa+1) Wa β sv lv fs' root ca cn cc X.e.key X.e.val size over X.ch Rc Wb v2 v1 hfB hS.alive (.inr (.inl rfl)) (.inl rfl) (λk hk=>.inr (.inr hk)) ω hch⟩⟩
    rcases hit with⟨hpx,hit⟩|⟨hpx,hcx,hit⟩
    all_goals first
     |refine qDj (P:=prog) (Has:=Ec) (Rd:=Rc) rfl (enters_of func137 κ rfl) hit (λx args S W hH=>by obtain⟨v,rfl,_⟩:=hH;rfl) Ic st li (Bl.one ub) i0 hRc ?_ ?_
     |refine gF (P:=prog) (Has:=Ec) (Rd:=Rc) rfl (enters_of func137 κ rfl) hit (λx args S W hH=>by obtain⟨v,rfl,_⟩:=hH;rfl) Ic (λ_ _ _ _=>False) st (λ_ _ _ _ _ h=>h.elim) li (λ_ _ _ _ h=>h.elim) (Bl.one ub) i0 hRc ?_ ?_ (λ_ _ _ _ _ _ _ _ _ h=>h.elim)
    rotate_left
    .rintro D2 Y' Wd hD2 hYD2 ⟨_,rfl⟩ hFd hGd hDd
     have hMd:Marks w (mk D2::ds) Wd:=hMb.cons (λD' _ h=>hFd.heap h φ) ω hDd hD2
     refine fL (B:=w) (u:=.panicking (eS 10)) σ hMd (λw' ht'=>?_)
     exact⟨(F0.t (hFr.t ((fb.m (λ_ h=>h.elim)).t hFd))).took ht' (jU _),.inr ⟨LO.o.2 (.inr (.inr (HXM.o hpx))),rfl⟩⟩
    rotate_left
    .rintro D2 Y' Wd hD2 hYD2 ⟨hUd,rfl⟩ hFd hGd hDd
     have hMd:Marks w (mk D2::ds) Wd:=hMb.cons (λD' _ h=>hFd.heap h φ) ω hDd hD2
     have Fd:Fr (Bl.one ub) W Wd:=hFr.t ((fb.m (λ_ h=>h.elim)).t hFd);have hj1:((j+1:Nat):Int)=(j:Int)+1:=ω
     have HUd:Hid (aY Wd ub (marks U1 ((es.take (j+1)).flatMap En.pages))):=by show aY _ _ _;rw[HM.o _ rfl];rw[hcx]at hUd;exact hUd
     clear hUd;gi_wp2;refine⟨⟨j+1,_,_,_,_,_,_,_,_,_,ω,by rw[hj1];rfl,HUd.o,λk=>(HNP.o.1 k).elim hnj hpx,Fd,hMd⟩,?_⟩;simp[intOf];omega
    all_goals
     rintro l A L rest args S Y' Wc hx ⟨hUp2,rfl⟩ hH hS2 hFW2 hGW2 hl0 hl1 hl2 ⟨rr,hrr⟩;obtain⟨v,rfl,_⟩:=hH;obtain⟨q,gq⟩:=L;have hq:q<4096:=pl q (AY.2 ⟨_,hcs (q,gq) (by rw[hx];simp),rfl⟩);have hqi:(q:Int)<4096:=ω
     obtain⟨um,hum⟩:=nM (marks (marks U1 ((es.take j).flatMap En.pages)) (A.map (·.1)));have HM2:Hid (um.set q true=marks (marks U1 ((es.take j).flatMap En.pages)) ((A++[(q,gq)]).map (·.1))):=by
      show _=_;rw[BL,gX,hum];rfl
     rw[hum]at hUp2;have hlm:um.length=4096:=by rw[<-hum,fJ,fJ];exact HU1.o
     have bC:=hFW2.heap bB φ;clear hum;unfold iM;gi_wp2;refine⟨AE _ _,?_⟩;intro W₂ hT;have zc:Wb.1.size<=Wc:=hFW2.size;have bX:=hT.heap bC ω;have hUX:aY W₂ ub um:=hUp2.fr hT.fr φ;have c0:W₂.c (w+1+1) 0=some (.q ub 4096 4096):=by simp[World.cell?,bX]
     have c1:=hUX.cell hq hlm;have c2:=hUX.free;gi_wp2;refine⟨Bl.one ub,⟨?_,rfl⟩,(AE (Bl.one ub) W₂).s ub q,CS _ _⟩;rw[<-HM2.o];exact hUX.set q
   .obtain rfl:j=g.ents:=ω
    rw[HL.o,BN]at hUr hnj;have HF:Hid (p0 ∉ p::(kids.flatMap (T.pages h)++es.flatMap En.pages)/\aY wr ub (marks u (p::(kids.flatMap (T.pages h)++es.flatMap En.pages)))):=⟨λk=>(LO.o.1 k).elim (λe=>hpp e.symm) (λk=>k.elim hnp hnj),by rw[HUF.o];exact hUr⟩
    clear hUr;gi_wp2;refine qPq rfl hMr ?_;intro w' ht';exact⟨(F0.t hFr).took ht' (jU _),.inl ⟨HF.o.1,⟨_,rfl⟩,HF.o.2.took ht'⟩⟩
 .rintro D Y' W hD hYD ⟨rfl,_,hin⟩ hFW hGW hDW
  have hm:Marks w [mk D] W:=(GC w W5).cons (λD' _ h=>hFW.heap h φ) ω hDW hD
  have F0:Fr (Bl.one ub) w W:=((AB B1).t f2).t ((f5.m (λ_ h=>h.elim)).t hFW)
  refine fL (B:=w) (u:=.panicking (eS 10)) σ hm (λw' ht'=>?_)
  exact⟨F0.took ht' (jU _),.inr ⟨LO.o.2 (.inr (.inl hin)),rfl⟩⟩
theorem qKm(β:Nat)(sv lv:Value)(fs fs':Fs)(p0:Nat)(hS:Near fs fs' p0)(hb:p0<4096->p0<fs.safe/\qH (fs'.at p0))(root:Int)(ca:Option Addr)(cn cc ub:Nat):∀(h:Nat) (t:T) (s:Sp) (u:List Bool) (w:World),aZ fs h t s->Shut u h t->u.length=4096->aA w β sv lv fs'->aY w ub u->¬on u p0->
  cL 114 #[.agg #[.p β 0,.i root,.s ca cn cc],.i t.place,.agg #[.t s.lo,.t s.hi],.q ub 4096 4096] w (MkR p0 ub u (T.pages h t) w):=by
 intro h;induction h with
 |zero =>
  intro t s u w b k l j i n;cases t with
  |branch p ks kids=>exact b.elim
  |leaf p es =>
   have b0:=b;obtain⟨g,hg,hk3,hes,hne,hin,hok⟩:=b;have⟨sm1,_,sm3⟩:=gB hg
   by_cases hon:on u p
   .have m:=k (0,.leaf p es) (by simp[T.subs]) hon
    exact(Ma β root ca cn cc ub p s u w (jY hg.1 (hS.len▸j.small)) l i hon).m (λe w' h=>⟨h.2.2,.inl ⟨λe=>n (m _ e),h.1,by rw[zK m];exact h.2.1⟩⟩)
   .have hin':∀e∈g.ents,s.has e.key=true:=λe he=>ζ
    exact Lz β sv lv fs fs' p0 hS hb root ca cn cc ub 0 p [] es g s u w hg (uB hg hk3).2 hes hok (λW f h=>vU β sv lv fs' root ca cn cc p s g W f hS.alive h (by simp[hk3]) (by simp[hk3]) (by grind) (hin' _ (AA _)) (hin' _ (AA _)) sm1 sm3) l j i hon n (λj hj=>absurd hj σ)
 |succ h ih =>
  intro t s u w b k l j i n;cases t with
  |leaf p es=>exact b.elim
  |branch p ks kids =>
   have b0:=b;obtain⟨g,hg,hk2,hks,hkd,hlen,⟨h0,c1,c2⟩,hall⟩:=b;have⟨sm1,_,sm3⟩:=gB hg
   by_cases hon:on u p
   .have m:=k (h+1,.branch p ks kids) (by simp[T.subs]) hon
    exact(Ma β root ca cn cc ub p s u w (jY hg.1 (hS.len▸j.small)) l i hon).m (λe w' h=>⟨h.2.2,.inl ⟨λe=>n (m _ e),h.1,by rw[zK m];exact h.2.1⟩⟩)
   .have:=Lz β sv lv fs fs' p0 hS hb root ca cn cc ub h p kids [] g s u w hg hkd (qZ hg hk2) nofun (λW f a=>pX β sv lv fs' root ca cn cc p s g W f hS.alive a (by simp[hk2]) ζ (by grind) (by grind) sm1 sm3) l j i hon n (λq hq um W e f a o=>by
     have hp:=fF s ks kids q hq;have hst:=hall _ (BI hp);rw[hks]
     exact ih kids[q] ⟨kQ s ks q,rO s ks q⟩ um W hst (by rw[e];exact Shut.afters (fs:=fs) (λk hk=>by have⟨s',hs'⟩:=lL (s:=s) (ks:=ks) (DD hk);grind) hst (by simp[l];exact hS.len▸j.small) (k.down b0 (AA hq))) (by rw[e,fJ];grind) f a o)
    simp only[MQ,EY]at this;exact this
theorem Wv(β:Nat)(sv lv:Value)(fs fs':Fs)(p0:Nat)(hS:Near fs fs' p0)(hb:p0<4096->p0<fs.safe/\qH (fs'.at p0))(root:Nat)(ca:Option Addr)(cn cc ub:Nat)(o:Option (Nat×T))(u:List Bool)(w:World)(n:bO fs root o)(A:vE u o)(C:u.length=4096)(l:aA w β sv lv fs')(k:aY w ub u)(hn0:¬on u p0):
  cL 84 #[.agg #[.p β 0,.i root,.s ca cn cc],.q ub 4096 4096] w (MkR p0 ub u (bI o) w):=by
 obtain⟨c,i,b,E,-⟩:=al1 w (.cells #[.p β 0,.i root,.s ca cn cc] 90);have⟨G,H,I⟩:=eM E;have h:=k.on (vV b (Y:=Bl.one ub) (λK m=>by cases m;exact k.lt)) rfl;cases o with
 |none =>
  have p:root=0:=n;subst p;go_enter func84,ntmps84;go_wp2;go_end0;rw[<-i]at h b;exact⟨AB b,.inl ⟨nofun,⟨_,rfl⟩,h⟩⟩
 |some x =>
  have⟨r,D⟩:=x;have⟨p,z,B⟩:=n;have j:=qKm β sv lv fs fs' p0 hS hb root ca cn cc ub r D ⟨⟨#[]⟩,⟨#[]⟩⟩ u c B A C (l.bl b) h hn0;rw[z]at j;have J:((root:Int) != 0)=true:=χ
  go_enter func84,ntmps84;go_wp2_with (apply j.m;rintro e F ⟨q,⟨m,⟨v,rfl⟩,s⟩|⟨m,rfl⟩⟩)
  .go_end0;exact⟨(AB b).t q,.inl ⟨m,⟨_,rfl⟩,s⟩⟩
  .exact⟨rfl,(AB b).t q,.inr ⟨m,rfl⟩⟩
theorem Jn(β sv lv fs)(y:(fs.life==0)=false)(root d g f a o u w)(n:bO fs root o)(A:vE u o)(C:u.length=4096)(l:aA w β sv lv fs)(k:aY w a u):
  cL 84 #[.agg #[.p β 0,.i root,.s d g f],.q a 4096 4096] w λe w'=>(∃v,e=.r v)/\aY w' a (marks u (bI o))/\Fr (Bl.one a) w w':=by
 apply(Wv β sv lv fs fs 4096 ⟨rfl,y,λ_ _=>rfl⟩ (λh=>ω) root d g f a o u w n A C l k (λh=>by have:=(AD.1 h).1;omega)).m
 rintro e w' ⟨q,⟨_,h⟩|⟨h,_⟩⟩
 .grind
 .cases o with
  |none=>cases h
  |some x=>have:=Gn n.2.2 _ h;have:=l.small;omega
theorem Ww(β:Nat)(sv lv:Value)(fs fs':Fs)(p0:Nat)(hS:Spoilt fs fs' p0)(root:Nat)(ca:Option Addr)(cn cc ub:Nat)(o:Option (Nat×T))(u:List Bool)(w:World)(n:bO fs root o)(A:vE u o)(C:u.length=4096)(l:aA w β sv lv fs')(k:aY w ub u)(hin:p0∈bI o)(hn0:¬on u p0):
  cL 84 #[.agg #[.p β 0,.i root,.s ca cn cc],.q ub 4096 4096] w λe w'=>e=.panicked (eS 10)/\Fr (Bl.one ub) w w':=by
 apply(Wv β sv lv fs fs' p0 hS.toNear (λ_=>⟨hS.lt,hS.bad⟩) root ca cn cc ub o u w n A C l k hn0).m
 rintro e w' ⟨q,⟨h,_⟩|⟨_,h⟩⟩
 .grind
 grind
variable {X w:World} {i k n:Nat} {ks:List ByteArray} {v:Value}
structure MV where
 p:Nat
 ver:Nat
 root:Nat
 ka:Option Addr
 ia:Option Addr
 ea:Option Addr
 kc:Nat
 ic:Nat
 ec:Nat
abbrev MV.cells(m:MV):Array Value:=#[.int .i64 m.p,.bool true,.int .i64 1,.int .i64 m.ver,.int .i64 m.root,.int .i64 0,.slice m.ka 0 m.kc,.slice m.ia 0 m.ic,.slice m.ea 0 m.ec,.string ⟨#[]⟩]
abbrev MV.obj(m:MV):Obj:=.cells m.cells 136
theorem qFh(m a:MV)(w):
  cL 113 #[.agg m.cells,.agg a.cells] w λe w'=>e=.r (.bool (decide (m.ver<a.ver)))/\bW w w':=by
 obtain⟨b,c,d,g,f,-⟩:=al2 w m.obj a.obj; have⟨h,i,j,k,l,n,o,p,C,D⟩:=nL g;have⟨q,r,s,t,u,x,y,z,A,B⟩:=nL f;go_enter func113,ntmps113;go_wp2;refine BH (v:=.bool (decide (m.ver<a.ver))) ?_ rfl ⟨rfl,d⟩;simp[results,results113,go_sem]
theorem Cq(m:MV)(w):
  cL 159 #[.agg #[.i 1,.i m.ver,.i m.root,.i 0,.s m.ka 0 m.kc,.s m.ia 0 m.ic,.s m.ea 0 m.ec,.e]] w λe w'=>e=.r (.i ((m.ver % 2:Nat):Int))/\bW w w':=by
 obtain⟨a,b,c,d,-⟩:=al1 w (.cells #[.i 1,.i m.ver,.i m.root,.i 0,.s m.ka 0 m.kc,.s m.ia 0 m.ic,.s m.ea 0 m.ec,.e] 80);have⟨f,g,h,i,j,k,l,n⟩:=bU d;go_enter func159,ntmps159;go_wp2;refine BH (v:=.i ((m.ver:Int) % 2)) ?_ rfl ⟨σ,c⟩;simp[results,results159,go_sem]
theorem wM{P:Program}{f:Func}{p q:Tmp}{a:TypeId}(h:f.results=#[.cell p a,.cell q a])(b:Array Value)(w:World)(g e:Nat)(t:TypeId)(cs c:Array Value)(fr:Nat×Nat)(d:TypeDesc)(n:b.getD p undef=.p g 0)(r:b.getD q undef=.p e 0)(k:w.1[g]?=some (.cells cs t fr))(l:w.1[e]?=some (.cells c t fr))(j:P.underlying a=some d)(i:(match d with|.struct _|.array _ _=>true|_=>false)=true)(hi:(P.info? a).map (·.size)=some cs.size)(m:(P.info? a).map (·.size)=some c.size):
  (results f b).run P w=.ok (.tuple #[.agg cs,.agg c]) w:=by
 have o:=by simpa using n
 have s:=by simpa using r
 simp[results,h,o,s,asAddr,JZ w g t a cs fr d k j i hi,JZ w e t a c fr d l j i m]
theorem c10 {b k i c d e v3 f g j l m n x}(a:b≠k)(h:w.c k i=some x):(La w b c d e v3 f g j l m n).c k i=some x :=
 cO a (cO a (cO a (cO a (cO a (cO a (cO a (cO a (cO a (cO a h)))))))))
theorem Cb(w:World)(a):w.drew.cell? a=w.cell? a:=rfl
theorem JH(w:World):w.drew.heap=w.heap:=rfl
structure MG where
 p:Nat
 ok:Bool
 kd:Int
 ver:Nat
 root:Nat
 ka:Option Addr
 ia:Option Addr
 ea:Option Addr
 kc:Nat
 ic:Nat
 ec:Nat
abbrev MG.cells(m:MG):Array Value:=#[.int .i64 m.p,.bool m.ok,.int .i64 m.kd,.int .i64 m.ver,.int .i64 m.root,.int .i64 0,.slice m.ka 0 m.kc,.slice m.ia 0 m.ic,.slice m.ea 0 m.ec,.string ⟨#[]⟩]
abbrev MG.obj(m:MG):Obj:=.cells m.cells 136
abbrev MV.g(m:MV):MG:=⟨m.p,true,1,m.ver,m.root,m.ka,m.ia,m.ea,m.kc,m.ic,m.ec⟩
abbrev MG.put(m:MG)(w:World)(b:Nat):World:=La w b (.int .i64 m.p) (.bool m.ok) (.int .i64 m.kd) (.int .i64 m.ver) (.int .i64 m.root) (.int .i64 0) (.slice m.ka 0 m.kc) (.slice m.ia 0 m.ic) (.slice m.ea 0 m.ec) (.string ⟨#[]⟩)
variable {a:MG}
theorem MG.put_box (m:MG){b a c d e f g i j k l t}(h:cW w b #[a,c,d,e,f,g,i,j,k,l] t):(m.put w b).1[b]?=some (.cells m.cells t):=vR h _ _ _ _ _ _ _ _ _ _
theorem MG.put_fr(m:MG)(w b):Fr (Bl.one b) w (m.put w b):=yP w b _ _ _ _ _ _ _ _ _ _
abbrev M1(k:Nat)(a:MG)(X:World):Prop:=X.c k 0=some (.i a.p)/\X.c k 1=some (.bool a.ok)/\X.c k 2=some (.i a.kd)/\X.c k 3=some (.i a.ver)/\X.c k 4=some (.i a.root)/\X.c k 5=some (.i 0)/\X.c k 6=some (.s a.ka 0 a.kc)/\X.c k 7=some (.s a.ia 0 a.ic)/\X.c k 8=some (.s a.ea 0 a.ec)/\X.c k 9=some .e
theorem M1.st {v1 v2 v3 v4 v5 v6 v7 v8 v9 v0:Value}(h:M1 k a X)(g:n≠k):M1 k a (La X n v1 v2 v3 v4 v5 v6 v7 v8 v9 v0):=⟨c10 g h.1,c10 g h.2.1,c10 g h.2.2.1,c10 g h.2.2.2.1,c10 g h.2.2.2.2.1,c10 g h.2.2.2.2.2.1,c10 g h.2.2.2.2.2.2.1,c10 g h.2.2.2.2.2.2.2.1,c10 g h.2.2.2.2.2.2.2.2.1,c10 g h.2.2.2.2.2.2.2.2.2⟩
abbrev MM(k:Nat)(a b:MG)(X:World):Prop:=M1 k a X/\M1 (k+1) b X
theorem MM.st {a b:MG}{v1 v2 v3 v4 v5 v6 v7 v8 v9 v0:Value}(h:MM k a b X)(g:n<k):MM k a b (La X n v1 v2 v3 v4 v5 v6 v7 v8 v9 v0):=⟨h.1.st ω,h.2.st ω⟩
theorem MM.dw {a b:MG}(h:MM k a b X):MM k a b X.drew:=h
theorem MG.two (a b:MG)(L:bW w X)(M:X.1[w.1.size]?=some meta0)(N:X.1[w.1.size+1]?=some meta0):Hid ((b.put (a.put X w) (w+1)).drew.1[w.1.size]?=some a.obj)/\Hid ((b.put (a.put X w) (w+1)).drew.1[w.1.size+1]?=some b.obj)/\Hid (bW w (b.put (a.put X w) (w+1)).drew):=
 ⟨by rw[JH];exact(b.put_fr _ _).heap (a.put_box M) φ,by rw[JH];exact b.put_box ((a.put_fr _ _).heap N φ),KE ((L.t ((a.put_fr X w).below (η L.size) (λ_=>φ))).t ((b.put_fr _ _).below (by have:=L.size;have:=(a.put_fr X w).size;omega) (λ_=>φ)))⟩
theorem qM(β w)(Q R:MG->Prop)(lt)(af:∀X,bW w X->cL 112 #[.p β 0,.i 0] X λe w'=>∃m:MG,e=.r (.agg m.cells)/\Q m/\bW X w')(ag:∀X,bW w X->cL 112 #[.p β 0,.i 1] X λe w'=>∃m:MG,e=.r (.agg m.cells)/\R m/\bW X w')(J:∀a b:MG,Q a->R b->∀X,cL 113 #[.agg a.cells,.agg b.cells] X λe w'=>e=.r (.bool lt)/\bW X w'):
  cL 83 #[.p β 0] w λe w'=>∃m ab:MG,e=.r (.tuple #[.agg m.cells,.agg ab.cells])/\bW w w'/\((lt=true/\R m/\Q ab)\/(lt=false/\Q m/\R ab)):=by
 obtain⟨H,a1,P,a4,S,-⟩:=al2 w meta0 meta0; have ac:Hid (∀X,bW w X->cL 112 #[.p β 0,.i 0] X λe w'=>∃m:MG,e=.r (.agg m.cells)/\Q m/\bW X w'):=af;have ad:Hid (∀X,bW w X->cL 112 #[.p β 0,.i 1] X λe w'=>∃m:MG,e=.r (.agg m.cells)/\R m/\bW X w'):=ag;have ae:Hid (∀a b:MG,Q a->R b->∀X,cL 113 #[.agg a.cells,.agg b.cells] X λe w'=>e=.r (.bool lt)/\bW X w'):=J;clear af ag J;cases lt
 all_goals
  have Z:=ac.o H P;go_enter func83,ntmps83;go_wp2_with (first
   |((with_reducible refine Calls.m Z ?_);rintro e a8 ⟨a,rfl,a2,d⟩;have K:=P.tm d;have a0:=ad.o a8 K;have U:Hid _:=a2;clear a2)
   |(apply Calls.m a0;rintro e c ⟨b,rfl,a3,F⟩;have V:Hid _:=a3;clear a3;have J:=ae.o a b U.o V.o ((c.alloc a.obj).alloc b.obj))
   |((with_reducible refine Calls.m J ?_);rintro e X3 ⟨rfl,I⟩;have G:=K.tm F;have L:=(((G.alloc G.size a.obj).alloc (by have:=G.size;simp;omega) b.obj).t (I.m (by have:=G.size;simp;omega)));have T:=((((d.tm F).alloc (by have:=d.size;have:=F.size;omega) a.obj).alloc (by have:=d.size;have:=F.size;simp;omega) b.obj).t (I.m (by have:=d.size;have:=F.size;simp;omega)));have a9:=(I.block c χ).t (aP b.obj (aB c a.obj));have aa:=(by have W:=aB (c.alloc a.obj) b.obj;have Y:(c.alloc a.obj).1.size=c+1:=σ;rw[Y]at W;exact(I.block _ σ).t W);have M:=T.kp a4;have N:=T.kp S;have f:MM c a b X3:=⟨nL a9,nL aa⟩;obtain⟨⟨_,_,_,_,_,_,_,_,_,_⟩,_,_,_,_,_,_,_,_,_,_⟩:=id f;obtain⟨ay,az,b0,b1,b2,b3,b4,b5,b6,b7⟩:=nL M;obtain⟨al,am,an,ao,ap,aq,ar,au,av,aw⟩:=nL N;have b8:=aF M;have ax:=aF N;have aj:=G.size;have ak:w.1.size+1<c:=(by have Y:=(gL S);have ah:=d.size;have ai:=F.size;omega)))
  clear Z a0 J a1
 .obtain⟨E,D,C⟩:=MG.two a b L M N;go_region_held3 (MM c a b) ((with_reducible first|exact f.dw|exact(f.st ω).dw|exact((f.st ω).st ω).dw|exact f|exact f.st ω|exact(f.st ω).st ω)) (fail);all_goals go_wp2
  all_goals
   refine BH (v:=.tuple #[.agg a.cells,.agg b.cells]) ?_ rfl ⟨a,b,rfl,C.o,.inr ⟨σ,U.o,V.o⟩⟩;exact wM (p:=2) (q:=3) rfl _ _ w (w+1) _ _ _ _ _ rfl rfl E.o D.o underlying136 rfl κ κ
 .obtain⟨E,D,C⟩:=MG.two b a L M N;go_region_held3 (MM c a b) ((with_reducible first|exact f.dw|exact(f.st ω).dw|exact((f.st ω).st ω).dw|exact f|exact f.st ω|exact(f.st ω).st ω)) (fail);all_goals go_wp2
  all_goals
   refine BH (v:=.tuple #[.agg b.cells,.agg a.cells]) ?_ rfl ⟨b,a,rfl,C.o,.inl ⟨σ,V.o,U.o⟩⟩;exact wM (p:=2) (q:=3) rfl _ _ w (w+1) _ _ _ _ _ rfl rfl E.o D.o underlying136 rfl κ κ
theorem zJ {β:Nat}{sv lv:Value}{fs:Fs}(h:(fs.life==0)=false)(a:aA w β sv lv fs){p v r:Nat}(j:p<fs.safe)(i:bT fs p v r)(X)(d:bW w X):
  cL 112 #[.p β 0,.i (p:Nat)] X λe w'=>∃m:MG,e=.r (.agg m.cells)/\(∃q:MV,m=q.g/\q.p=p/\q.ver=v/\q.root=r)/\bW X w' :=
 (Hf β sv lv fs h p v r X (a.bl d) j i).m λe w' ⟨n,k,b,o,l,c,g,f⟩=>⟨(⟨p,v,r,n,k,b,o,l,c⟩:MV).g,g,⟨_,rfl,rfl,rfl,rfl⟩,f⟩
theorem iJ(β sv lv fs)(v:(fs.life==0)=false)(d s f t w)(u:aA w β sv lv fs)(A:1<fs.safe.length)(y:bT fs 0 d s)(z:bT fs 1 f t):
  cL 83 #[.p β 0] w λe w'=>∃m c:MV,e=.r (.tuple #[.agg m.cells,.agg c.cells])/\bW w w'/\((d<f/\m.p=1/\m.ver=f/\m.root=t/\c.p=0/\c.ver=d/\c.root=s)\/(¬d<f/\m.p=0/\m.ver=d/\m.root=s/\c.p=1/\c.ver=f/\c.root=t)):=by
 refine(qM β w _ _ (decide (d<f)) (zJ (p:=0) v u ω y) (zJ (p:=1) v u A z) ?_).m ?_
 .rintro _ _ ⟨a,rfl,_,x,_⟩ ⟨b,rfl,_,g,_⟩ X;rw[<-x,<-g];exact qFh a b X
 .rintro e w' ⟨m,c,rfl,g,⟨o,⟨q,rfl,h,i,j⟩,⟨r,rfl,k,l,n⟩⟩|⟨o,⟨q,rfl,h,i,j⟩,⟨r,rfl,k,l,n⟩⟩⟩
  .exact⟨q,r,rfl,g,.inl ⟨of_decide_eq_true o,h,i,j,k,l,n⟩⟩
  .exact⟨q,r,rfl,g,.inr ⟨of_decide_eq_false o,h,i,j,k,l,n⟩⟩
theorem Kj(D m)(ver:Nat)(w)(h:aO w m D)(N:D.ver=ver)(L:(D.fs.life==0)=false)(T:1<D.fs.safe.length)(M:bT D.fs (ver % 2) ver D.root):
  cL 156 #[.p D.d 0] w λe w'=>e=.r (.tuple #[])/\bW w w':=by
 have l:=by
  have:=h.box;rw[dbO,dbC,N]at this;exact this
 have⟨q,r,c,d,f,g,i,j,c8,c9,c10,s,t,u,x⟩:=eJ l;have A:(((ver % 2:Nat)):Int)=(ver:Int) % 2:=σ;have C:Hid (∀X,bW w X->cL 112 #[.p D.β 0,.i ((ver % 2:Nat):Int)] X λe w'=>∃a:MV,e=.r (.agg #[.i a.p,.bool true,.i 1,.i a.ver,.i a.root,.i 0,.s a.ka 0 a.kc,.s a.ia 0 a.ic,.s a.ea 0 a.ec,.e])/\bW X w'):=λX k=>(Hf D.β D.sv D.lv D.fs L (ver % 2) ver D.root X (h.file.bl k) ω M).m λe w' ⟨Q,O,G,R,P,H,K,J⟩=>⟨⟨ver % 2,ver,D.root,Q,O,G,R,P,H⟩,K,J⟩;have B:Hid (∀X,bW w X->cL 112 #[.p D.β 0,.i ((ver:Int) % 2)] X λe w'=>∃a:MV,e=.r (.agg #[.i a.p,.bool true,.i 1,.i a.ver,.i a.root,.i 0,.s a.ka 0 a.kc,.s a.ia 0 a.ic,.s a.ea 0 a.ec,.e])/\bW X w'):=by
  have:=C.o;rw[A]at this;exact this
 have o:Hid (∀X,bW w X->cW X D.d #[.int .i32 m,.int .u32 0,.p D.β 0,.i 1,.i ver,.i D.root,.i 0,.s D.ka 0 D.kc,.s D.ia 0 D.ic,.s D.ea 0 D.ec,.e,.i D.aroot,.bool D.failed,.i D.last,D.ov] 83):=λX k=>k.kp l;have y:=λX=>Cq ⟨0,ver,D.root,D.ka,D.ia,D.ea,D.kc,D.ic,D.ec⟩ X;rw[A]at y;have E:Hid _:=y;have S:∀(a:MV) (W:World),(Instr.field 136 (.agg #[.i a.p,.bool true,.i 1,.i a.ver,.i a.root,.i 0,.s a.ka 0 a.kc,.s a.ia 0 a.ic,.s a.ea 0 a.ec,.e]) 1).run prog W=.ok (.bool true) W:=λa W=>by kernel_rfl
 go_enter func156,ntmps156;go_wp2;go_region_held3 (λX=>X.c D.d 2=some (.p D.β 0)/\X.c D.d 3=some (.i 1)/\X.c D.d 4=some (.i ver)/\X.c D.d 5=some (.i D.root)/\X.c D.d 6=some (.i 0)/\X.c D.d 7=some (.s D.ka 0 D.kc)/\X.c D.d 8=some (.s D.ia 0 D.ic)/\X.c D.d 9=some (.s D.ea 0 D.ec)/\X.c D.d 10=some .e)
  ((first|exact⟨c,d,f,g,i,j,c8,c9,c10⟩|(simp[c,d,f,g,i,j,c8,c9,c10])))
  (first
   |(apply Calls.m (E.o _);rintro e F ⟨rfl,I⟩;have b:=(AC _ w).drew.t I;obtain⟨q,r,c,d,f,g,i,j,c8,c9,c10,s,t,u,x⟩:=eJ (o.o F b))
   |((with_reducible refine Calls.m (B.o _ ?_) ?_);(first|exact b.drew|exact b);rintro e p ⟨a,rfl,z⟩;have n:bW w p:=(by first|exact b.tm z|exact b.drew.t (z.m b.size));have⟨q,r,c,d,f,g,i,j,c8,c9,c10,s,t,u,x⟩:=eJ (o.o p n)))
 all_goals go_wp2
 all_goals
  refine bodyPost_end (v:=.tuple #[]) ?_ rfl ⟨rfl,n⟩;simp[results,results156]
theorem iL(k w):
  cL 39 #[.t k] w λe w'=>e=.r (.bool (decide (1<=k.size/\k.size<=24)))/\w'=w:=by
 by_cases h1:1<=k.size
 .by_cases h2:k.size<=24
  .have a:(1:Int)<=(k.size:Int):=ω;have b:(k.size:Int)<=24:=ω;go_enter func39,ntmps39;go_wp2;refine BH (v:=.bool true) ?_ rfl ⟨by rw[CR ⟨h1,h2⟩],rfl⟩;simp[results,results39,go_sem,h1,h2]
  .have a:(1:Int)<=(k.size:Int):=ω;have b:¬(k.size:Int)<=24:=ω;go_enter func39,ntmps39;go_wp2;refine BH (v:=.bool false) ?_ rfl ⟨rfl,rfl⟩;simp[results,results39,go_sem,h1,h2]
 .have a:¬(1:Int)<=(k.size:Int):=ω;go_enter func39,ntmps39;go_wp2;refine BH (v:=.bool false) ?_ rfl ⟨rfl,rfl⟩;simp[results,results39,go_sem,h1]
theorem Zp(β c t x w)(d:w.1[t.b]?=some (txO β t))(f:cW w c #[.i x] 3):
  cL 128 #[.p t.b 0,.p c 0] w λe w'=>e=.r (.bool (t.num==x))/\bW w w':=by
 have a:w.c t.b 0=some (.i t.num):=by simp[World.cell?,d]
 have b:w.c c 0=some (.i x):=by simp[World.cell?,f]
 go_enter func128,ntmps128;go_wp2;go_region_held3 (λX=>X.c t.b 0=some (.i t.num)/\X.c c 0=some (.i x))
  (exact⟨a,b⟩)
  (fail)
 all_goals go_wp2
 all_goals go_ret
 all_goals exact⟨rfl,(AC _ w).drew⟩
def gO(ts:List Tx)(x:Int):Int:=match ts.findIdx? (λt=>t.num==x) with
 |some i=>i
 |none=>-1
theorem Ua{a:List Tx}{x j}(h:j<a.length)(d:(a[j].num==x)=true)(c:∀m (b:m<a.length),m<j->(a[m].num==x)=false):gO a x=j:=by
 have:a.findIdx? (λe=>e.num==x)=some j:=by
  rw[JB];exact⟨h,d,λm b=>by simpa using c m ω b⟩
 unfold gO;rw[this]
theorem qGj{a x}(d:∀m (b:m<a.length),(a[m].num==x)=false):gO a x = -1:=by
 have:a.findIdx? (λc=>c.num==x)=none:=by
  rw[NK];intro c e;obtain⟨m,b,rfl⟩:=AW e;exact d m b
 unfold gO;rw[this]
theorem Ke(β c oa oc ts x S w)(hR:aH w S oa (mH ts))(hS:lW S w)(hT:∀t∈ts,w.1[t.b]?=some (txO β t))(hc:cW w c #[.i x] 3)(hn:ts.length<=1000000)(hcc:ts.length<=oc):
  cL 127 #[.s oa ts oc,.func (.func 128) #[] #[.p c 0]] w λe w'=>e=.r (.i (gO ts x))/\bW w w':=by
 go_enter func127,ntmps127;go_wp2;go_loopw [8] (λa wr=>∃j:Nat,a=.i j/\j<=ts.length/\bW w wr/\Hid (∀m (A:m<ts.length),m<j->(ts[m].num==x)=false)) (λa _=>ts-(intOf a).toNat)
 case atStart=>exact⟨0,rfl,AG _,AC _ _,λm A h=>ω⟩
 case round =>
  obtain⟨j,rfl,N,y,G⟩:=hrel;by_cases hlt:j<ts
  .have C:(j:Int)<(ts.length:Int):=ω;have H:=hR.on (vV y hS);have B:mH ts≠[]:=by
    intro e;have:=BR List.length e;simp[mH]at this;subst this;simp at hlt
   rcases H with L|⟨g,o,rfl,M,n⟩
   .exact absurd L B
   have⟨t,E⟩:=nM (ts[j]);have O:wr.c g (o+j)=some (.p t.b 0):=n j _ (by simp[mH,hlt,E]);have F:=Zp β c t x wr (y.kp (hT t (E▸AA hlt))) (y.kp hc);have I:Hid _:=E;clear E n hR B;cases he:(t.num==x)
   .rw[he]at F;go_wp2_with (apply Calls.m F;rintro e K ⟨rfl,z⟩);refine⟨⟨j+1,σ,ω,y.tm z,λm A J=>?_⟩,θ⟩;by_cases hmj':m=j
    .subst hmj';rw[I.o];exact he
    .exact G m A ω
   .rw[he]at F;go_wp2_with (apply Calls.m F;rintro e K ⟨rfl,z⟩);refine BH (v:=.i j) ?_ rfl ⟨by rw[Ua hlt (I.o▸he) G],y.tm z⟩
    .simp[results,results127,go_sem]
  .obtain rfl:j=ts.length:=ω;have C:¬(ts.length:Int)<(ts.length:Int):=ω;go_wp2;refine BH (v:=.i (-1)) ?_ rfl ⟨by rw[qGj (λm A=>G.o m A A)],y⟩
   .simp[results,results127,go_sem]
theorem Bq(D s x w)(h:aO w s D)(l:D.ts.length<=1000000):
  cL 91 #[.p D.d 0,.i x] w λe w'=>e=.r (.i (gO D.ts x))/\bW w w':=by
 have⟨q,r,n,m,o⟩:=cA h.row;obtain⟨b,g,a,u,-⟩:=al1 w (.cells #[.i x] 3);have f:=h.bl a;have⟨v,y,C,E,F,G,H,I,L,M,K,z,A,B,i⟩:=eJ f.box;rw[n]at i;go_enter func91,ntmps91;go_wp2_with (apply Calls.m (Ke D.β w q r D.ts x (λd=>D.ov.ownBlock=some d) b (o.on (vV a (λd c=>aL h.row c))) (λd c=>jY (aL h.row c) a.size) (λt p=>(f.each t p).box) u l m);rintro e J ⟨rfl,k⟩);go_ret;exact⟨rfl,a.tm k⟩
theorem gR(D j x i t w)(h:aO w j D)(q:D.ts.length<=1000000)(hi:i<D.ts.length)(u:D.ts[i]=t)(v:gO D.ts x=i):
  cL 46 #[.p D.d 0,.i x] w λe w'=>e=.r (.tuple #[.p t.b 0,.i 0])/\bW w w':=by
 have⟨f,y,r,Q,s⟩:=cA h.row;have b:=Bq D j x w h q;rw[v]at b;have k:Hid (∀X,bW w X->X.c D.d 14=some (.s f D.ts y)/\∃g o,f=some (aD g o)/\X.c g (o+i)=some (.p t.b 0)):=by
  intro X c;have⟨A,B,G,H,I,J,K,L,V,U,T,C,E,F,a⟩:=eJ (h.bl c).box;rw[r]at a;refine⟨a,?_⟩;rcases s.on (vV c (λR p=>aL h.row p)) with l|⟨g,o,rfl,M,n⟩
  .have:=BR List.length l;simp[mH]at this;rw[this]at hi;simp at hi
  .exact⟨g,o,rfl,n i _ (by simp[mH,hi,u])⟩
 have P:(i:Int)<(D.ts.length:Int):=ω;have N:(0:Int)<=(i:Int):=ω;go_enter func46,ntmps46;go_wp2_with (apply Calls.m b;rintro e z ⟨rfl,d⟩;obtain⟨a,g,o,rfl,S⟩:=k z d);go_ret2;exact⟨rfl,d⟩
theorem pU(D b x w)(h:aO w b D)(d:D.ts.length<=1000000)(f:gO D.ts x = -1):
  cL 46 #[.p D.d 0,.i x] w λe w'=>e=.r (.tuple #[.pointer none,.i 3])/\bW w w':=by
 have a:=Bq D b x w h d;rw[f]at a;go_enter func46,ntmps46;go_wp2_with (apply Calls.m a;rintro e g ⟨rfl,c⟩);go_ret2;exact⟨rfl,c⟩
theorem oM(D d x i t w)(h:aO w d D)(k:D.ts.length<=1000000)(hi:i<D.ts.length)(c:D.ts[i]=t)(m:gO D.ts x=i)(l:t.wr=true):
  cL 38 #[.p D.d 0,.i x] w λe w'=>e=.r (.tuple #[.p t.b 0,.i 0])/\bW w w':=by
 have f:Hid (∀X,bW w X->X.c t.b 1=some (.bool true)):=by
  intro X j;have a:=((h.bl j).each t (c▸AA hi)).box;rw[txO,l]at a;simp[World.cell?,a]
 go_enter func38,ntmps38;go_wp2_with (apply Calls.m (gR D d x i t w h k hi c m);rintro e n ⟨rfl,b⟩;have o:=f n b);go_ret2;exact⟨rfl,b⟩
theorem Cj(D a x w)(h:aO w a D)(d:D.ts.length<=1000000)(f:gO D.ts x = -1):
  cL 38 #[.p D.d 0,.i x] w λe w'=>e=.r (.tuple #[.pointer none,.i 3])/\bW w w':=by
 go_enter func38,ntmps38;go_wp2_with (apply Calls.m (pU D a x w h d f);rintro e g ⟨rfl,c⟩);go_ret2;exact⟨rfl,c⟩
theorem xY(k):∀(l:List MapEntry) (ks:List ByteArray) (i:Nat),l.map (λe=>(e.key,e.val))=ks.map (λk=>(Value.string k,Value.agg #[])) ->
  (k ∉ ks/\Instr.findNow .string (.t k) l i=some none)\/(k∈ks/\∃j e,Instr.findNow .string (.t k) l i=some (some (i+j,.agg #[]))/\l[j]?=some e/\e.key=.string k/\e.val=.agg #[])
 |[],[],i,_=>.inl ⟨σ,rfl⟩
 |[],_ :: _,i,a=>by simp at a
 |_ :: _,[],i,a=>by simp at a
 |e :: l,y :: ks,i,a=>by
  simp only[BE,GJ,KL]at a;have⟨⟨b,f⟩,m⟩:=a;by_cases hy:k=y
  .subst hy;refine .inr ⟨σ,0,e,?_,rfl,b,f⟩;simp[Instr.findNow,b,f,Instr.sameNow,(MapKept.bytes_beq k k).2 rfl]
  .have g:Instr.sameNow .string (.string k) e.key=some false:=by
    rw[b];simp only[Instr.sameNow];congr 1;exact ME.2 (λa=>hy ((MapKept.bytes_beq k y).1 a))
   rcases xY k l ks (i+1) m with⟨c,d⟩|⟨c,j,h,d,n,o,p⟩
   .exact .inl ⟨by simp[hy,c],by simp[Instr.findNow,g,d]⟩
   .refine .inr ⟨by simp[c],j+1,h,?_,ζ,o,p⟩;simp only[Instr.findNow,g,d];grind
theorem yG:prog.underlying 92=some (.map 9 72):=underlying92
theorem qPn{k}:MapKept.IsKey .string (.string k):=by simp[MapKept.IsKey]
theorem Ag(W k b):(Instr.checkKey b 10000 9 (.t k)).run prog W=.ok () W:=MapKept.run_checkKey (d:=.string) underlying9 qPn b 9999
theorem Ey{W k l a}(h:Instr.findNow .string (.t k) l 0=some a):(Instr.findKey 9 (.t k) l).run prog W=.ok a W:=MapKept.run_findKey (d:=.string) underlying9 h
open Classical in
noncomputable def inB (ks:List ByteArray) (k:ByteArray):Bool:=decide (k∈ks)
theorem qCq {k}:inB ks k=true↔k∈ks:=by unfold inB;simp
theorem Pe {k}:inB ks k=false↔k ∉ ks:=by unfold inB;simp
theorem Tk.look (h:Tk w v ks)(k):(Instr.lookup 92 v (.t k) true).run prog w=.ok (.tuple #[.agg #[],.bool (inB ks k)]) w:=by
 rcases h with⟨rfl,rfl⟩|⟨r,d,g,rfl,c,e⟩
 .rw[Pe.2 σ];kernel_rfl
 .have f:(zeroValue 72).run prog w=.ok (.agg #[]) w:=κ;rcases xY k d.toList ks 0 e with⟨a,b⟩|⟨a,j,i,b,_⟩
  .rw[Pe.2 a];simp[Instr.lookup,DA yG,JL c,Ag,Ey b,f,Result.andThen]
  .rw[qCq.2 a];simp[Instr.lookup,DA yG,JL c,Ag,Ey b,Result.andThen]
theorem Tk.drew (h:Tk w v ks):Tk w.drew v ks:=h
theorem Tk.alloc (h:Tk w v ks)(c):Tk (w.alloc c) v ks:=h.on (Y:=λb=>b<w) ((CM _ w).alloc (λb a=>a) c) (λb a=>by have⟨f,e,d⟩:=h.block a;grind)
theorem Tk.lay {r}(h:Tk w (.map (some r)) ks)(k):∃w' s,(Instr.mapUpdate 92 (.map (some r)) (.t k) (.agg #[])).run prog w=.ok () w'/\Tk w' (.map (some r)) s/\Fr (Bl.one r) w w'/\∀c,c∈s↔c∈ks\/c=k:=by
 rcases h with⟨h,_⟩|⟨A,e,g,h,b,i⟩
 .cases h
 cases h;have p:∀m:Obj,Fr (Bl.one r) w {w with heap:=w.heap.setIfInBounds r m}:=λm=>⟨rfl,rfl,rfl,σ,λj z u=>(MY b (o':=m)).2 j (λa=>u a)⟩;rcases xY k e.toList ks 0 i with⟨n,f⟩|⟨n,l,a,f,t,q,x⟩
 .exact⟨{w with heap:=w.heap.setIfInBounds r (.map (e.push {key:=.t k,val:=.agg #[],born:=g}) (g+1))},ks++[k],by simp[Instr.mapUpdate,DA yG,JL b,Ag,Ey f,MapKept.run_setObj_map _ b,Result.andThen],.inr ⟨r,_,_,rfl,(MY b).1,by simp[i]⟩,p _,λc=>σ⟩
 .rw[EA]at f;have o:e[l]?=some a:=ζ
  refine⟨{w with heap:=w.heap.setIfInBounds r (.map (e.modify l λa=>{a with key:=.t k,val:=.agg #[]}) g)},ks,?_,.inr ⟨r,_,_,rfl,(MY b).1,?_⟩,p _,λc=>⟨.inl,λy=>y.elim id (λa=>a▸n)⟩⟩
  .have v:(Instr.keyThatStays (.t k) (.t k)).run prog w=.ok (.t k) w:=MapKept.run_keyThatStays (d:=.string) qPn;simp[Instr.mapUpdate,DA yG,JL b,Ag,Ey f,MapKept.run_setObj_map _ b,Result.andThen,o,q,v]
  .rw[<-i];apply CZ;grind
theorem wU(β t w)(h:eX w β t)(hn:t.cs.length<=1000000):
  cL 93 #[.p t.b 0] w λe w'=>∃b,e=.r (.bool b)/\(b=true↔∃c∈t.cs,c.key∈t.ks)/\bW w w':=by
 have⟨O,oc,A,Z,d⟩:=cA h.row
 have E:t.ca=O:=ζ
 subst E;have z:Hid (∀X,bW w X->X.c t.b 4=some (.s t.ca t.cs t.cc)/\X.c t.b 5=some t.tk/\Tk X t.tk t.ks):=by
  intro X M;have H:=M.kp h.box;rw[txO]at H;exact⟨by simp[World.cell?,H],by simp[World.cell?,H],h.tk.on (vV M (Y:=λk=>t.tk=.map (some k)) (λk g=>by have⟨es,cl,o⟩:=h.tk.block g;grind)) (λk g=>g)⟩
 have hS:∀k,t.cv.ownBlock=some k->k<w:=λk g=>aL h.row g;have⟨c4,L,_⟩:=z w (AC _ _);have⟨tv,J⟩:=nM (t.tk);rw[J]at z L;clear A h;go_enter func93,ntmps93;go_wp2;go_loopw [13] (λa wr=>∃j:Nat,a=.i j/\j<=t.cs.length/\bW w wr/\Hid (∀i (u:i<t.cs.length),i<j->(t.cs[i]).key ∉ t.ks)) (λa _=>t.cs-(intOf a).toNat)
 case atStart=>exact⟨0,rfl,AG _,AC _ _,λi _ h=>ω⟩
 case round =>
  obtain⟨j,rfl,hj,o,N⟩:=hrel;by_cases hlt:j<t.cs
  .have v:(j:Int)<(t.cs.length:Int):=ω;have⟨rb,ro,G,Q,K,T,U⟩:=(d.on (vV o hS)).ch hlt;have⟨c,l⟩:=nM (t.cs[j]);rw[l]at K T U;obtain⟨W1,C,-,D,-⟩:=al1 wr (.cells #[.t c.key,.t c.val,.bool c.gone] 101);have f:=C▸o.alloc o.size _;have⟨d4,d5,I⟩:=z W1 f;have W:W1.c wr 0=some (.t c.key):=by simp[World.cell?,D]
   rw[G];have q:Hid _:=l;clear d l c4 L;go_wp2;have S:(W1.alloc (.cells #[] 72)).c wr 0=some (.t c.key)/\(W1.alloc (.cells #[] 72)).c t.b 5=some tv:=by
    have:=aP (.cells #[] 72) D;refine⟨by simp[World.cell?,this],(z _ (f.alloc f.size _)).2.1⟩
   have⟨B,F⟩:=S;have x:=I.drew.look c.key;have y:=(I.drew.alloc (.cells #[] 72)).look c.key;have⟨bb,m⟩:=nM (inB t.ks c.key);rw[m]at x y;have n:Hid (inB t.ks c.key=bb):=m;clear m I;go_region_held3 (λX=>X.c t.b 5=some tv/\X.c wr 0=some (.t c.key)/\(Instr.lookup 92 tv (.t c.key) true).run prog X=.ok (.tuple #[.agg #[],.bool bb]) X)
    ((first|exact⟨by simpa using d5,by simpa using W,x⟩|exact⟨by simpa using F,by simpa using B,y⟩))
    (fail)
   all_goals
    cases bb with
    |false =>
     go_wp2;refine⟨⟨j+1,σ,ω,(f.alloc f.size _).drew,λi u R=>?_⟩,θ⟩;rcases BT i j with h|h
     .exact N i u h
     .obtain rfl:i=j:=ω;rw[q.o];exact Pe.1 n
    |true =>
     go_wp2;go_ret;exact⟨true,rfl,by simp only[true_iff];exact⟨c,q.o▸AA hlt,qCq.1 n⟩,(f.alloc f.size _).drew⟩
  .obtain rfl:j=t.cs.length:=ω;have v:¬(t.cs.length:Int)<(t.cs.length:Int):=ω;go_wp2;go_ret;exact .inl ⟨rfl,λc V g=>by
    obtain⟨i,u,rfl⟩:=AW V;exact N i u u g,o⟩
theorem Iv(β t w)(h:eX w β t)(j:t.cs.length<=1000000)(i:∀c∈t.cs,c.key ∉ t.ks):
  cL 93 #[.p t.b 0] w λe w'=>e=.r (.bool false)/\bW w w':=by
 apply(wU β t w h j).m;rintro e w' ⟨b,rfl,d,a⟩;cases b with
 |false=>exact⟨rfl,a⟩
 |true =>
  have⟨c,f,g⟩:=d.1 rfl;exact absurd g (i c f)
theorem qLu {xs:List Value}(z)(hi:i<xs):(wL (wL xs i (xs.drop (i+1))) (xs-1) [z]).take (xs-1)=xs.eraseIdx i:=by
 apply CZ;intro a;rw[DF,LE];by_cases ht:a<xs-1
 .rw[AU ht,oW _ _ _ (by rw[oV];simp;omega),AQ χ,oW _ _ _ χ];grind
 grind
theorem zG {B e g n c xs}(h:w.ownsRow B e 1 (.q g n c) n xs)(t)(s:t<n):(∃u,xs[t]?=some u/\w.c g t=some u)/\w.frozen? (aD g t)=false:=by
 have⟨m,d⟩:=id h;rcases d with⟨a,_⟩|⟨l,j,k,a,o,i,r,p,q,v⟩
 .simp at a
 .simp only[AR,BB,CD,DC,CV]at a;obtain⟨rfl,rfl⟩:=a;refine⟨?_,aF i t⟩;have b:t<xs:=ω;refine⟨xs[t],jQ b,?_⟩;have:=(DH (w:=w) h (g:=g) rfl) t _ (jQ b);rw[show((aD g 0):Addr).add t=(aD g t) by unfold Addr.add;split<;>simp_all]at this;exact this
theorem Vf(g n c i j:Nat)(B xs w)(h:w.ownsRow B 86 1 (.s (some (aD g 0)) n c) n xs)(T:∀u∈xs,u.oneCell'=true)(F:j=i+1)(hi:i<n)(a6:n<=1000000)(a7:n<=c)(a1:c<=9223372036854775807):
  cL 92 #[.s (some (aD g 0)) n c,.i i,.i j] w λe w'=>e=.r (.s (some (aD g 0)) (n-1) c)/\w'.ownsRow B 86 1 (.s (some (aD g 0)) (n-1) c) (n-1) (xs.eraseIdx i)/\Fr (Bl.one g) w w':=by
 have G:xs=n:=by have:=h.1;omega
 have⟨b,o⟩:∃b,b=xs.drop (i+1):=⟨_,rfl⟩;have s:b=n-j:=ζ
 have r:w.drew.ownsRow B 86 1 (.s (some (aD g 0)) n c) n xs:=h;have⟨q,Z,S⟩:∃q:Addr,(if c=j then some ((aD g 0):Addr) else some (aD g j))=some q/\Hid (∀a u,b[a]?=some u->w.drew.cell? (q.add a)=some u):=by
  by_cases hc:c=j
  .refine⟨(aD g 0),by simp[hc],λa u f=>?_⟩;grind
  .refine⟨(aD g j),by simp[hc],λa u f=>?_⟩;rw[o,DE]at f;have p:i+1+a<n:=ζ
   have⟨⟨H,k,l⟩,_⟩:=zG r (i+1+a) p;rw[f]at k;cases k;rw[show((aD g j):Addr).add a=(aD g (i+1+a)) by unfold Addr.add;split<;>simp_all];exact l
 have W:Hid (b.length=(n-j) * 1):=by rw[Nat.mul_one];exact s
 have X:Hid (∀u∈b,u.oneCell'=true):=λu f=>T u (BV (o▸f));have Y:Hid (∀a,a<b.length->(w.drew.c g (0+i * 1+a)).isSome=true/\w.drew.frozen? (aD g (0+i * 1+a))=false):=by
  intro a p;rw[s]at p;have⟨⟨H,k,l⟩,C⟩:=zG r (i+a) ω;grind
 have⟨d,x⟩:∃d,d=w.drew.setCells g (0+i * 1) b:=⟨_,rfl⟩;have y:d=w.drew.setCells g i b:=ζ
 have t:d.ownsRow B 86 1 (.s (some (aD g 0)) n c) n (wL xs i b):=by
  rw[y];exact gT b i r ω
 have A:Fr (Bl.one g) w d:=by rw[y];exact jH b i (AE _ w).drew
 have a0:∀z,(Builtin.clear_ #[81] z #[.s (some (aD g (i+(n-j)))) (n-(i+(n-j))) (c-(i+(n-j)))]).run prog d=.ok (.tuple #[]) (d.setCells g (i+(n-j)) (List.replicate (n-(i+(n-j))) (.pointer none))):=
  λz=>Lib.run_clear_slice d _ _ z _ underlying81 zeroValue86 rfl rfl g (i+(n-j)) _ _ ω (λa p=>by have⟨⟨H,k,l⟩,C⟩:=zG t (i+(n-j)+a) ω;exact DO.2 ⟨_,l⟩) (λa p=>(zG t (i+(n-j)+a) ω).2)
 have M:=t;have I:=A;have P:Hid _:=x;have L:Hid _:=o;have J:Hid _:=F;have K:Hid _:=G;have⟨V,Q,a9,U,N⟩:=FL qKy;have a5:i<j:=ω;have a3:j<=n:=ω;have a2:i<=c:=ω
 have a4:j<=c:=ω
 clear x y t A o s F r G h;go_enter func92,ntmps92;go_wp2_with fail;go_region_held3 (λ_=>True) (trivial)
  (first|(apply step_append_room rfl (.tmp 22) (.tmp 25) 81 rfl 86 V 1 underlying81 Q U g 0 i c ξ q (n-j) (c-j) b ξ W S X ω Y;rw[<-P.o]))
 all_goals go_wp2
 have k:i+(n-j)=n-1:=by have:=J.o;omega
 refine BH (v:=.s (some (aD g 0)) (i+(n-j)) c) ?_ rfl ⟨by rw[k],?_,jH _ _ I⟩
 .simp[results,results92,go_sem]
 .rw[k,show n-(n-1)=1 by omega];have R:=K.o;have O:=gT [.pointer none] (n-1) M (by rw[oV];simp;omega);have D:=qBw O (m:=n-1) ω;have E:=qLu (xs:=xs) (i:=i) (.pointer none) ω;rw[R,<-L.o]at E;grind
theorem Yf(a i):mH (a.eraseIdx i)=(mH a).eraseIdx i:=by
 unfold mH;apply CZ;intro b;rw[BM,LE,LE];split<;>rw[BM]
theorem aO.dropped{l e:World}{v:Int}{D:Db}{g c i:Nat}{t:Tx}(h:aO l v D)(x:D.ov=.q g D.ts c)(hi:i<D.ts)(z:D.ts[i]=t)(s:e.ownsRow 0 86 1 (.q g (D.ts-1) c) (D.ts-1) ((mH D.ts).eraseIdx i))(f:Fr (Bl.one g) l e):
  aO (e.setCell (aD D.d 14) (.q g (D.ts-1) c)) v {D with ov:=.q g (D.ts-1) c,ts:=D.ts.eraseIdx i}/\eX (e.setCell (aD D.d 14) (.q g (D.ts-1) c)) D.β t:=by
 have r:D.ov.ownBlock=some g:=by rw[x];rfl
 have u:∀{n:Bl},(∀b,n b->b<l/\D.ov.ownBlock≠some b/\b≠D.d)->On n l (e.setCell (aD D.d 14) (.q g (D.ts-1) c)):=λm=>(f.on (λb a=>⟨(m b a).1,λd=>by simp only[Bl.one]at d;grind⟩)).setCell (p:=(aD D.d 14)) (λa=>(m _ a).2.2 rfl) _;have o:=f.heap h.box (λd=>by exact h.noRow (by rw[d];exact r));have q:=λj k=>(h.each j k).on (u (λb a=>⟨(h.each j k).lies b a,h.txRow (h.each j k) b a,λd=>h.noTx k (d▸a)⟩));refine⟨⟨by have:=aC o 14 (.q g (D.ts-1) c);simpa using this,h.file.on (u (λb a=>⟨h.file.lies b a,h.fileRow b a,λd=>h.noFile (d▸a)⟩)),?_,?_,h.apart.sublist (DG _ _)⟩,q t (z▸AA hi)⟩
 .have y:e.ownsRow 0 86 1 (.q g (D.ts-1) c) (D.ts.eraseIdx i) (mH (D.ts.eraseIdx i)):=by
   rw[List.length_eraseIdx,AU hi,Yf];exact s
  exact aS y ((CM (λb=>(Value.q g (D.ts-1) c).ownBlock=some b) e).setCell (p:=(aD D.d 14)) (λa=>(aQ s o δ) a) _) (λb a=>a)
 .intro j k;exact q j (List.mem_of_mem_eraseIdx k)
theorem Pm(D j x i t w)(h:aO w j D)(n:D.ts.length<=1000000)(hi:i<D.ts.length)(A:D.ts[i]=t)(B:gO D.ts x=i):
  cL 43 #[.p D.d 0,.i x] w λe w'=>e=.r (.tuple #[.p t.b 0,.i 0])/\∃g c,D.ov=.q g D.ts.length c/\aO w' j {D with ov:=.q g (D.ts-1) c,ts:=D.ts.eraseIdx i}/\eX w' D.β t/\Fr (λk=>k=D.d\/k=g) w w':=by
 obtain⟨g,c,l,ac,_⟩:=yY h.row ω;have s:D.ts<=c/\c<=9223372036854775807:=by
  obtain⟨_,G⟩:=h.row;rw[l]at G;rcases G with⟨o,_⟩|⟨ak,ag,ah,o,al,ac,ad,aa,am,ao⟩
  .simp at o
  .simp only[AR,BB,CD,DC,CV]at o;obtain⟨rfl,rfl⟩:=o;exact⟨ad,aa⟩
 have a8:=gR D j x i t w h n hi A B;have P:Hid (∀X,bW w X->cL 91 #[.p D.d 0,.i x] X λe w'=>e=.r (.i (i:Int))/\bW X w'):=by
  intro X b;have:=Bq D j x X (h.bl b) n;rw[B]at this;exact this
 have O:Hid (∀X,bW w X->cL 92 #[.q g D.ts c,.i (i:Int),.i ((i:Int)+1)] X λe w'=>e=.r (.q g (D.ts-1) c)/\w'.ownsRow 0 86 1 (.q g (D.ts-1) c) (D.ts-1) ((mH D.ts).eraseIdx i)/\Fr (Bl.one g) X w'):=by
  intro X b;have F:=(h.bl b).row;rw[l]at F;have:=Vf g D.ts c i (i+1) 0 (mH D.ts) X F (λu H=>by unfold mH at H;obtain⟨y,_,rfl⟩:=AY.1 H;rfl) rfl hi n s.1 s.2;simpa using this
 have Q:Hid (∀X,bW w X->aO X j D):=λX b=>h.bl b;have N:Hid (∀X,aO X j D->X.c D.d 14=some (.q g D.ts c)):=by
  intro X b;obtain⟨S,T,Y,Z,a0,a1,a2,a3,c8,c9,ar,U,V,W,m⟩:=eJ b.box;rw[l]at m;exact m
 have M:Hid (∀X a,aO X j D->Fr (Bl.one g) X a->(∃v,a.c D.d 14=some v)/\∀k,a.frozen? (aD D.d k)=false):=by
  intro X a b ab;have E:=ab.heap b.box (λe=>by exact b.noRow (by rw[e,l];rfl));obtain⟨S,T,Y,Z,a0,a1,a2,a3,c8,c9,ar,U,V,W,m⟩:=eJ E;exact⟨⟨_,m⟩,aF E⟩
 have an:(i:Int)+1<=9223372036854775807:=ω;have C:Hid _:=l;have R:Hid _:=A;clear l A B h s;go_enter func43,ntmps43;go_wp2_with (first
  |(apply Calls.m a8;rintro e af ⟨rfl,r⟩;have a7:=P.o af r)
  |(apply Calls.m a7;rintro e a ⟨rfl,a9⟩;have d:=r.tm a9;have q:=Q.o a d;have m:=N.o a q;have a6:=O.o a d)
  |(apply Calls.m a6;rintro e I ⟨rfl,ae,f⟩;obtain⟨⟨aq,ai⟩,aj⟩:=M.o a I q f))
 obtain⟨a4,a5⟩:=aO.dropped q C.o hi R.o ae f;have J:Fr (λk=>k=D.d\/k=g) w a:=⟨d.os,d.tape,d.output,d.size,λk z _=>d.block k z⟩;have K:Fr (λk=>k=D.d\/k=g) a I:=⟨f.os,f.tape,f.output,f.size,λk z n=>f.block k z (λe=>n (.inr e))⟩;have L:=(J.t K).setCell (p:=(aD D.d 14)) (.inl (.inl rfl)) (.q g (D.ts-1) c);go_ret2;exact⟨rfl,g,c,C.o,a4,a5,L⟩
theorem Qy(β sv lv fs)(m:(fs.life==0)=false)(root d g f a o u w)(n:bO fs root o)(p:vE u o)(q:u.length=4096)(l:aA w β sv lv fs)(j:aY w a u)(c b)(r:cW w c #[.p β 0,.i root,.s d g f] 90)(s:cW w b #[.q a 4096 4096] 139):
  cL 115 #[.p c 0,.p b 0] w λe w'=>e=.r (.i 0)/\aY w' a (marks u (bI o))/\Fr (Bl.one a) w w':=by
 have⟨t,x,y⟩:=eM r;have z:w.c b 0=some (.q a 4096 4096):=by simp[World.cell?,s]
 go_enter func115,ntmps115;go_wp2_with (apply Calls.m (Jn β sv lv fs m root d g f a o u w n p q l j);rintro e A ⟨⟨v,rfl⟩,k,i⟩);go_ret;simp_all
theorem Xn(β sv lv fs)(C:(fs.life==0)=false)(root d g f a o u w)(D:bO fs root o)(E:vE u o)(G:u.length=4096)(n:aA w β sv lv fs)(z:aY w a u)(L:a<w):
  cL 85 #[.agg #[.p β 0,.i root,.s d g f],.q a 4096 4096] w λe w'=>e=.r (.bool true)/\aY w' a (marks u (bI o))/\Fr (Bl.one a) w w':=by
 obtain⟨b,k,i,I,r,-⟩:=al2 w (.cells #[.p β 0,.i root,.s d g f] 90) (.cells #[.q a 4096 4096] 139); have K:=(gL r);obtain⟨c,h,-,m,-⟩:=al1 b (.cells #[.i 0] 48);have j:=h▸i.alloc i.size _;have x:=Jb 115 #[] #[.p w 0,.p (w+1) 0] (λ_ _=>rfl) b (λs w'=>s=0/\aY w' a (marks u (bI o))/\Fr (Bl.one a) c w') (by
  rw[h];exact (Qy β sv lv fs C root d g f a o u c D E G (n.bl j) (z.on (Y:=Bl.one a) (vV j (λ_=>φ)) rfl) w (w+1) (h▸aP _ I) (h▸aP _ r)).m λe w' ⟨B,H,q⟩=>⟨0,B,q.heap m φ,rfl,H,q⟩)
 go_enter func85,ntmps85;go_wp2_with (apply Calls.m x;rintro e O ⟨s,t,rfl,⟨rfl,A,y⟩,M⟩);go_ret;exact⟨rfl,A.on (Y:=Bl.one a) ((CM (Bl.one a) t).setCell (p:=(aD b 0)) (λl=>by simp only[Bl.one,aD]at l;omega) _) rfl,((AB j).t y).s b 0 (.inr i.size)⟩
theorem qKz:(prog.info? 4).map (λi=>(i.zero,i.size,i.bytes))=some (some (.bool false),1,1):=κ
theorem Yu(n):(madeCells (Value.bool false).cells (n * 1)).toList=(List.replicate n false).map Value.bool:=by
 apply GB
 .simp[madeCells]
 .intro c a b;simp[madeCells,Value.cells,Nat.mod_one]
theorem Mb(W):∃b,(Instr.makeSlice 139 (.i 4096) (.i 4096)).run prog W=.ok (.q W 4096 4096) b/\aY b W (List.replicate 4096 false)/\bW W b:=by
 have⟨j,d,g,h,i⟩:=FL qKz;have⟨b,f,c,a⟩:=KH (P:=prog) W 0 139 4 j (.bool false) 1 underlying139 d g h .i64 .i64 4096 ω (by rw[i];omega) (by unfold maxLen;omega) (AG _);rw[Yu]at c;exact⟨b,f,c,a.os,a.tape,a.output,a.size,λk e=>a.block k e σ⟩
