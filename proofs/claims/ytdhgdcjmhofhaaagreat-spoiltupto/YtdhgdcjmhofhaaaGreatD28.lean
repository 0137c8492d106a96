import Derived.Test.YtdhgdcjmhofhaaaGreatD6
import Derived.Test.YtdhgdcjmhofhaaaGreatD22
set_option linter.all false
set_option maxRecDepth 100000
set_option maxHeartbeats 8000000
namespace Go.Proofs.YtdhgdcjmhofhaaaGreat.Tree
open Go.RowKit Go.MuLone Pages Tryz
variable {a:Int} {b k β:Nat} {v:Value} {w w':World}
def Tk(w:World)(v:Value)(ks:List ByteArray):Prop:=(v=.map none/\ks=[])\/∃(r:Nat) (es:Array MapEntry) (cl:Nat),v=.map (some r)/\w.1[r]?=some (.map es cl)/\es.toList.map (λe=>(e.key,e.val))=ks.map (λk=>(Value.string k,Value.agg #[]))
theorem Tk.block {ks}(h:Tk w v ks)(a:v=.map (some k)):∃es b,w.1[k]?=some (.map es b):=by
 rcases h with⟨h,_⟩|⟨r,es,b,h,c,_⟩
 .rw[h]at a;cases a
 .rw[h]at a;cases a;exact⟨es,b,c⟩
theorem uI {B e z n xs}(h:w.ownsRow B e z v n xs){r es d}(c:w.1[r]?=some (.map es d)):v.ownBlock≠some r:=by
 intro a;have⟨_,f⟩:=h;rcases f with⟨b,_⟩|⟨g,j,k,b,_,i,_⟩
 .rw[b]at a;simp[Value.ownBlock]at a
 .rw[b]at a;simp only[Value.ownBlock,BB]at a;subst a;rw[i]at c;cases c
structure Tx where
 b:Nat
 num:Int
 wr:Bool
 root:Nat
 cs:List Ch
 ca:Option Addr
 cc:Nat
 tk:Value
 ks:List ByteArray
abbrev Tx.cv(t:Tx):Value:=.slice t.ca t.cs.length t.cc
variable {t:Tx}
abbrev txO(β:Nat)(t:Tx):Obj:=.cells #[.int .i64 t.num,.bool t.wr,.pointer (some (aD β 0)),.int .i64 t.root,t.cv,t.tk] 94
structure eX (w:World) (β:Nat) (t:Tx):Prop where
 box:w.1[t.b]?=some (txO β t)
 row:w.ownsRow 0 101 3 t.cv t.cs.length (t.cs.flatMap Ch.cells)
 tk:Tk w t.tk t.ks
def fpT(t:Tx):Bl:=λk=>k=t.b\/t.cv.ownBlock=some k\/t.tk=.map (some k)
theorem Tk.on {ks Y}(h:Tk w v ks)(f:On Y w w')(g:∀k,v=.map (some k)->Y k):Tk w' v ks:=by
 rcases h with h|⟨r,c,b,a,e,d⟩
 .exact .inl h
 .exact .inr ⟨r,c,b,a,f.heap e (g r a),d⟩
theorem eX.on (h:eX w β t)(b:On (fpT t) w w'):eX w' β t:=⟨b.heap h.box (.inl rfl),aS h.row b (λc a=>.inr (.inl a)),h.tk.on b (λc a=>.inr (.inr a))⟩
theorem eX.lies (h:eX w β t):∀k,fpT t k->k<w:=by
 rintro k (rfl|a|a)
 .exact(gL h.box)
 .exact aL h.row a
 .have⟨d,c,b⟩:=h.tk.block a;exact(gL b)
theorem eX.bl {w x:World}(h:eX w β t)(d:bW w x):eX x β t:=h.on (vV d h.lies)
structure Db where
 d:Nat
 β:Nat
 sv:Value
 lv:Value
 fs:Fs
 ver:Int
 root:Nat
 aroot:Nat
 ka:Option Addr
 ia:Option Addr
 ea:Option Addr
 kc:Nat
 ic:Nat
 ec:Nat
 failed:Bool
 last:Int
 ov:Value
 ts:List Tx
variable {D:Db}
abbrev dbC(st:Int)(D:Db):Array Value:=#[.int .i32 st,.int .u32 0,.pointer (some (aD D.β 0)),.int .i64 1,.int .i64 D.ver,.int .i64 D.root,.int .i64 0,.slice D.ka 0 D.kc,.slice D.ia 0 D.ic,.slice D.ea 0 D.ec,.string ⟨#[]⟩,.int .i64 D.aroot,.bool D.failed,.int .i64 D.last,D.ov]
abbrev dbO(st:Int)(D:Db):Obj:=.cells (dbC st D) 83
def mH(ts:List Tx):List Value:=ts.map λt=>.pointer (some (aD t.b 0))
def tF(a b:Tx):Prop:=∀k,fpT a k->¬fpT b k
structure aO (w:World) (st:Int) (D:Db):Prop where
 box:w.1[D.d]?=some (dbO st D)
 file:aA w D.β D.sv D.lv D.fs
 row:w.ownsRow 0 86 1 D.ov D.ts.length (mH D.ts)
 each:∀t∈D.ts,eX w D.β t
 apart:D.ts.Pairwise tF
def fpD(D:Db):Bl:=λk=>k=D.d\/fpF D.β D.sv D.lv k\/D.ov.ownBlock=some k\/∃t∈D.ts,fpT t k
theorem aO.on {e}(h:aO w e D)(b:On (fpD D) w w'):aO w' e D :=
 ⟨b.heap h.box (.inl rfl),h.file.on (b.m (λd a=>.inr (.inl a))),aS h.row b (λd a=>.inr (.inr (.inl a))),λf c=>(h.each f c).on (b.m (λd a=>.inr (.inr (.inr ⟨f,c,a⟩)))),h.apart⟩
theorem aO.lies {c:Int}(h:aO w c D):∀k,fpD D k->k<w:=by
 rintro k (rfl|a|a|⟨d,b,a⟩)
 .exact(gL h.box)
 .exact h.file.lies k a
 .exact aL h.row a
 .exact(h.each d b).lies k a
theorem aO.bl {w x:World}{c:Int}(h:aO w c D)(d:bW w x):aO x c D:=h.on (vV d h.lies)
theorem fS {sv lv fs}(h:aA w β sv lv fs){cs t}(a:w.1[k]?=some (.cells cs t))(c:t≠63)(d:t≠9)(e:t≠104):¬fpF β sv lv k:=by
 rintro(rfl|b|b)
 .rw[h.box]at a;simp at a;exact c a.2.symm
 .exact aQ h.safe a d b
 .exact aQ h.late a e b
theorem yI {x}(h:eX w β x){cs t}(a:w.1[k]?=some (.cells cs t))(c:t≠94)(d:t≠101):¬fpT x k:=by
 rintro(rfl|b|b)
 .rw[h.box]at a;simp at a;exact c a.2.symm
 .exact aQ h.row a d b
 .have⟨g,f,e⟩:=h.tk.block b;rw[e]at a;cases a
theorem qGu {sv lv fs}(h:aA w β sv lv fs){es c}(a:w.1[k]?=some (.map es c)):¬fpF β sv lv k:=by
 rintro(rfl|b|b)
 .rw[h.box]at a;cases a
 .exact uI h.safe a b
 .exact uI h.late a b
theorem aO.noFile (h:aO w a D):¬fpF D.β D.sv D.lv D.d:=fS h.file h.box δ δ δ
theorem aO.noTx {b}(h:aO w b D)(a:t∈D.ts):¬fpT t D.d:=yI (h.each t a) h.box δ δ
theorem aO.noRow (h:aO w a D):D.ov.ownBlock≠some D.d:=aQ h.row h.box δ
theorem aO.rebox {st st' D D'}(h:aO w st D)(f:Fr (Bl.one D.d) w w')(e1:D'.d=D.d)(e2:D'.β=D.β)(e3:D'.sv=D.sv)(e4:D'.lv=D.lv)(e5:D'.fs=D.fs)(e6:D'.ov=D.ov)(e7:D'.ts=D.ts)(hb:w'.1[D.d]?=some (dbO st' D')):aO w' st' D':=by
 have s:∀{Z:Bl},(∀k,Z k->k<w/\k≠D.d)->On Z w w':=λy=>f.on (λk q=>⟨(y k q).1,λe=>(y k q).2 e⟩);refine⟨e1▸hb,?_,?_,?_,e7▸h.apart⟩
 .rw[e2,e3,e4,e5];exact h.file.on (s (λk q=>⟨h.file.lies k q,λe=>h.noFile (e▸q)⟩))
 .rw[e6,e7];exact aS h.row (s (Z:=λk=>D.ov.ownBlock=some k) (λk q=>⟨aL h.row q,λe=>h.noRow (e▸q)⟩)) (λk q=>q)
 .rw[e7,e2];intro t u;exact(h.each t u).on (s (λk q=>⟨(h.each t u).lies k q,λe=>h.noTx u (e▸q)⟩))
theorem aO.lock {a st'}(h:aO w a D):aO (w.setCell (aD D.d 0) (.int .i32 st')) st' D :=
 h.rebox ((AE (Bl.one D.d) w).s D.d 0) rfl rfl rfl rfl rfl rfl rfl (by have:=aC h.box 0 (.int .i32 st');simpa using this)
theorem eJ {a b i j k l m n o p c d e f g t}(h:cW w β #[a,b,i,j,k,l,m,n,o,p,c,d,e,f,g] t):
  w.c β 0=some a/\w.c β 1=some b/\w.c β 2=some i/\w.c β 3=some j/\w.c β 4=some k/\w.c β 5=some l/\w.c β 6=some m/\w.c β 7=some n/\w.c β 8=some o/\w.c β 9=some p/\w.c β 10=some c/\w.c β 11=some d/\w.c β 12=some e/\w.c β 13=some f/\w.c β 14=some g:=by
 simp[World.cell?,h]
theorem tO(D w)(h:aO w 0 D):
  cL 18 #[.p D.d 0] w λe w'=>e=.r (.i D.ver)/\aO w' 0 D/\Fr Bl.none w w':=by
 have c:=h.lock (st':=1);have⟨j,q,v,x,y,z,A,B,X,W,V,r,s,t,u⟩:=eJ h.box;have⟨b,d⟩:=nM (w.setCell (aD D.d 0) (.int .i32 1));rw[d]at c;have⟨k,C,K,L,M,N,O,P,Q,R,E,G,H,I,J⟩:=eJ c.box;have g:=c.lock (st':=0);have F:Fr Bl.none w (b.setCell (aD D.d 0) (.int .i32 0)):=by
  have a:Fr (Bl.one D.d) w (b.setCell (aD D.d 0) (.int .i32 0)):=(d▸(AE (Bl.one D.d) w).s D.d 0:Fr (Bl.one D.d) w b).s D.d 0;refine⟨a.os,a.tape,a.output,a.size,λi n _=>?_⟩;by_cases e:i=D.d
  .subst e;rw[g.box,h.box]
  .exact a.block i n e
 go_enter_defers func18,ntmps18;go_wp2_with (go_at_call 34;apply(lock_free wO (aD D.d 0) _ j (aF h.box 0)).m;rintro e w' ⟨rfl,o⟩;rw[d]at o;subst w');apply JV (f:=35) (args:=#[.p D.d 0]) σ (by simp[go_sem]);apply(unlock_deferred wO (aD D.d 0) .returning _ k (aF c.box 0)).m;rintro e T U ⟨rfl,rfl,rfl⟩;exact⟨_,NF rfl _ _ _,rfl,g,F⟩
theorem lt_of_cell {b o:Nat}(h:w.c b o=some v):b<w:=by
 rcases BT b w with a|a
 .exact a
 .have:=Array.getElem?_eq_none a;simp[World.cell?,this]at h
theorem oQ(d β root w)(g:w.c d 2=some (.p β 0)):
  cL 36 #[.p d 0,.i root] w λe w'=>e=.r (.agg #[.p β 0,.i root,.n])/\bW w w':=by
 obtain⟨a,f,c,b,-⟩:=al1 w (.cells #[.pointer none,.i 0,.n] 90);have k:=lt_of_cell g;have l:a.cell? (aD d 2)=some (.p β 0):=by
  rw[CP (w:=w) (c.block d k)];exact g
 have m:a.c w 0=some (.pointer none):=by simp[World.cell?,b]
 have n:a.c w 1=some (.i 0):=by simp[World.cell?,b]
 have o:a.c w 2=some .n:=by simp[World.cell?,b]
 have q:=aF b;have j:=aC (aC (aC b 0 (.p β 0)) 1 (.i root)) 2 .n;have i:Hid (bW w (((a.setCell (aD w 0) (.p β 0)).setCell (aD w 1) (.i root)).setCell (aD w 2) .n)):=
  ((c.setCell (p:=(aD w 0)) (jU _) _).setCell (p:=(aD w 1)) (jU _) _).setCell (p:=(aD w 2)) (jU _) _
 have h:Hid ((((a.setCell (aD w 0) (.p β 0)).setCell (aD w 1) (.i root)).setCell (aD w 2) .n).1[w.1.size]?=some (.cells #[.p β 0,.i root,.n] 90)):=by
  show _=_;grind
 go_enter func36,ntmps36;go_wp2;refine BH (v:=.agg #[.p β 0,.i root,.n]) ?_ rfl ⟨rfl,i⟩;exact ER (p:=4) rfl _ _ w _ _ _ _ rfl h underlying90 rfl κ
theorem aO.fileRow {d}(h:aO w d D):∀k,fpF D.β D.sv D.lv k->D.ov.ownBlock≠some k:=by
 rintro k (rfl|c|c) a
 .exact aQ h.row h.file.box δ a
 .rcases dU h.row h.file.safe δ with b|b
  .grind
  grind
 .rcases dU h.row h.file.late δ with b|b
  .grind
  grind
theorem aO.txRow {f}(h:aO w f D)(d:eX w D.β t):∀k,fpT t k->D.ov.ownBlock≠some k:=by
 rintro k (rfl|c|c) a
 .exact aQ h.row d.box δ a
 .rcases dU h.row d.row δ with b|b
  .grind
  grind
 .have⟨i,g,e⟩:=d.tk.block c;exact uI h.row e a
theorem aO.pushed {i g:World}{r:Int}{v3:Value}(h:aO i r D)(k:eX i D.β t)(u:¬fpT t D.d)(v:∀x∈D.ts,tF x t)(j:fO 86 1 D.ov D.ts (mH D.ts) [.p t.b 0] 1 i v3 g):
  aO (g.setCell (aD D.d 14) v3) r {D with ov:=v3,ts:=D.ts++[t]}:=by
 have m:∀{n:Bl},(∀d,n d->d<i/\D.ov.ownBlock≠some d/\d≠D.d)->On n i (g.setCell (aD D.d 14) v3):=λl=>(j.fr.on (λd c=>⟨(l d c).1,(l d c).2.1⟩)).setCell (p:=(aD D.d 14)) (λc=>(l _ c).2.2 rfl) _;have o:=j.fr.heap h.box h.noRow;refine⟨by have:=aC o 14 v3;simp_all,h.file.on (m (λd c=>⟨h.file.lies d c,h.fileRow d c,λf=>h.noFile (f▸c)⟩)),?_,?_,CO.2 ⟨h.apart,σ,λa s b q=>ζ⟩⟩
 .have:g.ownsRow 0 86 1 v3 (D.ts++[t]) (mH (D.ts++[t])):=by
   rw[jK,AP,mH,BL];exact j.row
  exact aS this ((CM (λd=>v3.ownBlock=some d) g).setCell (p:=(aD D.d 14)) (λc=>(aQ j.row o δ) c) _) (λd c=>c)
 .intro x e;rcases AN.1 e with e|e
  .exact(h.each x e).on (m (λd c=>⟨(h.each x e).lies d c,h.txRow (h.each x e) d c,λf=>h.noTx e (f▸c)⟩))
  .rw[AL]at e;subst e;exact k.on (m (λd c=>⟨k.lies d c,h.txRow k d c,λf=>u (f▸c)⟩))
abbrev Lu(b:Nat)(num:Int)(wr:Bool)(root:Nat):Tx:=⟨b,num,wr,root,[],none,0,.map none,[]⟩
theorem qKd {c root}(h:w.1[b]?=some (txO β (Lu b a c root))):eX w β (Lu b a c root):=⟨h,AO _ _ _ _,.inl ⟨rfl,rfl⟩⟩
theorem Gz {c root}(h:fpT (Lu b a c root) k):k=b:=by
 rcases h with h|h|h
 .exact h
 .simp[Value.ownBlock]at h
 .cases h
theorem qHr {P}{c:Code}{K Q a}(h:c.wp P (Exit.then K (λ_ _ _=>False)) a w):c.wp P (Exit.then K Q) a w :=
 Code.wp_mono (λb a w h=>by cases b<;>first|exact h|exact h.elim) h
theorem qKy:(prog.info? 86).map (λi=>(i.zero,i.size,i.bytes))=some (some (.pointer none),1,8):=κ
theorem qHl(D M w)(h:aO w 0 D)(bb:D.ts.length<8)(b8:0<=D.last)(b9:D.last<1000000000):
  cL 12 #[.p D.d 0,.bool M] w λe w'=>e=.r (.tuple #[.i (D.last+1),.i 0]) /\
   ∃b a6,aO w' 0 {D with last:=D.last+1,ov:=a6,ts:=D.ts++[Lu b (D.last+1) M D.root]}/\Fr (fpD D) w w'/\w<=b/\∀k,a6.ownBlock=some k->D.ov.ownBlock=some k\/w<=k:=by
 have⟨d,β,sv,lv,fs,t,g,j,r,o,l,s,q,m,n,c,E,a⟩:=D;dsimp only at bb b8 b9⊢;have a0:=h.box;have⟨a2,ad,ai,aj,ak,al,am,an,c8,c9,ac,ae,af,ag,ah⟩:=eJ a0;have b5:=aF a0 0;have⟨C,Y⟩:=nM (w.setCell (aD d 0) (.int .i32 1));have J:=h.lock (st':=1);rw[Y]at J;have Q:=J.box;have⟨ao,ap,ax,ay,az,b0,b1,b2,b3,b4,aq,ar,au,av,aw⟩:=eJ Q;have dd:=aF Q;have⟨u,Z⟩:=nM (C.setCell (aD d 13) (.i (c+1)));have R:u.1[d]?=some (dbO 1 ⟨d,β,sv,lv,fs,t,g,j,r,o,l,s,q,m,n,c+1,E,a⟩):=by rw[<-Z];have:=aC Q 13 (.i (c+1));simp_all
 have X:aO u 1 ⟨d,β,sv,lv,fs,t,g,j,r,o,l,s,q,m,n,c+1,E,a⟩:=J.rebox (Z▸(AE (Bl.one d) C).s d 13) rfl rfl rfl rfl rfl rfl rfl R;have a1:Fr (fpD ⟨d,β,sv,lv,fs,t,g,j,r,o,l,s,q,m,n,c,E,a⟩) w u:=Z▸(Y▸(AE _ w).s d 0 (.inl (.inl rfl)):Fr _ w C).s d 13 (.inl (.inl rfl));have⟨bf,bg,bk,B,bl,dl,bm,bn,bo,bp,bh,bi,bj,dj,dk⟩:=eJ R;have df:IntKind.i64.wrap (c+1)=c+1:=by rw[CQ];omega
 have di:((a.length:Int)==8)=false:=χ
 have⟨y,z,a5⟩:=aG h.row;dsimp only at a5;subst a5;have N:Hid _:=X;have S:Hid (Fr (fpD ⟨d,β,sv,lv,fs,t,g,j,r,o,l,s,q,m,n,c,.s y a z,a⟩) w u):=a1;clear h J a0 Q X a1;go_enter_defers func12,ntmps12;go_wp2_with (go_at_call 34;apply(lock_free wO (aD d 0) _ a2 b5).m;rintro e w' ⟨rfl,bd⟩;rw[Y]at bd;subst w');clear a2 ad ai aj ak al am an c8 c9 ac ae af ag ah ao ap ax ay az b0 b1 b2 b3 b4 aq ar au av aw bf bg B bl bm bn bo bp bh bi bj;apply qHr;go_region_law (first
  |(go_simp;go_at_call 36;apply(oQ d β g _ (by simpa using bk)).m;rintro e i ⟨rfl,b6⟩;have G:Fr Bl.none u i:=(AE _ _).drew.t (AB b6);have W:=G.heap R (λh=>h);have⟨c4,c5,cb,cc,cd,ce,cf,cg,ch,ci,c6,c7,ca,dq,dr⟩:=eJ W;clear c4 c5 cb cc cd ce cf cg ch ci c6 c7 ca;have⟨v,K⟩:=nM (i.alloc (.cells #[.i (c+1),.bool M,.p β 0,.i g,.n,.map none] 94));have P:=K▸aP _ W;have⟨cj,ck,cp,cq,cr,cs,ct,cu,cv,cw,cl,cm,cn,co,ds⟩:=eJ P;clear cj ck cp cq cr cs ct cu cv cw cl cm cn co;have⟨cx,cy,d3,d4,d5,d6,d7,d8,d9,da,cz,d0,d1,d2,dt⟩:=eJ (aP (.cells #[.p i.1.size 0] 86) P);clear cx cy d3 d4 d5 d6 d7 d8 d9 da cz d0 d1 d2;have O:=N.on ((G.t (K▸(AE _ i).alloc _)).on (λk A=>⟨N.lies k A,λh=>h⟩)))
  |(apply kA v rfl (.tmp 30) (.tmp 45) 81 86 _ 1 8 rfl underlying81 qKy rfl δ (.s y a z) a (mH a) ξ O.row [.p i.1.size 0] ξ rfl υ ω ω;intro v3 L F;obtain⟨I,B,rfl⟩:=F.shape δ;have V:=F.fr.heap P (aQ O.row P δ);have⟨bq,br,bv,bw,bx,bz,c0,c1,c2,c3,bs,bt,bu,dm,dn⟩:=eJ V;have dp:=aF V;clear bq br bv bw bx bz c0 c1 c2 c3 bs bt bu))
 all_goals
  have a9:v.1[i.1.size]?=some (txO β (Lu i (c+1) M g)):=K▸aB i _;have a3:=qKd a9;have dg:=(gL W);have H:=O.pushed a3 (λh=>by have:=Gz h;dsimp only at this;omega) (λx be k A b7=>by have J:=N.lies k (.inr (.inr (.inr ⟨x,be,A⟩)));have X:=Gz b7;have de:=G.size;omega) F;have T:=H.lock (st':=0);have a7:=(eJ H.box).1;have db:=(eJ H.box).2.2.2.2.2.2.2.2.2.2.2.2.2.1;have a8:=aF H.box 0;have⟨U,a4⟩:=nM (L.setCell (aD d 14) (.q I (a+1) B));rw[a4]at a7 db a8 T;have aa:Fr (fpD ⟨d,β,sv,lv,fs,t,g,j,r,o,l,s,q,m,n,c,.s y a z,a⟩) w (U.setCell (aD d 0) (.int .i32 0)):=by
   rw[<-a4];refine(((S.t (G.m (λ_ h=>h.elim))).t ((K▸(AE _ i).alloc _:Fr (fpD ⟨d,β,sv,lv,fs,t,g,j,r,o,l,s,q,m,n,c,.s y a z,a⟩) i v))).t (F.fr.m (λk A=>.inl (.inr (.inr (.inl A)))))).s d 14 (.inl (.inl rfl)) |>.s d 0 (.inl (.inl rfl))
  have bc:=vJ S.size G.size;have ba:∀k,(Value.q I (a+1) B).ownBlock=some k->(Value.s y a z).ownBlock=some k\/w<=k:=λk A=>(F.lies k A).imp id (λh=>by have:i.1.size<=v:=K▸σ;omega);have ab:=T;clear T H a3 a9 O N S;go_wp2;apply JV (f:=35) (args:=#[.p d 0]) σ (by simp[go_sem]);apply(unlock_deferred wO (aD d 0) .returning _ (by simpa using a7) (by simpa using a8)).m;rintro e du dv ⟨rfl,rfl,rfl⟩;exact⟨_,results_tmp2 rfl _ _ _,rfl,i,_,ab,aa,bc,ba⟩
