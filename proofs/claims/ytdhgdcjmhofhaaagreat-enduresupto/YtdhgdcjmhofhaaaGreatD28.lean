import Derived.Test.YtdhgdcjmhofhaaaGreatD6
import Derived.Test.YtdhgdcjmhofhaaaGreatD22
set_option linter.all false
set_option maxRecDepth 100000
set_option maxHeartbeats 8000000
namespace Go.Proofs.YtdhgdcjmhofhaaaGreat.Tree
open Go.RowKit Go.MuLone Pages
variable {a:Int} {b k β:Nat} {v:Value} {w w':World}
def Tk(w:World)(v:Value)(ks:List ByteArray):Prop:=(v=.map none/\ks=[])\/∃(r:Nat) (es:Array MapEntry) (cl:Nat),v=.map (some r)/\w.heap[r]?=some (.map es cl)/\es.toList.map (λe=>(e.key,e.val))=ks.map (λk=>(Value.string k,Value.agg #[]))
def Tk.block {ks}(h:Tk w v ks)(a:v=.map (some k)):∃es b,w.heap[k]?=some (.map es b):=by
 rcases h with⟨h,_⟩|⟨r,es,b,h,c,_⟩
 .rw[h]at a;cases a
 .rw[h]at a;cases a;exact⟨es,b,c⟩
def sY {B e z n xs}(h:w.ownsRow B e z v n xs){r es d}(c:w.heap[r]?=some (.map es d)):v.ownBlock≠some r:=by
 intro a;have⟨_,f⟩:=h;rcases f with⟨b,_⟩|⟨g,j,k,b,_,i,_⟩
 .rw[b]at a;simp[Value.ownBlock]at a
 .rw[b]at a
  simp only[Value.ownBlock,BB]at a;subst a;rw[i]at c;cases c
structure Tx where
 b:Nat
 num:Int
 wr:Bool
 root:Nat
 cs:List Ch
 ca:Option Addr
 cc:Nat
 tk:Value
 ks:List ByteArray
abbrev Tx.cv(t:Tx):Value:=.slice t.ca t.cs.length t.cc
variable {t:Tx}
abbrev txO(β:Nat)(t:Tx):Obj:=.cells #[.int .i64 t.num,.bool t.wr,.pointer (some (aD β 0)),.int .i64 t.root,t.cv,t.tk] 94
structure eI (w:World) (β:Nat) (t:Tx):Prop where
 box:w.heap[t.b]?=some (txO β t)
 row:w.ownsRow 0 101 3 t.cv t.cs.length (t.cs.flatMap Ch.cells)
 tk:Tk w t.tk t.ks
def fpT(t:Tx):Bl:=λk=>k=t.b\/t.cv.ownBlock=some k\/t.tk=.map (some k)
def Tk.on {ks Y}(h:Tk w v ks)(f:On Y w w')(g:∀k,v=.map (some k)->Y k):Tk w' v ks:=by
 rcases h with h|⟨r,c,b,a,e,d⟩
 .exact .inl h
 .exact .inr ⟨r,c,b,a,f.heap e (g r a),d⟩
def eI.on (h:eI w β t)(b:On (fpT t) w w'):eI w' β t:=⟨b.heap h.box (.inl rfl),aS h.row b (λc a=>.inr (.inl a)),h.tk.on b (λc a=>.inr (.inr a))⟩
def eI.lies (h:eI w β t):∀k,fpT t k->k<w.heap.size:=by
 rintro k (rfl|a|a)
 .exact(gL h.box)
 .exact aK h.row a
 .have⟨d,c,b⟩:=h.tk.block a
  exact(gL b)
structure Db where
 d:Nat
 β:Nat
 sv:Value
 lv:Value
 fs:Fs
 ver:Int
 root:Nat
 aroot:Nat
 ka:Option Addr
 ia:Option Addr
 ea:Option Addr
 kc:Nat
 ic:Nat
 ec:Nat
 failed:Bool
 last:Int
 ov:Value
 ts:List Tx
variable {D:Db}
abbrev dbC(st:Int)(D:Db):Array Value:=#[.int .i32 st,.int .u32 0,.pointer (some (aD D.β 0)),.int .i64 1,.int .i64 D.ver,.int .i64 D.root,.int .i64 0,.slice D.ka 0 D.kc,.slice D.ia 0 D.ic,.slice D.ea 0 D.ec,.string ⟨#[]⟩,.int .i64 D.aroot,.bool D.failed,.int .i64 D.last,D.ov]
abbrev dbO(st:Int)(D:Db):Obj:=.cells (dbC st D) 83
def lR(ts:List Tx):List Value:=ts.map λt=>.pointer (some (aD t.b 0))
def rY(a b:Tx):Prop:=∀k,fpT a k->¬fpT b k
structure aO (w:World) (st:Int) (D:Db):Prop where
 box:w.heap[D.d]?=some (dbO st D)
 file:aF w D.β D.sv D.lv D.fs
 row:w.ownsRow 0 86 1 D.ov D.ts.length (lR D.ts)
 each:∀t∈D.ts,eI w D.β t
 apart:D.ts.Pairwise rY
def fpD(D:Db):Bl:=λk=>k=D.d\/fpF D.β D.sv D.lv k\/D.ov.ownBlock=some k\/∃t∈D.ts,fpT t k
def aO.on {e}(h:aO w e D)(b:On (fpD D) w w'):aO w' e D :=
 ⟨b.heap h.box (.inl rfl),h.file.on (b.m (λd a=>.inr (.inl a))),aS h.row b (λd a=>.inr (.inr (.inl a))),λf c=>(h.each f c).on (b.m (λd a=>.inr (.inr (.inr ⟨f,c,a⟩)))),h.apart⟩
def aO.lies {c}(h:aO w c D):∀k,fpD D k->k<w.heap.size:=by
 rintro k (rfl|a|a|⟨d,b,a⟩)
 .exact(gL h.box)
 .exact h.file.lies k a
 .exact aK h.row a
 .exact(h.each d b).lies k a
def fW {sv lv fs}(h:aF w β sv lv fs){cs t}(a:w.heap[k]?=some (.cells cs t))(c:t≠63)(d:t≠9)(e:t≠104):¬fpF β sv lv k:=by
 rintro(rfl|b|b)
 .rw[h.box]at a
  simp at a;exact c a.2.symm
 .exact aP h.safe a d b
 .exact aP h.late a e b
def wJ {x}(h:eI w β x){cs t}(a:w.heap[k]?=some (.cells cs t))(c:t≠94)(d:t≠101):¬fpT x k:=by
 rintro(rfl|b|b)
 .rw[h.box]at a
  simp at a;exact c a.2.symm
 .exact aP h.row a d b
 .have⟨g,f,e⟩:=h.tk.block b
  rw[e]at a;cases a
def qCs {sv lv fs}(h:aF w β sv lv fs){es c}(a:w.heap[k]?=some (.map es c)):¬fpF β sv lv k:=by
 rintro(rfl|b|b)
 .rw[h.box]at a;cases a
 .exact sY h.safe a b
 .exact sY h.late a b
def aO.noFile (h:aO w a D):¬fpF D.β D.sv D.lv D.d:=fW h.file h.box (by decide) (by decide) (by decide)
def aO.noTx {b}(h:aO w b D)(a:t∈D.ts):¬fpT t D.d:=wJ (h.each t a) h.box (by decide) (by decide)
def aO.noRow (h:aO w a D):D.ov.ownBlock≠some D.d:=aP h.row h.box (by decide)
def aO.rebox {st st' D D'}(h:aO w st D)(f:Fr (Bl.one D.d) w w')(e1:D'.d=D.d)(e2:D'.β=D.β)(e3:D'.sv=D.sv)(e4:D'.lv=D.lv)(e5:D'.fs=D.fs)(e6:D'.ov=D.ov)(e7:D'.ts=D.ts)(hb:w'.heap[D.d]?=some (dbO st' D')):aO w' st' D':=by
 have s:∀{Z:Bl},(∀k,Z k->k<w.heap.size/\k≠D.d)->On Z w w':=λy=>f.on (λk q=>⟨(y k q).1,λe=>(y k q).2 e⟩);refine⟨by rw[e1];exact hb,?_,?_,?_,by rw[e7];exact h.apart⟩
 .rw[e2,e3,e4,e5]
  exact h.file.on (s (λk q=>⟨h.file.lies k q,λe=>h.noFile (e▸q)⟩))
 .rw[e6,e7]
  exact aS h.row (s (Z:=λk=>D.ov.ownBlock=some k) (λk q=>⟨aK h.row q,λe=>h.noRow (e▸q)⟩)) (λk q=>q)
 .rw[e7,e2]
  intro t u;exact(h.each t u).on (s (λk q=>⟨(h.each t u).lies k q,λe=>h.noTx u (e▸q)⟩))
def aO.lock {a st'}(h:aO w a D):aO (w.setCell (aD D.d 0) (.int .i32 st')) st' D :=
 h.rebox ((AE (Bl.one D.d) w).s D.d 0) rfl rfl rfl rfl rfl rfl rfl (by have:=aB h.box 0 (.int .i32 st');simpa using this)
def eQ {a b i j k l m n o p c d e f g t}(h:cW w β #[a,b,i,j,k,l,m,n,o,p,c,d,e,f,g] t):
  w.c β 0=some a/\w.c β 1=some b/\w.c β 2=some i/\w.c β 3=some j/\w.c β 4=some k/\w.c β 5=some l/\w.c β 6=some m/\w.c β 7=some n/\w.c β 8=some o/\w.c β 9=some p/\w.c β 10=some c/\w.c β 11=some d/\w.c β 12=some e/\w.c β 13=some f/\w.c β 14=some g:=by
 simp[World.cell?,h]
def sH(D w)(h:aO w 0 D):
  cL 18 #[.p D.d 0] w λe w'=>e=.r (.i D.ver)/\aO w' 0 D/\Fr Bl.none w w':=by
 have c:=h.lock (st':=1);have⟨j,q,v,x,y,z,A,B,X,W,V,r,s,t,u⟩:=eQ h.box;have⟨b,d⟩:=nM (w.setCell (aD D.d 0) (.int .i32 1));rw[d]at c;have⟨k,C,K,L,M,N,O,P,Q,R,E,G,H,I,J⟩:=eQ c.box;have g:=c.lock (st':=0);have S:=(gL h.box);have F:Fr Bl.none w (b.setCell (aD D.d 0) (.int .i32 0)):=by
  have a:Fr (Bl.one D.d) w (b.setCell (aD D.d 0) (.int .i32 0)):=(d▸(AE (Bl.one D.d) w).s D.d 0:Fr (Bl.one D.d) w b).s D.d 0;refine⟨a.os,a.tape,a.output,a.size,λi n _=>?_⟩;by_cases e:i=D.d
  .subst e;rw[g.box,h.box]
  .exact a.block i n e
 go_enter_defers Tryz.func18,Tryz.ntmps18;go_wp2_with (go_at_call 34;apply(lock_free uX (aD D.d 0) _ j (aA h.box 0)).m;rintro e w' ⟨rfl,o⟩;rw[d]at o;subst w');apply JD (f:=35) (args:=#[.p D.d 0]) (by simp) (by simp[go_sem]);apply(unlock_deferred uX (aD D.d 0) .returning _ k (aA c.box 0)).m;rintro e T U ⟨rfl,rfl,rfl⟩;exact⟨_,MJ rfl _ _ _,rfl,g,F⟩
def lt_of_cell {b o}(h:w.c b o=some v):b<w.heap.size:=by
 rcases BR b w.heap.size with a|a
 .exact a
 .have:=Array.getElem?_eq_none a
  simp[World.cell?,this]at h
def oB(d β root w)(g:w.c d 2=some (.p β 0)):
  cL 36 #[.p d 0,.i root] w λe w'=>e=.r (.agg #[.p β 0,.i root,.n])/\bW w w':=by
 obtain⟨a,f,c,b,-⟩:=al1 w (.cells #[.pointer none,.i 0,.n] 90);have k:d<w.heap.size:=lt_of_cell g;have l:a.cell? (aD d 2)=some (.p β 0):=by
  rw[CK (w:=w) (c.block d k)];exact g
 have m:a.cell? (aD w.heap.size 0)=some (.pointer none):=by simp[World.cell?,b]
 have n:a.cell? (aD w.heap.size 1)=some (.i 0):=by simp[World.cell?,b]
 have o:a.cell? (aD w.heap.size 2)=some .n:=by simp[World.cell?,b]
 have q:=aA b;have j:=aB (aB (aB b 0 (.p β 0)) 1 (.i root)) 2 .n;have i:Hid (bW w (((a.setCell (aD w.heap.size 0) (.p β 0)).setCell (aD w.heap.size 1) (.i root)).setCell (aD w.heap.size 2) .n)):=
  ((c.setCell (p:=(aD w.heap.size 0)) (jU _) _).setCell (p:=(aD w.heap.size 1)) (jU _) _).setCell (p:=(aD w.heap.size 2)) (jU _) _
 have h:Hid ((((a.setCell (aD w.heap.size 0) (.p β 0)).setCell (aD w.heap.size 1) (.i root)).setCell (aD w.heap.size 2) .n).heap[w.heap.size]?=some (.cells #[.p β 0,.i root,.n] 90)):=by
  show _=_;grind
 go_enter Tryz.func36,Tryz.ntmps36;go_wp2;refine BI (v:=.agg #[.p β 0,.i root,.n]) ?_ rfl ⟨rfl,i⟩;exact EL (p:=4) rfl _ _ w.heap.size _ _ _ _ rfl h Tryz.underlying90 rfl (by kernel_rfl)
def aO.fileRow {d}(h:aO w d D):∀k,fpF D.β D.sv D.lv k->D.ov.ownBlock≠some k:=by
 rintro k (rfl|c|c) a
 .exact aP h.row h.file.box (by decide) a
 .rcases dS h.row h.file.safe (by decide) with b|b
  .grind
  grind
 .rcases dS h.row h.file.late (by decide) with b|b
  .grind
  grind
def aO.txRow {f}(h:aO w f D)(d:eI w D.β t):∀k,fpT t k->D.ov.ownBlock≠some k:=by
 rintro k (rfl|c|c) a
 .exact aP h.row d.box (by decide) a
 .rcases dS h.row d.row (by decide) with b|b
  .grind
  grind
 .have⟨i,g,e⟩:=d.tk.block c
  exact sY h.row e a
def aO.pushed {i g r v3}(h:aO i r D)(k:eI i D.β t)(u:¬fpT t D.d)(v:∀x∈D.ts,rY x t)(j:fF 86 1 D.ov D.ts.length (lR D.ts) [.p t.b 0] 1 i v3 g):
  aO (g.setCell (aD D.d 14) v3) r {D with ov:=v3,ts:=D.ts++[t]}:=by
 have m:∀{n:Bl},(∀d,n d->d<i.heap.size/\D.ov.ownBlock≠some d/\d≠D.d)->On n i (g.setCell (aD D.d 14) v3):=λl=>(j.fr.on (λd c=>⟨(l d c).1,(l d c).2.1⟩)).setCell (p:=(aD D.d 14)) (λc=>(l _ c).2.2 rfl) _;have o:=j.fr.heap h.box h.noRow;refine⟨by have:=aB o 14 v3;simp_all,h.file.on (m (λd c=>⟨h.file.lies d c,h.fileRow d c,λf=>h.noFile (f▸c)⟩)),?_,?_,CO.2 ⟨h.apart,by simp,λa s b q=>by grind⟩⟩
 .have:g.ownsRow 0 86 1 v3 (D.ts++[t]).length (lR (D.ts++[t])):=by
   rw[jK,AM,lR,BM];exact j.row
  exact aS this ((CN (λd=>v3.ownBlock=some d) g).setCell (p:=(aD D.d 14)) (λc=>(aP j.row o (by decide)) c) _) (λd c=>c)
 .intro x e
  rcases AO.1 e with e|e
  .exact(h.each x e).on (m (λd c=>⟨(h.each x e).lies d c,h.txRow (h.each x e) d c,λf=>h.noTx e (f▸c)⟩))
  .rw[AJ]at e
   subst e;exact k.on (m (λd c=>⟨k.lies d c,h.txRow k d c,λf=>u (f▸c)⟩))
abbrev Eo(b:Nat)(num:Int)(wr:Bool)(root:Nat):Tx:=⟨b,num,wr,root,[],none,0,.map none,[]⟩
def qFy {c root}(h:w.heap[b]?=some (txO β (Eo b a c root))):eI w β (Eo b a c root):=⟨h,AL _ _ _ _,.inl ⟨rfl,rfl⟩⟩
def Em {c root}(h:fpT (Eo b a c root) k):k=b:=by
 rcases h with h|h|h
 .exact h
 .simp[Value.ownBlock]at h
 .cases h
def qDm {P}{c:Code}{K Q a}(h:c.wp P (Exit.then K (λ_ _ _=>False)) a w):c.wp P (Exit.then K Q) a w :=
 Code.wp_mono (λb a w h=>by cases b<;>first|exact h|exact h.elim) h
def qGp:(Tryz.prog.info? 86).map (λi=>(i.zero,i.size,i.bytes))=some (some (.pointer none),1,8):=by kernel_rfl
def qDf(D M w)(h:aO w 0 D)(bb:D.ts.length<8)(b8:0<=D.last)(b9:D.last<1000000000):
  cL 12 #[.p D.d 0,.bool M] w λe w'=>e=.r (.tuple #[.i (D.last+1),.i 0]) /\
   ∃b a6,aO w' 0 {D with last:=D.last+1,ov:=a6,ts:=D.ts++[Eo b (D.last+1) M D.root]}/\Fr (fpD D) w w'/\w.heap.size<=b/\∀k,a6.ownBlock=some k->D.ov.ownBlock=some k\/w.heap.size<=k:=by
 have⟨d,β,sv,lv,fs,t,g,j,r,o,l,s,q,m,n,c,E,a⟩:=D;dsimp only at bb b8 b9⊢;have a0:w.heap[d]?=some (dbO 0 ⟨d,β,sv,lv,fs,t,g,j,r,o,l,s,q,m,n,c,E,a⟩):=h.box;have⟨a2,ad,ai,aj,ak,al,am,an,c8,c9,ac,ae,af,ag,ah⟩:=eQ a0;have b5:w.frozen? (aD d 0)=false:=aA a0 0;have⟨C,Y⟩:=nM (w.setCell (aD d 0) (.int .i32 1));have J:=h.lock (st':=1);rw[Y]at J;have Q:C.heap[d]?=some (dbO 1 ⟨d,β,sv,lv,fs,t,g,j,r,o,l,s,q,m,n,c,E,a⟩):=J.box;have⟨ao,ap,ax,ay,az,b0,b1,b2,b3,b4,aq,ar,au,av,aw⟩:=eQ Q;have dd:=aA Q;have⟨u,Z⟩:=nM (C.setCell (aD d 13) (.i (c+1)));have R:u.heap[d]?=some (dbO 1 ⟨d,β,sv,lv,fs,t,g,j,r,o,l,s,q,m,n,c+1,E,a⟩):=by rw[<-Z];have:=aB Q 13 (.i (c+1));simp_all
 have X:aO u 1 ⟨d,β,sv,lv,fs,t,g,j,r,o,l,s,q,m,n,c+1,E,a⟩:=J.rebox (Z▸(AE (Bl.one d) C).s d 13) rfl rfl rfl rfl rfl rfl rfl R;have a1:Fr (fpD ⟨d,β,sv,lv,fs,t,g,j,r,o,l,s,q,m,n,c,E,a⟩) w u:=Z▸(Y▸(AE _ w).s d 0 (.inl (.inl rfl)):Fr _ w C).s d 13 (.inl (.inl rfl));have⟨bf,bg,bk,B,bl,dl,bm,bn,bo,bp,bh,bi,bj,dj,dk⟩:=eQ R;have df:IntKind.i64.wrap (c+1)=c+1:=by rw[CS];omega
 have di:((a.length:Int)==8)=false:=by simp;omega
 have⟨y,z,a5⟩:=aG h.row;dsimp only at a5;subst a5;have N:Hid (aO u 1 ⟨d,β,sv,lv,fs,t,g,j,r,o,l,s,q,m,n,c+1,.s y a.length z,a⟩):=X;have S:Hid (Fr (fpD ⟨d,β,sv,lv,fs,t,g,j,r,o,l,s,q,m,n,c,.s y a.length z,a⟩) w u):=a1;have dc:d<u.heap.size:=(gL R);clear h J a0 Q X a1;go_enter_defers Tryz.func12,Tryz.ntmps12;go_wp2_with (go_at_call 34;apply(lock_free uX (aD d 0) _ a2 b5).m;rintro e w' ⟨rfl,bd⟩;rw[Y]at bd;subst w');clear a2 ad ai aj ak al am an c8 c9 ac ae af ag ah ao ap ax ay az b0 b1 b2 b3 b4 aq ar au av aw bf bg B bl bm bn bo bp bh bi bj;apply qDm;go_region_law (first
  |(go_simp;go_at_call 36;apply(oB d β g _ (by simpa using bk)).m;rintro e i ⟨rfl,b6⟩;have G:Fr Bl.none u i:=(AE _ _).drew.t (AB b6);have W:=G.heap R (λh=>h);have⟨c4,c5,cb,cc,cd,ce,cf,cg,ch,ci,c6,c7,ca,dq,dr⟩:=eQ W;clear c4 c5 cb cc cd ce cf cg ch ci c6 c7 ca;have⟨v,K⟩:=nM (i.alloc (.cells #[.i (c+1),.bool M,.p β 0,.i g,.n,.map none] 94));have P:v.heap[d]?=some (dbO 1 ⟨d,β,sv,lv,fs,t,g,j,r,o,l,s,q,m,n,c+1,.s y a.length z,a⟩):=K▸aQ _ W;have⟨cj,ck,cp,cq,cr,cs,ct,cu,cv,cw,cl,cm,cn,co,ds⟩:=eQ P;clear cj ck cp cq cr cs ct cu cv cw cl cm cn co;have⟨cx,cy,d3,d4,d5,d6,d7,d8,d9,da,cz,d0,d1,d2,dt⟩:=eQ (aQ (.cells #[.p i.heap.size 0] 86) P);clear cx cy d3 d4 d5 d6 d7 d8 d9 da cz d0 d1 d2;have O:aO v 1 ⟨d,β,sv,lv,fs,t,g,j,r,o,l,s,q,m,n,c+1,.s y a.length z,a⟩:=N.on ((G.t (K▸(AE _ i).alloc _)).on (λk A=>⟨N.lies k A,λh=>h⟩)))
  |(apply iZ v rfl (.tmp 30) (.tmp 45) 81 86 _ 1 8 rfl Tryz.underlying81 qGp rfl (by decide) (.s y a.length z) a.length (lR a) (by simp[Act.eval,Act.put]) O.row [.p i.heap.size 0] (by simp[Act.eval,Act.put]) rfl (by simp[Value.oneCell']) (by omega) (by omega);intro v3 L F;obtain⟨I,B,rfl⟩:=F.shape (by decide);have V:=F.fr.heap P (aP O.row P (by decide));have⟨bq,br,bv,bw,bx,bz,c0,c1,c2,c3,bs,bt,bu,dm,dn⟩:=eQ V;have dp:=aA V;clear bq br bv bw bx bz c0 c1 c2 c3 bs bt bu))
 all_goals
  have dh:d<L.heap.size:=(gL V);have a9:v.heap[i.heap.size]?=some (txO β (Eo i.heap.size (c+1) M g)):=K▸aC i _;have a3:eI v β (Eo i.heap.size (c+1) M g):=qFy a9;have dg:d<i.heap.size:=(gL W);have H:=O.pushed a3 (λh=>by have:=Em h;dsimp only at this;omega) (λx be k A b7=>by have J:=N.lies k (.inr (.inr (.inr ⟨x,be,A⟩)));have X:=Em b7;have de:=G.size;omega) F;have T:=H.lock (st':=0);have a7:(L.setCell (aD d 14) (.q I (a.length+1) B)).c d 0=some (.int .i32 1):=(eQ H.box).1;have db:(L.setCell (aD d 14) (.q I (a.length+1) B)).c d 13=some (.i (c+1)):=(eQ H.box).2.2.2.2.2.2.2.2.2.2.2.2.2.1;have a8:(L.setCell (aD d 14) (.q I (a.length+1) B)).frozen? (aD d 0)=false:=aA H.box 0;have⟨U,a4⟩:=nM (L.setCell (aD d 14) (.q I (a.length+1) B));rw[a4]at a7 db a8 T;have aa:Fr (fpD ⟨d,β,sv,lv,fs,t,g,j,r,o,l,s,q,m,n,c,.s y a.length z,a⟩) w (U.setCell (aD d 0) (.int .i32 0)):=by
   rw[<-a4];refine(((S.t (G.m (λ_ h=>h.elim))).t ((K▸(AE _ i).alloc _:Fr (fpD ⟨d,β,sv,lv,fs,t,g,j,r,o,l,s,q,m,n,c,.s y a.length z,a⟩) i v))).t (F.fr.m (λk A=>.inl (.inr (.inr (.inl A)))))).s d 14 (.inl (.inl rfl)) |>.s d 0 (.inl (.inl rfl))
  have bc:w.heap.size<=i.heap.size:=vJ S.size G.size;have ba:∀k,(Value.q I (a.length+1) B).ownBlock=some k->(Value.slice y a.length z).ownBlock=some k\/w.heap.size<=k:=λk A=>(F.lies k A).imp id (λh=>by have:i.heap.size<=v.heap.size:=K▸(by simp);omega);have ab:=T;clear T H a3 a9 O N S;go_wp2;apply JD (f:=35) (args:=#[.p d 0]) (by simp) (by simp[go_sem]);apply(unlock_deferred uX (aD d 0) .returning _ (by simpa using a7) (by simpa using a8)).m;rintro e du dv ⟨rfl,rfl,rfl⟩;exact⟨_,results_tmp2 rfl _ _ _,rfl,i.heap.size,_,ab,aa,bc,ba⟩
