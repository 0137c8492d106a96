import Derived.Test.YtdhgdcjmhofhaaaGreatD35
set_option linter.all false
set_option maxRecDepth 100000
set_option maxHeartbeats 8000000
namespace Go.Proofs.YtdhgdcjmhofhaaaGreat.Tree
open Go.RowKit Pages
variable {K:List ByteArray} {ao o:Option (Nat×T)} {b i k n v:Nat} {c d e f g j l m v3 x:Value} {fs:Fs} {w:World}
theorem Nj (S:lD K n fs v o ao)(i:1<fs.safe.length)(β sv lv)(k:(fs.life==0)=false)(w)(j:aH w β sv lv fs):
  cL 83 #[.p β 0] w λe w'=>∃m b:MV,e=.returned (.tuple #[.agg m.cells,.agg b.cells])/\bW w w'/\m.ver=v/\m.root=rootOf o/\b.root=rootOf ao:=by
 have f:=S.meta0;have⟨v',g,c⟩:=S.meta1;rcases Nat.mod_two_eq_zero_or_one v with a|a
 ·rw[a]at f
  have h:(v+1) % 2=1:=by omega
  rw[h]at g;apply(uA β sv lv fs k v (rootOf o) v' (rootOf ao) w j i f g).mono;rintro e w' ⟨m,b,rfl,d,a|a⟩
  ·omega
  ·exact⟨m,b,rfl,d,a.2.2.1,a.2.2.2.1,a.2.2.2.2.2.2⟩
 ·rw[a]at f
  have h:(v+1) % 2=0:=by omega
  rw[h]at g;apply(uA β sv lv fs k v' (rootOf ao) v (rootOf o) w j i g f).mono;rintro e w' ⟨m,b,rfl,d,a|a⟩
  ·exact⟨m,b,rfl,d,a.2.2.1,a.2.2.2.1,a.2.2.2.2.2.2⟩
  ·rcases c with c|⟨rfl,c⟩
   ·omega
   ·exact⟨m,b,rfl,d,a.2.2.1,a.2.2.2.1.trans c,a.2.2.2.2.2.2.trans c.symm⟩
abbrev db0(st:Int)(β:Nat):Array Value:=#[.int .i32 st,.int .u32 0,.pointer (some ⟨β,0,none⟩),.int .i64 0,.int .i64 0,.int .i64 0,.int .i64 0,.slice none 0 0,.slice none 0 0,.slice none 0 0,.string ⟨#[]⟩,.int .i64 0,.bool false,.int .i64 0,.slice none 0 0]
abbrev qCm(w:World)(b:Nat)(v3 v4 v5 v6 v7 v8 v9 v10 v11:Value):World:=((((((((w.setCell ⟨b,3,none⟩ v3).setCell ⟨b,4,none⟩ v4).setCell ⟨b,5,none⟩ v5).setCell ⟨b,6,none⟩ v6).setCell ⟨b,7,none⟩ v7).setCell ⟨b,8,none⟩ v8).setCell ⟨b,9,none⟩ v9).setCell ⟨b,10,none⟩ v10).setCell ⟨b,11,none⟩ v11
theorem qGs(w b v3 d e f g h i a c):Fr (Bl.one b) w (qCm w b v3 d e f g h i a c):=
 (((((((((AF (Bl.one b) w).setCell (p:=⟨b,3,none⟩) (.inl rfl) _).setCell (p:=⟨b,4,none⟩) (.inl rfl) _).setCell (p:=⟨b,5,none⟩) (.inl rfl) _).setCell (p:=⟨b,6,none⟩) (.inl rfl) _).setCell (p:=⟨b,7,none⟩) (.inl rfl) _).setCell (p:=⟨b,8,none⟩) (.inl rfl) _).setCell (p:=⟨b,9,none⟩) (.inl rfl) _).setCell (p:=⟨b,10,none⟩) (.inl rfl) _).setCell (p:=⟨b,11,none⟩) (.inl rfl) _
theorem qCl {k l p s u v x y z A q r m n o t}(h:w.heap[b]?=some (.cells #[k,l,p,s,u,v,x,y,z,A,q,r,m,n,o] t))(v3 d e f g i j a c):(qCm w b v3 d e f g i j a c).heap[b]?=some (.cells #[k,l,p,v3,d,e,f,g,i,j,a,c,m,n,o] t):=by
 have:=aC (aC (aC (aC (aC (aC (aC (aC (aC h 3 v3) 4 d) 5 e) 6 f) 7 g) 8 i) 9 j) 10 a) 11 c;simpa using this
abbrev qGt(w:World)(b:Nat)(v3 v4 v5 v6 v7 v8 v9 v10:Value):World:=(((((((w.setCell ⟨b,3,none⟩ v3).setCell ⟨b,4,none⟩ v4).setCell ⟨b,5,none⟩ v5).setCell ⟨b,6,none⟩ v6).setCell ⟨b,7,none⟩ v7).setCell ⟨b,8,none⟩ v8).setCell ⟨b,9,none⟩ v9).setCell ⟨b,10,none⟩ v10
theorem c8 (a:b≠k)(h:w.c k i=some x):(qGt w b v3 d e f g j l c).c k i=some x :=
 cD a (cD a (cD a (cD a (cD a (cD a (cD a (cD a h)))))))
theorem c8d (a:b≠k)(h:w.cell? ⟨k,i,none⟩=some x):(qGt w b v3 d e f g j l c).drew.cell? ⟨k,i,none⟩=some x:=by
 rw[tV];exact c8 a h
theorem c9 (a:b≠k)(h:w.c k i=some x):(qCm w b v3 e f g j l m c d).c k i=some x:=cD a (c8 a h)
theorem c9d (a:b≠k)(h:w.cell? ⟨k,i,none⟩=some x):(qCm w b v3 e f g j l m c d).drew.cell? ⟨k,i,none⟩=some x:=by
 rw[tV];exact c9 a h
theorem Mh (h:fs.late=[]):fs.synced=fs:=by
 cases fs
 simp only at h;subst h;rfl
theorem Vg (S:lD K n fs v o ao)(az:2<=n)(af:fs.well)(d β sv lv w)(a3:w.heap[d]?=some (.cells (db0 1 β) 83))(a4:aH w β sv lv fs):
  cL 33 #[.p d 0] w λe w'=>e=.returned (.i 0)/\∃D:Db,aO w' 1 D/\D.d=d/\D.β=β/\D.sv=sv/\D.fs=fs/\D.ver=v/\D.root=rootOf o/\D.aroot=rootOf ao/\D.failed=false/\D.last=0/\D.ov=.n/\D.ts=[]/\Fr (Bl.or (Bl.one d) (fpF β sv lv)) w w'/\aJ w (fpF β sv lv) (fpF β sv D.lv):=by
 have ce:1<fs.safe.length:=by rw[S.len];omega
 have a2:=GQ af;have cf:¬fpF β sv lv d:=iJ a4 a3 (by decide) (by decide) (by decide);obtain⟨L,M,Q,R,U,B,V,W,c8,c9,c10,A,N,O,P⟩:=fC a3;have ac:=Hg β sv lv fs w a4 af (λx b9=>by rw[S.late]at b9;simp at b9);rw[Mh S.late]at ac;clear L M R U B V W c8 c9 c10 A N O P;go_enter Tryz.func33,Tryz.ntmps33;go_wp2_with (first
  |(go_at_call 82;(with_reducible refine jC ac ?_);rintro e J ⟨rfl,h,i,a9,am⟩;have C:=a9.heap a3 cf;obtain⟨L,M,Q,R,U,B,V,W,c8,c9,c10,A,N,O,P⟩:=fC C;clear L M R U B V W c8 c9 c10 A N O P;have ab:=iL β sv h fs J i;rw[a2]at ab;have b0:=Nj S ce β sv h a2 J i)
  |(go_at_call 49;(with_reducible refine jC ab ?_);rintro e bk ⟨rfl,d2⟩;subst bk)
  |(go_at_call 83;(with_reducible refine jC b0 ?_);rintro e c ⟨a,g,rfl,ad,b6,b4,b5⟩;have bi:Hid _:=b6;have ap:Hid _:=b4;have aq:Hid _:=b5;clear b6 b4 b5))
 obtain⟨X3,E⟩:=nM ((c.alloc a.obj).alloc g.obj);rw[E];have aa:bW c X3:=E▸(bA _ _).alloc (by simp) _;have bb:X3.heap[c.heap.size]?=some a.obj:=E▸aI _ (aA c _);have a5:X3.heap[c.heap.size+1]?=some g.obj:=by rw[<-E];have:=aA (c.alloc a.obj) g.obj;simpa using this
 have d4:=(gL a5);have c2:=(gL C);have cz:=ad.size;have Z:=(aa.block d (by omega)).trans ((ad.block d c2).trans C);have G:bW J X3:=ad.trans (aa.mono cz);obtain⟨co,cp,k,l,m,p,q,r,s,t⟩:=nX bb;obtain⟨cq,cr,cs,ct,u,cu,cv,cw,cx,cy⟩:=nX a5;obtain⟨bl,bm,bs,bt,bu,bv,bw,bx,bz,c0,bn,bo,bp,bq,br⟩:=fC Z;have c1:=aB Z;clear b0 ab ac E;go_region_held3 (λX=>X.c c.heap.size 2=some (.i 1)/\X.c c.heap.size 3=some (.i a.ver)/\X.c c.heap.size 4=some (.i a.root)/\X.c c.heap.size 5=some (.i 0)/\X.c c.heap.size 6=some (.slice a.ka 0 a.kc)/\X.c c.heap.size 7=some (.slice a.ia 0 a.ic)/\X.c c.heap.size 8=some (.slice a.ea 0 a.ec)/\X.c c.heap.size 9=some (.string ⟨#[]⟩)/\X.c (c.heap.size+1) 4=some (.i g.root))
  ((first|(with_reducible exact⟨k,l,m,p,q,r,s,t,u⟩)|(with_reducible exact⟨c8 (by omega) k,c8 (by omega) l,c8 (by omega) m,c8 (by omega) p,c8 (by omega) q,c8 (by omega) r,c8 (by omega) s,c8 (by omega) t,c8 (by omega) u⟩)|(with_reducible exact⟨c8d (by omega) k,c8d (by omega) l,c8d (by omega) m,c8d (by omega) p,c8d (by omega) q,c8d (by omega) r,c8d (by omega) s,c8d (by omega) t,c8d (by omega) u⟩)|(with_reducible exact⟨c9 (by omega) k,c9 (by omega) l,c9 (by omega) m,c9 (by omega) p,c9 (by omega) q,c9 (by omega) r,c9 (by omega) s,c9 (by omega) t,c9 (by omega) u⟩)|(with_reducible exact⟨c9d (by omega) k,c9d (by omega) l,c9d (by omega) m,c9d (by omega) p,c9d (by omega) q,c9d (by omega) r,c9d (by omega) s,c9d (by omega) t,c9d (by omega) u⟩)|(simp[k,l,m,p,q,r,s,t,u])))
  (fail)
 rename_i hHeld1;clear hHeld1 co cp k l m p q r s t cq cr cs ct u cu cv cw cx cy bl bm bs bt bu bv bw bx bz c0 bn bo bp bq br c1 Q;obtain⟨b,a1⟩:=nM ((qCm X3 d (.i 1) (.i a.ver) (.i a.root) (.i 0) (.slice a.ka 0 a.kc) (.slice a.ia 0 a.ic) (.slice a.ea 0 a.ec) (.string ⟨#[]⟩) (.i g.root)).drew);rw[a1];have a0:Fr (Bl.one d) X3 b:=a1▸(qGs X3 d _ _ _ _ _ _ _ _ _).drew;have ax:b.heap[d]?=some (dbO 1 ⟨d,β,sv,h,fs,a.ver,a.root,g.root,a.ka,a.ia,a.ea,a.kc,a.ic,a.ec,false,0,.n,[]⟩):=by
  rw[<-a1,FL];exact qCl Z _ _ _ _ _ _ _ _ _
 have ah:b.heap[c.heap.size+1]?=some g.obj:=a0.heap a5 (oN (by omega));have ba:¬fpF β sv h d:=iJ i C (by decide) (by decide) (by decide);have H:aO b 1 ⟨d,β,sv,h,fs,a.ver,a.root,g.root,a.ka,a.ia,a.ea,a.kc,a.ic,a.ec,false,0,.n,[]⟩:=by
  refine⟨ax,?_,AL _ _ _ _,by simp,.nil⟩;exact(i.on (vV G i.lies)).on (a0.on (λj f=>⟨jY (i.lies j f) G.size,λe=>ba (by simp only[Bl.one]at e;exact e▸f)⟩))
 have al:Fr (Bl.or (Bl.one d) (fpF β sv lv)) w b:=((a9.mono (λj f=>.inl (.inr f))).trans (AA G)).trans (a0.mono (λj f=>.inl (.inl f)));obtain⟨bc,d3,b1,ae⟩:=Ig b;have I:Hid (∀X,bW b X->aO X 1 ⟨d,β,sv,h,fs,a.ver,a.root,g.root,a.ka,a.ia,a.ea,a.kc,a.ic,a.ec,false,0,.n,[]⟩/\X.c d 2=some (.p β 0)/\X.c d 5=some (.i a.root)/\X.c d 11=some (.i g.root)/\X.c (c.heap.size+1) 1=some (.bool true)):=by
  intro X y;have ay:=H.on (vV y H.lies);obtain⟨L,M,Q,R,U,B,V,W,c8,c9,c10,A,N,O,P⟩:=fC ay.box;have az:=(y.block _ (gL ah)).trans ah;exact⟨ay,Q,B,A,(nX az).2.1⟩
 obtain⟨_,ag,cl,ck,cm⟩:=I.out bc ae;have b8:bJ fs a.root o:=ap.out▸S.sure.rooted;have b7:bJ fs g.root ao:=aq.out▸S.ahead.rooted;have ci:fs.safe.length<=4096:=a4.small;have c6:=nF d β a.root bc ag;have d0:Hid _:=S;have au:Hid _:=b8;have ar:Hid _:=b7;have bf:Hid _:=al;have bg:Hid _:=am;have an:Hid _:=H;have bh:Hid (∀X z F (a6:Nat),bW b X->bJ fs a6 F->Au z F->z.length=4096->aY X b.heap.size z->cL 84 #[.agg #[.p β 0,.i (a6:Int),.n],.q b.heap.size 4096 4096] X λe w'=>(∃v,e=.returned v)/\aY w' b.heap.size (marks z (eA F))/\bW b w'):=by
  intro X z F a6 y cg ch cd ca;exact(Ga β sv h fs a2 a6 none 0 0 b.heap.size F z X cg ch cd (I.out X y).1.file ca).mono λe w' ⟨cb,cj,cc⟩=>⟨cb,cj,y.trans (cc.below y.size (oK (by omega)))⟩
 clear a1 a4 a3 i a9 am C Z ax bb a5 ah aa G a0 ba H al b8 b7 S af;go_wp2_with (first
  |(go_at_call 36;(with_reducible refine jC c6 ?_);rintro e ai ⟨rfl,b2⟩;have be:bW b ai:=ae.trans (b2.mono ae.size);have bj:aY ai b.heap.size (List.replicate 4096 false):=b1.on (Y:=Bl.one b.heap.size) (vV b2 (λj f=>by simp only[Bl.one]at f;have:=b1.lt;omega)) rfl;have c4:=bh.out ai (List.replicate 4096 false) o a.root be au.out (uQ _ _) (by simp) bj)
  |(go_at_call 84;(with_reducible refine jC c4 ?_);rintro e bd ⟨⟨d5,rfl⟩,av,a7⟩;obtain⟨_,ag,cl,ck,cm⟩:=I.out bd a7;have c7:=nF d β g.root bd ag)
  |(go_at_call 36;(with_reducible refine jC c7 ?_);rintro e aj ⟨rfl,b3⟩;have a8:bW b aj:=a7.trans (b3.mono a7.size);have aw:=av.on (Y:=Bl.one b.heap.size) (vV b3 (λj f=>by simp only[Bl.one]at f;have:=av.lt;omega)) rfl;have c5:=Sk β sv h fs a2 g.root none 0 0 b.heap.size ao (marks (List.replicate 4096 false) (eA o)) aj ar.out (zB ar.out au.out (by rw[EQ];exact ci) (uQ _ _)) (by rw[gE,EQ]) (I.out aj a8).1.file aw aw.lt)
  |(go_at_call 85;(with_reducible refine jC c5 ?_);rintro e cn ⟨rfl,d1,c3⟩;have ak:bW b cn:=a8.trans (c3.below a8.size (oK (by omega)))))
 go_ret;refine⟨rfl,_,an.out.on (vV ak an.out.lies),rfl,rfl,rfl,rfl,?_,?_,?_,rfl,rfl,rfl,rfl,bf.out.trans (AA ak),bg.out⟩
 ·show((a.ver:Nat):Int)=_;rw[bi.out]
 ·exact ap.out
 ·exact aq.out
theorem aO.beside {a D}(h:aO w a D)(b:¬fpD D k)(v):aO (w.setCell ⟨k,i,none⟩ v) a D :=
 h.on ((CJ (fpD D) w).setCell (p:=⟨k,i,none⟩) b v)
theorem Bs(D)(g:Nat)(first q)(A:∀args w,(callFunc g args).run Tryz.prog w=.ok (.enter g args) w)(w)(h:aO w 0 D)(R:Int->Db->Prop)(C:∀a,aO a 1 D->Fr (Bl.one D.d) w a->w.heap.size<a.heap.size->cL g (first++q) a λe w'=>∃z D',e=.returned (.i z)/\aO w' 1 D'/\D'.d=D.d/\Fr (fpD D) a w'/\aJ a (fpD D) (fpD D')/\R z D'):
  cL 32 #[.p D.d 0,.func (.func g) first q] w λe w'=>∃z D',e=.returned (.i z)/\aO w' 0 D'/\D'.d=D.d/\Fr (fpD D) w w'/\aJ w (fpD D) (fpD D')/\R z D':=by
 have H:D.d<w.heap.size:=(gL h.box);have⟨b,m⟩:=nM (w.setCell ⟨D.d,0,none⟩ (.int .i32 1));have t:aO b 1 D:=m▸h.lock;have y:Fr (Bl.one D.d) w b:=m▸(AF (Bl.one D.d) w).setCell (p:=⟨D.d,0,none⟩) (.inl rfl) _;have F:b.heap.size=w.heap.size:=by rw[<-m];simp
 have⟨a,o⟩:=nM (b.alloc (.cells #[.i 0] 48));have r:bW b a:=o▸(bA _ _);have x:a.heap[w.heap.size]?=some (.cells #[.i 0] 48):=by rw[<-o,<-F];exact aA b _
 have B:aO a 1 D:=t.on (vV r t.lies);have s:Fr (Bl.one D.d) w a:=y.trans (AA r);have G:w.heap.size<a.heap.size:=(gL x);have v:¬fpD D w.heap.size:=λc=>by have:=h.lies _ c;omega
 refine(Ex D.d g first q A w (λz W=>∃D',aO W 1 D'/\D'.d=D.d/\Fr (fpD D) a W/\aJ a (fpD D) (fpD D')/\R z D') _ h.box rfl ?_).mono ?_
 ·rw[m,o]
  apply(C a B s G).mono;rintro e w' ⟨z,D',rfl,j,f,k,l,n⟩;exact⟨z,rfl,k.heap x v,⟨_,f▸j.box,rfl⟩,D',j,f,k,l,n⟩
 ·rintro e w' ⟨z,W,rfl,⟨D',j,f,k,l,n⟩,rfl⟩
  have E:¬fpD D' w.heap.size:=λc=>by
   rcases l _ c with d|d
   ·exact v d
   ·omega
  refine⟨z,D',rfl,?_,f,(((s.mono (λu c=>.inl (.inl c))).trans k).setCell (p:=⟨w.heap.size,0,none⟩) (.inr (jU _)) _).setCell (p:=⟨D.d,0,none⟩) (.inl (.inl rfl)) _,?_,n⟩
  ·have:=(j.beside (i:=0) E (.i z)).lock (st':=0)
   rw[f]at this;exact this
  ·intro u c
   rcases l u c with d|d
   ·exact .inl d
   ·exact .inr (by omega)
theorem qDx (S:lD K n fs v o ao)(g:40<=n)(a0:fs.well)(β sv lv w)(l:aH w β sv lv fs):
  cL 11 #[.p β 0] w λe w'=>∃D:Db,e=.returned (.tuple #[.p D.d 0,.i 0])/\aO w' 0 D/\D.β=β/\D.sv=sv/\D.fs=fs/\D.ver=v/\D.root=rootOf o/\D.aroot=rootOf ao/\D.failed=false/\D.last=0/\D.ts=[]/\Fr (fpF β sv lv) w w'/\aJ w (fpF β sv lv) (fpD D):=by
 have⟨b,H⟩:=nM (w.alloc (.cells (db0 0 β) 83));have R:bW w b:=H▸(bA _ _);have O:b.heap[w.heap.size]?=some (.cells (db0 0 β) 83):=H▸aA w _;have z:b.heap.size=w.heap.size+1:=by rw[<-H];simp
 have⟨d,x⟩:=nM (b.setCell ⟨w.heap.size,0,none⟩ (.int .i32 1));have a2:d.heap[w.heap.size]?=some (.cells (db0 1 β) 83):=by rw[<-x];have:=aC O 0 (.int .i32 1);simpa using this
 have U:Fr (Bl.one w.heap.size) b d:=x▸(AF (Bl.one w.heap.size) b).setCell (p:=⟨w.heap.size,0,none⟩) (.inl rfl) _;have Q:d.heap.size=w.heap.size+1:=by rw[<-x];simp[z]
 have⟨c,y⟩:=nM (d.alloc (.cells #[.i 0] 48));have I:bW d c:=y▸(bA _ _);have a4:c.heap[w.heap.size+1]?=some (.cells #[.i 0] 48):=by rw[<-y,<-Q];exact aA d _
 have a7:c.heap.size=w.heap.size+2:=by rw[<-y];simp[Q]
 have J:bW w c:=(R.trans (U.below (by omega) (oK (by omega)))).trans (I.mono (by omega));have Z:aH c β sv lv fs:=l.on (vV J l.lies);have M:=Vg S (by omega) a0 w.heap.size β sv lv c ((I.block w.heap.size (by omega)).trans a2) Z;have a5:¬((fs.safe.length:Int)<40):=by rw[S.len];omega
 have V:=Ex w.heap.size 33 #[.p w.heap.size 0] #[] (enters_of Tryz.func33 (by kernel_rfl) rfl) b (λP W=>P=0/\∃D:Db,aO W 1 D/\D.d=w.heap.size/\D.β=β/\D.sv=sv/\D.fs=fs/\D.ver=v/\D.root=rootOf o/\D.aroot=rootOf ao/\D.failed=false/\D.last=0/\D.ov=.n/\D.ts=[]/\Fr (Bl.or (Bl.one w.heap.size) (fpF β sv lv)) c W/\aJ c (fpF β sv lv) (fpF β sv D.lv)) _ O rfl (by
  rw[x,y,z];apply M.mono;rintro e w' ⟨rfl,D,r,f,g,k,A,B,C,E,F,G,q,j,s,u⟩;refine⟨0,rfl,s.heap a4 ?_,⟨_,f▸r.box,rfl⟩,rfl,D,r,f,g,k,A,B,C,E,F,G,q,j,s,u⟩;rintro(a|a)
  ·simp only[Bl.one]at a;omega
  ·have:=l.lies _ a;omega)
 clear M;go_enter Tryz.func11,Tryz.ntmps11;go_wp2_with (first
  |(go_at_call 31;(with_reducible apply jC (mS β sv lv fs w l));rintro e w' ⟨rfl,a6⟩;subst w')
  |(go_at_call 32;(with_reducible apply jC V);rintro e X ⟨P,W,rfl,⟨rfl,D,r,f,g,k,A,B,C,E,F,G,q,j,s,u⟩,rfl⟩))
 go_ret2;have a1:¬fpD D b.heap.size:=by
  rw[z];rintro(a|a|a|⟨t,m,a⟩)
  ·rw[f]at a;omega
  ·rw[g,k]at a
   rcases u _ a with a|a
   ·have:=l.lies _ a;omega
   ·omega
  ·rw[q]at a;simp[Value.ownBlock]at a
  ·rw[j]at m;simp at m
 have L:=(r.beside (i:=0) a1 (.i 0)).lock (st':=0);rw[f,z]at L;refine⟨D,by rw[f];rfl,L,g,k,A,B,C,E,F,G,j,?_,?_⟩
 ·have:Fr (fpF β sv lv) w W:=(AA J).grow s (λN a=>by
   rcases a with a|a
   ·exact .inr (by simp only[Bl.one]at a;omega)
   ·exact .inl a)
  exact(this.setCell (p:=⟨w.heap.size+1,0,none⟩) (.inr (by show w.heap.size<=w.heap.size+1;omega)) _).setCell (p:=⟨w.heap.size,0,none⟩) (.inr (jU _)) _
 ·rintro N (a|a|a|⟨t,m,a⟩)
  ·exact .inr (by rw[f]at a;omega)
  ·rw[g,k]at a
   exact(u _ a).imp id (λh=>by omega)
  ·rw[q]at a;simp[Value.ownBlock]at a
  ·rw[j]at m;simp at m
open Go.MuLone
abbrev qKc(z:Int):List PanicEntry:=[{v:=.iface 172 (.agg #[.int .i64 z]),recovered:=true}]
theorem Lj(b z w)(f:w.heap[b]?=some (.cells #[.i 0] 48)):
  CallsD Tryz.prog 110 #[.p b 0] (.panicking (sS z)) w λe h w'=>e=.returned (.tuple #[])/\h=.panicking (qKc z)/\w'=(w.alloc (.cells #[.i z] 172)).setCell ⟨b,0,none⟩ (.i z):=by
 obtain⟨a,c,-,i,-⟩:=al1 w (.cells #[.int .i64 z] 172)
 have d:a.heap[b]?=some (.cells #[.int .i64 0] 48):=c▸aI _ f
 have j:a.cell? ⟨w.heap.size,0,none⟩=some (.int .i64 z):=by simp[World.cell?,i]
 have k:a.cell? ⟨b,0,none⟩=some (.int .i64 0):=by simp[World.cell?,d]
 have n:=aB d
 have o:∀X,(Instr.typeAssert (.iface 172 (.agg #[.int .i64 z])) 20 172 true).run Tryz.prog X=.ok (.tuple #[.agg #[.int .i64 z],.bool true]) X:=λX=>by kernel_rfl
 refine callsD_of_wpS Tryz.func110 rfl λm l g=>?_
 apply wpS_seq
 apply wpS_region
 simp[wpOpsS,go_sem,recoverD,g,Tryz.ntmps110,Exit.thenS]
 apply wpS_of_wp
 simp only[jR,jO,jP,jT,jE,jF,jV,jZ,jX]
 go_wp2
 rw[c]
 simp[bodyPostS,results,Tryz.results110]
theorem Rj(g:Nat)(first d)(m:∀args w,(callFunc g args).run Tryz.prog w=.ok (.enter g args) w)(z w)(R:World->Prop)(h:cL g (first++d) (w.alloc (.cells #[.i 0] 48)) λe w'=>e=.panicked (sS z)/\w'.heap[w.heap.size]?=some (.cells #[.i 0] 48)/\R w'):
  cL 81 #[.func (.func g) first d] w λe w'=>e=.returned (.i z)/\∃W,R W/\w'=(W.alloc (.cells #[.i z] 172)).setCell ⟨w.heap.size,0,none⟩ (.i z):=by
 have n:∀(b:Fn) (first a:Array Value) (w:World),(Instr.makeFunc b first a).run Tryz.prog w=.ok (.func b first a) w:=λ_ _ _ _=>rfl;go_enter_defers Tryz.func81,Tryz.ntmps81;go_wp2_with (fail);apply h.mono;rintro e W ⟨rfl,c,i⟩;apply GZ (f:=110) (args:=#[.p w.heap.size 0]) (by simp) (by simp[go_sem]);apply(Lj w.heap.size z W c).mono;rintro e o p ⟨rfl,rfl,rfl⟩;have l:(W.alloc (.cells #[.i z] 172)).heap[w.heap.size]?=some (.cells #[.i 0] 48):=aI _ c;have j:(W.alloc (.cells #[.i z] 172)).c w.heap.size 0=some (.i 0):=by simp[World.cell?,l]
 have k:((W.alloc (.cells #[.i z] 172)).setCell ⟨w.heap.size,0,none⟩ (.i z)).c w.heap.size 0=some (.i z):=World.cell?_setCell_same _ _ _ j;simp only[Leaves,settle];refine⟨.i z,?_,rfl,W,i,rfl⟩;simp[results,Tryz.results81,go_sem,k]
theorem qAx(d)(g:Nat)(first c)(k:∀args w,(callFunc g args).run Tryz.prog w=.ok (.enter g args) w)(z w)(R:World->Prop)(cs)(b:w.heap[d]?=some (.cells cs 83))(m:cs[0]?=some (.int .i32 0))(h:cL g (first++c) ((w.setCell ⟨d,0,none⟩ (.int .i32 1)).alloc (.cells #[.i 0] 48)) λe w'=>e=.panicked (sS z)/\w'.heap[w.heap.size]?=some (.cells #[.i 0] 48)/\(∃a,w'.heap[d]?=some (.cells a 83)/\a[0]?=some (.int .i32 1))/\R w'):
  cL 32 #[.p d 0,.func (.func g) first c] w λe w'=>e=.returned (.i z)/\∃W,R W/\w'=((W.alloc (.cells #[.i z] 172)).setCell ⟨w.heap.size,0,none⟩ (.i z)).setCell ⟨d,0,none⟩ (.int .i32 0):=by
 have j:w.cell? ⟨d,0,none⟩=some (.int .i32 0):=by simp[World.cell?,b,m]
 have l:w.frozen? ⟨d,0,none⟩=false:=by simp[World.frozen?,b]
 have r:d<w.heap.size:=(gL b)
 go_enter_defers Tryz.func32,Tryz.ntmps32
 go_wp2_with (first
  |(go_at_call 34;apply(lock_free uC ⟨d,0,none⟩ _ j l).mono;rintro e w' ⟨rfl,rfl⟩)
  |(go_at_call 81;apply (Rj g first c k z (w.setCell ⟨d,0,none⟩ (.int .i32 1)) (λw'=>(∃a,w'.heap[d]?=some (.cells a 83)/\a[0]?=some (.int .i32 1))/\R w') (by simpa using h)).mono;rintro e w' ⟨rfl,W,⟨⟨a,q,n⟩,p⟩,rfl⟩))
 have i:(W.alloc (.cells #[.int .i64 z] 172)).heap[d]?=some (.cells a 83):=aI _ q
 apply GZ (f:=35) (args:=#[.pointer (some ⟨d,0,none⟩)]) (by simp) (by simp[go_sem])
 refine(unlock_deferred uC ⟨d,0,none⟩ .returning _ ?_ ?_).mono ?_
 ·rw[EC _ _ _ _ (by simp)]
  simp[World.cell?,i,n]
 ·rw[World.frozen?_setCell]
  simp[World.frozen?,i]
 rintro e s t ⟨rfl,rfl,rfl⟩
 exact⟨_,LW rfl _ _ _,rfl,W,p,rfl⟩
