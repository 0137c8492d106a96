import Derived.Test.YtdhgdcjmhofhaaaGreatD48
set_option linter.all false
set_option maxRecDepth 100000
set_option maxHeartbeats 8000000
namespace Go.Proofs.YtdhgdcjmhofhaaaGreat.Tree
open Go.RowKit Pages
theorem Wp{b}(f):∀(l:List b) (j:Nat) (h:j<l.length) (a:b),tot f (l.set j a)+f l[j]=tot f l+f a
 |x :: l,0,_,a=>by simp only[jZ,cG,CS];omega
 |x :: l,j+1,h,a=>by
  have:=Wp f l j (by grind) a;simp only[jX,cG,DE];omega
section
variable {n B:Nat}{w:World}{D:Db}{v:Nat}{o ao:Option (Nat×T)}{ots:List (Option (Nat×T))}{M:RM}
theorem Lk.change(h:Lk n B w D v o ao ots M){x j r}(P:cC M.ts x (some (j,r)))(U:j<D.ts.length)(Q:r.wr=true)(c)(K:c.good){w':World}{u:Option Addr}{y:Nat}(I:aO w' 0 {D with ts:=D.ts.set j {D.ts[j] with cs:=cW (D.ts[j]).cs c,ca:=u,cc:=y}})(s t):
  Lk n (B+1) w' {D with ts:=D.ts.set j {D.ts[j] with cs:=cW (D.ts[j]).cs c,ca:=u,cc:=y}} v o ao ots {M with ts:=M.ts.set j (r.changed c s t)}:=by
 have⟨H,T⟩:=P;obtain⟨m,rfl⟩:=AD.1 H;have e:=h.each j m;have⟨l,F,G,z,S⟩:=h.few;refine⟨I,h.well,h.failed,h.ver,h.root,h.aroot,h.store,h.nv,h.last,h.last0,by have:=h.last1;grind,by have:=h.vB;omega,h.now,h.ah,by simp[h.len],by simp[h.leno],by simp;exact h.n8,λp E=>?_,?_,λi g=>?_,l,F,G,λi g=>?_,?_⟩
 ·simp only[CL]at E
  show LkT D.fs ((D.ts.set j _)[p]'_) _ ((M.ts.set j _)[p]'_)
  simp only[DP];by_cases f:j=p
  ·subst f
   simp only[LO];refine⟨e.num,e.wr,e.tr,e.root,e.bg,?_,?_,?_,λL=>?_,e.lost⟩
   ·show cW _ c=(M.ts[j].ch++[c]).foldl cW []
    rw[GK,<-e.cs];rfl
   ·intro d k
    rcases AO.1 k with k|k
    ·exact e.good d k
    grind
   ·show(M.ts[j].ch++[c]).foldl eE M.ts[j].bg=eE M.ts[j].l c
    rw[GK,e.l];rfl
   ·have:=L
    rw[e.wr,Q]at this;cases this
  ·simp only[f,KH]
   exact h.each p E
 ·refine BB.2 (λa b A C J=>?_)
  simp only[CL]at A C;have q:=BB.1 h.rise a b A C J;simp only[DP];split
  ·next f=>subst f;rw[AQ (by omega)];exact q
  ·split
   ·next f=>subst f;exact q
   ·exact q
 ·rcases EA g with g|rfl
  ·exact h.le i g
  ·show(M.ts[j]).num<=M.last
   exact h.le _ (AB m)
 ·rcases EA g with g|rfl
  ·exact z i g
  ·show(M.ts[j]).bg.length<=l/\(M.ts[j]).oth.length<=l
   grind
 ·have f:=Wp (λi:RT=>i.ch.length) M.ts j m ((M.ts[j]).changed c s t)
  have R:((M.ts[j]).changed c s t).ch.length=(M.ts[j]).ch.length+1:=by show(M.ts[j].ch++[c]).length=_;simp
  grind
theorem Lk.more(h:Lk n B w D v o ao ots M){w'}(e:aO w' 0 D){B'}(g:B<=B'):Lk n B' w' D v o ao ots M:=by
 have⟨a,b,c,d,f⟩:=h.few;exact{h with db:=e,last1:=by have:=h.last1;omega,vB:=by have:=h.vB;omega,few:=⟨a,b,c,d,by omega⟩}
theorem Ou{k}(h:1<=k.size):lt ⟨#[]⟩ k=true:=by
 cases hq:lt ⟨#[]⟩ k with
 |true=>rfl
 |false =>
  have:=kU (Tq k) hq;rw[this]at h;simp[ByteArray.size]at h
theorem qDf(h:Lk n B w D v o ao ots M)(G:B<=900000)(x key a r)(q:cC M.ts x r):
  cL 13 #[.p D.d 0,.i x,.string key,.string a] w λe w'=>e=.returned (.i (lU r key a))/\∃D',(D'.d=D.d/\D'.β=D.β)/\Fr (fpD D) w w'/\aJ w (fpD D) (fpD D')/\((lU r key a≠0/\Lk n (B+1) w' D' v o ao ots M)\/∃j t,r=some (j,t)/\t.wr=true/\(1<=key.size/\key.size<=24)/\a.size<=400/\lU r key a=0/\∀s u,Lk n (B+1) w' D' v o ao ots {M with ts:=M.ts.set j (t.changed ⟨key,a,false⟩ s u)}):=by
 have I:=h.len;have F:=h.n8;have l:∀{w':World},Fr (Bl.one D.d) w w'->Fr (fpD D) w w':=λc=>c.mono (λJ b=>.inl (.inl b));cases r with
 |none =>
  have f:lU none key a=3:=by rfl
  rw[f];apply(Kg D x key a (.pointer none) 3 3 w h.db (λX g=>yS D 1 x X g (by omega) (h.miss q)) (.inl ⟨by decide,rfl⟩)).mono;rintro e w' ⟨rfl,d,c⟩;exact⟨rfl,D,⟨rfl,rfl⟩,l c,CQ _ _,.inl ⟨by decide,h.more d (by omega)⟩⟩
 |some p =>
  have⟨j,r⟩:=p;have⟨k,K,i,m,C⟩:=h.hit q;have⟨L,E,N,O,P,Q⟩:=i.rise;have H:=(h.bounds.2.2 r C).2.2.1;cases hw:r.wr with
  |false =>
   have f:lU (some (j,r)) key a=4:=by simp[lU,bU,hw]
   rw[f];apply(Kg D x key a (.pointer none) 4 4 w h.db (λX g=>yQ D 1 x j D.ts[j] X g (by omega) k rfl m (by rw[i.wr];exact hw)) (.inl ⟨by decide,rfl⟩)).mono;rintro e w' ⟨rfl,d,c⟩;exact⟨rfl,D,⟨rfl,rfl⟩,l c,CQ _ _,.inl ⟨by decide,h.more d (by omega)⟩⟩
  |true =>
   by_cases b:(1<=key.size/\key.size<=24)/\a.size<=400
   ·have f:lU (some (j,r)) key a=0:=by simp only[lU,bU,hw];rw[AQ (by simp),AW b]
    rw[f];apply(qGx D x j D.ts[j] key a w h.db (by omega) k rfl m (by rw[i.wr];exact hw) E (by omega) b.1.1 b.1.2 b.2).mono;rintro e w' ⟨rfl,y,z,d,c,A⟩;exact⟨rfl,{D with ts:=D.ts.set j {D.ts[j] with cs:=cW (D.ts[j]).cs ⟨key,a,false⟩,ca:=y,cc:=z}},⟨rfl,rfl⟩,c,A,.inr ⟨j,r,rfl,hw,b.1,b.2,rfl,λs u=>h.change q k hw ⟨key,a,false⟩ ⟨Ou b.1.1,b.1.2,b.2⟩ d s u⟩⟩
   ·have f:lU (some (j,r)) key a=1:=by simp only[lU,bU,hw];rw[AQ (by simp),AQ b]
    rw[f];apply(Kg D x key a (.p ((D.ts[j]).b) 0) 0 1 w h.db (λX g=>qH D 1 x j D.ts[j] X g (by omega) k rfl m (by rw[i.wr];exact hw)) (.inr ⟨rfl,rfl,b⟩)).mono;rintro e w' ⟨rfl,d,c⟩;exact⟨rfl,D,⟨rfl,rfl⟩,l c,CQ _ _,.inl ⟨by decide,h.more d (by omega)⟩⟩
end
theorem qAr{fs root o cs key}(p:bJ fs root o)(m:oV o)(n:cJ cs)(k:∀c∈cs,c.good):(kX o cs key=false/\rK o cs key=none)\/(kX o cs key=true/\∃l,rK o cs key=some l):=by
 have⟨e,g,h⟩:∃e:Ent,(fnd cs key=true->∀c,cs[cZ cs key]?=some c->e=(chE c).e)/\(fnd cs key=false->∀b f,cV (nT key) o=b :: f->e=b.e):=by
  cases hq:fnd cs key with
  |true =>
   cases hs:cs[cZ cs key]? with
   |none=>exact⟨⟨⟨#[]⟩,⟨#[]⟩,0,0⟩,(λ_ c a=>by cases a),(λa=>by cases a)⟩
   |some c=>simp
  |false =>
   cases hs:cV (nT key) o with
   |nil=>exact⟨⟨⟨#[]⟩,⟨#[]⟩,0,0⟩,(λa=>by cases a),(λ_ b f a=>by cases a)⟩
   |cons b f=>simp
 rcases Iy p m n k g h with a|⟨X,_,_,i,j⟩
 ·grind
 grind
section
variable {n B:Nat}{w:World}{D:Db}{v:Nat}{o ao:Option (Nat×T)}{ots:List (Option (Nat×T))}{M:RM}
theorem qJj(h:Lk n B w D v o ao ots M)(U:B<=900000)(x key r)(C:cC M.ts x r):
  cL 71 #[.p D.d 0,.i x,.string key] w λe w'=>e=.returned (.i (iW r key))/\∃D',(D'.d=D.d/\D'.β=D.β)/\Fr (fpD D) w w'/\aJ w (fpD D) (fpD D')/\((iW r key≠0/\Lk n (B+1) w' D' v o ao ots M)\/∃j t S,r=some (j,t)/\t.wr=true/\(1<=key.size/\key.size<=24)/\rO t.l key=some S/\iW r key=0/\∀E F,Lk n (B+1) w' D' v o ao ots {M with ts:=M.ts.set j (t.changed ⟨key,⟨#[]⟩,true⟩ E F)}):=by
 have Y:=h.len;have T:=h.n8;have u:∀{w':World},Fr (Bl.one D.d) w w'->Fr (fpD D) w w':=λb=>b.mono (λZ a=>.inl (.inl a));cases r with
 |none =>
  have c:iW none key=3:=by rfl
  rw[c];apply(vC D x key (.pointer none) 3 3 w h.db (λX k=>yS D 1 x X k (by omega) (h.miss C)) (.inl ⟨by decide,rfl⟩)).mono;rintro e w' ⟨rfl,d,b⟩;exact⟨rfl,D,⟨rfl,rfl⟩,u b,CQ _ _,.inl ⟨by decide,h.more d (by omega)⟩⟩
 |some p =>
  have⟨j,r⟩:=p;have⟨l,m,f,A,N⟩:=h.hit C;have⟨a0,J,P,Q,R,a1⟩:=f.rise;have W:=(h.bounds.2.2 r N).2.2.1;cases hw:r.wr with
  |false =>
   have c:iW (some (j,r)) key=4:=by simp[iW,bU,hw]
   rw[c];apply(vC D x key (.pointer none) 4 4 w h.db (λX k=>yQ D 1 x j D.ts[j] X k (by omega) l rfl A (by rw[f.wr];exact hw)) (.inl ⟨by decide,rfl⟩)).mono;rintro e w' ⟨rfl,d,b⟩;exact⟨rfl,D,⟨rfl,rfl⟩,u b,CQ _ _,.inl ⟨by decide,h.more d (by omega)⟩⟩
  |true =>
   have y:iW (some (j,r)) key=(eR (some (j,r)) key).2:=by simp[iW,bU,hw]
   by_cases a:1<=key.size/\key.size<=24
   ·have g:=Wj Q key
    rw[P]at g;have I:bJ D.fs (D.ts[j]).root m:=by rw[f.root];exact f.tr.rooted
    apply(Ve D x j D.ts[j] m key w h.db (GQ h.well) I (by omega) l rfl A (by rw[f.wr];exact hw) J (by omega) a.1 a.2).mono;rintro e w' ⟨z,D',rfl,d,V,b,G,H⟩;rcases qAr (key:=key) I f.tr.flat J R with⟨q,s⟩|⟨q,O,s⟩
    ·rw[show valOf (bD (aX m) D.ts[j].cs) key=none from s]at g
     have c:iW (some (j,r)) key=5:=by rw[y];simp only[eR];grind
     rw[c];rcases H with⟨i,_⟩|⟨_,rfl,rfl⟩
     ·grind
     ·exact⟨rfl,D',⟨rfl,rfl⟩,b,G,.inl ⟨by decide,h.more d (by omega)⟩⟩
    ·rw[show valOf (bD (aX m) D.ts[j].cs) key=some O from s]at g
     have c:iW (some (j,r)) key=0:=by rw[y];simp only[eR];grind
     rw[c];rcases H with⟨_,rfl,K,L,rfl⟩|⟨i,_⟩
     ·exact⟨rfl,{D with ts:=D.ts.set j {D.ts[j] with cs:=cW (D.ts[j]).cs ⟨key,⟨#[]⟩,true⟩,ca:=K,cc:=L}},⟨rfl,rfl⟩,b,G,.inr ⟨j,r,_,rfl,hw,a,g,rfl,λE F=>h.change C l hw ⟨key,⟨#[]⟩,true⟩ ⟨Ou a.1,a.2,by simp[ByteArray.size]⟩ d E F⟩⟩
     grind
   ·have c:iW (some (j,r)) key=1:=by rw[y];simp only[eR];rw[AQ a]
    rw[c];apply(vC D x key (.p ((D.ts[j]).b) 0) 0 1 w h.db (λX k=>qH D 1 x j D.ts[j] X k (by omega) l rfl A (by rw[f.wr];exact hw)) (.inr ⟨rfl,rfl,a⟩)).mono;rintro e w' ⟨rfl,d,b⟩;exact⟨rfl,D,⟨rfl,rfl⟩,u b,CQ _ _,.inl ⟨by decide,h.more d (by omega)⟩⟩
theorem Yl{fs root o}(a:bJ fs root o){cs}(b:cJ cs)(q):lB o cs q=(bD (aX o) cs).filter (λx=>q.has x.e.key):=by
 unfold lB;rw[uP a,Va (eI a) b]
theorem Ka(h:Lk n B w D v o ao ots M)(N:B<=900000)(x lo hi most)(Q:most<=9223372036854775807)(r)(t:cC M.ts x r):
  cL 61 #[.p D.d 0,.i x,.string lo,.string hi,.i most] w λe w'=>∃vl,e=.returned (.tuple #[vl,.i (cR r lo hi most).2])/\aO w' 0 D/\Fr (Bl.one D.d) w w'/\w'.ownsRow 0 71 2 vl (cR r lo hi most).1.length (aG (cR r lo hi most).1)/\∀k,vl.ownBlock=some k->w.heap.size<=k:=by
 have P:=h.len;have L:=h.n8;cases r with
 |none =>
  apply(Mn D x lo hi most (.pointer none) 3 3 w h.db (λX l=>oI D 1 x X l (by omega) (h.miss t)) (.inl ⟨by decide,rfl⟩)).mono;rintro e w' ⟨rfl,f,g⟩;exact⟨_,rfl,f,g,AL _ _ _ _,λk b=>by simp[Value.ownBlock]at b⟩
 |some p =>
  have⟨a,r⟩:=p;have⟨s,d,i,q,H⟩:=h.hit t;have⟨R,z,A,I,J,S⟩:=i.rise;have O:=h.bounds.2.2 r H;by_cases b:lo.size<=24/\hi.size<=24/\0<=most
  ·obtain⟨c,rfl⟩:∃c:Nat,most=c:=⟨most.toNat,by omega⟩
   have u:bJ D.fs (D.ts[a]).root d:=by rw[i.root];exact i.tr.rooted
   have m:=Yl u z ⟨lo,hi⟩;have F:(lB d (D.ts[a]).cs ⟨lo,hi⟩).length<=1000000:=by
    rw[m];have K:=KD (λx:En=>(⟨lo,hi⟩:Sp).has x.e.key) (bD (aX d) (D.ts[a]).cs);have E:=oO (bD (aX d) (D.ts[a]).cs);grind
   apply(qCq D x a D.ts[a] d ⟨lo,hi⟩ c w h.db (GQ h.well) u i.tr.flat (by omega) s rfl q z J (by omega) b.1 b.2.1 F (by omega)).mono;rintro e w' ⟨vl,rfl,f,g,y,G⟩;have j:(cR (some (a,r)) lo hi (c:Int))=(rL r.l lo hi c,0):=by simp only[cR];grind
   rw[j];have C:kvB ((lB d (D.ts[a]).cs ⟨lo,hi⟩).take c)=rL r.l lo hi c:=by rw[m,qGu I,A]
   rw[<-Ol,<-oO,C]at y;grind
  ·apply(Mn D x lo hi most (.p ((D.ts[a]).b) 0) 0 1 w h.db (λX l=>jI D 1 x a D.ts[a] X l (by omega) s rfl q) (.inr ⟨rfl,rfl,b⟩)).mono
   rintro e w' ⟨rfl,f,g⟩;have j:cR (some (a,r)) lo hi most=([],1):=by simp only[cR];rw[AQ b]
   rw[j];exact⟨_,rfl,f,g,AL _ _ _ _,λk b=>by simp[Value.ownBlock]at b⟩
end
theorem tD{a}(f):∀(l:List a) (j:Nat) (h:j<l.length),tot f (l.eraseIdx j)+f l[j]=tot f l
 |x :: l,0,_=>by simp only[List.eraseIdx_cons_zero,cG,CS];omega
 |x :: l,j+1,h=>by
  have:=tD f l j (by grind);simp only[List.eraseIdx_cons_succ,cG,DE];omega
section
variable {n B:Nat}{w:World}{D:Db}{v:Nat}{o ao:Option (Nat×T)}{ots:List (Option (Nat×T))}{M:RM}
theorem Fv(h:Lk n B w D v o ao ots M)(O:B<=900000)(i)(R:M.ts.length<8):
  cL 12 #[.p D.d 0,.bool i] w λe w'=>e=.returned (.tuple #[.i (M.last+1),.i 0])/\∃D',(D'.d=D.d/\D'.β=D.β)/\Fr (fpD D) w w'/\aJ w (fpD D) (fpD D')/\∀u l,Lk n (B+1) w' D' v o ao (ots++[o]) {M with last:=M.last+1,ov:=u,ts:=M.ts++[M.begun (M.last+1) i l]}:=by
 have r:=h.len;have s:=h.leno;have C:=h.last0;have N:=h.last1;obtain⟨m,p,y,z,L⟩:=h.few;refine(qBj D i w h.db (by omega) (by rw[h.last];exact C) (by rw[h.last];omega)).mono ?_;rintro e w' ⟨rfl,b,K,E,F,P,I⟩;refine⟨by rw[h.last],{D with last:=D.last+1,ov:=K,ts:=D.ts++[zH b (D.last+1) i D.root]},⟨rfl,rfl⟩,F,?_,λu l=>⟨E,h.well,h.failed,h.ver,h.root,h.aroot,h.store,h.nv,by show D.last+1=M.last+1;rw[h.last],by show 0<=M.last+1;omega,by show M.last+1<=((B+1:Nat):Int);omega,by have:=h.vB;omega,h.now,h.ah,by simp[r],by simp[s],by simp;omega,λk H=>?_,?_,λg d=>?_,m,p,y,λg d=>?_,?_⟩⟩
 ·rintro J (f|f|f|⟨x,j,f⟩)
  ·exact .inl (.inl f)
  ·exact .inl (.inr (.inl f))
  ·exact(I J f).imp (λA=>.inr (.inr (.inl A))) id
  ·rcases AO.1 j with j|j
   ·exact .inl (.inr (.inr (.inr ⟨x,j,f⟩)))
   ·rw[AS]at j
    subst j;have:=Dk f;exact .inr (by omega)
 ·simp only[jK,AM]at H
  show LkT D.fs ((D.ts++[zH b (D.last+1) i D.root])[k]'_) ((ots++[o])[k]'_) ((M.ts++[M.begun (M.last+1) i l])[k]'_)
  rcases BS k M.ts.length with t|Q
  ·rw[GA (by omega),GA (by omega),GA t]
   exact h.each k t
  ·obtain rfl:k=M.ts.length:=by omega
   rw[FV (by omega),FV (by omega),FV (jU _)];simp only[r,s,JA,CS];exact⟨by show D.last+1=M.last+1;rw[h.last],rfl,h.store.sure,h.root,h.now,rfl,by simp[RM.begun],rfl,λ_=>rfl,λ_ x=>by simp[RM.begun]⟩
 ·refine CI.2 ⟨h.rise,by simp,λa G c q=>?_⟩
  rw[AS]at q;subst q;have:=h.le a G;show a.num<M.last+1
  omega
 ·rcases AO.1 d with d|d
  ·have:=h.le g d;show g.num<=M.last+1;omega
  ·rw[AS]at d;subst d;exact Int.le_refl _
 ·rcases AO.1 d with d|d
  ·exact z g d
  ·rw[AS]at d
   subst d;exact⟨p,AH _⟩
 ·show m+tot (λg:RT=>g.ch.length) (M.ts++[M.begun (M.last+1) i l])<=B+1
  rw[qJ];have:tot (λg:RT=>g.ch.length) [M.begun (M.last+1) i l]=0:=rfl;omega
theorem Lk.drop(h:Lk n B w D v o ao ots M){j}(b:j<M.ts.length){g c w'}(m:aO w' 0 (D.drop j g c))(t):Lk n (B+1) w' (D.drop j g c) v o ao (ots.eraseIdx j) {M with ov:=t,ts:=M.ts.eraseIdx j}:=by
 have r:=h.len;have s:=h.leno;obtain⟨f,i,k,l,x⟩:=h.few;have u:(D.drop j g c).ts=D.ts.eraseIdx j:=rfl;refine⟨m,h.well,h.failed,h.ver,h.root,h.aroot,h.store,h.nv,h.last,h.last0,by have:=h.last1;show M.last<=((B+1:Nat):Int);omega,by have:=h.vB;omega,h.now,h.ah,?_,?_,?_,λd p=>?_,h.rise.sublist (DG _ _),λa e=>h.le a ((DG _ _).subset e),f,i,k,λa e=>l a ((DG _ _).subset e),?_⟩
 ·show(D.ts.eraseIdx j).length=(M.ts.eraseIdx j).length
  rw[CH (by omega),CH b,r]
 ·show(ots.eraseIdx j).length=(M.ts.eraseIdx j).length
  rw[CH (by omega),CH b,s]
 ·show(M.ts.eraseIdx j).length<=8
  rw[CH b];have:=h.n8;omega
 ·have q:=p
  rw[CH b]at q;show LkT D.fs ((D.ts.eraseIdx j)[d]'_) ((ots.eraseIdx j)[d]'_) ((M.ts.eraseIdx j)[d]'_)
  simp only[KE];split
  ·exact h.each d (by omega)
  ·exact h.each (d+1) (by omega)
 ·have:=tD (λa:RT=>a.ch.length) M.ts j b
  show f+tot (λa:RT=>a.ch.length) (M.ts.eraseIdx j)<=B+1
  omega
theorem Rw(h:Lk n B w D v o ao ots M)(x j r)(l:cC M.ts x (some (j,r))):
  cL 27 #[.p D.d 0,.i x] w λe w'=>e=.returned (.i 0)/\∃D',(D'.d=D.d/\D'.β=D.β)/\Fr (fpD D) w w'/\aJ w (fpD D) (fpD D')/\∀a,Lk n (B+1) w' D' v o ao (ots.eraseIdx j) {M with ov:=a,ts:=M.ts.eraseIdx j}:=by
 have q:=h.len;have m:=h.n8;have⟨k,t,p,i,s⟩:=h.hit l;apply(qBm D x j D.ts[j] w h.db (by omega) k rfl i).mono;rintro e w' ⟨rfl,g,c,b,d,f⟩;exact⟨rfl,D.drop j g c,⟨rfl,rfl⟩,d,f,λa=>h.drop (by omega) b a⟩
end
variable {fs:Fs} {r:RT} {t:Tx}
section
variable {n B:Nat}{w:World}{D:Db}{v:Nat}{o ao:Option (Nat×T)}{ots:List (Option (Nat×T))}{M:RM}
theorem LkT.keys {a}(h:LkT fs t a r)(k):k∈t.cs.map (·.key)↔k∈r.ch.map (·.key):=by
 rw[h.cs,Iw r.ch (cs:=[]) DW k];simp
theorem LkT.none_iff {b}(h:LkT fs t b r):t.cs=[]↔r.ch=[]:=by
 constructor
 ·intro a
  cases hc:r.ch with
  |nil=>rfl
  |cons c ch =>
   have:=(h.keys c.key).2 (by rw[hc];simp);grind
 ·intro a;rw[h.cs,a];rfl
theorem LkT.conf {j}(h:LkT fs t j r)(i:r.wr=true):(∃c∈t.cs,c.key∈t.ks)↔iT r.ch r.oth=true:=by
 rw[xN];have g:=h.lost (by rw[h.wr];exact i);constructor
 ·intro⟨c,b,f⟩
  have⟨d,e,a⟩:=AY.1 ((h.keys c.key).1 (AY.2 ⟨c,b,rfl⟩));grind
 ·intro⟨c,b,f⟩
  have⟨d,e,a⟩:=AY.1 ((h.keys c.key).2 (AY.2 ⟨c,b,rfl⟩));grind
def otL(ts:List Tx)(ots:List (Option (Nat×T)))(t:Tx):Option (Nat×T):=(ots[(gF ts t.num).toNat]?).getD none
theorem Lk.ot_at(h:Lk n B w D v o ao ots M)(i)(hi:i<D.ts.length)(e:i<ots.length):otL D.ts ots D.ts[i]=ots[i]:=by
 have g:=h.len;have b:gF D.ts (D.ts[i]).num=i:=Ph hi (by simp) (λa j f=>by
  have c:=(h.each a (by omega)).num;have d:=(h.each i (by omega)).num;have:=BB.1 h.rise a i (by omega) (by omega) f;grind)
 unfold otL;grind
theorem Lk.ot_map(h:Lk n B w D v o ao ots M)(j)(a:j<D.ts.length):(D.ts.eraseIdx j).map (otL D.ts ots)=ots.eraseIdx j:=by
 have e:=h.len;have f:=h.leno;refine FO (by grind) (λb c d=>?_);rw[AE,CH a]at c;simp only[EB,KE];split
 ·exact h.ot_at b (by omega) (by omega)
 ·exact h.ot_at (b+1) (by omega) (by omega)
theorem Lk.ot_mem (h:Lk n B w D v o ao ots M)(c:t∈D.ts):Tr [] D.fs (otL D.ts ots t)/\t.root=rootOf (otL D.ts ots t):=by
 obtain⟨a,b,rfl⟩:=AU c;have d:=h.len;have e:=h.leno;rw[h.ot_at a b (by omega)];exact⟨(h.each a (by omega)).tr,(h.each a (by omega)).root⟩
theorem Lk.ots_mem(h:Lk n B w D v o ao ots M){p}(a:p∈ots):Tr [] D.fs p:=by
 obtain⟨b,c,rfl⟩:=AU a;have d:=h.leno;exact(h.each b (by omega)).tr
theorem Al(h:Lk n B w D v o ao ots M)(C:B<=900000)(x j r)(u:cC M.ts x (some (j,r)))(z)(y:(r.ch=[]/\z=0)\/(r.ch≠[]/\iT r.ch r.oth=true/\z=7)):
  cL 14 #[.p D.d 0,.i x] w λe w'=>e=.returned (.i z)/\∃D',(D'.d=D.d/\D'.β=D.β)/\Fr (fpD D) w w'/\aJ w (fpD D) (fpD D')/\∀i,Lk n (B+1) w' D' v o ao (ots.eraseIdx j) {M with ov:=i,ts:=M.ts.eraseIdx j}:=by
 have F:=h.len;have A:=h.n8;have⟨s,G,a,q,t⟩:=h.hit u;have⟨H,I,J,K,L,N⟩:=a.rise;have E:=(h.bounds.2.2 r t).2.2.1;refine(qFu D x j D.ts[j] w h.db (by omega) s rfl q (by omega) z ?_).mono ?_
 ·rcases y with⟨b,d⟩|⟨b,d,k⟩
  ·simp_all
  ·have f:r.wr=true:=by
    cases f:r.wr with
    |true=>rfl
    |false=>exact absurd (a.ro (by rw[a.wr];exact f)) b
   refine .inr ⟨?_,(a.conf f).2 d,k⟩;exact BR.2 (λe=>b (a.none_iff.1 e))
 ·rintro e w' ⟨rfl,g,c,l,m,p⟩
  exact⟨rfl,D.drop j g c,⟨rfl,rfl⟩,m,p,λi=>h.drop (by omega) l i⟩
end
variable {fs:Fs}
theorem Em {x:En}(h:x.good fs):x.e.size=(x.value.length:Int):=by
 obtain⟨_,_,⟨c,_,d,_⟩|⟨_,a,i,g,e,j,k,_,f⟩⟩:=h
 ·rw[d];unfold En.value;simp_all
 ·have:x.e.over≠0:=λb=>by rw[b]at a;exact absurd a (by decide)
  unfold En.value;rw[AQ this,vE x.ch g i f,e]
section
variable {n B:Nat}{w:World}{D:Db}{v:Nat}{o ao:Option (Nat×T)}{ots:List (Option (Nat×T))}{M:RM}
theorem Ce {p}(h:Tr [] fs p):dH (kvB (aX p))=2+(2 * (aX p).length+ovs (aX p)):=Dn (λb a=>Em (gD h.rooted h.flat b a))
abbrev osL(o ao:Option (Nat×T))(ots:List (Option (Nat×T)))(j:Nat):List (Option (Nat×T)):=[o,ao]++ots.eraseIdx j
theorem Lk.os(h:Lk n B w D v o ao ots M)(j):∀p∈osL o ao ots j,Tr [] D.fs p:=by
 intro p a;rcases AO.1 a with a|a
 ·simp only[AR,FC,KI]at a
  rcases a with rfl|rfl
  ·exact h.store.sure
  ·exact h.store.ahead
 ·exact h.ots_mem ((DG _ _).subset a)
theorem Lk.plan(h:Lk n B w D v o ao ots M)(g:B<=400000)(d:n<=4096){j}(b:j<M.ts.length)(k:j<D.ts.length):rN [] n D.fs o (D.ts[j]).cs (dK n (cQ (osL o ao ots j)))/\∀p∈osL o ao ots j,∀q∈eA p,q ∉ dK n (cQ (osL o ao ots j)):=by
 have⟨l,e,m,r,f,s⟩:=(h.each j b).rise;have a:=h.bounds;have i:=(a.2.2 _ (AB b)).2.2.1;have c:=oO (aX o);rw[h.now]at c;exact qDk h.store.len d (h.os j) (by simp) e f (by omega)
theorem Wq:∀(f:List Tx) (ots:List (Option (Nat×T))) (rs:List RT),f.length=rs.length->ots.length=rs.length->(∀i (h:i<rs.length) (d:i<f.length) (e:i<ots.length),LkT fs f[i] ots[i] rs[i])->tot (λp=>2 * (aX p).length+ovs (aX p)) ots<=tot (λt:RT=>dH t.bg) rs
 |[],[],[],_,_,_=>jU _
 |t :: f,p :: ots,r :: rs,d,e,h3=>by
  have g:=h3 0 (by simp) (by simp) (by simp);have l:=Wq f ots rs (by grind) (by grind) (λi a b c=>h3 (i+1) (by grind) (by grind) (by grind));have j:dH (kvB (aX p))=2+(2 * (aX p).length+ovs (aX p)):=Ce g.tr;have k:kvB (aX p)=r.bg:=g.bg;rw[k]at j;simp only[cG];omega
 |[],_ :: _,[],_,e,_=>by simp at e
 |_ :: _,_,[],d,_,_=>by simp at d
 |[],_,_ :: _,d,_,_=>by simp at d
 |_ :: _,[],_ :: _,_,e,_=>by simp at e
theorem Ak(h:Lk n B w D v o ao ots M)(J:B<=400000)(y:n<=4096)(I:2<=n)(x j r)(a0:cC M.ts x (some (j,r)))(q:r.ch≠[])(S:iT r.ch r.oth=false)(k:j<D.ts.length)(z:(dK n (cQ (osL o ao ots j))).length<(bZ o (D.ts[j]).cs (dK n (cQ (osL o ao ots j)))).2.length):
  n<kI M r/\cL 14 #[.p D.d 0,.i x] w λe w'=>e=.returned (.i 8)/\∃D',(D'.d=D.d/\D'.β=D.β)/\Fr (fpD D) w w'/\aJ w (fpD D) (fpD D')/\∀m,Lk n (B+1) w' D' v o ao (ots.eraseIdx j) {M with ov:=m,ts:=M.ts.eraseIdx j}:=by
 have Y:=h.len;have a6:=h.n8;have Z:=h.leno;have f:j<M.ts.length:=by omega
 obtain⟨H,V⟩:=a0;obtain⟨_,rfl⟩:=AD.1 H;have U:gF D.ts x=j:=by rw[h.idx,V]
 have d:=h.each j f;obtain⟨a9,A,aa,ab,C,ac⟩:=d.rise;have Q:=h.bounds;have a8:=(Q.2.2 _ (AB f)).2.2.1;have l:(M.ts[j]).wr=true:=by
  cases l:(M.ts[j]).wr with
  |true=>rfl
  |false=>exact absurd (d.ro (by rw[d.wr];exact l)) q
 obtain⟨P,_⟩:=h.plan J y f k;have X:∀c∈(D.ts[j]).cs,c.key ∉ (D.ts[j]).ks:=λc R W=>by
  have:=(d.conf l).1 ⟨c,R,W⟩;rw[S]at this;cases this
 have u:=h.ot_map j k;have s:=h.store.len;constructor
 ·have a7:=Zf (K:=[]) y (h.os j) h.store.sure A C z
  have E:kvB (bD (aX o) (D.ts[j]).cs)=(M.ts[j]).ch.foldl eE M.now:=by
   have:=(pQ (eI h.store.sure.rooted) (M.ts[j]).ch (cs:=[]) DW).1;rw[mU (eI h.store.sure.rooted),h.now,<-d.cs]at this;exact this
  have a3:dH ((M.ts[j]).ch.foldl eE M.now)=2+(2 * (bD (aX o) (D.ts[j]).cs).length+ovs (bD (aX o) (D.ts[j]).cs)):=by
   rw[<-E];exact Dn (λx a2=>Em (jW (eI h.store.sure.rooted) A (gD h.store.sure.rooted h.store.sure.flat) C x a2))
  have F:=Ce h.store.sure;rw[h.now]at F;have G:=Ce h.store.ahead;rw[h.ah]at G;have a4:=Wq D.ts ots M.ts Y Z (λi a b c=>h.each i a);have a5:tot (λp=>2 * (aX p).length+ovs (aX p)) (osL o ao ots j)<=(2 * (aX o).length+ovs (aX o))+((2 * (aX ao).length+ovs (aX ao))+tot (λp=>2 * (aX p).length+ovs (aX p)) ots):=by
   have:=tD (λp:Option (Nat×T)=>2 * (aX p).length+ovs (aX p)) ots j (by omega);show tot _ (o :: ao :: ots.eraseIdx j)<=_
   rw[cG,cG];omega
  unfold kI;omega
 ·refine(qFt (K:=[]) (n:=n) D x j D.ts[j] v o ao (otL D.ts ots) w h.db (by omega) k rfl U (BR.2 (λe=>q (d.none_iff.1 e))) X (by omega) h.well h.ver (by have:=h.vB;omega) h.store I h.root h.aroot (λt a1=>?_) (by rw[u,s];exact P) (by rw[u,s];exact z)).mono ?_
  ·obtain⟨a,b⟩:=h.ot_mem ((DG _ _).subset a1)
   exact⟨a.rooted,b⟩
  ·rintro e w' ⟨rfl,g,c,L,N,O⟩
   exact⟨rfl,D.drop j g c,⟨rfl,rfl⟩,N,O,λm=>h.drop f L m⟩
end
structure qKn (M:RM) (j:Nat) (r:RT) (M':RM):Prop where
 now:M'.now=r.ch.foldl eE M.now
 nv:M'.nv=M.nv+1
 ah:M'.ah=M.now
 last:M'.last=M.last
 len:M'.ts.length=(M.ts.eraseIdx j).length
 each:∀i (h:i<(M.ts.eraseIdx j).length) (h':i<M'.ts.length),M'.ts[i].num=(M.ts.eraseIdx j)[i].num/\M'.ts[i].wr=(M.ts.eraseIdx j)[i].wr/\M'.ts[i].bg=(M.ts.eraseIdx j)[i].bg/\M'.ts[i].l=(M.ts.eraseIdx j)[i].l/\M'.ts[i].ch=(M.ts.eraseIdx j)[i].ch/\M'.ts[i].oth=(M.ts.eraseIdx j)[i].oth++r.ch.map (·.key)
section
variable {n B:Nat}{w:World}{D:Db}{v:Nat}{o ao:Option (Nat×T)}{ots:List (Option (Nat×T))}{M:RM}
theorem qBy{d β}(f g):∀(l:List d) (m:List β),l.length=m.length->(∀i (h:i<l.length) (j:i<m.length),f l[i]=g m[i])->tot f l=tot g m
 |[],[],_,_=>rfl
 |[],_ :: _,h,_=>by simp at h
 |_ :: _,[],h,_=>by simp at h
 |x :: l,y :: m,h,he=>by
  have c:=he 0 (by simp) (by simp);simp only[CS]at c;rw[cG,cG,c,qBy f g l m (by simpa using h) (λi a b=>he (i+1) (by simpa using a) (by simpa using b))]
theorem Aj(h:Lk n B w D v o ao ots M)(a2:B<=400000)(am:n<=4096)(H:2<=n)(x j r)(an:cC M.ts x (some (j,r)))(L:r.ch≠[])(ad:iT r.ch r.oth=false)(z:j<D.ts.length)(aq:(bZ o (D.ts[j]).cs (dK n (cQ (osL o ao ots j)))).2.length<=(dK n (cQ (osL o ao ots j))).length):
  cL 14 #[.p D.d 0,.i x] w λe w'=>e=.returned (.i 0)/\∃D' o',(D'.d=D.d/\D'.β=D.β)/\Fr (fpD D) w w'/\aJ w (fpD D) (fpD D')/\∀M',qKn M j r M'->Lk n (B+1) w' D' (v+1) o' o (ots.eraseIdx j) M':=by
 have ba:=h.len;have b4:=h.n8;have bb:=h.leno;have u:j<M.ts.length:=by omega
 have⟨a1,ai⟩:=an;obtain⟨_,rfl⟩:=AD.1 a1;have ah:gF D.ts x=j:=by rw[h.idx,ai]
 have m:=h.each j u;have⟨be,bf,bg,bh,bi,bj⟩:=m.rise;have b7:=(h.bounds.2.2 _ (AB u)).2.2.1;have F:(M.ts[j]).wr=true:=by
  cases F:(M.ts[j]).wr with
  |true=>rfl
  |false=>exact absurd (m.ro (by rw[m.wr];exact F)) L
 have⟨a6,a9⟩:=h.plan a2 am u z;have J:Vw [] n D.fs o (D.ts[j]).cs (dK n (cQ (osL o ao ots j))):=⟨a6,aq⟩;have al:∀c∈(D.ts[j]).cs,c.key ∉ (D.ts[j]).ks:=λc ac ak=>by
  have:=(m.conf F).1 ⟨c,ac,ak⟩;grind
 have P:=h.ot_map j z;have O:=h.store.len;have bd:=h.vB;have⟨V,aw,ax,W,X⟩:=wQ h.store J (by omega) H;refine(qFs (K:=[]) (n:=n) D x j D.ts[j] v o ao (otL D.ts ots) w h.db (by omega) z rfl ah (BR.2 (λe=>L (m.none_iff.1 e))) al (by omega) h.well h.failed h.ver (by omega) h.store H h.root h.aroot (λi l=>?_) (by rw[P,O];exact J)).mono ?_
 ·obtain⟨a,b⟩:=h.ot_mem ((DG _ _).subset l)
  exact⟨a.rooted,b⟩
 ·rintro e w' ⟨rfl,D',g,c,av,G,a3,N,I,a4,a5⟩
  rw[P,O]at N;subst N;refine⟨rfl,{(D.drop j g c).made av (bZ o (D.ts[j]).cs (dK n (cQ (osL o ao ots j)))).2 (v+1) (rootOf (bZ o (D.ts[j]).cs (dK n (cQ (osL o ao ots j)))).1) with ts:=G},(bZ o (D.ts[j]).cs (dK n (cQ (osL o ao ots j)))).1,⟨rfl,rfl⟩,a4,a5,λM' d=>?_⟩;have Y:kvB (aX (bZ o (D.ts[j]).cs (dK n (cQ (osL o ao ots j)))).1)=(M.ts[j]).ch.foldl eE M.now:=by
   rw[qJc W];have:=(pQ (eI h.store.sure.rooted) (M.ts[j]).ch (cs:=[]) DW).1;rw[mU (eI h.store.sure.rooted),h.now,<-m.cs]at this;exact this
  have ay:(M.ts.eraseIdx j).length=M.ts.length-1:=CH u;have az:(D.ts.eraseIdx j).length=D.ts.length-1:=CH z;have b0:(ots.eraseIdx j).length=ots.length-1:=CH (by omega);have b6:=d.len;have b5:=I.len;have⟨S,b1,b2,a0,b3⟩:=h.few;have bc:=tD (λi:RT=>i.ch.length) M.ts j u;have b8:=sT (M.ts[j]).ch M.now;have b9:=h.last1;have R:∀i∈M'.ts,∃s∈M.ts,i.num=s.num/\i.bg=s.bg/\i.oth=s.oth++(M.ts[j]).ch.map (·.key):=λi l=>by
   obtain⟨f,C,rfl⟩:=AU l;have⟨q,_,p,_,_,t⟩:=d.each f (by omega) C;grind
  refine⟨a3,h.well,h.failed,rfl,rfl,h.root,V,by rw[d.nv,h.nv];rfl,by rw[d.last];exact h.last,by rw[d.last];exact h.last0,by rw[d.last];omega,by omega,by rw[Y,d.now],by rw[d.ah];exact h.now,by grind,by omega,by omega,λf C=>?_,?_,λi l=>?_,S+(M.ts[j]).ch.length,by rw[d.now];omega,by rw[d.ah];omega,λi l=>by grind,?_⟩
  ·have ag:f<(M.ts.eraseIdx j).length:=by omega
   have af:f<(D.ts.eraseIdx j).length:=by omega
   have aj:f<(ots.eraseIdx j).length:=by omega
   have⟨q,T,p,U,y,t⟩:=d.each f ag C;have⟨bk,au,l,ar⟩:=I.each f af;have k:LkT D.fs (D.ts.eraseIdx j)[f] (ots.eraseIdx j)[f] (M.ts.eraseIdx j)[f]:=by
    simp only[KE];split
    ·exact h.each f (by omega)
    ·exact h.each (f+1) (by omega)
   show LkT _ (G[f]'_) _ _
   rw[l];refine⟨by rw[q];exact k.num,by rw[T];exact k.wr,X _ k.tr (a9 _ (GM _ (AB aj))),k.root,by rw[p];exact k.bg,by rw[y];exact k.cs,by rw[y];exact k.good,by rw[y,p,U];exact k.l,λae=>by rw[y];exact k.ro ae,λQ A=>?_⟩;rw[t,AO];show A∈au↔_
   rw[ar Q A,k.lost Q A,m.keys A]
  ·refine BB.2 (λa b a7 ab a8=>?_)
   rw[(d.each a (by omega) a7).1,(d.each b (by omega) ab).1];exact (BB.1 (h.rise.sublist (DG M.ts j)) a b (by omega) (by omega) a8)
  ·have⟨s,E,q,_,_⟩:=R i l
   rw[q,d.last];exact h.le s E
  ·have Z:tot (λi:RT=>i.ch.length) M'.ts=tot (λi:RT=>i.ch.length) (M.ts.eraseIdx j):=qBy _ _ _ _ (by omega) (λf a b=>by rw[(d.each f b a).2.2.2.2.1])
   rw[Z];omega
end
open Go.Shelf
attribute [local go_sem] CM
theorem aO.still{w w' c D}(h:aO w c D)(d:aO w' c D)(a:Fr (Bl.one D.d) w w'):bW w w' :=
 ⟨a.os,a.tape,a.output,a.size,λb f=>by
  by_cases e:b=D.d
  ·subst e;rw[h.box,d.box]
  ·exact a.block b f (λh=>e h)⟩
theorem qJw{xs j x}(h:xs[j]?=some x):(eZ xs)[j * 2]?=some (.string x.e.key)/\(eZ xs)[j * 2+1]?=some (.string ⟨x.value.toArray⟩):=by
 unfold eZ;induction xs generalizing j with
 |nil=>simp at h
 |cons y xs ih =>
  cases j with
  |zero=>simp at h;subst h;simp
  |succ j =>
   simp only[JQ]at h;have⟨b,c⟩:=ih h;have a:(j+1) * 2=j * 2+2:=by omega
   rw[a];simp only[AJ];constructor
   ·rw[BJ (by simp)];simpa using b
   ·rw[BJ (by simp)];simpa using c
theorem qFk(D x xs lo hi b0 b1 b2 b3 Rd w)(h:aO w 0 D)(hsm:xs.length<=1000000)(hScan:∀W,aO W 0 D->cL 61 #[.p D.d 0,.i x,.string lo,.string hi,.i ((9223372036854775807:Nat):Int)] W λe w'=>∃v z,e=.returned (.tuple #[v,.i z])/\aO w' 0 D/\Fr (Bl.one D.d) W w'/\w'.ownsRow 0 71 2 v xs.length (eZ xs)/\∀k,v.ownBlock=some k->W.heap.size<=k)(x0:w.heap[b0]?=some (.cells #[.p D.d 0] 29))(x1:w.heap[b1]?=some (.cells #[.i x] 3))(x2:w.heap[b2]?=some (.cells #[.string lo] 9))(x3:w.heap[b3]?=some (.cells #[.string hi] 9))(r0:Rd b0)(r1:Rd b1)(r2:Rd b2)(r3:Rd b3)(rD:∀k,fpD D k->Rd k):
  oD Tryz.prog 106 #[.p b0 0,.p b1 0,.p b2 0,.p b3 0] Sa xs Rd w:=by
 intro l J Jx Y W hon hRd sJ lJ sJx lJx hY h0;refine JS Tryz.func106 rfl trivial ?_ rfl;simp only[Tryz.ntmps106,jA,jB,jN,Nat.reduceAdd,Nat.reduceSub,jR,jO,jP,jT,jE,jF];have lY:=lJ [] Y W h0;have hD:=h.on (hon.mono rD);have c0:=bL (hon.heap x0 r0);have c1:=bL (hon.heap x1 r1);have c2:=bL (hon.heap x2 r2);have c3:=bL (hon.heap x3 r3);have hSc:=hScan W hD;gi_wp2_with (refine⟨trivial,rfl,?_⟩;gi_at_call 61;refine(BK.2 hSc).mono ?_;rintro e W1 ⟨v,sz,rfl,hD1,hF1,hrow,hnew⟩;obtain⟨ra,rc,rfl⟩:=aF hrow);have B1:=hD.still hD1 hF1;have HN:Hid (∀k,(Value.slice ra xs.length rc).ownBlock=some k->W.heap.size<=k):=hnew;have HB:Hid (bW W W1):=B1;have HR1:Hid (W1.ownsRow 0 71 2 (.slice ra xs.length rc) xs.length (eZ xs)):=hrow;clear hD hD1 hF1 hnew B1 hrow c0 c1 c2 c3;gi_wp2;gi_loopw [20] (λi wr=>∃(j:Nat) (Yr:Bl),j<=xs.length/\i=.i j/\J (xs.take j) Yr wr/\Fr Y W wr/\aJ W Y Yr/\wr.ownsRow 0 71 2 (.slice ra xs.length rc) xs.length (eZ xs)/\∀k,(Value.slice ra xs.length rc).ownBlock=some k->¬Yr k) (λi _=>xs.length-(intOf i).toNat)
 case atStart =>
  exact⟨0,Y,AH _,rfl,by simpa using sJ _ _ _ _ h0 (vV HB.out lY),AA HB.out,CQ _ _,HR1.out,λk hk hy=>by have:=HN.out k hk;have:=lY k hy;omega⟩
 case round =>
  obtain⟨j,Yr,hj,rfl,hJ,hF,hG,hrw,hno⟩:=hrel;by_cases hlt:j<xs.length
  ·have hji:(j:Int)<(xs.length:Int):=by omega
   have pA:=jQ hlt;obtain⟨y,hy0⟩:=nM (xs[j]);rw[hy0]at pA;obtain⟨q1,q2⟩:=qJw pA;obtain⟨g,hg,hglt,hgc,hgv⟩:=kP hrw q1;obtain⟨g',hg',_,_,hgv'⟩:=kP hrw q2;subst hg;cases hg'
   obtain⟨w1,hw1,-,z1,-⟩:=al1 wr (.cells #[.string y.e.key,.string ⟨y.value.toArray⟩] 71);have f1r:Fr Bl.none wr w1:=hw1▸(AF _ wr).alloc _;have f1:=hF.trans (f1r.mono (λ_ h=>h.elim));have lYr:=lJ _ _ _ hJ;have o1:=f1r.on (λk hk=>⟨lYr k hk,λh=>h⟩);obtain⟨fn,tmps,assign,body,hyy,hRy⟩:=hY _ y _ #[.string y.e.key,.string ⟨y.value.toArray⟩] Bl.none Yr w1 (rT pA) (sJ _ _ _ _ hJ o1) rfl (λ_ h=>h.elim) f1 hG;obtain⟨m0,m1⟩:=bS z1;have row1:=aS hrw (f1r.on (Z:=λk=>Value.ownBlock _=some k) (λk hk=>⟨aM hrw hk,λh=>h⟩)) (λk hk=>hk);gi_wp2;refine⟨rfl,(dM hRy).mono ?_⟩;have HT:Hid (xs.take (j+1)=xs.take j++[y]):=nG pA;rintro e W3 (⟨rfl,Y3,hJ3,hF3,hG3⟩|⟨rfl,Y3,hJ3,hF3,hG3⟩)
   ·have F3:Fr Y W W3:=f1.grow hF3 hG
    have G3:aJ W Y Y3:=hG.trans f1.size hG3;have row3:W3.ownsRow 0 71 2 (.q g xs.length rc) xs.length (eZ xs):=aS row1 (hF3.on (Z:=λk=>Value.ownBlock _=some k) (λk hk=>⟨aM row1 hk,hno k hk⟩)) (λk hk=>hk);have n3:∀k,(Value.q g xs.length rc).ownBlock=some k->¬Y3 k:=λk hk hy=>by
     rcases hG3 k hy with h'|h'
     ·exact hno k hk h'
     ·have:=aM row1 hk;omega
    clear hJ hgv hgv' m0 m1 z1;gi_wp2;go_roundw
    case rel=>exact⟨j+1,Y3,by omega,by go_num,by rw[HT.out];exact hJ3,F3,G3,row3,n3⟩
    case measure=>simp[intOf];omega
   ·clear hJ hgv hgv' m0 m1 z1
    gi_wp2;refine BI (EG rfl _ _ _) rfl ?_;refine⟨⟨_,rfl⟩,Y3,f1.grow hF3 hG,hG.trans f1.size hG3,.inr ⟨_,?_,?_,hJ3⟩⟩
    ·rw[<-HT.out];exact JL _ _
    ·simp
  ·obtain rfl:j=xs.length:=by omega
   have HJ:Hid (J xs Yr wr):=by rw[BG]at hJ;exact hJ
   gi_wp2;go_end0;exact⟨⟨_,rfl⟩,Yr,hF,hG,.inl HJ.out⟩
theorem qAz(d x lo hi)(o:lo.size<=2000000)(A:hi.size<=2000000)(w):
  cL 65 #[.p d 0,.i x,.string lo,.string hi] w λe w' =>
   e=.returned (.func (.func 106) #[] #[.p w.heap.size 0,.p (w.heap.size+1) 0,.p (w.heap.size+1+1) 0,.p (w.heap.size+1+1+1) 0]) /\
   w'.heap[w.heap.size]?=some (.cells #[.p d 0] 29)/\w'.heap[w.heap.size+1]?=some (.cells #[.i x] 3)/\w'.heap[w.heap.size+1+1]?=some (.cells #[.string lo] 9)/\w'.heap[w.heap.size+1+1+1]?=some (.cells #[.string hi] 9)/\bW w w':=by
 obtain⟨a,g,t,D,E,j,k,-⟩:=al4 w (.cells #[.p d 0] 29) (.cells #[.i x] 3) (.cells #[.string lo] 9) (.cells #[.string hi] 9); have l:Hid (∀X,bW a X->X.c (w.heap.size+1+1) 0=some (.string lo)/\X.c (w.heap.size+1+1+1) 0=some (.string hi)/\X.setCell ⟨w.heap.size+1+1,0,none⟩ (.string lo)=X/\X.setCell ⟨w.heap.size+1+1+1,0,none⟩ (.string hi)=X/\(∀p,X.frozen? ⟨w.heap.size+1+1,p,none⟩=false)/\∀p,X.frozen? ⟨w.heap.size+1+1+1,p,none⟩=false):=λX c=>by
  have q:=(c.block _ (gL j)).trans j;have r:=(c.block _ (gL k)).trans k;exact⟨bL q,bL r,eD q rfl,eD r rfl,aB q,aB r⟩
 have f:Hid (∀(s:ByteArray) X,s.size<=2000000->cL 41 #[.string s] X λe w'=>e=.returned (.string s)/\bW X w'):=λs X P=>qN s (by omega) X;have b:bW a a.drew:=(AC _ _).drew;have⟨h,i,B,C,v,y⟩:=l a.drew b;have n:=f lo a.drew o;have z:=f hi a.drew A;have F:Hid (∀X,bW a X->X.heap[w.heap.size]?=some (.cells #[.p d 0] 29)/\X.heap[w.heap.size+1]?=some (.cells #[.i x] 3)/\X.heap[w.heap.size+1+1]?=some (.cells #[.string lo] 9)/\X.heap[w.heap.size+1+1+1]?=some (.cells #[.string hi] 9)/\bW w X):=λX c =>
  ⟨(c.block _ (gL D)).trans D,(c.block _ (gL E)).trans E,(c.block _ (gL j)).trans j,(c.block _ (gL k)).trans k,t.trans (c.mono t.size)⟩
 go_enter Tryz.func65,Tryz.ntmps65;go_wp2;go_region_held3 (λX=>X.c (w.heap.size+1+1) 0=some (.string lo)/\X.c (w.heap.size+1+1+1) 0=some (.string hi))
  ((first|(with_reducible exact⟨h,i⟩)|(simp[h,i])))
  (first
   |(go_at_call 41;(with_reducible apply jC n);rintro e m ⟨rfl,N⟩;have b:=b.trans N;have⟨h,i,B,C,v,y⟩:=l m b;have z:=f hi m A;have n:=f lo m o)
   |(go_at_call 41;(with_reducible apply jC z);rintro e u ⟨rfl,O⟩;have b:=b.trans (O.mono b.size);have⟨h,i,B,C,v,y⟩:=l u b;have n:=f lo u o))
 all_goals
  have⟨I,J,K,L,M⟩:=F _ b;go_wp2;go_ret;exact⟨rfl,I,J,K,L,M⟩
def mkE(x:ByteArray×ByteArray):En:=⟨⟨x.1,x.2,x.2.size,0⟩,[]⟩
theorem Ia(x):(⟨(mkE x).value.toArray⟩:ByteArray)=x.2:=by
 unfold En.value mkE;rw[AW rfl]
theorem Cy:∀(l:KV),eZ (l.map mkE)=aG l
 |[]=>rfl
 |x :: l=>by
  have:=Cy l;simp only[eZ,aG,BD,AJ,Ia]at this⊢;rw[this];rfl
section
variable {n B:Nat}{w:World}{D:Db}{v:Nat}{o ao:Option (Nat×T)}{ots:List (Option (Nat×T))}{M:RM}
theorem Hl(r lo hi most)(h:∀j t,r=some (j,t)->t.l.length<=B):(cR r lo hi most).1.length<=B:=by
 cases r with
 |none=>exact AH _
 |some p =>
  have⟨j,t⟩:=p;have:=h j t rfl;simp only[cR];split
  ·have a:(rL t.l lo hi most.toNat).Sublist t.l:=((FK _ _).trans (List.takeWhile_sublist _)).trans (EX _ _)
   grind
  simp
theorem qIa(h:Lk n B w D v o ao ots M)(g:B<=900000)(x lo hi r)(f:cC M.ts x r)(a b c d Rd)(C:w.heap[a]?=some (.cells #[.p D.d 0] 29))(E:w.heap[b]?=some (.cells #[.i x] 3))(F:w.heap[c]?=some (.cells #[.string lo] 9))(G:w.heap[d]?=some (.cells #[.string hi] 9))(s:Rd a)(t:Rd b)(u:Rd c)(y:Rd d)(z:∀k,fpD D k->Rd k):
  oD Tryz.prog 106 #[.p a 0,.p b 0,.p c 0,.p d 0] Sa ((cR r lo hi 9223372036854775807).1.map mkE) Rd w:=by
 refine qFk D x _ lo hi a b c d Rd w h.db ?_ (λW m=>?_) C E F G s t u y z
 ·rw[AE]
  have:=Hl (B:=B) r lo hi 9223372036854775807 (λH A e=>by
   subst e;exact(h.bounds.2.2 A (BL f.1)).2.1)
  omega
 ·apply(Ka (h.more m (jU B)) g x lo hi 9223372036854775807 (by omega) r f).mono;rintro e w' ⟨vl,rfl,i,j,q,p⟩;exact⟨vl,_,rfl,i,j,by rw[AE,Cy];exact q,p⟩
end
variable {K:Bl} {M:RM} {q:Nat} {w:World}
theorem qDv(w):cL 11 #[.pointer none] w λe w'=>e=.returned (.tuple #[.pointer none,.i 1])/\w'=w:=by
 go_enter Tryz.func11,Tryz.ntmps11;go_wp2;go_ret2;exact⟨rfl,rfl⟩
theorem qDw(β sv lv fs w)(b:aH w β sv lv fs)(d:fs.safe.length<40):cL 11 #[.p β 0] w λe w'=>e=.returned (.tuple #[.pointer none,.i 1])/\w'=w:=by
 have c:(fs.safe.length:Int)<40:=by omega
 go_enter Tryz.func11,Tryz.ntmps11;go_wp2_with (go_at_call 31;(with_reducible apply jC (mS β sv lv fs w b));rintro e w' ⟨rfl,f⟩;subst w');go_ret2;exact⟨rfl,rfl⟩
theorem Km{n v B fs o ao}(S:lD [] n fs v o ao)(z:40<=n)(i:fs.well)(β sv lv w)(F:aH w β sv lv fs)(G:v<=B)(x:(aX o).length<=B)(y:(aX ao).length<=B):
  cL 11 #[.p β 0] w λe w'=>∃D:Db,e=.returned (.tuple #[.p D.d 0,.i 0])/\D.β=β/\D.sv=sv/\D.fs=fs/\Fr (fpF β sv lv) w w'/\aJ w (fpF β sv lv) (fpD D)/\∀M:RM,M.ts=[]->M.last=0->M.nv=v->M.now=kvB (aX o)->M.ah=kvB (aX ao)->Lk n B w' D v o ao [] M:=by
 apply(qDx S z i β sv lv w F).mono;rintro e w' ⟨D,rfl,A,l,m,d,p,q,r,s,t,u,C,E⟩;refine⟨D,rfl,l,m,d,C,E,λM a f H j k=>?_⟩;have h:∀c∈M.ts,False:=λc b=>by grind
 exact{db:=A,well:=by grind,failed:=s,ver:=p,root:=q,aroot:=r,store:=by grind,nv:=H,last:=by rw[t,f],last0:=by omega,last1:=by rw[f];omega,vB:=G,now:=j.symm,ah:=k.symm,len:=by rw[u,a];rfl,leno:=by rw[a];rfl,n8:=by grind,each:=λI g=>(by grind),rise:=by simp_all,le:=λc b=>(h c b).elim,few:=⟨B,by rw[j,oO];exact x,by rw[k,oO];exact y,λc b=>(h c b).elim,by rw[a];exact jU _⟩}
theorem nU(β sv lv fs w)(h:aH w β sv lv fs):
  cL 50 #[.p β 0] w λe w'=>e=.returned (.i fs.failed)/\w'=w:=by
 have⟨a,b,c,d,f⟩:=cU h.box;go_enter Tryz.func50,Tryz.ntmps50;go_wp2;go_ret;simp
theorem qHk(q β sv lv fs w)(b:aH w β sv lv fs)(c:(fs.life==0)=false)(d:w.c q 0=some (.p β 0))(f:w.c q 12=some (.bool false))(z):
  cL 60 #[.p q 0,.i z] w λe w'=>e=.returned (.bool false)/\w'=w:=by
 have a:=iL β sv lv fs w b;rw[c]at a;cases h9:z==9<;>cases h10:z==10
 all_goals go_enter Tryz.func60,Tryz.ntmps60
 all_goals go_wp2_with (go_at_call 49;(with_reducible apply jC a);rintro e w' ⟨rfl,g⟩;subst w')
 all_goals refine BI (v:=.bool false) ?_ rfl ⟨rfl,rfl⟩
 all_goals simp[results,Tryz.results60,go_sem,h9,h10]
theorem Wv:∀(a:List RT) (j:Nat) (t t':RT),a[j]?=some t->t'.num=t.num->t'.wr=t.wr->t'.vb=t.vb->t'.bv=t.bv->t'.vl=t.vl->t'.vc=t.vc->(a.flatMap RT.cells).set (j * 7+6) t'.vo=(a.set j t').flatMap RT.cells
 |[],_,_,_,h,_,_,_,_,_,_=>by simp at h
 |x :: a,0,t,t',h,h1,h2,h3,h4,h5,h6=>by
  simp_all
 |x :: a,j+1,t,t',h,h1,h2,h3,h4,h5,h6=>by
  have c:=Wv a j t t' (by grind) h1 h2 h3 h4 h5 h6;rw[jX,AJ,AJ,<-c];grind
def RT.lost(t:RT)(key:ByteArray)(vo:Value):RT:={t with oth:=t.oth++[key],vo:=vo}
theorem aZ.lose {w X3 d}(h:aZ w K q M){j t}(u:M.ts[j]?=some t){g c}(e:M.ov=.q g M.ts.length c)(key){b:Value}(m:fB 9 1 t.vo t.oth.length (t.oth.map .string) [.string key] 1 w b X3)(E:d=X3.setCell ⟨g,j * 7+6,none⟩ b):
  aZ d K q {M with ts:=M.ts.set j (t.lost key b)}/\Fr (fpR q M) w d/\∀k,Bl.or K (fpR q {M with ts:=M.ts.set j (t.lost key b)}) k->Bl.or K (fpR q M) k\/w.heap.size<=k:=by
 obtain⟨T,_⟩:=AD.1 u;have o:=BL u;have l:=h.each t o;have y:M.ov.ownBlock=some g:=by rw[e];rfl
 have U:=h.row.1;have L:=m.keeps h.row (dJ h.row l.oth (by decide));have G:Fr (Bl.one g) X3 d:=E▸(AF (Bl.one g) X3).setCell (p:=⟨g,j * 7+6,none⟩) (.inl rfl) _;have S:d.ownsRow 0 119 7 M.ov M.ts.length ((M.ts.set j (t.lost key b)).flatMap RT.cells):=by
  have:=dI (e▸L) (j * 7+6) (by omega) b;rw[E,e,<-Wv M.ts j t (t.lost key b) u rfl rfl rfl rfl rfl rfl];exact this
 have I:∀{r:TypeId}{D n:Nat}{v:Value}{C:List Value},X3.ownsRow 0 r D v n C->r≠119->d.ownsRow 0 r D v n C:=λ{r D n v C} x P=>aS x (G.on (Z:=λk=>v.ownBlock=some k) (λk a=>⟨aM x a,λf=>by
  simp only[Bl.one]at f;rcases dJ x L P with i|i
  ·grind
  grind⟩)) (λk a=>a)
 have Q:=I m.row (by decide);have F:Fr (λk=>k=g\/fpX t k) w d:=(m.fr.mono (λk a=>.inl (.inr (.inr a)))).trans (G.mono (λk a=>.inl (.inl a)));have J:=F.on (λk a=>⟨(h.kp k a).1,λB=>by
  rcases B with f|B
  ·exact(h.kp k a).2.2.1 (by rw[y,f])
  ·exact(h.kp k a).2.2.2 t o B⟩)
 have A:∀k,fpX (t.lost key b) k->fpX t k\/w.heap.size<=k:=λk a=>by
  rcases a with a|a
  ·exact .inl (.inl a)
  ·exact(m.lies k a).imp .inr id
 have R:=h.retx (t':=t.lost key b) (K':=K) u e (λk a=>.inl a) (λk a=>a) F S ⟨l.bg.on J,l.l.on J,I (m.keeps l.ch (dJ l.ch l.oth (by decide))) (by decide),by simpa[RT.lost] using Q⟩ A (λk a=>jY (h.kp k a).1 F.size) (λk a H=>by
  rcases A k a with i|i
  ·exact(h.kp k H).2.2.2 t o i
  ·have:=(h.kp k H).1;omega)
 refine⟨R,F.mono (λk a=>.inl ?_),λk a=>?_⟩
 ·rcases a with f|a
  ·exact .inr (.inl (by rw[y,f]))
  ·exact .inr (.inr ⟨t,o,a⟩)
 ·rcases a with a|rfl|a|⟨s,z,a⟩
  ·exact .inl (.inl a)
  ·exact .inl (.inr (.inl rfl))
  ·exact .inl (.inr (.inr (.inl a)))
  ·rcases EA z with z|rfl
   ·exact .inl (.inr (.inr (.inr ⟨s,z,a⟩)))
   ·exact(A k a).imp (λO=>.inr (.inr (.inr ⟨t,o,O⟩))) id
theorem aZ.renow (h:aZ w K q M){v L}(y:w.ownsRow 0 71 2 v L.length (aG L))(u:∀k,v.ownBlock=some k->¬fpR q M k)(z){w':World}(g:Fr (Bl.one q) w w')(t:w'.heap[q]?=some ({M with va:=M.vn,av:=M.nv,ah:=M.now,vn:=v,nv:=z,now:=L}:RM).obj):
  aZ w' (λk=>K k\/v.ownBlock=some k) q {M with va:=M.vn,av:=M.nv,ah:=M.now,vn:=v,nv:=z,now:=L}:=by
 have m:=g.on (λk a=>⟨(h.kp k a).1,λb=>(h.kp k a).2.1 b⟩);have e:∀{c:TypeId}{r n:Nat}{f:Value}{p:List Value},w.ownsRow 0 c r f n p->c≠43->w'.ownsRow 0 c r f n p:=λ{c r n f p} j x=>aS j (g.on (Z:=λk=>f.ownBlock=some k) (λk a=>⟨aM j a,λs=>by simp only[Bl.one]at s;subst s;exact aQ j h.box (λb=>x b.symm) a⟩)) (λk a=>a);have v':=e y (by decide);refine⟨t,e h.row (by decide),(KM v').mono (λk a=>.inr a),(h.now.on m).mono (λk a=>.inl a),λo l=>?_,h.apart,λk a=>?_⟩
 ·have d:=h.each o l
  exact⟨(d.bg.on m).mono (λk a=>.inl a),(d.l.on m).mono (λk a=>.inl a),e d.ch (by decide),e d.oth (by decide)⟩
 ·rcases a with a|a
  ·exact⟨jY (h.kp k a).1 g.size,(h.kp k a).2⟩
  ·have i:=u k a
   exact⟨aM v' a,λb=>i (.inl b),λb=>i (.inr (.inl b)),λo l A=>i (.inr (.inr ⟨o,l,A⟩))⟩
theorem lR {a b C:Bl}(h:∀k,a k->¬C k)(e:∀k,C k->k<w.heap.size)(f:∀k,b k->a k\/w.heap.size<=k):∀k,b k->¬C k:=λk g d=>by
 grind
theorem aZ.aside {w w' K Y}(h:aZ w K q M)(b:Fr Y w w')(c:∀k,Y k->¬Bl.or K (fpR q M) k):aZ w' K q M:=h.on (b.on (λk a=>⟨h.lies k a,λd=>c k d a⟩))
theorem aO.aside{w w' Y D}(h:aO w 0 D)(b:Fr Y w w')(c:∀k,Y k->¬fpD D k):aO w' 0 D:=h.on (b.on (λk a=>⟨h.lies k a,λd=>c k d a⟩))
structure Wd (n B:Nat) (w:World) (q:Nat) (Bk K:Bl) (D:Db) (v:Nat) (o ao:Option (Nat×T)) (ots:List (Option (Nat×T))) (M:RM):Prop where
 ref:aZ w K q M
 lk:Lk n B w D v o ao ots M
 f:M.f=.pointer (some ⟨D.β,0,none⟩)
 x:M.x=.pointer (some ⟨D.d,0,none⟩)
 twice:M.p2=.bool false
 broken:M.p3=.bool false
 spoiled:M.p4=.bool false
 meta':M.p5=.bool false/\M.p6=.slice none 0 0/\M.p7=.slice none 0 0/\M.p8=.slice none 0 0
 apart:∀k,fpD D k->¬Bl.or K (fpR q M) k/\¬Bk k
 book:∀k,Bk k->k<w.heap.size/\¬Bl.or K (fpR q M) k
def Lw(n B:Nat)(w:World)(q:Nat)(Bk:Bl)(vp:Value):Prop:=∃K D v o ao ots M,Wd n B w q Bk K D v o ao ots M/\M.p9=vp
section
variable {n B:Nat}{w w':World}{q:Nat}{Bk K:Bl}{D:Db}{v:Nat}{o ao:Option (Nat×T)}{ots:List (Option (Nat×T))}{M:RM}
theorem Wd.still(h:Wd n B w q Bk K D v o ao ots M)(e:aO w' 0 D)(c:Fr (Bl.one D.d) w w'){B'}(d:B<=B'):Wd n B' w' q Bk K D v o ao ots M :=
 ⟨h.ref.aside c (λb a=>by simp only[Bl.one]at a;subst a;exact(h.apart _ (.inl rfl)).1),h.lk.more e d,h.f,h.x,h.twice,h.broken,h.spoiled,h.meta',h.apart,λb a=>⟨jY (h.book b a).1 c.size,(h.book b a).2⟩⟩
theorem Wd.below(h:Wd n B w q Bk K D v o ao ots M)(a:bW w w'):Wd n B w' q Bk K D v o ao ots M :=
 ⟨h.ref.below a,h.lk.more (h.lk.db.on (vV a h.lk.db.lies)) (jU _),h.f,h.x,h.twice,h.broken,h.spoiled,h.meta',h.apart,λc b=>⟨jY (h.book c b).1 a.size,(h.book c b).2⟩⟩
theorem Wd.both(h:Wd n B w q Bk K D v o ao ots M){d D' K' M' B' v' o' ao' ots'}(z:D'.d=D.d)(E:D'.β=D.β)(x:Fr (fpD D) w d)(j:aJ w (fpD D) (fpD D'))(e:Lk n B' d D' v' o' ao' ots' M')(y:aZ w' K' q M')(i:Fr (fpR q M) d w')(l:∀k,Bl.or K' (fpR q M') k->Bl.or K (fpR q M) k\/d.heap.size<=k)(t:M'.f=M.f)(u:M'.x=M.x)(p:M'.p2=M.p2)(r:M'.p3=M.p3)(s:M'.p4=M.p4)(b:M'.p5=M.p5/\M'.p6=M.p6/\M'.p7=M.p7/\M'.p8=M.p8/\M'.p9=M.p9):Lw n B' w' q Bk M.p9:=by
 have F:=x.size;have G:=i.size;have C:=e.db.lies;have g:=lR (w:=w) (λk a=>(h.apart k a).1) h.ref.lies j;refine⟨K',D',v',o',ao',ots',M',⟨y,e.more (e.db.aside i (λk a A=>g k A (.inr a))) (jU _),by rw[t,h.f,E],by rw[u,h.x,z],by rw[p];exact h.twice,by rw[r];exact h.broken,by rw[s];exact h.spoiled,by rw[b.1,b.2.1,b.2.2.1,b.2.2.2.1];exact h.meta',λk a=>⟨λf=>by grind,(lR (w:=w) (λk a=>(h.apart k a).2) (λk a=>(h.book k a).1) j) k a⟩,λk a=>⟨by have:=(h.book k a).1;omega,λf=>?_⟩⟩,b.2.2.2.2⟩
 ·rcases l k f with c|c
  ·exact(h.book k a).2 c
  ·have:=(h.book k a).1;omega
end
structure OpV where
 kind:Int
 tx:Int
 p:ByteArray
 q:ByteArray
 n:Int
 wr:Bool
 ka:Option Addr
 kn:Nat
 kc:Nat
abbrev OpV.cells(o:OpV):Array Value:=#[.int .i64 o.kind,.int .i64 o.tx,.string o.p,.string o.q,.int .i64 o.n,.bool o.wr,.slice o.ka o.kn o.kc]
section
variable {n B:Nat}{w:World}{q:Nat}{Bk K:Bl}{D:Db}{v:Nat}{o ao:Option (Nat×T)}{ots:List (Option (Nat×T))}{M:RM}
theorem Wd.box(h:Wd n B w q Bk K D v o ao ots M)(e):Wd n B (w.alloc e) q (Bl.or Bk (Bl.one w.heap.size)) K D v o ao ots M:=by
 have f:bW w (w.alloc e):=bA _ _;have d:=h.below f;refine⟨d.ref,d.lk,h.f,h.x,h.twice,h.broken,h.spoiled,h.meta',λc a=>⟨(h.apart c a).1,λb=>?_⟩,λc a=>?_⟩
 ·rcases b with b|b
  ·exact(h.apart c a).2 b
  ·simp only[Bl.one]at b;subst b;have:=h.lk.db.lies _ a;omega
 ·rcases a with a|a
  ·exact d.book c a
  ·simp only[Bl.one]at a;subst a;exact⟨by simp,λb=>by have:=h.ref.lies _ b;omega⟩
theorem Wd.less(h:Wd n B w q Bk K D v o ao ots M){b}(c:∀k,b k->Bk k):Wd n B w q b K D v o ao ots M:=⟨h.ref,h.lk,h.f,h.x,h.twice,h.broken,h.spoiled,h.meta',λk a=>⟨(h.apart k a).1,λd=>(h.apart k a).2 (c k d)⟩,λk a=>h.book k (c k a)⟩
theorem qFm(h:Wd n B w q Bk K D v o ao ots M)(hB:B<=400000)(x key r)(ho:cC M.ts x r):
  cL 71 #[.p D.d 0,.i x,.string key] w λe w1=>e=.returned (.i (iW r key))/\aZ w1 K q M/\On Bk w w1/\w.heap.size<=w1.heap.size/\(∃D1,D1.β=D.β/\aO w1 0 D1/\D1.fs.well/\∀k,fpD D1 k->¬Bl.or K (fpR q M) k/\¬Bk k) /\
   ∀X,bW w1 X->cL 73 #[.p q 2,.i x,.string key] X λe w'=>e=.returned (.i (iW r key))/\On Bk w w'/\Lw n (B+1) w' q Bk M.p9:=by
 have hb:=h.lk.bounds;have h8:=h.lk.n8;apply(qJj h.lk (by omega) x key r ho).mono;rintro e w1 ⟨rfl,D',⟨hd,hβ⟩,hF,hG,hR⟩;have hz:=hF.size;have ap:∀k,fpD D k->¬Bl.or K (fpR q M) k:=λk hk=>(h.apart k hk).1;have hRef:=h.ref.aside hF ap;have oB:On Bk w w1:=hF.on (λk hk=>⟨(h.book k hk).1,λhy=>(h.apart k hy).2 hk⟩);have ap1:∀k,fpD D' k->¬Bl.or K (fpR q M) k/\¬Bk k:=λk hk=>⟨lR (w:=w) ap h.ref.lies hG k hk,lR (w:=w) (λk hk=>(h.apart k hk).2) (λk hk=>(h.book k hk).1) hG k hk⟩;have hD1:aO w1 0 D'/\D'.fs.well:=by
  rcases hR with⟨_,hL⟩|⟨j,t,vg,_,_,_,_,_,hL⟩
  ·exact⟨hL.db,hL.well⟩
  ·exact⟨(hL (.bool false) (.bool false)).db,(hL (.bool false) (.bool false)).well⟩
 refine⟨rfl,hRef,oB,hz,⟨D',hβ,hD1.1,hD1.2,ap1⟩,λX hX=>?_⟩;have hzX:=hX.size;have hRX:=hRef.below hX;have hls:∀t∈M.ts,t.l.length<=1000000:=λt ht=>by have:=(hb.2.2 t ht).2.1;omega
 have bookX:∀{w':World}{K':Bl}{M':RM},Fr (fpR q M) X w'->On Bk w w':=λhF2=>oB.trans ((vV hX (λk hk=>by have:=(h.book k hk).1;omega)).trans (hF2.on (λk hk=>⟨by have:=(h.book k hk).1;omega,λhy=>(h.book k hk).2 (.inr hy)⟩)));rcases hR with⟨hz0,hL⟩|⟨j,t,vg,rfl,hw,hk,hg,hz0,hL⟩
 ·refine(qDa hRX x key r ho (by omega) hls hz0).mono ?_
  rintro e w' ⟨rfl,rfl⟩;have fr:Fr (fpR q M) w1 w':=AA hX;exact⟨rfl,oB.trans (vV hX (λk hk=>by have:=(h.book k hk).1;omega)),h.both hd hβ hF hG hL hRX fr (λk hk=>.inl hk) rfl rfl rfl rfl rfl ⟨rfl,rfl,rfl,rfl,rfl⟩⟩
 ·have ht:=BL ho.1
  rw[hz0];apply(qDb hRX x key j t ho (by omega) (hls t ht) (by grind) hw hk vg hg hls).mono;rintro e w' ⟨rfl,K',v1,vc,hR',hF2,hG2⟩;refine⟨rfl,bookX (K':=K') (M':=M) hF2,h.both hd hβ hF hG (hL v1 vc) hR' ((AA hX).trans hF2) (λk hk=>(hG2 k hk).imp id (λh'=>by omega)) rfl rfl rfl rfl rfl ⟨rfl,rfl,rfl,rfl,rfl⟩⟩
end
section
variable {n B:Nat}{w:World}{q:Nat}{Bk K:Bl}{D:Db}{v:Nat}{o ao:Option (Nat×T)}{ots:List (Option (Nat×T))}{M:RM}
theorem qDg(h:Wd n B w q Bk K D v o ao ots M)(hB:B<=400000)(x key val r)(ho:cC M.ts x r):
  cL 13 #[.p D.d 0,.i x,.string key,.string val] w λe w1=>e=.returned (.i (lU r key val))/\aZ w1 K q M/\On Bk w w1/\w.heap.size<=w1.heap.size/\(∃D1,D1.β=D.β/\aO w1 0 D1/\D1.fs.well/\∀k,fpD D1 k->¬Bl.or K (fpR q M) k/\¬Bk k) /\
   ∀X,bW w1 X->cL 25 #[.p q 2,.i x,.string key,.string val] X λe w'=>e=.returned (.i (lU r key val))/\On Bk w w'/\Lw n (B+1) w' q Bk M.p9:=by
 have hb:=h.lk.bounds;have h8:=h.lk.n8;apply(qDf h.lk (by omega) x key val r ho).mono;rintro e w1 ⟨rfl,D',⟨hd,hβ⟩,hF,hG,hR⟩;have hz:=hF.size;have ap:∀k,fpD D k->¬Bl.or K (fpR q M) k:=λk hk=>(h.apart k hk).1;have hRef:=h.ref.aside hF ap;have oB:On Bk w w1:=hF.on (λk hk=>⟨(h.book k hk).1,λhy=>(h.apart k hy).2 hk⟩);have ap1:∀k,fpD D' k->¬Bl.or K (fpR q M) k/\¬Bk k:=λk hk=>⟨lR (w:=w) ap h.ref.lies hG k hk,lR (w:=w) (λk hk=>(h.apart k hk).2) (λk hk=>(h.book k hk).1) hG k hk⟩;have hD1:aO w1 0 D'/\D'.fs.well:=by
  rcases hR with⟨_,hL⟩|⟨j,t,_,_,_,_,_,hL⟩
  ·exact⟨hL.db,hL.well⟩
  ·exact⟨(hL (.bool false) (.bool false)).db,(hL (.bool false) (.bool false)).well⟩
 refine⟨rfl,hRef,oB,hz,⟨D',hβ,hD1.1,hD1.2,ap1⟩,λX hX=>?_⟩;have hzX:=hX.size;have hRX:=hRef.below hX;have hls:∀t∈M.ts,t.l.length<=1000000:=λt ht=>by have:=(hb.2.2 t ht).2.1;omega
 have bookX:∀{w':World}{K':Bl}{M':RM},Fr (fpR q M) X w'->On Bk w w':=λhF2=>oB.trans ((vV hX (λk hk=>by have:=(h.book k hk).1;omega)).trans (hF2.on (λk hk=>⟨by have:=(h.book k hk).1;omega,λhy=>(h.book k hk).2 (.inr hy)⟩)));rcases hR with⟨hz0,hL⟩|⟨j,t,rfl,hw,hk,hvl,hz0,hL⟩
 ·refine(qCw hRX x key val r ho (by omega) hz0).mono ?_
  rintro e w' ⟨rfl,rfl⟩;have fr:Fr (fpR q M) w1 w':=AA hX;exact⟨rfl,oB.trans (vV hX (λk hk=>by have:=(h.book k hk).1;omega)),h.both hd hβ hF hG hL hRX fr (λk hk=>.inl hk) rfl rfl rfl rfl rfl ⟨rfl,rfl,rfl,rfl,rfl⟩⟩
 ·have ht:=BL ho.1
  rw[hz0];apply(qCx hRX x key val j t ho (by omega) (hls t ht) (by grind) hw hk hvl).mono;rintro e w' ⟨rfl,K',v1,vc,hR',hF2,hG2⟩;refine⟨rfl,bookX (K':=K') (M':=M) hF2,h.both hd hβ hF hG (hL v1 vc) hR' ((AA hX).trans hF2) (λk hk=>(hG2 k hk).imp id (λh'=>by omega)) rfl rfl rfl rfl rfl ⟨rfl,rfl,rfl,rfl,rfl⟩⟩
def vR(M:RM):Int×Int:=if M.ts.length<8 then (M.last+1,0) else (0,6)
theorem Vt(h:Wd n B w q Bk K D v o ao ots M)(O:B<=400000)(g):
  cL 12 #[.p D.d 0,.bool g] w λe f=>e=.returned (.tuple #[.i (vR M).1,.i (vR M).2])/\aZ f K q M/\On Bk w f/\w.heap.size<=f.heap.size /\
   ∀X,bW f X->cL 22 #[.p q 2,.bool g] X λe w'=>e=.returned (.tuple #[.i (vR M).1,.i (vR M).2])/\On Bk w w'/\Lw n (B+1) w' q Bk M.p9:=by
 have A:=h.lk.bounds;have N:=h.lk.n8;have P:=h.lk.len;have r:∀a,fpD D a->¬Bl.or K (fpR q M) a:=λa b=>(h.apart a b).1;have E:=h.lk.last0;have Q:=h.lk.last1;unfold vR;by_cases hn:M.ts.length<8
 ·simp only[hn,LO]
  refine(Fv h.lk (by omega) g hn).mono ?_;rintro e f ⟨rfl,D',⟨C,G⟩,c,u,y⟩;have p:=c.size;have m:=h.ref.aside c r;have i:On Bk w f:=c.on (λa b=>⟨(h.book a b).1,λk=>(h.apart a k).2 b⟩);refine⟨rfl,m,i,p,λX d=>?_⟩;have F:=d.size;refine(Sz (m.below d) g hn (by have:=A.1;omega) ⟨E,by omega⟩).mono ?_;rintro e w' ⟨rfl,J,I,H,z,l,x⟩;exact⟨rfl,i.trans ((vV d (λa b=>by have:=(h.book a b).1;omega)).trans (l.on (λa b=>⟨by have:=(h.book a b).1;omega,λk=>(h.book a b).2 (.inr k)⟩))),h.both C G c u (y I H) z ((AA d).trans l) (λa b=>(x a b).imp id (λL=>by omega)) rfl rfl rfl rfl rfl ⟨rfl,rfl,rfl,rfl,rfl⟩⟩
 ·simp only[hn,KH]
  refine(Vs D g w h.lk.db (by omega)).mono ?_;rintro e f ⟨rfl,s,c⟩;have t:Fr (Bl.one D.d) w f:=c.mono (λ_ h=>h.elim);have j:=h.still s t (JP B 1);have i:=c.on (λa b=>⟨(h.book a b).1,λh=>h⟩);refine⟨rfl,j.ref,i,c.size,λX d=>?_⟩;have F:=d.size;have p:=c.size;refine(Mu (j.ref.below d) g (by omega)).mono ?_;rintro e w' ⟨rfl,rfl⟩;exact⟨rfl,i.trans (vV d (λa b=>by have:=(h.book a b).1;omega)),K,D,v,o,ao,ots,M,j.below d,rfl⟩
def qIj(r:Option (Nat×RT)):Int:=if r.isSome=true then 0 else 3
theorem Vv(h:Wd n B w q Bk K D v o ao ots M)(O:B<=400000)(x r)(k:cC M.ts x r):
  cL 27 #[.p D.d 0,.i x] w λe f=>e=.returned (.i (qIj r))/\aZ f K q M/\On Bk w f/\w.heap.size<=f.heap.size /\
   ∀X,bW f X->cL 28 #[.p q 2,.i x] X λe w'=>e=.returned (.i (qIj r))/\On Bk w w'/\Lw n (B+1) w' q Bk M.p9:=by
 have N:=h.lk.n8;have P:=h.lk.len;have m:∀a,fpD D a->¬Bl.or K (fpR q M) a:=λa b=>(h.apart a b).1;cases r with
 |none =>
  refine(Vu D x w h.lk.db (by omega) (h.lk.miss k)).mono ?_;rintro e f ⟨rfl,y,d⟩;have l:=d.size;have g:=h.ref.aside d m;have j:On Bk w f:=d.on (λa b=>⟨(h.book a b).1,λi=>(h.apart a i).2 b⟩);refine⟨rfl,g,j,l,λX c=>?_⟩;have H:=c.size;refine(qGw (g.below c) x k (by omega)).mono ?_;rintro e w' ⟨rfl,rfl⟩;exact⟨rfl,j.trans (vV c (λa b=>by have:=(h.book a b).1;omega)),h.both rfl rfl d (CQ _ _) (h.lk.more y (JP B 1)) (g.below c) (AA c) (λa b=>.inl b) rfl rfl rfl rfl rfl ⟨rfl,rfl,rfl,rfl,rfl⟩⟩
 |some p =>
  obtain⟨t,u⟩:=p;refine(Rw h.lk x t u k).mono ?_;rintro e f ⟨rfl,D',⟨G,I⟩,d,A,E⟩;have l:=d.size;have g:=h.ref.aside d m;have j:On Bk w f:=d.on (λa b=>⟨(h.book a b).1,λi=>(h.apart a i).2 b⟩);refine⟨rfl,g,j,l,λX c=>?_⟩;have H:=c.size;refine(Cu (g.below c) x t u k (by omega)).mono ?_;rintro e w' ⟨rfl,J,F,z,C⟩;have s:Fr (fpR q M) X w':=z.mono (λa b=>.inl (.inl b));exact⟨rfl,j.trans ((vV c (λa b=>by have:=(h.book a b).1;omega)).trans (s.on (λa b=>⟨by have:=(h.book a b).1;omega,λi=>(h.book a b).2 (.inr i)⟩))),h.both G I d A (E J) F ((AA c).trans s) (λa b=>(C a b).imp id (λL=>by omega)) rfl rfl rfl rfl rfl ⟨rfl,rfl,rfl,rfl,rfl⟩⟩
end
