import Derived.Test.YtdhgdcjmhofhaaaGreatD52
set_option linter.all false
set_option maxRecDepth 100000
set_option maxHeartbeats 8000000
namespace Go.Proofs.YtdhgdcjmhofhaaaGreat.Tree
open Go.RowKit Pages
theorem qBx{a:Type}{p}:∀(l:List a),(∀x∈l,p x=true)->l.takeWhile p=l
 |[],_=>rfl
 |x :: l,h=>by rw[HV,AW (h x (by simp)),qBx l (λc b=>h c (by simp[b]))]
theorem Ys(l m)(h:l.length<=m):rL l ⟨#[]⟩ ⟨#[]⟩ m=l:=by
 have b:rat l ⟨#[]⟩=0:=by
  cases l with
  |nil=>rfl
  |cons a l =>
   have:lt a.1 ⟨#[]⟩=false:=by
    unfold lt;cases h:a.1.toList<;>simp[Op.bytesLess]
   simp[rat,this]
 have c:∀a∈l,Sp.below ⟨#[]⟩ a.1=true:=λa _=>by unfold Sp.below;rw[lN.2 rfl];rfl
 unfold rL;rw[b,GI,qBx l c,CW h]
section
variable {n B:Nat}{w:World}{q:Nat}{K:Bl}{D:Db}{v:Nat}{o ao:Option (Nat×T)}{M0:RM}
theorem qJd(h:Lk n B w D v o ao [] M0)(ab:B<=400000)(M:M0.ts=[])(I:M0.last=0)(N)(A:gA w K N M0.now)(p:∀k,K k->k<w.heap.size/\¬fpD D k):
  cL 52 #[.p q 0,.p D.d 0,.agg #[N,.i v]] w λe w'=>e=.returned (.bool true)/\Fr (fpD D) w w':=by
 obtain⟨j,l,rfl,ac⟩:=id A
 obtain⟨c,F,g,O,-⟩:=al1 w (.cells #[.slice j M0.now.length l,.int .i64 v] 32)
 have m:=h.more (h.db.on (vV g h.db.lies)) (jU _)
 have ag:=(gL O)
 have s:Hid (M0.now.length<=400000):=by have:=h.bounds.1;show _<=_;omega
 have a4:cL 18 #[.pointer (some ⟨D.d,0,none⟩)] c λe w'=>e=.returned (.int .i64 v)/\Hid (Lk n B w' D v o ao [] M0/\Fr (fpD D) c w'):=by
  apply(rR D c m.db).mono
  rintro e w' ⟨rfl,t,d⟩
  exact⟨by rw[m.ver],m.more t (jU _),d.mono (λk b=>b.elim)⟩
 have V:Hid (∀X,Lk n B X D v o ao [] M0/\Fr (fpD D) c X->cL 12 #[.pointer (some ⟨D.d,0,none⟩),.bool false] X λe w'=>e=.returned (.tuple #[.int .i64 1,.int .i64 0])/\∃D',D'.d=D.d/\Hid (Lk n (B+1) w' D' v o ao [o] {M0 with last:=1,ov:=.bool false,ts:=[M0.begun 1 false (.bool false)]}/\Fr (fpD D) c w'/\aJ c (fpD D) (fpD D'))):=λX a=>by
  apply(Fv a.1 (by omega) false (by rw[M];simp)).mono
  rintro e w' ⟨rfl,D',⟨i,ad⟩,d,a2,a3⟩
  have C:=a3 (.bool false) (.bool false)
  rw[I,M]at C
  have ar:=a.2.size
  exact⟨by rw[I];rfl,D',i,C,a.2.trans d,λk b=>(a2 k b).imp id (λa9=>by omega)⟩
 have H:cC [M0.begun 1 false (.bool false)] 1 (some (0,M0.begun 1 false (.bool false))):=⟨rfl,rfl⟩
 have a0:Hid (∀X D',Lk n (B+1) X D' v o ao [o] {M0 with last:=1,ov:=.bool false,ts:=[M0.begun 1 false (.bool false)]}/\Fr (fpD D) c X/\aJ c (fpD D) (fpD D')->cL 61 #[.pointer (some ⟨D'.d,0,none⟩),.int .i64 1,.string ⟨#[]⟩,.string ⟨#[]⟩,.int .i64 1099511627776] X λe w'=>∃vl,e=.returned (.tuple #[vl,.int .i64 0])/\w'.ownsRow 0 71 2 vl M0.now.length (aG M0.now)/\Hid ((∀k,vl.ownBlock=some k->¬fpD D' k)/\Lk n (B+1) w' D' v o ao [o] {M0 with last:=1,ov:=.bool false,ts:=[M0.begun 1 false (.bool false)]}/\Fr (fpD D) c w'/\aJ c (fpD D) (fpD D'))):=λX D' a=>by
  have y:cR (some (0,M0.begun 1 false (.bool false))) ⟨#[]⟩ ⟨#[]⟩ 1099511627776=(M0.now,0):=by
   simp only[cR]
   rw[AW ⟨by decide,by decide,by decide⟩]
   have:rL M0.now ⟨#[]⟩ ⟨#[]⟩ 1099511627776=M0.now:=Ys _ _ (by have:=s.out;omega)
   exact Prod.ext this rfl
  apply(Ka a.1 (by omega) 1 ⟨#[]⟩ ⟨#[]⟩ 1099511627776 (by decide) _ H).mono
  rintro e w' ⟨vl,rfl,t,d,L,a6⟩
  rw[y]at L
  refine⟨vl,by rw[y],L,λk b i=>by have m:=a6 k b;have aa:=a.1.db.lies k i;omega,a.1.more t (jU _),a.2.1.grow d (λk b=>?_),a.2.2⟩
  simp only[Bl.one]at b
  exact a.2.2 k (.inl b)
 have U:Hid (∀X D' vl,X.ownsRow 0 71 2 vl M0.now.length (aG M0.now)->(∀k,vl.ownBlock=some k->¬fpD D' k)/\Lk n (B+1) X D' v o ao [o] {M0 with last:=1,ov:=.bool false,ts:=[M0.begun 1 false (.bool false)]}/\Fr (fpD D) c X/\aJ c (fpD D) (fpD D')->cL 27 #[.pointer (some ⟨D'.d,0,none⟩),.int .i64 1] X λe w'=>e=.returned (.int .i64 0)/\Hid (Fr (fpD D) c w'/\w'.ownsRow 0 71 2 vl M0.now.length (aG M0.now))):=λX D' vl f a=>by
  apply(Rw a.2.1 1 0 _ H).mono
  rintro e w' ⟨rfl,a8,_,d,_,_⟩
  exact⟨rfl,a.2.2.1.grow d a.2.2.2,aS (Y:=λk=>vl.ownBlock=some k) f (d.on (λk b=>⟨aM f b,a.1 k b⟩)) (λk b=>b)⟩
 have x:Hid (∀X,Fr (fpD D) c X->X.heap[w.heap.size]?=some (.cells #[.slice j M0.now.length l,.int .i64 v] 32)/\gA X K (.slice j M0.now.length l) M0.now):=λX a=>by
  refine⟨a.heap O (λi=>by have:=h.db.lies _ i;omega),(A.on (vV g (λk b=>(p k b).1))).on (a.on (λk b=>⟨jY (p k b).1 g.size,(p k b).2⟩))⟩
 have Z:Hid (∀X vl,Fr (fpD D) c X/\X.ownsRow 0 71 2 vl M0.now.length (aG M0.now)->cL 102 #[.agg #[.slice j M0.now.length l,.int .i64 v]] X λe w'=>∃v',e=.returned v'/\w'.ownsRow 0 71 2 v' M0.now.length (aG M0.now)/\Hid (Fr (fpD D) c w'/\w'.ownsRow 0 71 2 vl M0.now.length (aG M0.now))):=λX vl a=>by
  refine(Sr _ v M0.now K X (x.out X a.1).2 (λk b=>by have:=(p k b).1;have:=g.size;have:=a.1.size;omega) (by have:=s.out;omega)).mono ?_
  rintro e w' ⟨v',rfl,f,r,_⟩
  exact⟨v',rfl,f,a.1.trans (AA r),aS (Y:=λk=>vl.ownBlock=some k) a.2 (vV r (λk b=>aM a.2 b)) (λk b=>b)⟩
 have a1:Hid (∀X vl v',X.ownsRow 0 71 2 v' M0.now.length (aG M0.now)->Fr (fpD D) c X/\X.ownsRow 0 71 2 vl M0.now.length (aG M0.now)->cL 63 #[vl,v'] X λe w'=>e=.returned (.bool true)/\Hid (Fr (fpD D) c w')):=λX vl v' f a=>by
  apply(Hn vl v' M0.now _ _ X (KM a.2) (KM f) (by have:=s.out;omega)).mono
  rintro e w' ⟨rfl,r⟩
  exact⟨rfl,a.1.trans (AA r)⟩
 have W:Hid (∀X,Fr (fpD D) c X->Fr (fpD D) w X):=λX a=>(AA g).trans a
 go_enter Tryz.func52,Tryz.ntmps52
 go_wp2_with (first
  |(go_at_call 18;(with_reducible apply jC a4);rintro e ai ⟨rfl,P⟩)
  |(go_at_call 12;(with_reducible apply jC (V.out _ P.out));rintro e aj ⟨rfl,D',G,Q⟩;have E:=a0.out _ D' Q.out;rw[G]at E)
  |(go_at_call 61;(with_reducible apply jC E);rintro e ak ⟨vl,rfl,J,R⟩;obtain⟨ae,af,rfl⟩:=aF J;have z:=U.out _ D' _ J R.out;rw[G]at z)
  |(go_at_call 27;(with_reducible apply jC z);rintro e al ⟨rfl,u⟩;have⟨ap,aq⟩:=bS (x.out _ u.out.1).1)
  |(go_at_call 102;(with_reducible apply jC (Z.out _ _ u.out));rintro e am ⟨ah,rfl,a7,S⟩)
  |(go_at_call 63;(with_reducible apply jC (a1.out _ _ _ a7 S.out));rintro e an ⟨rfl,T⟩))
 go_ret
 exact⟨rfl,W.out _ T.out⟩
end
variable {D:Db} {X:World}
theorem aZ.reobj{w w' K q M M'}(h:aZ w K q M)(i:Fr (Bl.one q) w w')(t:w'.heap[q]?=some M'.obj)(x:M'.vn=M.vn)(y:M'.va=M.va)(z:M'.now=M.now)(A:M'.ah=M.ah)(B:(M'.ov=M.ov/\M'.ts=M.ts)\/(M'.ov=.n/\M'.ts=[])):aZ w' K q M':=by
 have j:=i.on (λb a=>⟨(h.kp b a).1,λl=>(h.kp b a).2.1 l⟩);have o:∀{g:TypeId}{r n:Nat}{k:Value}{p:List Value},w.ownsRow 0 g r k n p->g≠43->w'.ownsRow 0 g r k n p:=λ{g r n k p} m C=>aS m (i.on (Z:=λb=>k.ownBlock=some b) (λb a=>⟨aM m a,λs=>by simp only[Bl.one]at s;subst s;exact aQ m h.box (λl=>C l.symm) a⟩)) (λb a=>a);have u:gA w' K M'.vn M'.now:=by rw[x,z];exact h.now.on j
 have v:gA w' K M'.va M'.ah:=by rw[y,A];exact h.ah.on j
 rcases B with⟨f,d⟩|⟨f,d⟩
 ·exact⟨t,by rw[f,d];exact o h.row (by decide),u,v,λe c=>by
   rw[d]at c;exact⟨(h.each e c).bg.on j,(h.each e c).l.on j,o (h.each e c).ch (by decide),o (h.each e c).oth (by decide)⟩,by rw[d];exact h.apart,λb a=>by rw[f,d];exact⟨jY (h.kp b a).1 i.size,(h.kp b a).2⟩⟩
 ·exact⟨t,by rw[f,d];exact AL _ _ _ _,u,v,λe c=>(by rw[d]at c;cases c),by rw[d];exact DW,λb a=>by rw[f,d];exact⟨jY (h.kp b a).1 i.size,(h.kp b a).2.1,by simp[Value.ownBlock],λe c=>(by cases c)⟩⟩
structure Wc (n B:Nat) (w:World) (q:Nat) (Bk K:Bl) (β:Nat) (sv lv:Value) (fs:Fs) (v:Nat) (o ao:Option (Nat×T)) (M:RM):Prop where
 ref:aZ w K q M
 f:M.f=.pointer (some ⟨β,0,none⟩)
 file:aH w β sv lv fs
 well:fs.well
 len:fs.safe.length=n
 store:40<=n->lD [] n fs v o ao
 nv:M.nv=v
 vB:v<=B
 now:kvB (aX o)=M.now
 ah:kvB (aX ao)=M.ah
 few:M.now.length<=B/\M.ah.length<=B
 twice:M.p2=.bool false
 broken:M.p3=.bool false
 spoiled:M.p4=.bool false
 meta':M.p5=.bool false/\M.p6=.slice none 0 0/\M.p7=.slice none 0 0/\M.p8=.slice none 0 0
 apart:∀k,fpF β sv lv k->¬Bl.or K (fpR q M) k/\¬Bk k
 book:∀k,Bk k->k<w.heap.size/\¬Bl.or K (fpR q M) k
theorem Wd.wc {n B w q Bk K v o ao ots M}(h:Wd n B w q Bk K D v o ao ots M):Wc n B w q Bk K D.β D.sv D.lv D.fs v o ao M :=
 ⟨h.ref,h.f,h.lk.db.file,h.lk.well,h.lk.store.len,λ_=>h.lk.store,h.lk.nv,h.lk.vB,h.lk.now,h.lk.ah,⟨h.lk.bounds.1,h.lk.bounds.2.1⟩,h.twice,h.broken,h.spoiled,h.meta',λb a=>h.apart b (.inr (.inl a)),h.book⟩
def Lc(n B:Nat)(w:World)(q:Nat)(Bk:Bl)(vp:Value):Prop:=∃K β sv lv fs v o ao M,Wc n B w q Bk K β sv lv fs v o ao M/\M.x=.pointer none/\M.p9=vp
section
variable {n B:Nat}{w:World}{q:Nat}{Bk K:Bl}{β:Nat}{sv lv:Value}{fs:Fs}{v:Nat}{o ao:Option (Nat×T)}{M:RM}
structure OpS (n B:Nat) (w X:World) (q:Nat) (Bk K:Bl) (β:Nat) (sv lv:Value) (fs:Fs) (v:Nat) (o ao:Option (Nat×T)) (M:RM):Prop where
 wc:Wc n B X q Bk K β sv lv fs v o ao {M with f:=.pointer (some ⟨β,0,none⟩),x:=.pointer none}
 on:On Bk w X
 new:∀k,fpF β sv lv k->w.heap.size<=k
theorem OpS.cells (h:OpS n B w X q Bk K β sv lv fs v o ao M):X.c q 0=some (.p β 0)/\X.c q 10=some (.bool false)/\X.c q 11=some (.bool false)/\X.c q 12=some (.bool false)/\X.c q 13=some (.bool false):=by
 have⟨a,_,_,_,_,_,_,_,_,_,b,c,d,e⟩:=dL h.wc.ref.box;exact⟨a,by rw[b];exact BZ some h.wc.twice,by rw[c];exact BZ some h.wc.broken,by rw[d];exact BZ some h.wc.spoiled,by rw[e];exact BZ some h.wc.meta'.1⟩
theorem qFr(h:Wc n B w q Bk K β sv lv fs v o ao M):cL 15 #[.pointer (some ⟨β,0,none⟩)] w λe d=>∃c m l,e=.returned (.pointer (some ⟨c,0,none⟩))/\(∃D y,d.cell? ⟨q,0,none⟩=some D/\d.cell? ⟨q,1,none⟩=some y/\(d.setCell ⟨q,0,none⟩ (.pointer (some ⟨c,0,none⟩))).cell? ⟨q,1,none⟩=some y)/\(∀i,d.frozen? ⟨q,i,none⟩=false)/\(∀i,(d.setCell ⟨q,0,none⟩ (.pointer (some ⟨c,0,none⟩))).frozen? ⟨q,i,none⟩=false)/\Hid (OpS n B w ((d.setCell ⟨q,0,none⟩ (.pointer (some ⟨c,0,none⟩))).setCell ⟨q,1,none⟩ (.pointer none)) q Bk K c m l fs v o ao M):=by
 apply(Fg β sv lv fs w h.file).mono;rintro e d ⟨c,m,l,rfl,z,j,k⟩;have g:=h.ref.below j;have⟨A,C,_⟩:=dL g.box;have u:=aC g.box 0 (.pointer (some ⟨c,0,none⟩));have H:=aC u 1 (.pointer none);have F:Fr (Bl.one q) d ((d.setCell ⟨q,0,none⟩ (.pointer (some ⟨c,0,none⟩))).setCell ⟨q,1,none⟩ (.pointer none)):=((AF (Bl.one q) d).setCell (p:=⟨q,0,none⟩) (.inl rfl) _).setCell (p:=⟨q,1,none⟩) (.inl rfl) _;have J:=(gL h.ref.box);have G:¬fpF c m l q:=λa=>by have:=k q a;omega
 exact⟨c,m,l,rfl,⟨_,_,A,C,by simp[World.cell?,u]⟩,aB g.box,aB u,⟨g.reobj (M':={M with f:=.pointer (some ⟨c,0,none⟩),x:=.pointer none}) F (by simpa using H) rfl rfl rfl rfl (.inl ⟨rfl,rfl⟩),rfl,z.on (F.on (λb a=>⟨z.lies b a,λe=>by simp only[Bl.one]at e;subst e;exact G a⟩)),h.well,h.len,h.store,h.nv,h.vB,h.now,h.ah,h.few,h.twice,h.broken,h.spoiled,h.meta',λb a=>⟨λt=>by have r:=k b a;have s:=h.ref.lies b t;omega,λt=>by have r:=k b a;have s:=(h.book b t).1;omega⟩,λb a=>⟨by have r:=(h.book b a).1;have s:=j.size;have I:=F.size;omega,(h.book b a).2⟩⟩,(vV j (λb a=>(h.book b a).1)).trans (F.on (λb a=>⟨by have r:=(h.book b a).1;have s:=j.size;omega,λe=>(by simp only[Bl.one]at e;subst e;exact(h.book _ a).2 (.inr (.inl rfl)))⟩)),k⟩
theorem Zl(h:Wc n B w q Bk K β sv lv fs v o ao M)(z:n<40):
  cL 20 #[.p q 0] w λe w'=>e=.returned (.bool true)/\On Bk w w'/\Lc n B w' q Bk M.p9:=by
 have r:=(dL h.ref.box).1
 rw[h.f]at r
 have G:(n:Int)<40:=by omega
 have p:Hid (∀X a c b,OpS n B w X q Bk K a c b fs v o ao M->(cL 49 #[.pointer (some ⟨a,0,none⟩)] X λe w'=>e=.returned (.bool false)/\w'=X)/\(cL 50 #[.pointer (some ⟨a,0,none⟩)] X λe w'=>e=.returned (.int .i64 fs.failed)/\w'=X)/\(cL 11 #[.pointer (some ⟨a,0,none⟩)] X λe w'=>e=.returned (.tuple #[.pointer none,.int .i64 1])/\w'=X)/\(cL 51 #[.pointer (some ⟨q,0,none⟩),.int .i64 fs.failed] X λe w'=>(∃m,e=.returned (.bool m))/\w'=X)/\(cL 31 #[.pointer (some ⟨a,0,none⟩)] X λe w'=>e=.returned (.int .i64 n)/\w'=X)):=λX a c b d=>by
  have g:=iL a c b fs X d.wc.file
  rw[show(fs.life==0)=false by rw[h.well.2];rfl]at g
  have i:=mS a c b fs X d.wc.file
  rw[h.len]at i
  exact⟨g,nU a c b fs X d.wc.file,qDw a c b fs X d.wc.file (by rw[h.len];exact z),(rS q a c b fs X d.wc.file (by rw[h.well.2];rfl) d.cells.1 _).mono (λe w' l=>⟨⟨_,l.1⟩,l.2⟩),i⟩
 go_enter Tryz.func20,Tryz.ntmps20
 go_wp2_with (first
  |(go_at_call 15;(with_reducible apply jC (qFr h));rintro e A ⟨a,c,b,rfl,⟨C,D,I,J,L⟩,E,F,f⟩;have⟨k,y⟩:=nM ((A.setCell ⟨q,0,none⟩ (.pointer (some ⟨a,0,none⟩))).setCell ⟨q,1,none⟩ (.pointer none));rw[y]at f;have⟨H,_⟩:=f.cells;have⟨g,t,u,x,i⟩:=p k _ _ _ f)
  |(go_at_call 49;(with_reducible apply jC g);rintro e w' ⟨rfl,j⟩;subst w')
  |(go_at_call 50;(with_reducible apply jC t);rintro e w' ⟨rfl,j⟩;subst w')
  |(go_at_call 11;(with_reducible apply jC u);rintro e w' ⟨rfl,j⟩;subst w')
  |(go_at_call 51;(with_reducible apply jC x);rintro e w' ⟨⟨m,rfl⟩,j⟩;subst w')
  |(go_at_call 31;(with_reducible apply jC i);rintro e w' ⟨rfl,j⟩;subst w'))
 go_ret
 exact⟨rfl,f.on,K,a,c,b,fs,v,o,ao,_,f.wc,rfl,rfl⟩
theorem Fs.calm_well{fs:Fs}(h:fs.well):fs.calm=fs:=by
 have⟨a,b,c,d,g⟩:=fs;have⟨e,f⟩:=h;dsimp only at e f;subst e f;rfl
structure OqS (n B:Nat) (w X:World) (q:Nat) (Bk K:Bl) (D:Db) (fs:Fs) (v:Nat) (o ao:Option (Nat×T)) (M:RM):Prop where
 ref:aZ X K q {M with f:=.pointer (some ⟨D.β,0,none⟩),x:=.pointer none}
 lk:∀M':RM,M'.ts=[]->M'.last=0->M'.nv=v->M'.now=kvB (aX o)->M'.ah=kvB (aX ao)->Lk n B X D v o ao [] M'
 db:aO X 0 D
 fs':D.fs=fs
 on:On Bk w X
 new:∀k,fpD D k->w.heap.size<=k
theorem OqS.on' {X Y}(h:OqS n B w X q Bk K D fs v o ao M)(g:Wc n B w q Bk K β sv lv fs v o ao M){Z}(f:Fr Z X Y)(i:∀k,Z k->w.heap.size<=k/\¬fpD D k):OqS n B w Y q Bk K D fs v o ao M:=by
 have l:=h.db.aside f (λk e=>(i k e).2);have s:=h.on.size;exact⟨h.ref.aside f (λk e j=>by have p:=(i k e).1;have r:=g.ref.lies k j;omega),λM' a b c d m=>(h.lk M' a b c d m).more l (jU _),l,h.fs',h.on.trans (f.on (λk e=>⟨by have:=(g.book k e).1;omega,λj=>by have p:=(i k j).1;have r:=(g.book k e).1;omega⟩)),h.new⟩
theorem OqS.opened {X Y}(d:OqS n B w X q Bk K D fs v o ao M)(c:Wc n B w q Bk K β sv lv fs v o ao M)(g:Fr (Bl.one q) X Y)(p:Y.heap[q]?=some ({M with f:=.p D.β 0,x:=.p D.d 0,ov:=.n,ts:=[],last:=0}:RM).obj):On Bk w Y/\Lw n B Y q Bk M.p9:=by
 have t:=(gL c.ref.box);have l:=d.db.aside g (λa b r=>by simp only[Bl.one]at b;subst b;have:=d.new _ r;omega);have i:∀a,Bl.or K (fpR q ({M with f:=.p D.β 0,x:=.p D.d 0,ov:=.n,ts:=[],last:=0}:RM)) a->Bl.or K (fpR q M) a:=by
  rintro a (b|rfl|b|⟨u,s,_⟩)
  ·exact .inl b
  ·exact .inr (.inl rfl)
  ·simp[Value.ownBlock]at b
  ·cases s
 have y:=d.on.size;have z:=g.size;exact⟨d.on.trans (g.on (λa b=>⟨by have:=(c.book a b).1;omega,λh=>by simp only[Bl.one]at h;subst h;exact(c.book _ b).2 (.inr (.inl rfl))⟩)),K,D,v,o,ao,[],_,⟨d.ref.reobj (M':={M with f:=.p D.β 0,x:=.p D.d 0,ov:=.n,ts:=[],last:=0}) g p rfl rfl rfl rfl (.inr ⟨rfl,rfl⟩),(d.lk {M with f:=.p D.β 0,x:=.p D.d 0,ov:=.n,ts:=[],last:=0} rfl rfl c.nv c.now.symm c.ah.symm).more l (jU _),rfl,rfl,c.twice,c.broken,c.spoiled,c.meta',λa b=>⟨λe=>by have j:=d.new a b;have k:=c.ref.lies a (i a e);omega,λe=>by have j:=d.new a b;have k:=(c.book a e).1;omega⟩,λa b=>⟨by have:=(c.book a b).1;omega,λe=>(c.book a b).2 (i a e)⟩⟩,rfl⟩
theorem Zm(h:Wc n B w q Bk K β sv lv fs v o ao M)(bz:B<=400000)(ag:40<=n):
  cL 20 #[.p q 0] w λe w'=>e=.returned (.bool true)/\On Bk w w'/\Lw n B w' q Bk M.p9:=by
 have c0:=qFr h
 have bw:=(dL h.ref.box).1
 rw[h.f]at bw
 have cu:¬(n:Int)<40:=by omega
 have ad:=h.store ag
 have cf:=Fs.calm_well h.well
 have U:(aX o).length<=B/\(aX ao).length<=B:=by
  have m:=h.few
  rw[<-h.now,<-h.ah,oO,oO]at m
  exact m
 have ct:=h.ref.lies
 have J:Hid (∀X D,OqS n B w X q Bk K D fs v o ao M->X.c q 0=some (.p D.β 0)/\X.c q 2=some M.vn/\X.c q 3=some (.i v)/\X.c q 10=some (.bool false)/\X.c q 13=some (.bool false)):=λX D b=>by
  obtain⟨au,_,a4,a5,_,_,_,_,_,_,a2,av,bs,a3⟩:=dL b.ref.box
  exact⟨au,a4,by rw[a5];exact BZ (λz=>some (Value.i z)) h.nv,by rw[a2];exact BZ some h.twice,by rw[a3];exact BZ some h.meta'.1⟩
 have bo:Hid (∀X r G F,OpS n B w X q Bk K r G F fs v o ao M->(cL 49 #[.p r 0] X λe w'=>e=.returned (.bool false)/\w'=X)/\(cL 50 #[.p r 0] X λe w'=>e=.returned (.i fs.failed)/\w'=X)/\(cL 11 #[.p r 0] X λe w'=>∃D:Db,e=.returned (.tuple #[.p D.d 0,.i 0])/\D.β=r/\Hid (OqS n B w w' q Bk K D fs v o ao M))):=λX r G F b=>by
  have P:=iL r G F fs X b.wc.file
  rw[show(fs.life==0)=false by rw[h.well.2];rfl]at P
  refine⟨P,nU r G F fs X b.wc.file,(Km ad ag h.well r G F X b.wc.file h.vB U.1 U.2).mono ?_⟩
  rintro e w' ⟨D,rfl,a8,bx,az,C,a9,Q⟩
  have bg:=b.on.size
  have ab:=Q {M with ts:=[],last:=0,nv:=v,now:=kvB (aX o),ah:=kvB (aX ao)} rfl rfl rfl rfl rfl
  refine⟨D,rfl,a8,?_,Q,ab.db,az,b.on.trans (C.on (λa d=>⟨by have:=(h.book a d).1;omega,λaf=>by have m:=b.new a af;have b1:=(h.book a d).1;omega⟩)),λa d=>?_⟩
  ·rw[a8]
   exact b.wc.ref.aside C (λa d af=>(b.wc.apart a d).1 af)
  ·rcases a9 a d with m|m
   ·exact b.new a m
   ·omega
 have bp:Hid (∀X D,OqS n B w X q Bk K D fs v o ao M->(cL 51 #[.p q 0,.i fs.failed] X λe w'=>(∃ba,e=.returned (.bool ba))/\w'=X)/\(cL 31 #[.p D.β 0] X λe w'=>e=.returned (.i n)/\w'=X)/\(cL 15 #[.p D.β 0] X λe w'=>∃i j k,e=.returned (.p i 0)/\Hid (OqS n B w w' q Bk K D fs v o ao M/\aH w' i j k fs/\∀a,fpF i j k a->w.heap.size<=a/\¬fpD D a))):=λX D b=>by
  have A:=b.db.file
  rw[b.fs']at A
  have R:=mS D.β D.sv D.lv fs X A
  rw[h.len]at R
  refine⟨(rS q D.β D.sv D.lv fs X A (by rw[h.well.2];rfl) (J.out X D b).1 _).mono (λe w' b3=>⟨⟨_,b3.1⟩,b3.2⟩),R,(Fg D.β D.sv D.lv fs X A).mono ?_⟩
  rintro e w' ⟨i,j,k,rfl,cg,ce,b4⟩
  have bg:=b.on.size
  exact⟨i,j,k,rfl,b.on' h (Z:=Bl.none) (AA ce) (λa d=>d.elim),cg,λa d=>⟨by have:=b4 a d;omega,λH=>by have m:=b4 a d;have b1:=b.db.lies a H;omega⟩⟩
 have bn:Hid (∀X D i j k,OqS n B w X q Bk K D fs v o ao M/\aH X i j k fs/\(∀a,fpF i j k a->w.heap.size<=a/\¬fpD D a)->cL 16 #[.p i 0,.n] X λe w'=>∃O,e=.returned O/\Hid (OqS n B w w' q Bk K D fs v o ao M/\aH w' i j .n fs/\∀a,fpF i j .n a->w.heap.size<=a/\¬fpD D a)):=λX D i j k b=>by
  refine(Ff i j k fs none 0 0 X b.2.1 ad.late).mono ?_
  rintro e w' ⟨⟨O,rfl⟩,A,C⟩
  rw[cf]at A
  refine⟨O,rfl,b.1.on' h C (λa d=>b.2.2 a (.inl d)),A,λa d=>?_⟩
  rcases d with d|d|d
  ·exact b.2.2 a (.inl d)
  ·exact b.2.2 a (.inr (.inl d))
  ·simp[Value.ownBlock]at d
 have ar:Hid (∀X D i j k,OqS n B w X q Bk K D fs v o ao M/\aH X i j k fs/\(∀a,fpF i j k a->w.heap.size<=a/\¬fpD D a)->cL 11 #[.p i 0] X λe w'=>∃a7:Nat,e=.returned (.tuple #[.p a7 0,.i 0])/\Hid (OqS n B w w' q Bk K D fs v o ao M)/\(cL 52 #[.p q 0,.p a7 0,.agg #[M.vn,.i v]] w' λe bb=>e=.returned (.bool true)/\Hid (OqS n B w bb q Bk K D fs v o ao M))):=λX D i j k b=>by
  refine(Km ad ag h.well i j k X b.2.1 h.vB U.1 U.2).mono ?_
  rintro e w' ⟨am,rfl,a8,bx,az,C,a9,Q⟩
  have bg:=b.1.on.size
  have T:=b.1.on' h C b.2.2
  have ab:=Q {M with ts:=[],last:=0,nv:=v,now:=kvB (aX o),ah:=kvB (aX ao)} rfl rfl rfl rfl rfl
  have b6:∀a,fpD am a->w.heap.size<=a/\¬fpD D a:=λa d=>by
   rcases a9 a d with m|m
   ·exact b.2.2 a m
   ·exact⟨by omega,λH=>by have:=b.1.db.lies a H;omega⟩
  refine⟨am.d,rfl,T,?_⟩
  have ci:=T.ref.now
  refine(qJd (q:=q) (K:=K) ab bz rfl rfl M.vn (by show gA w' K M.vn (kvB (aX o));rw[h.now];exact ci) (λa d=>⟨by have:=(h.ref.kp a d).1;have:=T.on.size;omega,λH=>by have m:=(b6 a H).1;have b1:=(h.ref.kp a d).1;omega⟩)).mono ?_
  rintro e bb ⟨rfl,c6⟩
  exact⟨rfl,T.on' h c6 b6⟩
 obtain⟨u,y,ai,_⟩:=h.ref.now
 obtain⟨s,t,b5,_⟩:=h.ref.ah
 rw[ai]at J ar
 have aq:Hid (∀X D,OqS n B w X q Bk K D fs v o ao M->OqS n B w X.drew q Bk K D fs v o ao M):=λX D b=>b.on' h (Z:=Bl.none) (AF _ _).drew (λa d=>d.elim)
 have bm:Hid (∀X Y D,OqS n B w X q Bk K D fs v o ao M->bW X Y->OqS n B w Y q Bk K D fs v o ao M):=λX Y D b cd=>b.on' h (Z:=Bl.none) (AA cd) (λa d=>d.elim)
 have W:Hid (∀X D,OqS n B w X q Bk K D fs v o ao M->X.heap[q]?=some ({M with f:=.p D.β 0,x:=.pointer none}:RM).obj/\(X.c q 2=some (.slice u M.now.length y)/\X.c q 3=some (.i v)/\X.c q 4=some (.slice s M.ah.length t)/\X.c q 5=some (.i M.av))/\X.c q 6=some M.ov/\X.c q 7=some (.i M.last)/\X.c q 1=some (.pointer none)/\X.c q 10=some (.bool false)/\X.c q 11=some (.bool false)/\X.c q 13=some (.bool false)):=λX D b=>by
  obtain⟨au,br,a4,a5,bt,bu,bv,a6,_,_,a2,av,bs,a3⟩:=dL b.ref.box
  exact⟨b.ref.box,⟨by rw[a4];exact BZ some ai,by rw[a5];exact BZ (λz=>some (Value.i z)) h.nv,by rw[bt];exact BZ some b5,bu⟩,bv,a6,br,by rw[a2];exact BZ some h.twice,by rw[av];exact BZ some h.broken,by rw[a3];exact BZ some h.meta'.1⟩
 have bq:Hid (∀X l g D,OqS n B w X q Bk K D fs v o ao M->(((((X.setCell ⟨q,2,none⟩ (.slice u M.now.length y)).setCell ⟨q,3,none⟩ (.i v)).setCell ⟨q,4,none⟩ (.slice s M.ah.length t)).setCell ⟨q,5,none⟩ (.i M.av)).setCell ⟨q,6,none⟩ .n).setCell ⟨q,7,none⟩ (.i 0)=l->l.setCell ⟨q,1,none⟩ (.p D.d 0)=g->((∃c,l.c q 1=some c)/\(∀I,l.frozen? ⟨q,I,none⟩=false)/\(g.c q 10=some (.bool false)/\g.c q 11=some (.bool false)/\g.c q 13=some (.bool false))/\g.setCell ⟨q,10,none⟩ (.bool false)=g/\g.setCell ⟨q,11,none⟩ (.bool false)=g/\g.setCell ⟨q,13,none⟩ (.bool false)=g/\∀I,g.frozen? ⟨q,I,none⟩=false)/\On Bk w g/\Lw n B g q Bk M.p9):=λX l g D b b0 N=>by
  have L:=aC (aC (aC (aC (aC (aC b.ref.box 2 (.slice u M.now.length y)) 3 (.i v)) 4 (.slice s M.ah.length t)) 5 (.i M.av)) 6 .n) 7 (.i 0)
  rw[b0]at L
  have aw:=aC L 1 (.p D.d 0)
  rw[N]at aw
  have bh:Fr (Bl.one q) X l:=b0▸((((((AF (Bl.one q) X).setCell (p:=⟨q,2,none⟩) (.inl rfl) _).setCell (p:=⟨q,3,none⟩) (.inl rfl) _).setCell (p:=⟨q,4,none⟩) (.inl rfl) _).setCell (p:=⟨q,5,none⟩) (.inl rfl) _).setCell (p:=⟨q,6,none⟩) (.inl rfl) _).setCell (p:=⟨q,7,none⟩) (.inl rfl) _
  have bi:Fr (Bl.one q) X g:=bh.trans (N▸(AF (Bl.one q) l).setCell (p:=⟨q,1,none⟩) (.inl rfl) _)
  have E:g.heap[q]?=some ({M with f:=.p D.β 0,x:=.p D.d 0,ov:=.n,ts:=[],last:=0}:RM).obj:=by
   rw[aw];simp only[RM.obj,ai,b5,h.nv];rfl
  obtain⟨_,_,_,_,_,_,_,_,_,_,c10,ax,cm,ay⟩:=dL E
  have b7:=h.twice
  have b8:=h.broken
  have b9:=h.meta'.1
  rw[b7]at c10
  rw[b8]at ax
  rw[b9]at ay
  exact⟨⟨⟨.pointer none,by simp[World.cell?,L]⟩,aB L,⟨c10,ax,ay⟩,eD E (by exact BZ some b7),eD E (by exact BZ some b8),eD E (by exact BZ some b9),aB E⟩,b.opened h bi E⟩
 go_enter Tryz.func20,Tryz.ntmps20
 go_wp2_with (first
  |(go_at_call 15;(with_reducible refine jC c0 ?_);rintro e cl ⟨r,G,F,rfl,⟨cn,co,d2,d3,d4⟩,cr,cs,a0⟩;obtain⟨a1,cb⟩:=nM ((cl.setCell ⟨q,0,none⟩ (.p r 0)).setCell ⟨q,1,none⟩ (.pointer none));rw[cb]at a0;obtain⟨cy,_⟩:=a0.out.cells;obtain⟨P,c7,ac⟩:=bo.out a1 _ _ _ a0.out)
  |(go_at_call 49;(with_reducible refine jC P ?_);rintro e w' ⟨rfl,aj⟩;subst w')
  |(go_at_call 50;(with_reducible refine jC c7 ?_);rintro e w' ⟨rfl,aj⟩;subst w')
  |(go_at_call 11;(with_reducible refine jC ac ?_);rintro e dj ⟨D,rfl,ck,an⟩;subst ck;obtain⟨cv,_,_,cw,cx⟩:=J.out _ _ an.out;obtain⟨ca,R,c1⟩:=bp.out _ _ an.out)
  |(go_at_call 51;(with_reducible refine jC ca ?_);rintro e w' ⟨⟨ba,rfl⟩,aj⟩;subst w')
  |(go_at_call 31;(with_reducible refine jC R ?_);rintro e w' ⟨rfl,aj⟩;subst w')
  |(go_at_call 15;(with_reducible refine jC c1 ?_);rintro e dk ⟨i,j,k,rfl,bj⟩;have c4:=bn.out _ _ _ _ _ bj.out)
  |(go_at_call 16;(with_reducible refine jC c4 ?_);rintro e dl ⟨O,rfl,bk⟩;have ac:=ar.out _ _ _ _ _ bk.out)
  |(go_at_call 11;(with_reducible refine jC ac ?_);rintro e ak ⟨a7,rfl,bl,c9⟩;obtain⟨d5,d8,d9,d6,d7⟩:=J.out _ _ bl.out)
  |(go_at_call 52;(with_reducible refine jC c9 ?_);rintro e ak ⟨rfl,V⟩;obtain⟨_,⟨de,v3,df,dg⟩,dh,di,da,db,dc,dd⟩:=W.out _ _ V.out))
 refine dF (S:=(λX:World=>X.c q 2=some (.slice u M.now.length y)/\X.c q 3=some (.i v)/\X.c q 4=some (.slice s M.ah.length t)/\X.c q 5=some (.i M.av))) 14 (by kernel_rfl) ?_
 have c8:=(show(λX:World=>X.c q 2=some (.slice u M.now.length y)/\X.c q 3=some (.i v)/\X.c q 4=some (.slice s M.ah.length t)/\X.c q 5=some (.i M.av)) ak.drew from (W.out _ _ (aq.out _ _ V.out)).2.1)
 refine tks [(0,.p q 0),(1,.p q 0),(2,.p q 0),(3,.p q 2),(4,.p q 2),(5,.agg #[.slice u M.now.length y,.i v]),(6,.p q 0),(7,.p q 0),(8,.p q 2),(9,.p q 4),(10,.agg #[.slice s M.ah.length t,.i M.av])] (by assumption) ?_
 iterate 11 (refine⟨_,rfl,by kernel_rfl,λ_ _ _ h=>h,.inl ⟨by rfl,λw ae=>by(try dsimp only at ae);go_simp⟩,?_⟩;try simp only[pS])
 refine tke ?_
 refine aR (i:=11) (by kernel_rfl) rfl (λK aa=>?_)
 go_simp
 go_at_call 53
 (with_reducible refine jC (Mq u s M.now.length y M.ah.length t v M.av ak.drew) ?_)
 rintro e al ⟨rfl,a6⟩
 have ap:=(show Hid _ from bm.out _ _ _ (aq.out _ _ V.out) a6)
 obtain⟨cj,c2,ch⟩:=W.out _ _ ap.out
 obtain⟨bc,bd,be,bf⟩:=c2
 obtain⟨dt,du,dp,dq,dr,ds⟩:=ch
 have dv:=aB cj
 simp only[]
 refine aa.out _ _ (λ_=>⟨bc,bd,be,bf⟩) ?_
 try simp only[pS]
 have c8:=(show(λX:World=>X.c q 2=some (.slice u M.now.length y)/\X.c q 3=some (.i v)/\X.c q 4=some (.slice s M.ah.length t)/\X.c q 5=some (.i M.av)) al from ⟨bc,bd,be,bf⟩)
 refine tks [(12,.p q 0),(13,.p q 2)] (by assumption) ?_
 iterate 2 (refine⟨_,rfl,by kernel_rfl,λ_ _ _ h=>h,.inl ⟨by rfl,λw ae=>by(try dsimp only at ae);go_simp⟩,?_⟩;try simp only[pS])
 refine tke ?_
 obtain⟨l,b2⟩:=nM ((((((al.setCell ⟨q,2,none⟩ (.slice u M.now.length y)).setCell ⟨q,3,none⟩ (.i v)).setCell ⟨q,4,none⟩ (.slice s M.ah.length t)).setCell ⟨q,5,none⟩ (.i M.av)).setCell ⟨q,6,none⟩ .n).setCell ⟨q,7,none⟩ (.i 0))
 obtain⟨g,cc⟩:=nM (l.setCell ⟨q,1,none⟩ (.p D.d 0))
 obtain⟨c3,c5⟩:=bq.out al l g D ap.out b2 cc
 obtain⟨⟨dn,dm⟩,cp,N,cz,d0,d1,cq⟩:=c3
 refine aR (i:=14) (by kernel_rfl) rfl (λK aa=>?_)
 go_simp
 refine aa.out _ _ (λe=>by cases e) ?_
 try simp only[pS]
 refine cY (by kernel_rfl) ?_ _
 obtain⟨dw,dx,dy⟩:=N
 try rw[b2]
 go_wp2
 go_ret
 exact⟨rfl,c5⟩
end
variable {B B' n:Nat} {w:World}
theorem Lk.up {D v o ao ots M}(h:Lk n B w D v o ao ots M)(a:B<=B'):Lk n B' w D v o ao ots M:=h.more h.db a
theorem Lw.up {q Bk vp}(h:Lw n B w q Bk vp)(c:B<=B'):Lw n B' w q Bk vp:=by
 have⟨K,D,v,o,ao,ots,M,a,b⟩:=h;exact⟨K,D,v,o,ao,ots,M,{a with lk:=a.lk.up c},b⟩
theorem Lc.up {q Bk vp}(h:Lc n B w q Bk vp)(b:B<=B'):Lc n B' w q Bk vp:=by
 have⟨K,β,sv,lv,fs,v,o,ao,M,a,c⟩:=h;exact⟨K,β,sv,lv,fs,v,o,ao,M,{a with vB:=vJ a.vB b,few:=⟨vJ a.few.1 b,vJ a.few.2 b⟩},c⟩
structure qKj (c:OpV):Prop where
 ok:Lr c
 p:c.p.size<=2000000
 q:c.q.size<=2000000
 k:c.kind<=10
def LSt(n B:Nat)(w:World)(q:Nat)(Ar:Bl):Prop:=∃Bk vp ps,((Lw n B w q Bk vp/\40<=n)\/Lc n B w q Bk vp)/\jG w vp ps/\ps.length<=4 * B/\(∀k,fpK vp ps k->Bk k/\¬Ar k)/\∀k,Ar k->Bk k
section
variable {n B:Nat}{w w':World}{q:Nat}{Bk K Ar:Bl}{D:Db}{v:Nat}{o ao:Option (Nat×T)}{ots:List (Option (Nat×T))}{M:RM}{ps:List Value}
theorem LSt.of(f:jG w M.p9 ps)(h:ps.length<=4 * B)(b:∀k,fpK M.p9 ps k->Bk k/\¬Ar k)(a:∀k,Ar k->Bk k)(c:On Bk w w')(e:40<=n)(g:Lw n (B+1) w' q Bk M.p9):On Ar w w'/\LSt n (B+1) w' q Ar :=
 ⟨c.mono a,Bk,M.p9,ps,.inl ⟨g,e⟩,f.on (c.mono (λk d=>(b k d).1)),by omega,b,a⟩
theorem LSt.cls(e:jG w M.p9 ps)(g:ps.length<=4 * B)(b:∀k,fpK M.p9 ps k->Bk k/\¬Ar k)(a:∀k,Ar k->Bk k)(c:On Bk w w')(f:Lc n (B+1) w' q Bk M.p9):On Ar w w'/\LSt n (B+1) w' q Ar :=
 ⟨c.mono a,Bk,M.p9,ps,.inr f,e.on (c.mono (λk d=>(b k d).1)),by omega,b,a⟩
theorem Wc.box{β sv lv fs}(h:Wc n B w q Bk K β sv lv fs v o ao M)(e):Wc n B (w.alloc e) q (Bl.or Bk (Bl.one w.heap.size)) K β sv lv fs v o ao M:=by
 have d:bW w (w.alloc e):=bA _ _;refine{h with ref:=h.ref.below d,file:=h.file.on (vV d h.file.lies),apart:=λc a=>⟨(h.apart c a).1,λb=>?_⟩,book:=λc a=>?_}
 ·rcases b with b|b
  ·exact(h.apart c a).2 b
  ·simp only[Bl.one]at b;subst b;have:=h.file.lies _ a;omega
 ·rcases a with a|a
  ·exact⟨jY (h.book c a).1 d.size,(h.book c a).2⟩
  ·simp only[Bl.one]at a;subst a;exact⟨by simp,λb=>by have:=h.ref.lies _ b;omega⟩
theorem Fu(b)(c:jG w M.p9 ps)(f:∀k,fpK M.p9 ps k->Bk k/\¬Ar k)(d:∀k,Ar k->Bk k)(g:∀k,Bk k->k<w.heap.size):jG (w.alloc b) M.p9 ps/\(∀k,fpK M.p9 ps k->Bl.or Bk (Bl.one w.heap.size) k/\¬Ar k)/\(∀k,Ar k->Bl.or Bk (Bl.one w.heap.size) k)/\On Ar w (w.alloc b):=by
 have e:bW w (w.alloc b):=bA _ _;exact⟨c.on (vV e c.lies),λk a=>⟨.inl (f k a).1,(f k a).2⟩,λk a=>.inl (d k a),vV e (λk a=>g k (d k a))⟩
abbrev OpV.ob(c:OpV):Obj:=.cells c.cells 46
abbrev Tru(R:World->Prop):Ending->World->Prop:=λe w'=>e=.returned (.bool true)/\R w'
abbrev OpD(w:World)(b:Nat)(c:OpV):Prop:=w.cell? ⟨b,1,none⟩=some (.int .i64 c.tx)/\w.cell? ⟨b,2,none⟩=some (.string c.p)/\w.cell? ⟨b,3,none⟩=some (.string c.q)/\w.cell? ⟨b,5,none⟩=some (.bool c.wr)
abbrev OpC(w:World)(q d b:Nat)(c:OpV):Prop:=w.cell? ⟨q,1,none⟩=some (.pointer (some ⟨d,0,none⟩))/\OpD w b c
section
variable {d:Nat} (c:OpV) {R:World->Prop}
theorem jH(h:(c.kind=1/\cL 20 #[.p q 0] (w.alloc c.ob) (Tru R))\/((w.alloc c.ob).c q 1=some (.p d 0)/\(((c.kind=3\/c.kind=4)/\cL 23 #[.p q 0,.agg c.cells] (w.alloc c.ob) (Tru R))\/(c.kind=5/\cL 24 #[.p q 0,.agg c.cells] (w.alloc c.ob) (Tru R))\/(c.kind=7/\cL 26 #[.p q 0,.agg c.cells] (w.alloc c.ob) (Tru R))\/(c.kind=9/\cL 29 #[.p q 0,.agg c.cells] (w.alloc c.ob) (Tru R))))):
  cL 9 #[.p q 0,.agg c.cells] w (Tru R):=by
 have⟨l,n,P,Q,g,o,j,m,k⟩:=c
 have f:=aA w (OpV.ob ⟨l,n,P,Q,g,o,j,m,k⟩)
 dsimp only[OpV.ob]at h f
 have⟨i,p⟩:=nM (w.alloc (.cells #[.int .i64 l,.int .i64 n,.string P,.string Q,.int .i64 g,.bool o,.slice j m k] 46))
 rw[p]at h f
 have⟨r,s,t,u,v,x,y⟩:=fL f
 rcases h with⟨rfl,H⟩|⟨z,⟨rfl|rfl,H⟩|⟨rfl,H⟩|⟨rfl,H⟩|⟨rfl,H⟩⟩
 all_goals
  go_enter Tryz.func9,Tryz.ntmps9
  go_wp2_with (first
   |(go_at_call 20;(with_reducible apply jC H);rintro b e ⟨rfl,a⟩)
   |(go_at_call 23;(with_reducible apply jC H);rintro b e ⟨rfl,a⟩)
   |(go_at_call 24;(with_reducible apply jC H);rintro b e ⟨rfl,a⟩)
   |(go_at_call 26;(with_reducible apply jC H);rintro b e ⟨rfl,a⟩)
   |(go_at_call 29;(with_reducible apply jC H);rintro b e ⟨rfl,a⟩))
  go_ret
  exact⟨rfl,a⟩
theorem Hi(h:(c.kind≠1/\c.kind<=10/\(w.alloc c.ob).c q 1=some (.pointer none))\/(c.kind<1/\(w.alloc c.ob).c q 1=some (.p d 0)))(b:R (w.alloc c.ob)):
  cL 9 #[.p q 0,.agg c.cells] w (Tru R):=by
 have⟨a,l,P,Q,f,m,i,k,j⟩:=c
 have e:=aA w (OpV.ob ⟨a,l,P,Q,f,m,i,k,j⟩)
 dsimp only[OpV.ob]at h e b
 have⟨g,n⟩:=nM (w.alloc (.cells #[.int .i64 a,.int .i64 l,.string P,.string Q,.int .i64 f,.bool m,.slice i k j] 46))
 rw[n]at h e b
 have⟨D,E,F,G,H,I,J⟩:=fL e
 have p:(a==1)=false:=by rcases h with h|h<;>simp<;>omega
 have s:¬(11:Int)<=a:=by rcases h with h|h<;>omega
 rcases h with⟨_,_,o⟩|⟨C,o⟩
 ·go_enter Tryz.func9,Tryz.ntmps9
  go_wp2
  go_ret
  exact⟨rfl,b⟩
 ·have t:(a==2)=false:=by simp;omega
  have u:(a==3)=false:=by simp;omega
  have v:(a==4)=false:=by simp;omega
  have x:(a==5)=false:=by simp;omega
  have y:(a==6)=false:=by simp;omega
  have z:(a==7)=false:=by simp;omega
  have A:(a==8)=false:=by simp;omega
  have B:(a==9)=false:=by simp;omega
  have r:(a==10)=false:=by simp;omega
  go_enter Tryz.func9,Tryz.ntmps9
  go_wp2
  go_ret
  exact⟨rfl,b⟩
theorem xH(k:∀X,Below (w.alloc c.ob).heap.size (w.alloc c.ob) X->OpC X q d w.heap.size c){v}(h:(∃a z,v=.tuple #[.i a,.i z]/\c.kind=2/\∀X,Below (w.alloc c.ob).heap.size (w.alloc c.ob) X->cL 12 #[.p d 0,.bool c.wr] X λe b=>e=.returned v/\Hid (∀Y,bW b Y->OpC Y q d w.heap.size c/\cL 22 #[.p q 2,.bool c.wr] Y λe w'=>e=.returned v/\Hid (OpD w' w.heap.size c/\R w'))) \/
   (∃z,v=.i z/\((c.kind=6/\∀X,Below (w.alloc c.ob).heap.size (w.alloc c.ob) X->cL 13 #[.p d 0,.i c.tx,.string c.p,.string c.q] X λe b=>e=.returned v/\Hid (∀Y,bW b Y->OpC Y q d w.heap.size c/\cL 25 #[.p q 2,.i c.tx,.string c.p,.string c.q] Y λe w'=>e=.returned v/\Hid (OpD w' w.heap.size c/\R w'))) \/
    (c.kind=8/\∀X,Below (w.alloc c.ob).heap.size (w.alloc c.ob) X->cL 27 #[.p d 0,.i c.tx] X λe b=>e=.returned v/\Hid (∀Y,bW b Y->OpC Y q d w.heap.size c/\cL 28 #[.p q 2,.i c.tx] Y λe w'=>e=.returned v/\Hid (OpD w' w.heap.size c/\R w')))))):
  cL 9 #[.p q 0,.agg c.cells] w (Tru R):=by
 obtain⟨u,m,P,Q,r,n,s,x,t⟩:=c
 have o:=aA w (OpV.ob ⟨u,m,P,Q,r,n,s,x,t⟩)
 dsimp only[OpV.ob,OpC,OpD]at h o k
 obtain⟨g,G⟩:=nM (w.alloc (.cells #[.int .i64 u,.int .i64 m,.string P,.string Q,.int .i64 r,.bool n,.slice s x t] 46))
 rw[G]at h o k
 have F:Hid _:=k
 have i:bW g g:=AC _ _
 have I:=(fL o).1
 obtain⟨y,A,B,C,D⟩:=k g i
 clear o k
 rcases h with⟨a,z,rfl,rfl,H⟩|⟨z,rfl,⟨rfl,H⟩|⟨rfl,H⟩⟩
 all_goals
  have p:Hid _:=H
  clear H
  go_enter Tryz.func9,Tryz.ntmps9
  go_wp2
  go_region_held3 (λX=>X.cell? ⟨q,1,none⟩=some (.pointer (some ⟨d,0,none⟩))/\X.cell? ⟨w.heap.size,1,none⟩=some (.int .i64 m)/\X.cell? ⟨w.heap.size,2,none⟩=some (.string P)/\X.cell? ⟨w.heap.size,3,none⟩=some (.string Q)/\X.cell? ⟨w.heap.size,5,none⟩=some (.bool n))
   (first|exact F.out _ i.drew|exact(f.out _ (AC _ _)).1)
   (first
    |(go_at_call 12;(with_reducible refine jC (p.out _ i.drew) ?_);rintro e b ⟨rfl,f⟩)
    |(go_at_call 13;(with_reducible refine jC (p.out _ i.drew) ?_);rintro e b ⟨rfl,f⟩)
    |(go_at_call 27;(with_reducible refine jC (p.out _ i.drew) ?_);rintro e b ⟨rfl,f⟩))
  all_goals
   clear y A B C D I
   have j:bW b b:=AC _ _
   obtain⟨y,A,B,C,D⟩:=(f.out b j).1
   go_wp2
   go_region_held3 (λX=>X.cell? ⟨w.heap.size,1,none⟩=some (.int .i64 m)/\X.cell? ⟨w.heap.size,2,none⟩=some (.string P)/\X.cell? ⟨w.heap.size,3,none⟩=some (.string Q)/\X.cell? ⟨w.heap.size,5,none⟩=some (.bool n))
    (first|exact(f.out _ j.drew).1.2|exact l.out.1)
    (first
     |(go_at_call 22;(with_reducible refine jC (f.out _ j.drew).2 ?_);rintro e E ⟨rfl,l⟩)
     |(go_at_call 25;(with_reducible refine jC (f.out _ j.drew).2 ?_);rintro e E ⟨rfl,l⟩)
     |(go_at_call 28;(with_reducible refine jC (f.out _ j.drew).2 ?_);rintro e E ⟨rfl,l⟩))
   all_goals go_wp2
   all_goals go_ret
   all_goals exact⟨rfl,l.out.2⟩
theorem qCf{v:Nat}(p:c.kind=10)(k:(w.alloc c.ob).c q 1=some (.p d 0))(h:cL 18 #[.p d 0] (w.alloc c.ob) λe w'=>e=.returned (.i v)/\w'.c q 3=some (.i v)/\R w'):
  cL 9 #[.p q 0,.agg c.cells] w (Tru R):=by
 have⟨r,l,P,Q,b,m,g,j,i⟩:=c
 obtain rfl:r=10:=p
 have a:=aA w (OpV.ob ⟨10,l,P,Q,b,m,g,j,i⟩)
 dsimp only[OpV.ob]at h a k
 have⟨f,o⟩:=nM (w.alloc (.cells #[.int .i64 10,.int .i64 l,.string P,.string Q,.int .i64 b,.bool m,.slice g j i] 46))
 rw[o]at h a k
 have s:=(fL a).1
 go_enter Tryz.func9,Tryz.ntmps9
 go_wp2_with (go_at_call 18;(with_reducible apply jC h);rintro e u ⟨rfl,t,n⟩)
 go_ret
 exact⟨rfl,n⟩
end
theorem qCg(h:LSt n B w q Ar)(m:B<=400000)(C:n<=4096)(c)(I:qKj c):
  cL 9 #[.p q 0,.agg c.cells] w λe w'=>e=.returned (.bool true)/\On Ar w w'/\LSt n (B+1) w' q Ar:=by
 obtain⟨Bk,vp,ps,s,Q,J,i,V⟩:=h
 have ah:=I.k
 have ac:∀{K:Bl}{β:Nat}{sv lv:Value}{fs:Fs}{v:Nat}{o ao:Option (Nat×T)}{M:RM},Wc n B w q Bk K β sv lv fs v o ao M->M.p9=vp->cL 20 #[.p q 0] (w.alloc c.ob) (Tru λw'=>On Ar w w'/\LSt n (B+1) w' q Ar):=λk e=>by
  subst e
  obtain⟨y,A,z,E⟩:=Fu c.ob Q i V (λj i=>(k.book j i).1)
  rcases BS n 40 with C|C
  ·refine(Zl (k.box c.ob) C).mono ?_
   rintro e w' ⟨rfl,t,s⟩
   obtain⟨a,b⟩:=LSt.cls y J A z t (s.up (DL B))
   exact⟨rfl,E.trans a,b⟩
  ·refine(Zm (k.box c.ob) m C).mono ?_
   rintro e w' ⟨rfl,t,s⟩
   obtain⟨a,b⟩:=LSt.of y J A z t C (s.up (DL B))
   exact⟨rfl,E.trans a,b⟩
 rcases s with⟨⟨K,D,v,o,ao,ots,M,k,rfl⟩,a4⟩|⟨K,β,sv,lv,fs,v,o,ao,M,k,a9,rfl⟩
 ·obtain⟨y,A,z,E⟩:=Fu c.ob Q i V (λj i=>(k.book j i).1)
  have f:=k.box c.ob
  have F:(w.alloc c.ob).c q 1=some (.p D.d 0):=(dL f.ref.box).2.1.trans (by rw[k.x])
  have ad:=aA w c.ob
  have H:∀{w'},On (Bl.or Bk (Bl.one w.heap.size)) (w.alloc c.ob) w'->Lw n (B+1) w' q (Bl.or Bk (Bl.one w.heap.size)) M.p9->On Ar w w'/\LSt n (B+1) w' q Ar:=λt s=>by
   obtain⟨a,b⟩:=LSt.of y J A z t a4 s
   exact⟨E.trans a,b⟩
  have a2:∀{G:Nat}{L:Array Value},(cL G L (w.alloc c.ob) λe w'=>e=.returned (.bool true)/\On (Bl.or Bk (Bl.one w.heap.size)) (w.alloc c.ob) w'/\Lw n (B+1) w' q (Bl.or Bk (Bl.one w.heap.size)) M.p9)->cL G L (w.alloc c.ob) (Tru λw'=>On Ar w w'/\LSt n (B+1) w' q Ar):=λh=>h.mono (λe w' h=>⟨h.1,H h.2.1 h.2.2⟩)
  have a6:∀{X ag},aZ X ag q M->On (Bl.or Bk (Bl.one w.heap.size)) (w.alloc c.ob) X->OpC X q D.d w.heap.size c:=λR t=>by
   obtain⟨_,W,Y,Z,_,a0,_⟩:=fL (t.heap ad (.inr rfl))
   exact⟨(dL R.box).2.1.trans (by rw[k.x]),W,Y,Z,a0⟩
  have a1:∀{G g:Nat}{L ae:Array Value}{X:World}{P:Value},Below (w.alloc c.ob).heap.size (w.alloc c.ob) X->(cL G L X λe u=>e=.returned P/\aZ u K q M/\On (Bl.or Bk (Bl.one w.heap.size)) X u/\X.heap.size<=u.heap.size/\∀x,bW u x->cL g ae x λe w'=>e=.returned P/\On (Bl.or Bk (Bl.one w.heap.size)) X w'/\Lw n (B+1) w' q (Bl.or Bk (Bl.one w.heap.size)) M.p9)->cL G L X λe u=>e=.returned P/\Hid (∀x,bW u x->OpC x q D.d w.heap.size c/\cL g ae x λe w'=>e=.returned P/\Hid (OpD w' w.heap.size c/\On Ar w w'/\LSt n (B+1) w' q Ar)):=λl h=>by
   have O:=vV l (λj i=>(f.book j i).1)
   refine h.mono ?_
   rintro e u ⟨rfl,R,aa,_,ai⟩
   refine⟨rfl,λx U=>⟨a6 (R.below U) ((O.trans aa).trans (vV U (λj i=>jY (f.book j i).1 (O.trans aa).size))),(ai x U).mono ?_⟩⟩
   rintro e w' ⟨rfl,ab,s⟩
   obtain⟨_,W,Y,Z,_,a0,_⟩:=fL ((O.trans ab).heap ad (.inr rfl))
   exact⟨rfl,⟨W,Y,Z,a0⟩,H (O.trans ab) s⟩
  have S:∀X,Below (w.alloc c.ob).heap.size (w.alloc c.ob) X->OpC X q D.d w.heap.size c:=λX l=>a6 (f.below l).ref (vV l (λj i=>(f.book j i).1))
  obtain⟨r,N⟩:=Cs M.ts c.tx
  rcases KZ c.kind 1 with a8|a8
  ·exact Hi c (.inr ⟨a8,F⟩) (H (CJ _ _) (Lw.up ⟨K,D,v,o,ao,ots,M,f,rfl⟩ (DL B)))
  ·have:c.kind=1\/c.kind=2\/c.kind=3\/c.kind=4\/c.kind=5\/c.kind=6\/c.kind=7\/c.kind=8\/c.kind=9\/c.kind=10:=by omega
   rcases this with e|e|e|e|e|e|e|e|e|e
   ·exact jH (d:=0) c (.inl ⟨e,ac k.wc rfl⟩)
   ·exact xH c S (.inl ⟨_,_,rfl,e,λX l=>a1 l (Vt (f.below l) m c.wr)⟩)
   ·exact jH c (.inr ⟨F,.inl ⟨.inl e,a2 (qGf f m c e)⟩⟩)
   ·refine jH c (.inr ⟨F,.inl ⟨.inr e,(qBk f m y J A z c (by rw[e];rfl) I.ok).mono ?_⟩⟩)
    rintro e w' ⟨rfl,t,af,an,al,ak,am⟩
    exact⟨rfl,E.trans t,af,an,al,.inl ⟨ak,a4⟩,am⟩
   ·refine jH c (.inr ⟨F,.inr (.inl ⟨e,(qEx f m c I.ok I.p I.q).mono ?_⟩)⟩)
    rintro e w' ⟨rfl,a7⟩
    exact⟨rfl,H (vV a7 (λj i=>(f.book j i).1)) (Lw.up ⟨K,D,v,o,ao,ots,M,f.below a7,rfl⟩ (DL B))⟩
   ·exact xH c S (.inr ⟨_,rfl,.inl ⟨e,λX l=>a1 l ((qDg (f.below l) m c.tx c.p c.q r N).mono (λe w' h=>⟨h.1,h.2.1,h.2.2.1,h.2.2.2.1,h.2.2.2.2.2⟩))⟩⟩)
   ·exact jH c (.inr ⟨F,.inr (.inr (.inl ⟨e,a2 (Qj f m c)⟩))⟩)
   ·exact xH c S (.inr ⟨_,rfl,.inr ⟨e,λX l=>a1 l (Vv (f.below l) m c.tx r N)⟩⟩)
   ·refine jH c (.inr ⟨F,.inr (.inr (.inr ⟨e,a2 ?_⟩))⟩)
    cases r with
    |none=>exact Vi f m C (by omega) c N
    |some p=>exact Qu f m C (by omega) c p.1 p.2 N
   ·refine qCf (v:=v) c e F ((rR D _ f.lk.db).mono ?_)
    rintro e w' ⟨rfl,aj,a5⟩
    have a3:=f.still aj (a5.mono (λj i=>i.elim)) (DL B)
    exact⟨by rw[f.lk.ver],by rw[(dL a3.ref.box).2.2.2.1,k.lk.nv],H (a5.on (λj i=>⟨(f.book j i).1,λh=>h⟩)) ⟨K,D,v,o,ao,ots,M,a3,rfl⟩⟩
 ·by_cases e:c.kind=1
  ·exact jH (d:=0) c (.inl ⟨e,ac k rfl⟩)
  ·obtain⟨y,A,z,E⟩:=Fu c.ob Q i V (λj i=>(k.book j i).1)
   have f:=k.box c.ob
   refine Hi (d:=0) c (.inl ⟨e,ah,by rw[(dL f.ref.box).2.1,a9]⟩) ?_
   obtain⟨a,b⟩:=LSt.cls y J A z (CJ _ _) (Lc.up ⟨K,β,sv,lv,fs,v,o,ao,M,f,a9,rfl⟩ (DL B))
   exact⟨E.trans a,b⟩
end
def M00:RM:=⟨.bool false,.bool false,.bool false,0,.bool false,0,.bool false,0,[],[],[],.bool false,.bool false,.bool false,.bool false,.bool false,.bool false,.bool false,.bool false,.bool false,.bool false⟩
structure LvS (w X:World) (B:Nat) (D:Db) (v:Nat) (o ao:Option (Nat×T)) (ots:List (Option (Nat×T))) (M:RM):Prop where
 lk:Lk 60 B X D v o ao ots M
 below:bW w X
 new:∀k,fpD D k->w.heap.size<=k
section
variable {w X X':World}{B B':Nat}{D D':Db}{v v':Nat}{o ao o' ao':Option (Nat×T)}{ots ots':List (Option (Nat×T))}{M M':RM}
theorem LvS.go(h:LvS w X B D v o ao ots M)(b:Fr (fpD D) X X')(c:aJ X (fpD D) (fpD D'))(d:Lk 60 B' X' D' v' o' ao' ots' M'):LvS w X' B' D' v' o' ao' ots' M':=by
 have f:=h.below.size;exact⟨d,h.below.trans (b.below f h.new),λa e=>(c a e).elim (h.new a) (λg=>by omega)⟩
end
abbrev kB:ByteArray:=⟨#[107]⟩
abbrev vB':ByteArray:=⟨#[118]⟩
theorem qAc(w):cL 7 #[] w λe w'=>e=.returned (.bool true)/\bW w w':=by
 have O:=qHd 60 w (by decide);have J:Hid (∀X β sv lv (fs:Fs) v o ao,lD [] 60 fs v o ao->fs.well->v<=10->(aX o).length<=10->(aX ao).length<=10->aH X β sv lv fs/\bW w X/\(∀b,fpF β sv lv b->w.heap.size<=b)->cL 11 #[.p β 0] X λe w'=>∃D:Db,e=.returned (.tuple #[.p D.d 0,.i 0])/\D.β=β/\Hid (LvS w w' 10 D v o ao [] {M00 with nv:=v,now:=kvB (aX o),ah:=kvB (aX ao)})):=λX β sv lv fs v o ao ay a3 C aq ar a=>by
  apply(Km ay (by decide) a3 β sv lv X a.1 C aq ar).mono;rintro e w' ⟨D,rfl,s,_,_,g,k,l⟩;have p:=a.2.1.size;exact⟨D,rfl,s,l {M00 with nv:=v,now:=kvB (aX o),ah:=kvB (aX ao)} rfl rfl rfl rfl rfl,a.2.1.trans (g.below p a.2.2),λb c=>(k b c).elim (a.2.2 b) (λbj=>by omega)⟩
 have I:Hid (∀X B D v o ao M y,B<=100->M.ts=[]->M.last=0->LvS w X B D v o ao [] M->cL 12 #[.p D.d 0,.bool y] X λe w'=>e=.returned (.tuple #[.i 1,.i 0])/\∃D',D'.d=D.d/\D'.β=D.β/\Hid (LvS w w' (B+1) D' v o ao [o] {M with last:=1,ov:=.bool false,ts:=[M.begun 1 y (.bool false)]})):=λX B D v o ao M y bk a2 a0 a=>by
  apply(Fv a.lk (by omega) y (by rw[a2];simp)).mono;rintro e w' ⟨rfl,D',⟨x,m⟩,g,k,l⟩;have q:=l (.bool false) (.bool false);rw[a0,a2]at q;exact⟨by rw[a0];rfl,D',x,m,a.go g k q⟩
 have an:Hid (∀X D,LvS w X 11 D 0 none none [none] {M00 with last:=1,ov:=.bool false,ts:=[M00.begun 1 true (.bool false)]}->cL 13 #[.p D.d 0,.i 1,.string kB,.string vB'] X λe w'=>e=.returned (.i 0)/\∃D',D'.d=D.d/\D'.β=D.β/\Hid (LvS w w' 12 D' 0 none none [none] {M00 with last:=1,ov:=.bool false,ts:=[(M00.begun 1 true (.bool false)).changed ⟨kB,vB',false⟩ (.bool false) (.bool false)]})):=λX D a=>by
  have n:cC [M00.begun 1 true (.bool false)] 1 (some (0,M00.begun 1 true (.bool false))):=⟨rfl,rfl⟩;apply(qDf a.lk (by decide) 1 kB vB' _ n).mono;rintro e w' ⟨rfl,D',⟨x,m⟩,g,k,ax⟩;have p:lU (some (0,M00.begun 1 true (.bool false))) kB vB'=0:=by rfl
  rcases ax with⟨C,_⟩|⟨j,t,s,_,_,_,_,l⟩
  ·exact absurd p C
  ·simp only[AX,GP]at s
   obtain⟨rfl,rfl⟩:=s;exact⟨by rw[p],D',x,m,a.go g k (l (.bool false) (.bool false))⟩
 have ai:Hid (∀X D,LvS w X 12 D 0 none none [none] {M00 with last:=1,ov:=.bool false,ts:=[(M00.begun 1 true (.bool false)).changed ⟨kB,vB',false⟩ (.bool false) (.bool false)]}->cL 14 #[.p D.d 0,.i 1] X λe w'=>e=.returned (.i 0)/\∃D' o',D'.β=D.β/\kvB (aX o')=[(kB,vB')]/\Hid (LvS w w' 13 D' 1 o' none [] {M00 with last:=1,ov:=.bool false,nv:=1,now:=[(kB,vB')]})):=λX D a=>by
  have n:cC [((M00.begun 1 true (.bool false)).changed ⟨kB,vB',false⟩ (.bool false) (.bool false))] 1 (some (0,((M00.begun 1 true (.bool false)).changed ⟨kB,vB',false⟩ (.bool false) (.bool false)))):=⟨rfl,rfl⟩;have Z:0<D.ts.length:=by have:=a.lk.len;rw[this];decide
  have T:(((M00.begun 1 true (.bool false)).changed ⟨kB,vB',false⟩ (.bool false) (.bool false))).ch≠[]:=by simp[RT.changed]
  have S:iT (((M00.begun 1 true (.bool false)).changed ⟨kB,vB',false⟩ (.bool false) (.bool false))).ch (((M00.begun 1 true (.bool false)).changed ⟨kB,vB',false⟩ (.bool false) (.bool false))).oth=false:=by rfl
  by_cases hroom:(bZ none (D.ts[0]).cs (dK 60 (cQ (osL none none [none] 0)))).2.length<=(dK 60 (cQ (osL none none [none] 0))).length
  ·apply(Aj a.lk (by decide) (by decide) (by decide) 1 0 _ n T S Z hroom).mono
   rintro e w' ⟨rfl,D',o',⟨x,m⟩,g,k,l⟩;have q:=l {M00 with last:=1,ov:=.bool false,nv:=1,now:=[(kB,vB')]} ⟨rfl,rfl,rfl,rfl,rfl,λi b4=>absurd b4 (GX _)⟩;exact⟨rfl,D',o',m,q.now,a.go g k q⟩
  ·have⟨bl,_⟩:=Ak a.lk (by decide) (by decide) (by decide) 1 0 _ n T S Z (by omega)
   have:kI {M00 with last:=1,ov:=.bool false,ts:=[((M00.begun 1 true (.bool false)).changed ⟨kB,vB',false⟩ (.bool false) (.bool false))]} ((M00.begun 1 true (.bool false)).changed ⟨kB,vB',false⟩ (.bool false) (.bool false))=12:=by rfl
   omega
 have aj:Hid (∀X D o',kvB (aX o')=[(kB,vB')]->LvS w X 13 D 1 o' none [] {M00 with last:=1,ov:=.bool false,nv:=1,now:=[(kB,vB')]}->cL 15 #[.p D.β 0] X λe w'=>∃d f h,e=.returned (.p d 0)/\Hid (aH w' d f h D.fs/\bW w w'/\(∀b,fpF d f h b->w.heap.size<=b)/\D.fs.well/\lD [] 60 D.fs 1 o' none)):=λX D o' V a=>by
  apply(Fg D.β D.sv D.lv D.fs X a.lk.db.file).mono;rintro e w' ⟨d,f,h,rfl,b2,az,b5⟩;have p:=a.below.size;exact⟨d,f,h,rfl,b2,a.below.trans (az.mono p),λb c=>by have:=b5 b c;omega,a.lk.well,a.lk.store⟩
 have ak:Hid (∀X (fs:Fs) o' d f h,aH X d f h fs/\bW w X/\(∀b,fpF d f h b->w.heap.size<=b)/\fs.well/\lD [] 60 fs 1 o' none->cL 16 #[.p d 0,.n] X λe w'=>∃u,e=.returned u/\Hid (aH w' d f .n fs/\bW w w'/\(∀b,fpF d f .n b->w.heap.size<=b))):=λX fs o' d f h a=>by
  apply(Ff d f h fs none 0 0 X a.1 a.2.2.2.2.late).mono;rintro e w' ⟨⟨u,rfl⟩,W,g⟩;rw[Fs.calm_well a.2.2.2.1]at W;refine⟨u,rfl,W,a.2.1.trans (g.below a.2.1.size (λb c=>a.2.2.1 b (.inl c))),λb c=>?_⟩;rcases c with c|c|c
  ·exact a.2.2.1 b (.inl c)
  ·exact a.2.2.1 b (.inr (.inl c))
  ·simp[Value.ownBlock]at c
 have al:Hid (∀X D o',kvB (aX o')=[(kB,vB')]->LvS w X 11 D 1 o' none [o'] {M00 with nv:=1,now:=kvB (aX o'),ah:=kvB (aX none),last:=1,ov:=.bool false,ts:=[({M00 with nv:=1,now:=kvB (aX o'),ah:=kvB (aX none)}:RM).begun 1 false (.bool false)]}->cL 17 #[.p D.d 0,.i 1,.string kB] X λe w'=>e=.returned (.tuple #[.string vB',.i 0])/\Hid (bW w w'/\aO w' 0 D/\D.ver=1)):=λX D o' V a=>by
  have n:cC [({M00 with nv:=1,now:=kvB (aX o'),ah:=kvB (aX none)}:RM).begun 1 false (.bool false)] 1 (some (0,({M00 with nv:=1,now:=kvB (aX o'),ah:=kvB (aX none)}:RM).begun 1 false (.bool false))):=⟨rfl,rfl⟩;apply(Ur a.lk (by decide) 1 kB _ n).mono;rintro e w' ⟨rfl,av,g⟩;have b3:eR (some (0,({M00 with nv:=1,now:=kvB (aX o'),ah:=kvB (aX none)}:RM).begun 1 false (.bool false))) kB=(vB',0):=by
   simp only[eR,RM.begun];have b6:rO [(kB,vB')] kB=some vB':=(rY (by simp[qE])).2 (by simp);rw[V,AW (by decide),b6]
  exact⟨by rw[b3],a.below.trans (g.below a.below.size (λb c=>by simp only[Bl.one]at c;exact a.new b (.inl c))),av,a.lk.ver⟩
 have ap:Hid (∀X (D:Db),bW w X/\aO X 0 D/\D.ver=1->cL 18 #[.p D.d 0] X λe w'=>e=.returned (.i 1)/\Hid (bW w w')):=λX D a=>by
  apply(rR D X a.2.1).mono;rintro e w' ⟨rfl,_,g⟩;exact⟨by rw[a.2.2],a.1.trans (g.below a.1.size (λb c=>c.elim))⟩
 have am:Hid (∀X,cL 11 #[.pointer none] X λe w'=>e=.returned (.tuple #[.pointer none,.i 1])/\w'=X):=λX=>qDv X;rw[show((60:Nat):Int)=60 from rfl]at O;go_enter Tryz.func7,Tryz.ntmps7;go_wp2_with (first
  |(go_at_call 8;(with_reducible apply jC O);rintro e a4 ⟨β,sv,lv,rfl,Y,R,a1⟩;have aw:=am a4;have F:=J a4 β sv lv (Fs.new 60) 0 none none (Hh [] 60 (by decide)) ⟨rfl,rfl⟩ (by decide) (by decide) (by decide) ⟨Y,R,a1⟩;clear Y R a1)
  |(go_at_call 11;(with_reducible apply jC aw);rintro e w' ⟨rfl,a3⟩;subst w')
  |(go_at_call 11;(with_reducible apply jC F);rintro e bb ⟨D,rfl,m,aa⟩;subst m;have E:=I bb 10 D 0 none none _ true (by decide) rfl rfl aa)
  |(go_at_call 12;(with_reducible apply jC E);rintro e bc ⟨rfl,a5,b0,b7,ab⟩;have P:=an bc a5 ab;rw[b0]at P)
  |(go_at_call 13;(with_reducible apply jC P);rintro e bd ⟨rfl,a6,b1,b8,ac⟩;have K:=ai bd a6 ac;rw[b1]at K)
  |(go_at_call 14;(with_reducible apply jC K);rintro e be ⟨rfl,z,r,b9,G,ad⟩;have L:=aj be z r G ad;rw[b9,b8,b7]at L)
  |(go_at_call 15;(with_reducible apply jC L);rintro e bf ⟨d,f,h,rfl,A⟩;have au:=ak bf z.fs r d f h A)
  |(go_at_call 16;(with_reducible apply jC au);rintro e bg ⟨u,rfl,ae⟩;have F:=J bg d f _ z.fs 1 r none A.2.2.2.2 A.2.2.2.1 (by decide) (by rw[<-oO,G];decide) (by decide) ae)
  |(go_at_call 11;(with_reducible apply jC F);rintro e bh ⟨a7,rfl,bm,af⟩;have E:=I bh 10 a7 1 r none _ false (by decide) rfl rfl af)
  |(go_at_call 12;(with_reducible apply jC E);rintro e bi ⟨rfl,H,U,bn,ag⟩;have N:=al bi H r G ag;rw[U]at N)
  |(go_at_call 17;(with_reducible apply jC N);rintro e ba ⟨rfl,a8⟩;have Q:=ap ba H a8;rw[U]at Q)
  |(go_at_call 18;(with_reducible apply jC Q);rintro e bo ⟨rfl,a9⟩))
 go_ret;exact⟨rfl,a9⟩
abbrev OpV.cl(o:OpV):List Value:=[.int .i64 o.kind,.int .i64 o.tx,.string o.p,.string o.q,.int .i64 o.n,.bool o.wr,.slice o.ka o.kn o.kc]
theorem Bp{b β:Type}(f:b->List β)(k)(a:∀x,(f x).length=k):∀(l:List b) (i j:Nat) (hi:i<l.length),j<k->(l.flatMap f)[i * k+j]?=(f l[i])[j]?
 |x :: l,0,j,_,hj=>by rw[AJ,DV,DO,BT (by rw[a];exact hj)];rfl
 |x :: l,i+1,j,hi,hj=>by
  have c:(i+1) * k+j-(f x).length=i * k+j:=by rw[a,JB];omega
  have d:(f x).length<=(i+1) * k+j:=by rw[a,JB];omega
  rw[AJ,BJ d,c];exact Bp f k a l i j (by simpa using hi) hj
section
variable {n B:Nat}{w w':World}{q:Nat}{Ar:Bl}
theorem LSt.below(h:LSt n B w q Ar)(b:bW w w'):LSt n B w' q Ar:=by
 have⟨Bk,vp,ps,i,e,k,c,j⟩:=h;refine⟨Bk,vp,ps,?_,e.on (vV b e.lies),k,c,j⟩;rcases i with⟨⟨K,D,v,o,ao,ots,M,a,d⟩,g⟩|⟨K,β,sv,lv,fs,v,o,ao,M,a,d⟩
 ·exact .inl ⟨⟨K,D,v,o,ao,ots,M,a.below b,d⟩,g⟩
 ·exact .inr ⟨K,β,sv,lv,fs,v,o,ao,M,{a with ref:=a.ref.below b,file:=a.file.on (vV b a.file.lies),book:=λf c=>⟨jY (a.book f c).1 b.size,(a.book f c).2⟩},d⟩
theorem LSt.up(h:LSt n B w q Ar){B'}(a:B<=B'):LSt n B' w q Ar:=by
 have⟨Bk,vp,ps,c,b,f,e,d⟩:=h;exact⟨Bk,vp,ps,c.imp (λh=>⟨h.1.up a,h.2⟩) (λh=>h.up a),b,by omega,e,d⟩
theorem LSt.looks(h:LSt n B w q Ar)(k:B<=1000000):cL 10 #[.p q 14] w λe w'=>e=.returned (.bool true)/\bW w w':=by
 have⟨Bk,vp,ps,g,f,p,m,l⟩:=h;have d:∀{K:Bl}{M:RM},aZ w K q M->(M.p5=.bool false/\M.p6=.n/\M.p7=.n/\M.p8=.n)->M.p9=vp->cL 10 #[.p q 14] w λe w'=>e=.returned (.bool true)/\bW w w':=λ{K M} i c e=>by
  have b:=i.box;exact qHj f (by omega) (gL b) (by simp[World.cell?,b,c.2.1]) (by simp[World.cell?,b,c.2.2.1]) (by simp[World.cell?,b,c.2.2.2]) (by simp[World.cell?,b,e])
 rcases g with⟨⟨K,D,v,o,ao,ots,M,a,e⟩,j⟩|⟨K,β,sv,lv,fs,v,o,ao,M,a,_,e⟩
 ·exact d a.ref a.meta' e
 ·exact d a.ref a.meta' e
end
abbrev M0w(β:Nat):RM:=⟨.pointer (some ⟨β,0,none⟩),.pointer none,.slice none 0 0,0,.slice none 0 0,0,.slice none 0 0,0,[],[],[],.slice none 0 0,.int .i64 0,.bool false,.bool false,.bool false,.bool false,.slice none 0 0,.slice none 0 0,.slice none 0 0,.slice none 0 0⟩
theorem LSt.start{n β sv lv w X}(s:n<=4096)(j:bW w X)(c:aH X β sv lv (Fs.new n))(m:∀k,fpF β sv lv k->w.heap.size<=k):LSt n 0 (X.alloc (M0w β).obj) X.heap.size (λk=>k<w.heap.size):=by
 have t:=j.size;have l:bW X (X.alloc (M0w β).obj):=bA _ _;have h:∀(e:World),gA e Bl.none .n []:=λe=>(KM (AL _ _ _ _)).mono (λk a=>by simp[Value.ownBlock]at a);have i:aZ (X.alloc (M0w β).obj) Bl.none X.heap.size (M0w β):=⟨aA X _,AL _ _ _ _,h _,h _,λp d=>(by cases d),DW,λk a=>a.elim⟩;have g:∀k,Bl.or Bl.none (fpR X.heap.size (M0w β)) k->k=X.heap.size:=by
  rintro k (a|rfl|a|⟨p,d,_⟩)
  ·exact a.elim
  ·rfl
  ·simp[Value.ownBlock]at a
  ·cases d
 refine⟨λk=>k<w.heap.size,.n,[],.inr ⟨Bl.none,β,sv,lv,Fs.new n,0,none,none,M0w β,⟨i,rfl,c.on (vV l c.lies),⟨rfl,rfl⟩,by simp[Fs.new],λr=>Hh [] n (by omega),rfl,jU _,rfl,rfl,⟨jU _,jU _⟩,rfl,rfl,rfl,⟨rfl,rfl,rfl,rfl⟩,λk a=>⟨λb=>by have f:=g k b;have q:=c.lies k a;omega,λb=>by have f:=m k a;omega⟩,λk a=>⟨by simp;omega,λb=>by have f:=g k b;omega⟩⟩,rfl,rfl⟩,jG.none _,AH _,λk a=>?_,λk a=>a⟩
 ·rcases a with a|⟨u,o,_⟩
  ·simp[Value.ownBlock]at a
  ·cases o
theorem Ze(z sa sc)(cs:List OpV)(w)(hR:eX w w.heap.size sa (cs.flatMap OpV.cl))(hf:∀c∈cs,Lr c/\c.p.size<=2000000/\c.q.size<=2000000)(hl:cs.length<=400000):
  cL 6 #[.i z,.slice sa cs.length sc,.i 10] w λe w'=>e=.returned (.bool true)/\bW w w':=by
 have⟨n,hn,HN⟩:∃n:Nat,n<=4096/\Hid (∀X,cL 8 #[.i z] X λe w'=>∃β sv lv,e=.returned (.p β 0)/\aH w' β sv lv (Fs.new n)/\bW X w'/\∀k,fpF β sv lv k->X.heap.size<=k):=by
  rcases KZ z 0 with h0|h0
  ·exact⟨0,by decide,λX=>qHc z X h0⟩
  ·rcases KZ 4096 z with h1|h1
   ·exact⟨4096,by decide,λX=>qEc z 4096 X (.inr ⟨h1,rfl⟩)⟩
   ·exact⟨z.toNat,by omega,λX=>qEc z z.toNat X (.inl ⟨by omega,by omega⟩)⟩
 have HW:Hid (∀X β sv lv,bW w X->aH X β sv lv (Fs.new n)->(∀k,fpF β sv lv k->w.heap.size<=k)->∃W q,X.alloc (M0w β).obj=W/\X.heap.size=q/\LSt n 0 W q (λk=>k<w.heap.size)/\On (λk=>k<w.heap.size) w W):=λX β sv lv hb hf' hn'=>⟨_,_,rfl,rfl,LSt.start hn hb hf' hn',vV (hb.alloc hb.size _) (λk hk=>hk)⟩;have HC:Hid (∀X i (hi:i<cs.length),On (λk=>k<w.heap.size) w X->∃b off,sa=some ⟨b,off,none⟩/\X.cell? ⟨b,off+i * 7,none⟩=some (.i cs[i].kind)/\X.cell? ⟨b,off+i * 7+1,none⟩=some (.i cs[i].tx)/\X.cell? ⟨b,off+i * 7+2,none⟩=some (.string cs[i].p)/\X.cell? ⟨b,off+i * 7+3,none⟩=some (.string cs[i].q)/\X.cell? ⟨b,off+i * 7+4,none⟩=some (.i cs[i].n)/\X.cell? ⟨b,off+i * 7+5,none⟩=some (.bool cs[i].wr)/\X.cell? ⟨b,off+i * 7+6,none⟩=some (.slice cs[i].ka cs[i].kn cs[i].kc)):=λX i hi hO=>by
  rcases hR with hR|⟨b,off,ha,hb,hc⟩
  ·have:=Bp OpV.cl 7 (λ_=>rfl) cs i 0 hi (by decide)
   rw[hR]at this;simp at this
  ·have cell:∀j u,j<7->(cs[i].cl)[j]?=some u->X.cell? ⟨b,off+i * 7+j,none⟩=some u:=λj u hj hu=>by
    have h1:=hc (i * 7+j) u (by rw[Bp OpV.cl 7 (λ_=>rfl) cs i j hi hj];exact hu);rw[<-FI]at h1;have⟨ob,hob⟩:∃ob,w.heap[b]?=some ob:=⟨_,ET hb⟩;rw[CF (w:=w) (a:=⟨b,off+i * 7+j,none⟩) ((hO.heap hob hb).trans hob.symm)];exact h1
   exact⟨b,off,ha,cell 0 _ (by decide) rfl,cell 1 _ (by decide) rfl,cell 2 _ (by decide) rfl,cell 3 _ (by decide) rfl,cell 4 _ (by decide) rfl,cell 5 _ (by decide) rfl,cell 6 _ (by decide) rfl⟩
 have HF:Hid (∀c∈cs,Lr c/\c.p.size<=2000000/\c.q.size<=2000000):=hf;go_enter Tryz.func6,Tryz.ntmps6;go_wp2_with (first
  |(go_at_call 7;(with_reducible apply jC (qAc w));rintro e w1 ⟨rfl,hb1⟩;have hNw:=HN.out w1)
  |(go_at_call 8;(with_reducible apply jC hNw);clear hNw;rintro e w2 ⟨β,sv,lv,rfl,hf2,hb2,hn2⟩;have⟨W3,q,hW3,hq,hS3,hO3⟩:=HW.out w2 β sv lv (hb1.trans (hb2.mono hb1.size)) hf2 (λk hk=>vJ hb1.size (hn2 k hk));have H3:Hid (LSt n 0 W3 q (λk=>k<w.heap.size)/\On (λk=>k<w.heap.size) w W3):=⟨hS3,hO3⟩;clear hS3 hO3 hf2 hb2 hn2 hb1))
 go_loopw [9,10,11] (λi _ _ wr=>∃j:Nat,i=.i j/\j<=cs.length/\Hid (LSt n j wr q (λk=>k<w.heap.size)/\On (λk=>k<w.heap.size) w wr)) (λi _ _ _=>cs.length-(intOf i).toNat)
 case atStart=>exact⟨0,rfl,AH _,H3.out⟩
 case round =>
  clear H3;obtain⟨j,rfl,hj,HH⟩:=hrel;rcases BS j cs.length with hlt|hge
  ·have hji:(j:Int)<(cs.length:Int):=by omega
   obtain⟨b,off,rfl,c0,c1,c2,c3,c4,c5,c6⟩:=HC.out wr j hlt HH.out.2;have⟨hok,hp,hq'⟩:=HF.out _ (AB hlt);have⟨c,hc⟩:=nM (cs[j]);rw[hc]at c0 c1 c2 c3 c4 c5 c6 hok hp hq';have⟨kind,tx,P,Q,N,wb,ka,kn,kc⟩:=c;dsimp only at c0 c1 c2 c3 c4 c5 c6;rcases KZ 10 kind with hk|hk
   ·have HN':Hid (LSt n (j+1) wr q (λk=>k<w.heap.size)/\On (λk=>k<w.heap.size) w wr):=⟨HH.out.1.up (DL j),HH.out.2⟩
    go_wp2;exact⟨⟨j+1,by simp,by omega,HN'.out⟩,by simp[intOf];omega⟩
   ·have hk':¬(10:Int)<kind:=by omega
    have HSt:Hid (cL 9 #[.p q 0,.agg #[.i kind,.i tx,.string P,.string Q,.i N,.bool wb,.slice ka kn kc]] wr λe w'=>e=.returned (.bool true)/\Hid (LSt n (j+1) w' q (λk=>k<w.heap.size)/\On (λk=>k<w.heap.size) w w')):=by
     apply(qCg HH.out.1 (by omega) hn ⟨kind,tx,P,Q,N,wb,ka,kn,kc⟩ ⟨hok,hp,hq',hk⟩).mono;rintro e w' ⟨rfl,hO,hL⟩;exact⟨rfl,hL,HH.out.2.trans hO⟩
    go_wp2_with (first
     |(go_at_call 9;(with_reducible apply jC HSt.out);rintro e w5 ⟨rfl,H5⟩;have hLk:=H5.out.1.looks (by omega))
     |(go_at_call 10;(with_reducible apply jC hLk);rintro e w6 ⟨rfl,hb6⟩;have H6:Hid (LSt n (j+1) w6 q (λk=>k<w.heap.size)/\On (λk=>k<w.heap.size) w w6):=⟨H5.out.1.below hb6,H5.out.2.trans (vV hb6 (λk hk=>jY hk H5.out.2.size))⟩))
    exact⟨⟨j+1,by simp,by omega,H6.out⟩,by simp[intOf];omega⟩
  ·obtain rfl:j=cs.length:=by omega
   go_wp2;go_ret;have ho:=HH.out.2;exact⟨rfl,⟨ho.os,ho.tape,ho.output,ho.size,λk hk=>ho.block k hk⟩⟩
theorem qBa(z a b)(cs:List OpV)(w)(f:eX w w.heap.size a (cs.flatMap OpV.cl))(h:∀c∈cs,Lr c/\c.p.size<=2000000/\c.q.size<=2000000)(i:cs.length<=400000):
  cL 3 #[.i z,.slice a cs.length b] w λe w'=>e=.returned (.bool true)/\bW w w':=by
 go_enter Tryz.func3,Tryz.ntmps3;go_wp2_with (go_at_call 6;(with_reducible apply jC (Ze z a b cs w f h i));rintro e j ⟨rfl,g⟩);go_ret;exact⟨rfl,g⟩
