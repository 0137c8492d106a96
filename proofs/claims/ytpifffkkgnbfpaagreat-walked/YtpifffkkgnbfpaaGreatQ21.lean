import Derived.Test.YtpifffkkgnbfpaaGreatQ20
set_option linter.unusedSimpArgs false
set_option linter.unusedVariables false
set_option maxRecDepth 100000
set_option maxHeartbeats 8000000
namespace Go.Proofs.YtpifffkkgnbfpaaGreat.Tree
open Go.RowKit Pages
variable {K:List ByteArray} {P fr:List Nat} {Q:T→Prop} {fs fs':Fs} {o:Option (Nat×T)} {p root:Nat} {s x:Sp} {t:T} {α:Type}
theorem uK:∀ {l m:List En},cO l→cO m→(∀ y,y∈l↔y∈m)→l=m
 | [],[],_,_,_=>rfl
 | [],y :: m,_,_,h=>absurd ((h y).2 (by simp)) (by simp)
 | x :: l,[],_,_,h=>absurd ((h x).1 (by simp)) (by simp)
 | x :: l,y :: m,hl,hm,h=>by
  obtain⟨hx,hl'⟩:=List.pairwise_cons.1 hl
  obtain⟨hy,hm'⟩:=List.pairwise_cons.1 hm
  have exy:x=y:=by
   rcases List.mem_cons.1 ((h x).1 (by simp)) with e|e
   ·exact e
   ·rcases List.mem_cons.1 ((h y).2 (by simp)) with e'|e'
    ·exact e'.symm
    ·have:=fS (hx y e') (hy x e)
     rw [cC] at this;cases this
  subst exy
  rw [uK hl' hm' (fun z=>?_)]
  constructor
  ·intro hz
   rcases List.mem_cons.1 ((h z).1 (by simp [hz])) with rfl|hz'
   ·have:=hx z hz;rw [cC] at this;cases this
   ·exact hz'
  ·intro hz
   rcases List.mem_cons.1 ((h z).2 (by simp [hz])) with rfl|hz'
   ·have:=hy z hz;rw [cC] at this;cases this
   ·exact hz'
theorem Ri {es:List En} {cs:List Ch} (he:cO es) (hr:cH cs) (q:Sp):aX (es.filter (fun x=>q.has x.e.key)) (dV cs q)=(aX es cs).filter (fun x=>q.has x.e.key):=by
 rw [oJ,oJ]
 have hro:cH (dV cs q):=List.Pairwise.filter _ hr
 have hef:cO (es.filter (fun x=>q.has x.e.key)):=List.Pairwise.filter _ he
 refine uK (qN _ _ hef hro) (List.Pairwise.filter _ (qN _ _ he hr)) (fun y=>?_)
 rw [uU _ _ hef hro,List.mem_filter,List.mem_filter,uU _ _ he hr]
 unfold dV
 constructor
 ·rintro(⟨c,hc,hg,rfl⟩|⟨hy,hn⟩)
  ·obtain⟨h1,h2⟩:=List.mem_filter.1 hc
   exact⟨.inl ⟨c,h1,hg,rfl⟩,h2⟩
  ·obtain⟨h1,h2⟩:=hy
   refine⟨.inr ⟨h1,fun c hc e=>hn c (List.mem_filter.2 ⟨hc,?_⟩) e⟩,h2⟩
   rw [e];exact h2
 ·rintro⟨⟨c,hc,hg,rfl⟩|⟨hy,hn⟩,hq⟩
  ·exact .inl ⟨c,List.mem_filter.2 ⟨hc,hq⟩,hg,rfl⟩
  ·exact .inr ⟨⟨hy,hq⟩,fun c hc=>hn c (List.mem_filter.1 hc).1⟩
def fR (next:Nat) (d:ByteArray):Pg:=⟨4,0,0,next,[],[],[],d⟩
def eJ (es:List En):Pg:=⟨3,0,0,0,[],[],es.map (·.e),⟨#[]⟩⟩
def eM (los:List ByteArray) (pls:List Nat):Pg:=⟨2,0,0,0,los,pls.map (fun n:Nat=>(n:Int)),[],⟨#[]⟩⟩
def cG (ver root:Int):Pg:=⟨1,ver,root,0,[],[],[],⟨#[]⟩⟩
theorem sO (G:Pg) (hr:dU G.kind G.ver G.root G.next G.keys G.kids G.ents G.data=true) (hl:(fieldsB G.kind G.ver G.root G.next G.keys G.kids G.ents G.data).length≤252):G.encE=0:=by
 unfold Pg.encE Pages.cZ
 rw [if_pos (by rw [hr];simpa using hl)]
theorem wJ:(⟨#[]⟩:ByteArray).toList.isEmpty=true:=by rw [ByteArray.toList_eq];rfl
theorem nX (s:ByteArray):(dM s).length=s.size+1:=by
 unfold dM
 rw [jK,Array.length_toList]
 show 1+s.size=_
 omega
theorem Dj (ver root:Int) (h0:0≤ver) (h1:root=0∨aS root=true):(cG ver root).encE=0:=by
 refine sO _ ?_ ?_
 ·rcases h1 with h|h<;>simp [cG,dU,fG,kK,jM,Gl,h0,h,wJ]
 ·simp [cG,fieldsB,aJ]
theorem Nk (next:Nat) (d:ByteArray) (h1:next=0∨aS next=true) (h2:1≤d.size) (h3:d.size≤240):(fR next d).encE=0:=by
 refine sO _ ?_ ?_
 ·rcases h1 with h|h<;>simp [fR,dU,fG,kK,jS,Br,h,h2,h3]
 ·have:=nX d
  simp [fR,fieldsB,aJ]
  omega
theorem Gu:∀ (es:List Ent) (last:ByteArray),es.Pairwise (fun a b=>lt a.key b.key=true)→(∀ e∈es,lt last e.key=true∧e.key.size≤24∧nV e.val e.size e.over=true)→fM last es=true
 | [],_,_,_=>rfl
 | e :: r,last,hp,h=>by
  obtain⟨h1,h2⟩:=List.pairwise_cons.1 hp
  obtain⟨a1,a2,a3⟩:=h e (by simp)
  simp only [fM,Bool.and_eq_true,gK]
  refine⟨⟨⟨a1,by simpa using a2⟩,a3⟩,Gu r e.key h2 (fun x hx=>?_)⟩
  obtain⟨_,b2,b3⟩:=h x (by simp [hx])
  exact⟨h1 x hx,b2,b3⟩
theorem Bf:∀ (ks:List ByteArray) (last:ByteArray),ks.Pairwise (fun a b=>lt a b=true)→(∀ k∈ks,lt last k=true∧k.size≤24)→fQ last ks=true
 | [],_,_,_=>rfl
 | k :: r,last,hp,h=>by
  obtain⟨h1,h2⟩:=List.pairwise_cons.1 hp
  obtain⟨a1,a2⟩:=h k (by simp)
  simp only [fQ,Bool.and_eq_true,gK]
  exact⟨⟨a1,by simpa using a2⟩,Bf r k h2 (fun x hx=>⟨h1 x hx,(h x (by simp [hx])).2⟩)⟩
theorem qCt (x:En) (h:nV x.e.val x.e.size x.e.over=true):(Ent.bytes x.e).length=esz x:=by
 unfold Ent.bytes kV esz
 rw [jK,nX]
 simp only [nV,Bool.or_eq_true,Bool.and_eq_true,beq_iff_eq,decide_eq_true_eq] at h
 rcases h with⟨⟨h1,h2⟩,h3⟩|⟨⟨⟨h1,h2⟩,h3⟩,h4⟩
 ·rw [if_pos (by simp [h1]),if_neg (by omega),jK,nX]
  simp;omega
 ·have h0:¬ (x.e.over==0)=true:=by
   intro e
   rw [beq_iff_eq.1 e] at h1
   simp [aS] at h1
  rw [if_neg h0,if_pos h3,jK,jK,aJ,aJ]
  simp
theorem Ni:∀ (es:List En),(∀ x∈es,nV x.e.val x.e.size x.e.over=true)→((es.map (·.e)).flatMap Ent.bytes).length=tot esz es
 | [],_=>rfl
 | x :: es,h=>by
  rw [List.map_cons,List.flatMap_cons,jK,gH,qCt x (h x (by simp)),Ni es (fun y hy=>h y (by simp [hy]))]
theorem qAj (es:List En) (hne:es≠[]) (hr:cO es) (hk:∀ x∈es,lt ⟨#[]⟩ x.e.key=true∧x.e.key.size≤24∧nV x.e.val x.e.size x.e.over=true) (hs:tot esz es≤250):(eJ es).encE=0:=by
 have hok:fM ⟨#[]⟩ (es.map (·.e))=true:=Gu _ _ (by rw [List.pairwise_map];exact hr) (fun e he=>by
  obtain⟨x,hx,rfl⟩:=List.mem_map.1 he
  exact hk x hx)
 refine sO _ ?_ ?_
 ·have hne':es.map (·.e)≠[]:=by simpa using hne
  simp [eJ,dU,jS,fG,jM,hok,hne,wJ]
 ·have h2:=Ni es (fun x hx=>(hk x hx).2.2)
  simp only [eJ,fieldsB,lC,jK,aJ,if_neg (show ¬ (3:Int)=1 by decide),if_neg (show ¬ (3:Int)=2 by decide),if_pos]
  omega
theorem Mf:∀ (l:List Int),(l.flatMap (beB 2)).length=2 * l.length
 | []=>rfl
 | x :: l=>by rw [List.flatMap_cons,jK,aJ,Mf l,jB];omega
theorem Mh:∀ (l:List ByteArray),(l.flatMap dM).length=tot (fun k:ByteArray=>k.size+1) l
 | []=>rfl
 | x :: l=>by rw [List.flatMap_cons,jK,nX,Mh l,gH]
theorem qAk (los:List ByteArray) (pls:List Nat) (hne:los≠[]) (hl:pls.length=los.length+1) (hr:los.Pairwise (fun a b=>lt a b=true)) (hk:∀ k∈los,lt ⟨#[]⟩ k=true∧k.size≤24) (hp:∀ p∈pls,aS (p:Nat)=true) (hs:2 * pls.length+tot (fun k:ByteArray=>k.size+1) los≤250):(eM los pls).encE=0:=by
 refine sO _ ?_ ?_
 ·have h1:=Bf los ⟨#[]⟩ hr hk
  have h2:(pls.map (fun n:Nat=>(n:Int))).all aS=true:=by
   rw [List.all_eq_true]
   intro x hx
   obtain⟨p,hpp,rfl⟩:=List.mem_map.1 hx
   exact hp p hpp
  simp only [eM,dU,jS,kK,jM,gM,h1,h2,wJ,if_neg (show ¬ (2:Int)=1 by decide),if_pos,List.length_map,hl]
  simp [hne]
 ·simp only [eM,fieldsB,eD,jK,aJ,if_neg (show ¬ (2:Int)=1 by decide),if_pos,Mf,Mh,List.length_map]
  omega
theorem Mr {g:Pg} (h:fs.has p g) (hk:g.kind=2):∀ k∈g.kids,aS k=true:=by
 have:=sK h
 rw [hk] at this
 simp only [dU,if_neg (show ¬ (2:Int)=1 by decide),if_pos,Bool.and_eq_true,gM,List.all_eq_true] at this
 exact this.2.1.2
theorem Zv {g:Pg} (h:fs.has p g) (hk:g.kind=4):g.next=0∨aS g.next=true:=by
 have:=sK h
 rw [hk] at this
 simp only [dU,if_neg (show ¬ (4:Int)=1 by decide),if_neg (show ¬ (4:Int)=2 by decide),if_neg (show ¬ (4:Int)=3 by decide),if_pos,Bool.and_eq_true,Br,Bool.or_eq_true,beq_iff_eq] at this
 exact this.2.1
theorem oU (g:Pg) (hE:g.encE=0):g.encS.size=256:=by
 unfold Pg.encE Pages.cZ at hE
 split at hE
 ·rename_i hT
  unfold Pg.encS Pages.encS
  rw [if_pos hT]
  simp only [Bool.and_eq_true,decide_eq_true_eq] at hT
  show (sY _).toArray.size=256
  simp only [jA,sY,Ek,jK,List.length_replicate,aJ]
  omega
 ·simp at hE
theorem Nl (g:Pg) (hv:g.ver<9223372036854775808) (hE:g.encE=0):Oq g.encS g:=by
 have h:=Pk g hv hE
 exact⟨oU g hE,by rw [h];exact hE,by rw [h],h.symm⟩
inductive NT where
  | kept (t:T) (s:Sp)
  | leaf (s:Sp) (es:List En)
  | bran (s:Sp) (ks:List NT)
def NT.sp:NT→Sp
  | .kept _ s=>s
  | .leaf s _=>s
  | .bran s _=>s
def zI (n:NT):Nat:=n.sp.lo.size+3
def Gt (p:List En):NT:=.leaf ⟨iR p,⟨#[]⟩⟩ p
def cU (es:List En):List NT:=(eC esz es).map Gt
def fL:NT→Bool
  | .kept _ _=>false
  | .leaf _ es=>decide (tot esz es<62)
  | .bran _ ks=>decide (tot zI ks<62)
def NT.ents0:NT→List En
  | .kept (.leaf _ es) _=>es
  | .kept (.branch _ _ _) _=>[]
  | .leaf _ es=>es
  | .bran _ _=>[]
def vB (tog:NT→NT→List NT):List NT→List NT→List NT
  | [],next=>next
  | l :: acc,next=>match next with
    | [m]=>if fL l=true∨fL m=true then vB tog acc (tog l m) else (l :: acc).reverse++[m]
    | _=>(l :: acc).reverse++next
def rI (tog:NT→NT→List NT) (acc next:List NT):List NT:=vB tog acc.reverse next
def Hf (tog:NT→NT→List NT) (acc:List NT) (n:NT):List NT:=rI tog acc [n]
def iG (tog:NT→NT→List NT) (ns:List NT):List NT:=ns.foldl (Hf tog) []
theorem Vy {tog:NT→NT→List NT} {acc:List NT} {l m:NT} (h:fL l=true∨fL m=true):rI tog (acc++[l]) [m]=rI tog acc (tog l m):=by
  rw [rI,List.reverse_append,List.reverse_singleton,List.singleton_append]
  exact if_pos h
theorem Vx {tog:NT→NT→List NT} {acc:List NT} {l m:NT} (h:¬ (fL l=true∨fL m=true)):rI tog (acc++[l]) [m]=(acc++[l])++[m]:=by
  rw [rI,List.reverse_append,List.reverse_singleton,List.singleton_append]
  refine(if_neg h).trans ?_
  rw [List.reverse_cons,List.reverse_reverse]
theorem Qn {tog:NT→NT→List NT} {acc next:List NT} (h:next.length≠1):rI tog acc next=acc++next:=by
  rcases List.eq_nil_or_concat acc with rfl|⟨A,l,rfl⟩
  · rfl
  · rw [rI,List.concat_eq_append,List.reverse_append,List.reverse_singleton,List.singleton_append]
    match next,h with
    | [],_=>show (l :: A.reverse).reverse++[]=_;rw [List.reverse_cons,List.reverse_reverse]
    | [_],h=>exact absurd rfl h
    | x :: y :: r,_=>show (l :: A.reverse).reverse++_=_;rw [List.reverse_cons,List.reverse_reverse]
theorem yK {tog:NT→NT→List NT} {J:List NT→Prop} (hJ:∀ A l n B,J (A++l :: n :: B)→J (A++(tog l n++B))):∀ (acc next B:List NT),J (acc.reverse++(next++B))→J (vB tog acc next++B)
  | [],next,B,h=>by simpa [vB] using h
  | l :: acc,next,B,h=>by
    match next,h with
    | [],h=>simpa [vB] using h
    | [m],h =>
      by_cases hs:fL l=true∨fL m=true
      · have e:vB tog (l :: acc) [m]=vB tog acc (tog l m):=if_pos hs
        rw [e]
        exact yK hJ acc (tog l m) B (hJ _ _ _ _ (by simpa using h))
      · have e:vB tog (l :: acc) [m]=(l :: acc).reverse++[m]:=if_neg hs
        rw [e];simpa using h
    | x :: y :: r,h=>simpa [vB] using h
theorem Mi {tog:NT→NT→List NT} {J:List NT→Prop} (hJ:∀ A l n B,J (A++l :: n :: B)→J (A++(tog l n++B))) {acc:List NT} {n:NT} {B:List NT} (h:J (acc++n :: B)):J (Hf tog acc n++B) :=
  yK hJ acc.reverse [n] B (by simpa using h)
theorem Cu {tog:NT→NT→List NT} {J:List NT→Prop} (hJ:∀ A l n B,J (A++l :: n :: B)→J (A++(tog l n++B))):∀ {ns acc:List NT},J (acc++ns)→J (ns.foldl (Hf tog) acc)
  | [],acc,h=>by simpa using h
  | n :: ns,acc,h=>Cu hJ (ns:=ns) (acc:=Hf tog acc n) (Mi hJ h)
theorem nK {tog:NT→NT→List NT} {J:List NT→Prop} (hJ:∀ A l n B,J (A++l :: n :: B)→J (A++(tog l n++B))) {ns:List NT} (h:J ns):J (iG tog ns):=Cu hJ (ns:=ns) (acc:=[]) h
def iK (a b:NT):List NT:=cU (a.ents0++b.ents0)
def cY (ns:List NT):List En:=ns.flatMap NT.ents0
def En.good (fs:Fs) (x:En):Prop:=lt ⟨#[]⟩ x.e.key=true∧x.e.key.size≤24 ∧
  ((x.e.over=0∧x.ch=[]∧x.e.size=(x.e.val.size:Int)∧x.e.val.size≤400) ∨
   (x.e.val=⟨#[]⟩∧aS x.e.over=true∧∃ size over:Nat,x.e.size=size∧x.e.over=over∧60<size∧size≤400∧eP fs over size x.ch))
theorem Zy {x:En} (h:x.good fs):esz x≤87:=by
  obtain⟨_,hk,h|⟨hv,_,sz,ov,h1,_,h2,_⟩⟩:=h
  · obtain⟨_,_,h1,h2⟩:=h
    unfold esz;split<;>omega
  · unfold esz;rw [h1,if_pos (by omega)];omega
theorem oQ {x:En} (h:x.good fs):x.fits:=by
  obtain⟨_,hk,h|⟨hv,_⟩⟩:=h
  · exact⟨hk,h.2.2.2⟩
  · refine⟨hk,?_⟩;rw [hv];decide
def Ok0 (fs:Fs):NT→Prop
  | .kept (.leaf p es) s=>bH fs 0 (.leaf p es) s
  | .kept (.branch _ _ _) _=>False
  | .leaf s es=>es≠[]∧s.lo=iR es∧cO es∧tot esz es≤250∧∀ x∈es,x.good fs
  | .bran _ _=>False
def qFn (a b:NT):Prop:=∀ x∈a.ents0,lt x.e.key b.sp.lo=true
structure Lst (fs:Fs) (ns:List NT):Prop where
  ok:∀ n∈ns,Ok0 fs n
  lo:∀ n∈ns,∀ x∈n.ents0,le n.sp.lo x.e.key=true
  sep:ns.Pairwise qFn
theorem Uk {x:En} {l:List En}:cO (x :: l)↔(∀ y∈l,lt x.e.key y.e.key=true)∧cO l:=List.pairwise_cons
theorem qO {l m:List En}:cO (l++m)↔cO l∧cO m∧∀ x∈l,∀ y∈m,lt x.e.key y.e.key=true:=List.pairwise_append
theorem My {es:List En} (h:cO es):∀ x∈es,le (iR es) x.e.key=true:=by
  intro x hx
  cases es with
  | nil=>simp at hx
  | cons y l =>
    rcases List.mem_cons.1 hx with rfl|hx
    · exact bK _
    · exact kC ((Uk.1 h).1 x hx)
theorem vF {es:List En} (h:es≠[]):∃ x∈es,iR es=x.e.key:=by
  cases es with
  | nil=>exact absurd rfl h
  | cons y l=>exact⟨y,by simp,rfl⟩
theorem Bi:∀ {ps:List (List En)},cO ps.flatten→(∀ x∈ps.flatten,x.good fs)→(∀ p∈ps,p≠[])→(∀ p∈ps,tot esz p≤250)→Lst fs (ps.map Gt)
  | [],_,_,_,_=>⟨by simp,by simp,by simp⟩
  | p :: ps,hr,hg,hne,hf=>by
    rw [List.flatten_cons] at hr hg
    obtain⟨h1,h2,h3⟩:=qO.1 hr
    have ih:=Bi h2 (fun x hx=>hg x (by simp only [List.mem_append];exact .inr hx)) (fun q hq=>hne q (by simp [hq])) (fun q hq=>hf q (by simp [hq]))
    have hp:Ok0 fs (Gt p):=⟨hne p (by simp),rfl,h1,hf p (by simp),fun x hx=>hg x (by simp [hx])⟩
    refine⟨?_,?_,?_⟩
    · rw [List.map_cons];intro n hn
      rcases List.mem_cons.1 hn with rfl|hn
      · exact hp
      · exact ih.ok n hn
    · rw [List.map_cons];intro n hn
      rcases List.mem_cons.1 hn with rfl|hn
      · exact My h1
      · exact ih.lo n hn
    · rw [List.map_cons]
      refine List.pairwise_cons.2 ⟨fun n hn x hx=>?_,ih.sep⟩
      obtain⟨q,hq,rfl⟩:=List.mem_map.1 hn
      obtain⟨y,hy,e⟩:=vF (hne q (by simp [hq]))
      show lt x.e.key (iR q)=true
      rw [e]
      exact h3 x hx y (List.mem_flatten.2 ⟨q,hq,hy⟩)
theorem nO {es:List En} (hg:∀ x∈es,x.good fs):∀ x∈es,esz x≤250:=fun x hx=>by have:=Zy (hg x hx);omega
theorem nJ {es:List En} (hr:cO es) (hg:∀ x∈es,x.good fs):Lst fs (cU es):=by
  have h:=oV esz es (nO hg)
  exact Bi (by rw [h];exact hr) (by rw [h];exact hg) (Af esz es (nO hg)) (qAq esz es)
theorem Jf (ps:List (List En)):cY (ps.map Gt)=ps.flatten:=by
  induction ps with
  | nil=>rfl
  | cons p ps ih=>simp only [cY,List.map_cons,List.flatMap_cons,List.flatten_cons] at ih ⊢;rw [ih];rfl
theorem gB {es:List En} (hg:∀ x∈es,x.good fs):cY (cU es)=es:=by
  rw [cU,Jf,oV esz es (nO hg)]
theorem tM {es:List En} (hg:∀ x∈es,x.good fs):∀ n∈cU es,∃ x∈es,n.sp.lo=x.e.key:=by
  intro n hn
  obtain⟨p,hp,rfl⟩:=List.mem_map.1 hn
  obtain⟨x,hx,e⟩:=vF (Af esz es (nO hg) p hp)
  refine⟨x,?_,e⟩
  rw [← oV esz es (nO hg)]
  exact List.mem_flatten.2 ⟨p,hp,hx⟩
theorem tO {es:List En} (hg:∀ x∈es,x.good fs):∀ n∈cU es,∀ x∈n.ents0,x∈es:=by
  intro n hn x hx
  rw [← gB hg]
  exact List.mem_flatMap.2 ⟨n,hn,hx⟩
theorem fB {es:List En}  (h:bH fs 0 (.leaf p es) s):∀ x∈es,x.good fs:=by
  obtain⟨g,hg,hk,he,_,_,hok⟩:=h
  intro x hx
  obtain⟨_,hl⟩:=Mq hg hk
  obtain⟨h1,h2,h3⟩:=hl x.e (by rw [he];exact List.mem_map.2 ⟨x,hx,rfl⟩)
  refine⟨h1,h2,?_⟩
  obtain⟨sz,ov,o1,o2,o3,o4⟩:=hok x hx
  simp only [nV,Bool.or_eq_true,Bool.and_eq_true,beq_iff_eq,decide_eq_true_eq] at h3
  rcases h3 with⟨⟨a1,a2⟩,a3⟩|⟨⟨⟨a1,a2⟩,a3⟩,a4⟩
  · rcases o4 with⟨_,hc⟩|⟨hp,_⟩
    · exact .inl ⟨a1,hc,a3,by omega⟩
    · omega
  · have:ov≠0:=by
      intro e
      rw [o2,e] at a1
      simp [aS] at a1
    rcases o4 with⟨h0,_⟩|⟨_,hc⟩
    · exact absurd h0 this
    · exact .inr ⟨by exact jD.1 a2,a1,sz,ov,o1,o2,by omega,o3,hc⟩
theorem eV {n:NT} (h:Ok0 fs n):n.ents0≠[]∧cO n.ents0∧∀ x∈n.ents0,x.good fs:=by
  cases n with
  | kept t s =>
    cases t with
    | leaf p es=>exact⟨by obtain⟨g,_,_,_,hne,_⟩:=h;exact hne,dG (h:=0) h,fB h⟩
    | branch=>exact h.elim
  | leaf s es=>exact⟨h.1,h.2.2.1,h.2.2.2.2⟩
  | bran=>exact h.elim
theorem Lst.rise:∀ {ns:List NT},Lst fs ns→cO (cY ns)
  | [],_=>.nil
  | n :: ns,h=>by
    obtain⟨h1,h2⟩:=List.pairwise_cons.1 h.sep
    have ih:=Lst.rise (ns:=ns) ⟨fun m hm=>h.ok m (by simp [hm]),fun m hm=>h.lo m (by simp [hm]),h2⟩
    rw [cY,List.flatMap_cons]
    refine qO.2 ⟨(eV (h.ok n (by simp))).2.1,ih,fun x hx y hy=>?_⟩
    obtain⟨m,hm,hy⟩:=List.mem_flatMap.1 hy
    exact bT (h1 m hm x hx) (h.lo m (by simp [hm]) y hy)
theorem Lst.good {ns:List NT} (h:Lst fs ns):∀ x∈cY ns,x.good fs:=by
  intro x hx
  obtain⟨m,hm,hx⟩:=List.mem_flatMap.1 hx
  exact(eV (h.ok m hm)).2.2 x hx
theorem lN (a b:List NT):cY (a++b)=cY a++cY b:=by simp [cY]
theorem Lst.tog {A B:List NT} {l n:NT} (h:Lst fs (A++l :: n :: B)):Lst fs (A++(iK l n++B))∧cY (A++(iK l n++B))=cY (A++l :: n :: B):=by
  obtain⟨sA,sB,sAB⟩:=List.pairwise_append.1 h.sep
  obtain⟨sl,sB⟩:=List.pairwise_cons.1 sB
  obtain⟨sn,sB⟩:=List.pairwise_cons.1 sB
  obtain⟨l1,l2,l3⟩:=eV (h.ok l (by simp))
  obtain⟨n1,n2,n3⟩:=eV (h.ok n (by simp))
  have hrise:cO (l.ents0++n.ents0):=qO.2 ⟨l2,n2,fun x hx y hy=>bT (sl n (by simp) x hx) (h.lo n (by simp) y hy)⟩
  have hgood:∀ x∈l.ents0++n.ents0,x.good fs:=fun x hx=>(List.mem_append.1 hx).elim (l3 x) (n3 x)
  have hM:=nJ hrise hgood
  refine⟨⟨?_,?_,?_⟩,?_⟩
  · intro m hm
    simp only [List.mem_append] at hm
    rcases hm with hm|hm|hm
    · exact h.ok m (by simp [hm])
    · exact hM.ok m hm
    · exact h.ok m (by simp [hm])
  · intro m hm
    simp only [List.mem_append] at hm
    rcases hm with hm|hm|hm
    · exact h.lo m (by simp [hm])
    · exact hM.lo m hm
    · exact h.lo m (by simp [hm])
  · refine List.pairwise_append.2 ⟨sA,List.pairwise_append.2 ⟨hM.sep,sB,fun m hm b hb x hx=>?_⟩,fun a ha m hm x hx=>?_⟩
    · rcases List.mem_append.1 (tO hgood m hm x hx) with hx|hx
      · exact sl b (by simp [hb]) x hx
      · exact sn b hb x hx
    · rcases List.mem_append.1 hm with hm|hm
      · obtain⟨y,hy,e⟩:=tM hgood m hm
        rw [e]
        rcases List.mem_append.1 hy with hy|hy
        · exact bT (sAB a ha l (by simp) x hx) (h.lo l (by simp) y hy)
        · exact bT (sAB a ha n (by simp) x hx) (h.lo n (by simp) y hy)
      · exact sAB a ha m (by simp [hm]) x hx
  · rw [lN,lN,lN]
    show _++(cY (cU _)++_)=_
    rw [gB hgood]
    simp [cY]
theorem Hg {ns:List NT} (h:Lst fs ns):Lst fs (iG iK ns)∧cY (iG iK ns)=cY ns :=
  nK (J:=fun L=>Lst fs L∧cY L=cY ns) (fun _ _ _ _ hL=>⟨hL.1.tog.1,hL.1.tog.2.trans hL.2⟩) ⟨h,rfl⟩
theorem Sb {w:World} {o1 o2:Obj}:((w.alloc o1).alloc o2).heap[w.heap.size]?=some o1∧((w.alloc o1).alloc o2).heap[w.heap.size+1]?=some o2∧Below w.heap.size w ((w.alloc o1).alloc o2) :=
 ⟨aB _ (aA _ _),sI _ _ _ (by simp),(bA _ _).alloc (by simp) _⟩
theorem xN (root:Int) (β:Nat) (ca:Option Addr) (cn cc:Nat) (q:Sp) (w:World) :
  Calls Tryz.prog 74 #[.agg (tA β root ca cn cc),.agg #[.string q.lo,.string q.hi]] w fun e w' =>
   e=.returned (.func (.func 104) #[] #[.pointer (some ⟨w.heap.size,0,none⟩),.pointer (some ⟨w.heap.size+1,0,none⟩)]) ∧
   w'.heap[w.heap.size]?=some (.cells (tA β root ca cn cc) 95)∧w'.heap[w.heap.size+1]?=some (.cells #[.string q.lo,.string q.hi] 135)∧Below w.heap.size w w':=by
 have HR:∀ W4,W4=((w.alloc (.cells (tA β root ca cn cc) 95)).alloc (.cells #[.string q.lo,.string q.hi] 135)) →
   (W4.heap[w.heap.size]?=some (.cells (tA β root ca cn cc) 95)∧W4.heap[w.heap.size+1]?=some (.cells #[.string q.lo,.string q.hi] 135)∧Below w.heap.size w W4):=by
  rintro W4 rfl;exact Sb
 go_enter Tryz.func74,Tryz.ntmps74
 go_wp2
 go_ret
 exact⟨rfl,HR _ rfl⟩
theorem sW (gf:Nat) (lb:Array Value) (ca:Option Addr) (cn cc:Nat) (w:World) :
  Calls Tryz.prog 136 #[.func (.func gf) #[] lb,.slice ca cn cc] w fun e w' =>
   e=.returned (.func (.func 148) #[] #[.pointer (some ⟨w.heap.size+1,0,none⟩),.pointer (some ⟨w.heap.size,0,none⟩)]) ∧
   w'.heap[w.heap.size]?=some (.cells #[.func (.func gf) #[] lb] 132)∧w'.heap[w.heap.size+1]?=some (.cells #[.slice ca cn cc] 93)∧Below w.heap.size w w':=by
 have HR:∀ W4,W4=((w.alloc (.cells #[.func (.func gf) #[] lb] 132)).alloc (.cells #[.slice ca cn cc] 93)) →
   (W4.heap[w.heap.size]?=some (.cells #[.func (.func gf) #[] lb] 132)∧W4.heap[w.heap.size+1]?=some (.cells #[.slice ca cn cc] 93)∧Below w.heap.size w W4):=by
  rintro W4 rfl;exact Sb
 go_enter Tryz.func136,Tryz.ntmps136
 go_wp2
 go_ret
 exact⟨rfl,HR _ rfl⟩
theorem Kc (ea:Option Addr) (en ec:Nat) (w:World) :
  Calls Tryz.prog 176 #[.slice ea en ec] w fun e w' =>
   e=.returned (.func (.func 185) #[] #[.pointer (some ⟨w.heap.size,0,none⟩)]) ∧
   w'.heap[w.heap.size]?=some (.cells #[.slice ea en ec] 83)∧Below w.heap.size w w':=by
 have HR:∀ W4,W4=(w.alloc (.cells #[.slice ea en ec] 83))→(W4.heap[w.heap.size]?=some (.cells #[.slice ea en ec] 83)∧Below w.heap.size w W4):=by
  rintro W4 rfl;exact⟨aA _ _,bA _ _⟩
 go_enter Tryz.func176,Tryz.ntmps176
 go_wp2
 go_ret
 exact⟨rfl,HR _ rfl⟩
theorem iL {cs:List Ch} (h:cH cs) (q:Sp):cH (dV cs q):=List.Pairwise.filter _ h
theorem Yv (cs:List Ch) (q:Sp):(dV cs q).length≤cs.length:=List.length_filter_le _ _
def RdE (S:Bl) (β:Nat) (sv lv:Value) (w w':World):Bl:=fun k=>S k∨fpF β sv lv k∨(w.heap.size≤k∧k<w'.heap.size)
theorem Et (β:Nat) (sv lv:Value) (fs:Fs) (hl:(fs.life==0)=false) (root:Nat) (ca:Option Addr) (cc:Nat) (cs:List Ch) (q:Sp) (o:Option (Nat×T)) (hro:bI fs root o) (S:Bl) (w wa wz:World) (hf:aG w β sv lv fs) (hR:aH w S ca (cs.flatMap Ch.cells)) (hS:∀ b,S b→b<w.heap.size) (hr:cH cs) (hn:cs.length≤1000000)
  (bt be:Nat) (xt:wa.heap[bt]?=some (.cells #[.pointer (some ⟨β,0,none⟩),.int .i64 root,.slice ca cs.length cc] 95)) (xq:wa.heap[bt+1]?=some (.cells #[.string q.lo,.string q.hi] 135)) (KA:Below wa.heap.size wa wz)
  (a:Option Addr) (c:Nat) (hcut:Ju S ca cs a c (dV cs q))
  (xe:wz.heap[be]?=some (.cells #[.func (.func 104) #[] #[.pointer (some ⟨bt,0,none⟩),.pointer (some ⟨bt+1,0,none⟩)]] 132)) (xc:wz.heap[be+1]?=some (.cells #[.slice a (dV cs q).length c] 93))
  (Kw:Below w.heap.size w wz) (hbt:w.heap.size≤bt) (hbe:w.heap.size≤be) :
  mT Tryz.prog 148 #[.pointer (some ⟨be+1,0,none⟩),.pointer (some ⟨be,0,none⟩)] pD (aX (cQ q o) (dV cs q)) (RdE S β sv lv w wz) wz:=by
 have xt':=(KA.block bt (gL xt)).trans xt
 have xq':=(KA.block (bt+1) (gL xq)).trans xq
 have hf':=hf.on (vV Kw (fun k hk=>hf.lies k hk))
 have l1:=(gL xt')
 have l2:=(gL xq')
 have l3:=(gL xe)
 have l4:=(gL xc)
 have h1:=xM β sv lv fs hl root ca cs.length cc q o hro bt (bt+1) (RdE S β sv lv w wz) wz xt' xq' hf' (.inr (.inr ⟨hbt,l1⟩)) (.inr (.inr ⟨by omega,l2⟩)) (fun k hk=>.inr (.inl hk))
 exact Gf _ _ (enters_of Tryz.func104 (by kernel_rfl) rfl) _ _ (be+1) be a c (dV cs q) S (RdE S β sv lv w wz) wz h1 xc xe (hcut.2.1 _ (hR.on (vV Kw hS))) (iL hr q) (vJ (Yv cs q) hn) hcut.1 hcut.2.2 (.inr (.inr ⟨by omega,l4⟩)) (.inr (.inr ⟨hbe,l3⟩)) (fun k hk=>.inl hk) (fun k hk=>hk)
theorem dY {B:Nat} {W a wn:World} (hJ:Below B W a) (hW:B≤W.heap.size) (hbn:Below a.heap.size a wn):Below B W wn:=hJ.trans (hbn.mono (vJ hW hJ.size))
theorem vG (β:Nat) (sv lv:Value) (fs:Fs) (hl:(fs.life==0)=false) (root:Nat) (ca:Option Addr) (cc:Nat) (cs:List Ch) (q:Sp) (o:Option (Nat×T)) (hro:bI fs root o) (S:Bl) (w:World) (hf:aG w β sv lv fs) (hR:aH w S ca (cs.flatMap Ch.cells)) (hS:∀ b,S b→b<w.heap.size) (hr:cH cs) (hn:cs.length≤1000000) (hc:cs.length≤cc) (hca:(ca=none∧cc=0)∨∃ b off,ca=some ⟨b,off,none⟩) :
  Calls Tryz.prog 110 #[.agg #[.pointer (some ⟨β,0,none⟩),.int .i64 root,.slice ca cs.length cc],.string q.lo,.string q.hi] w fun e w'=>∃ lb,e=.returned (.func (.func 148) #[] lb)∧mT Tryz.prog 148 lb pD (aX (cQ q o) (dV cs q)) (RdE S β sv lv w w') w'∧Below w.heap.size w w':=by
 obtain⟨W1,hW1⟩:=nM (w.alloc (.cells #[.pointer (some ⟨β,0,none⟩),.int .i64 root,.slice ca cs.length cc] 95))
 have b1:Below w.heap.size w W1:=hW1▸(bA _ _)
 have x1:W1.heap[w.heap.size]?=some (.cells #[.pointer (some ⟨β,0,none⟩),.int .i64 root,.slice ca cs.length cc] 95):=hW1▸aA w _
 obtain⟨m0,m1,m2⟩:=eR x1
 have hWz:w.heap.size+1≤W1.heap.size:=(gL x1)
 have hJw:∀ W,Below (w.heap.size+1) W1 W→Below w.heap.size w W:=fun W h=>b1.trans (h.mono (Nat.le_succ _))
 have hA:=fun W=>xN root β ca cs.length cc q W
 have hB:=fun W (h:Below (w.heap.size+1) W1 W)=>Al ca cc cs q S W (hR.on (vV (hJw W h) hS)) (fun b hb=>jY (hS b hb) (hJw W h).size) hr hn hc hca
 have hC:=fun bt a n c W=>sW 104 #[.pointer (some ⟨bt,0,none⟩),.pointer (some ⟨bt+1,0,none⟩)] a n c W
 have HCL:=fun wa wz=>Et β sv lv fs hl root ca cc cs q o hro S w wa wz hf hR hS hr hn
 have hJ:Below (w.heap.size+1) W1 W1:=Below.refl _ _
 clear hf hro hR hl
 go_enter Tryz.func110,Tryz.ntmps110
 go_wp2
 go_region_with (first
  | (go_at_call 74;refine(hA _).mono ?_;rintro e wa ⟨rfl,xt,xq,hbA⟩;have KA:Below wa.heap.size wa wa:=Below.refl _ _;have hJ:Below (w.heap.size+1) W1 wa:=(by first|exact dY hJ hWz hbA|exact dY hJ.drew hWz hbA|exact dY hJ.drew.drew hWz hbA);obtain⟨e0,e1,e2⟩:=eR ((hJ.block w.heap.size (Nat.lt_succ_self _)).trans x1))
  | (go_at_call 137;refine(hB _ (by first|exact hJ|exact hJ.drew|exact hJ.drew.drew)).mono ?_;rintro e wb ⟨a,c,rfl,hcut,hbB⟩;try (have KA:Below wa.heap.size wa wb:=(by first|exact dY KA (jU _) hbB|exact dY KA.drew (jU _) hbB|exact dY KA.drew.drew (jU _) hbB));have hJ:Below (w.heap.size+1) W1 wb:=(by first|exact dY hJ hWz hbB|exact dY hJ.drew hWz hbB|exact dY hJ.drew.drew hWz hbB);obtain⟨e0,e1,e2⟩:=eR ((hJ.block w.heap.size (Nat.lt_succ_self _)).trans x1))
  | (go_at_call 136;refine(hC _ _ _ _ _).mono ?_;rintro e wc ⟨rfl,xe,xc,hbC⟩;have KA:Below wa.heap.size wa wc:=(by first|exact dY KA (jU _) hbC|exact dY KA.drew (jU _) hbC|exact dY KA.drew.drew (jU _) hbC);have hJ:Below (w.heap.size+1) W1 wc:=(by first|exact dY hJ hWz hbC|exact dY hJ.drew hWz hbC|exact dY hJ.drew.drew hWz hbC)))
 all_goals go_wp2
 all_goals go_ret
 all_goals exact⟨_,rfl,HCL _ _ _ _ xt xq KA _ _ hcut xe xc (hJw _ hJ) (by first|exact b1.size|exact vJ b1.size hbB.size) (by first|exact vJ b1.size (vJ hbA.size hbB.size)|exact vJ b1.size (vJ hbB.size hbA.size)),hJw _ hJ⟩
def eW (x:T×Sp) (cs:List Ch):List NT:=match x.1 with
 | .leaf _ es=>if (dV cs x.2).length=0 then [.kept x.1 x.2] else cU (aX es (dV cs x.2))
 | .branch _ _ _=>[.kept x.1 x.2]
def Tb (s:Sp) (ks:List ByteArray) (kids:List T) (cs:List Ch):List NT:=iG iK ((parts s ks kids).flatMap (fun x=>eW x cs))
def Ch.good (c:Ch):Prop:=lt ⟨#[]⟩ c.key=true∧c.key.size≤24∧c.val.size≤400
variable {cs:List Ch}
theorem Ob {c:Ch} (h:c.good):(chE c).good fs:=⟨h.1,h.2.1,.inl ⟨rfl,rfl,rfl,h.2.2⟩⟩
theorem dI {es:List En}  (he:cO es) (hr:cH cs) (y:En):y∈aX es cs↔(∃ c∈cs,c.gone=false∧y=chE c)∨(y∈es∧∀ c∈cs,c.key≠y.e.key):=by
 rw [oJ];exact uU es cs he hr y
theorem iW {es:List En}  (he:cO es) (hr:cH cs):cO (aX es cs):=by
 rw [oJ];exact qN es cs he hr
theorem eZ {es:List En}  (he:cO es) (hr:cH cs) (hg:∀ x∈es,x.good fs) (hc:∀ c∈cs,c.good):∀ y∈aX es cs,y.good fs:=by
 intro y hy
 rcases (dI he hr y).1 hy with⟨c,h1,_,rfl⟩|⟨h1,_⟩
 ·exact Ob (hc c h1)
 ·exact hg y h1
theorem iX {es:List En} (he:cO es):aX es []=es:=by
 apply uK (iW he .nil) he
 intro y
 rw [dI he .nil]
 simp
theorem jW {q:Sp} {c:Ch}:c∈dV cs q↔c∈cs∧q.has c.key=true:=by simp [dV]
structure Sa (fs:Fs) (x:Sp) (ns:List NT):Prop where
 lst:Lst fs ns
 keys:∀ y∈cY ns,x.has y.e.key=true
 los:∀ n∈ns,le x.lo n.sp.lo=true
theorem qCi {es:List En} (hr:cO es) (hg:∀ y∈es,y.good fs) (hk:∀ y∈es,x.has y.e.key=true):Sa fs x (cU es):=by
 refine⟨nJ hr hg,?_,?_⟩
 ·rw [gB hg];exact hk
 ·intro n hn
  obtain⟨y,hy,e⟩:=tM hg n hn
  rw [e]
  have:=hk y hy
  simp only [Sp.has,Bool.and_eq_true] at this
  exact this.1
theorem zV (ht:bH fs 0 t x) (hr:cH cs) (hc:∀ c∈cs,c.good):Sa fs x (eW (t,x) cs)∧cY (eW (t,x) cs)=aX (T.ents 0 t) (dV cs x):=by
 cases t with
 | branch=>exact ht.elim
 | leaf p es =>
  have hre:cO es:=dG (h:=0) ht
  have hin:∀ y∈es,x.has y.e.key=true:=sN (h:=0) ht
  have hgd:=fB ht
  by_cases h0:(dV cs x).length=0
  ·have e:eW (.leaf p es,x) cs=[.kept (.leaf p es) x]:=by simp [eW,h0]
   rw [e]
   refine⟨⟨⟨?_,?_,by simp⟩,?_,?_⟩,?_⟩
   ·intro n hn;rw [List.mem_singleton] at hn;subst hn;exact ht
   ·intro n hn y hy;rw [List.mem_singleton] at hn;subst hn
    have:=hin y hy
    simp only [Sp.has,Bool.and_eq_true] at this
    exact this.1
   ·intro y hy;simp only [cY,List.flatMap_cons,List.flatMap_nil,List.append_nil] at hy;exact hin y hy
   ·intro n hn;rw [List.mem_singleton] at hn;subst hn;exact bK _
   ·rw [List.eq_nil_of_length_eq_zero h0]
    simp [cY,T.ents,iX hre,NT.ents0]
  ·have e:eW (.leaf p es,x) cs=cU (aX es (dV cs x)):=by simp [eW,h0]
   rw [e]
   have hro:=iL hr x
   have hg:=eZ (fs:=fs) hre hro hgd (fun c h=>hc c (jW.1 h).1)
   refine⟨qCi (iW hre hro) hg ?_,gB hg⟩
   intro y hy
   rcases (dI hre hro y).1 hy with⟨c,h1,_,rfl⟩|⟨h1,_⟩
   ·exact(jW.1 h1).2
   ·exact hin y h1
theorem rJ (f:T×Sp→List NT):∀ (l:List (T×Sp)),(∀ x∈l,Sa fs x.2 (f x))→l.Pairwise (fun x y=>x.2.hi≠⟨#[]⟩∧le x.2.hi y.2.lo=true)→Lst fs (l.flatMap f)∧cY (l.flatMap f)=l.flatMap (fun x=>cY (f x))
 | [],_,_=>⟨⟨by simp,by simp,by simp⟩,rfl⟩
 | x :: l,h,hp=>by
  obtain⟨p1,p2⟩:=List.pairwise_cons.1 hp
  obtain⟨i1,i2⟩:=rJ f l (fun y hy=>h y (by simp [hy])) p2
  have hx:=h x (by simp)
  rw [List.flatMap_cons,List.flatMap_cons]
  refine⟨⟨?_,?_,?_⟩,by rw [lN,i2]⟩
  ·intro n hn;rcases List.mem_append.1 hn with hn|hn
   ·exact hx.lst.ok n hn
   ·exact i1.ok n hn
  ·intro n hn;rcases List.mem_append.1 hn with hn|hn
   ·exact hx.lst.lo n hn
   ·exact i1.lo n hn
  ·refine List.pairwise_append.2 ⟨hx.lst.sep,i1.sep,fun a ha b hb y hy=>?_⟩
   obtain⟨z,hz,hb⟩:=List.mem_flatMap.1 hb
   have h1:=hx.keys y (List.mem_flatMap.2 ⟨a,ha,hy⟩)
   obtain⟨q1,q2⟩:=p1 z hz
   simp only [Sp.has,Bool.and_eq_true] at h1
   have h2:=fA.1 h1.2
   have h3:lt y.e.key x.2.hi=true:=h2.elim (fun h=>absurd h q1) id
   exact bT (bT h3 q2) ((h z (by simp [hz])).los b hb)
theorem xS:∀ (s:Sp) (ks:List ByteArray) (kids:List α),kids.length=ks.length+1→∀ k,s.has k=true→∃ x∈parts s ks kids,x.2.has k=true
 | s,_,[],hl,_,_=>by simp at hl
 | s,[],a :: kids,hl,k,hk=>⟨(a,s),by simp [parts],hk⟩
 | s,q :: ks,a :: kids,hl,k,hk=>by
  rcases Lo k q with h|h
  ·refine⟨(a,⟨s.lo,q⟩),by simp [parts],?_⟩
   simp only [Sp.has,Bool.and_eq_true] at hk ⊢
   exact⟨hk.1,fA.2 (.inr h)⟩
  ·obtain⟨x,hx,hx2⟩:=xS ⟨q,s.hi⟩ ks kids (by simpa using hl) k (by
    simp only [Sp.has,Bool.and_eq_true] at hk ⊢
    exact⟨h,hk.2⟩)
   exact⟨x,by simp [parts,hx],hx2⟩
theorem Io (k:ByteArray):(⟨⟨#[]⟩,⟨#[]⟩⟩:Sp).has k=true:=by
 simp only [Sp.has,Bool.and_eq_true]
 exact⟨Bz k,fA.2 (.inl rfl)⟩
theorem Vq {ks:List ByteArray} {kids:List T}  (ht:bH fs 1 (.branch p ks kids) ⟨⟨#[]⟩,⟨#[]⟩⟩) (hr:cH cs) (hc:∀ c∈cs,c.good) :
  Lst fs (Tb ⟨⟨#[]⟩,⟨#[]⟩⟩ ks kids cs)∧cY (Tb ⟨⟨#[]⟩,⟨#[]⟩⟩ ks kids cs)=aX (T.ents 1 (.branch p ks kids)) cs:=by
 have hrt:=dG ht
 obtain⟨hl,hp,hb,_,hall⟩:=fH ht
 have hpp:=kJ _ ks kids hl hp hb
 have hk:=fun x hx=>zV (x:=x.2) (t:=x.1) (hall x hx) hr hc
 obtain⟨f1,f2⟩:=rJ (fun x=>eW x cs) (parts ⟨⟨#[]⟩,⟨#[]⟩⟩ ks kids) (fun x hx=>(hk x hx).1) hpp
 obtain⟨j1,j2⟩:=Hg f1
 refine⟨j1,?_⟩
 show cY (iG iK _)=_
 apply uK j1.rise (iW hrt hr)
 intro y
 rw [j2,f2,dI hrt hr]
 simp only [List.mem_flatMap,T.ents]
 constructor
 ·rintro⟨x,hx,hy⟩
  rw [(hk x hx).2] at hy
  have hxs:cO (T.ents 0 x.1):=dG (hall x hx)
  have hmem:x.1∈kids:=by
   have:x.1∈(parts ⟨⟨#[]⟩,⟨#[]⟩⟩ ks kids).map (·.1):=List.mem_map.2 ⟨x,hx,rfl⟩
   rwa [gO] at this
  rcases (dI hxs (iL hr x.2) y).1 hy with⟨c,h1,h2,rfl⟩|⟨h1,h2⟩
  ·exact .inl ⟨c,(jW.1 h1).1,h2,rfl⟩
  ·refine .inr ⟨⟨x.1,hmem,h1⟩,fun c hc e=>h2 c (jW.2 ⟨hc,?_⟩) e⟩
   rw [e];exact sN (hall x hx) y h1
 ·rintro(⟨c,h1,h2,rfl⟩|⟨⟨k,hk1,hy⟩,h2⟩)
  ·obtain⟨x,hx,hx2⟩:=xS ⟨⟨#[]⟩,⟨#[]⟩⟩ ks kids hl c.key (Io _)
   refine⟨x,hx,?_⟩
   rw [(hk x hx).2]
   exact(dI (dG (hall x hx)) (iL hr x.2) _).2 (.inl ⟨c,jW.2 ⟨h1,hx2⟩,h2,rfl⟩)
  ·obtain⟨s',hs'⟩:=mE (s:=⟨⟨#[]⟩,⟨#[]⟩⟩) (ks:=ks) hk1
   refine⟨(k,s'),hs',?_⟩
   rw [(hk _ hs').2]
   exact(dI (dG (hall _ hs')) (iL hr s') _).2 (.inr ⟨hy,fun c hc=>h2 c (jW.1 hc).1⟩)
def xJ (K:List ByteArray) (n:NT):Prop:=(n.sp.lo=⟨#[]⟩∨n.sp.lo∈K)∧∀ x∈n.ents0,x.e.key∈K
theorem lL {es:List En} (hg:∀ x∈es,x.good fs) (hK:∀ x∈es,x.e.key∈K):∀ n∈cU es,xJ K n:=by
 intro n hn
 obtain⟨y,hy,e⟩:=tM hg n hn
 exact⟨.inr (by rw [e];exact hK y hy),fun x hx=>hK x (tO hg n hn x hx)⟩
theorem Xs {A B:List NT} {l n:NT} (h:Lst fs (A++l :: n :: B)) (hK:∀ m∈A++l :: n :: B,xJ K m):∀ m∈A++(iK l n++B),xJ K m:=by
 intro m hm
 simp only [List.mem_append] at hm
 rcases hm with hm|hm|hm
 ·exact hK m (by simp [hm])
 ·refine lL (fs:=fs) (fun x hx=>?_) (fun x hx=>?_) m hm
  ·rcases List.mem_append.1 hx with hx|hx
   ·exact(eV (h.ok l (by simp))).2.2 x hx
   ·exact(eV (h.ok n (by simp))).2.2 x hx
  ·rcases List.mem_append.1 hx with hx|hx
   ·exact(hK l (by simp)).2 x hx
   ·exact(hK n (by simp)).2 x hx
 ·exact hK m (by simp [hm])
theorem Vu {ns:List NT} (h:Lst fs ns) (hK:∀ m∈ns,xJ K m):∀ m∈iG iK ns,xJ K m :=
 (nK (J:=fun L=>Lst fs L∧∀ m∈L,xJ K m) (fun _ _ _ _ hL=>⟨hL.1.tog.1,Xs hL.1 hL.2⟩) ⟨h,hK⟩).2
def TIn (K:List ByteArray):Nat→T→Prop
 | _,.leaf _ es=>∀ x∈es,x.e.key∈K
 | 0,.branch _ _ _=>False
 | h+1,.branch _ ks kids=>(∀ k∈ks,k∈K)∧∀ t∈kids,TIn K h t
theorem Li:∀ (s:Sp) (ks:List ByteArray) (kids:List α),kids.length=ks.length+1→∀ x∈parts s ks kids,x.2.lo=s.lo∨x.2.lo∈ks
 | s,_,[],hl=>by simp at hl
 | s,[],a :: kids,hl=>by
  have:kids=[]:=List.eq_nil_of_length_eq_zero (by simpa using hl)
  subst this
  simp [parts]
 | s,q :: ks,a :: kids,hl=>by
  intro x hx
  simp only [parts,List.mem_cons] at hx
  rcases hx with rfl|hx
  ·exact .inl rfl
  ·rcases Li ⟨q,s.hi⟩ ks kids (by simpa using hl) x hx with h|h
   ·exact .inr (by rw [h];simp)
   ·exact .inr (by simp [h])
theorem Vr (ht:bH fs 0 t x) (hr:cH cs) (hc:∀ c∈cs,c.good) (hcK:∀ c∈cs,c.key∈K) (htK:TIn K 0 t) (hx:x.lo=⟨#[]⟩∨x.lo∈K):∀ n∈eW (t,x) cs,xJ K n:=by
 cases t with
 | branch=>exact ht.elim
 | leaf p es =>
  have hre:cO es:=dG (h:=0) ht
  have hgd:=fB ht
  by_cases h0:(dV cs x).length=0
  ·have e:eW (.leaf p es,x) cs=[.kept (.leaf p es) x]:=by simp [eW,h0]
   rw [e]
   intro n hn
   rw [List.mem_singleton] at hn;subst hn
   exact⟨hx,htK⟩
  ·have e:eW (.leaf p es,x) cs=cU (aX es (dV cs x)):=by simp [eW,h0]
   rw [e]
   have hro:=iL hr x
   refine lL (eZ (fs:=fs) hre hro hgd (fun c h=>hc c (jW.1 h).1)) ?_
   intro y hy
   rcases (dI hre hro y).1 hy with⟨c,h1,_,rfl⟩|⟨h1,_⟩
   ·exact hcK c (jW.1 h1).1
   ·exact htK y h1
theorem Qj {ks:List ByteArray} {kids:List T}  (ht:bH fs 1 (.branch p ks kids) ⟨⟨#[]⟩,⟨#[]⟩⟩) (hr:cH cs) (hc:∀ c∈cs,c.good) (hcK:∀ c∈cs,c.key∈K) (htK:TIn K 1 (.branch p ks kids)) :
  ∀ n∈Tb ⟨⟨#[]⟩,⟨#[]⟩⟩ ks kids cs,xJ K n:=by
 obtain⟨hl,hp,hb,_,hall⟩:=fH ht
 have hpp:=kJ _ ks kids hl hp hb
 have hk:=fun x hx=>zV (x:=x.2) (t:=x.1) (hall x hx) hr hc
 obtain⟨f1,f2⟩:=rJ (fun x=>eW x cs) (parts ⟨⟨#[]⟩,⟨#[]⟩⟩ ks kids) (fun x hx=>(hk x hx).1) hpp
 refine Vu f1 ?_
 intro m hm
 obtain⟨x,hx,hm⟩:=List.mem_flatMap.1 hm
 have hmem:x.1∈kids:=by
  have:x.1∈(parts ⟨⟨#[]⟩,⟨#[]⟩⟩ ks kids).map (·.1):=List.mem_map.2 ⟨x,hx,rfl⟩
  rwa [gO] at this
 refine Vr (hall x hx) hr hc hcK (htK.2 _ hmem) ?_ m hm
 rcases Li _ ks kids hl x hx with h|h
 ·exact .inl h
 ·exact .inr (htK.1 _ h)
theorem Im [DecidableEq α] (f:α→Nat):∀ {l m:List α},l.Nodup→(∀ x∈l,x∈m)→tot f l≤tot f m
 | [],m,_,_=>Nat.zero_le _
 | x :: l,m,hn,hs=>by
  obtain⟨h1,h2⟩:=List.nodup_cons.1 hn
  have hm:=hs x (by simp)
  have hp:m.Perm (x :: m.erase x):=List.perm_cons_erase hm
  have e:tot f m=f x+tot f (m.erase x):=by
   have:=(hp.map f).sum_nat
   simpa [tot] using this
  have ih:=Im f (l:=l) (m:=m.erase x) h2 (fun y hy=>by
   have hne:y≠x:=fun e=>h1 (e▸hy)
   exact(List.mem_erase_of_ne hne).2 (hs y (by simp [hy])))
  rw [gH,e];omega
theorem Sd (l:List α):tot (fun _=>1) l=l.length:=by
 induction l with
 | nil=>rfl
 | cons x l ih=>rw [gH,ih,jB];omega
theorem uW [DecidableEq α] {l m:List α} (hn:l.Nodup) (hs:∀ x∈l,x∈m):l.length≤m.length:=by
 have:=Im (fun _=>1) hn hs
 rwa [Sd,Sd] at this
theorem Lst.los {ns:List NT} (h:Lst fs ns):(ns.map (fun n=>n.sp.lo)).Pairwise (fun a b=>lt a b=true):=by
 rw [List.pairwise_map]
 refine List.Pairwise.imp_of_mem ?_ h.sep
 intro a b ha hb hab
 obtain⟨x,hx⟩:=List.exists_mem_of_ne_nil _ (eV (h.ok a ha)).1
 exact fT (h.lo a ha x hx) (hab x hx)
theorem mA {l:List ByteArray} (h:l.Pairwise (fun a b=>lt a b=true)):l.Nodup:=List.Pairwise.imp (fun h=>Sw h) h
theorem Lst.size {ns:List NT} (h:Lst fs ns) (hK:∀ n∈ns,xJ K n):tot zI ns≤3+tot (fun k:ByteArray=>k.size+3) K:=by
 have e:tot zI ns=tot (fun k:ByteArray=>k.size+3) (ns.map (fun n=>n.sp.lo)):=by rw [tot,tot,List.map_map];rfl
 rw [e]
 have:=Im (fun k:ByteArray=>k.size+3) (l:=ns.map (fun n=>n.sp.lo)) (m:=⟨#[]⟩ :: K) (mA h.los) (fun x hx=>by
  obtain⟨n,hn,rfl⟩:=List.mem_map.1 hx
  rcases (hK n hn).1 with h|h
  ·simp [h]
  ·simp [h])
 rw [gH] at this
 exact this
theorem Lst.keys {ns:List NT} (h:Lst fs ns):((cY ns).map (fun x=>x.e.key)).Pairwise (fun a b=>lt a b=true):=by
 rw [List.pairwise_map];exact h.rise
theorem Lst.many {ns:List NT} (h:Lst fs ns) (hK:∀ n∈ns,xJ K n):(cY ns).length≤K.length:=by
 have:=uW (l:=(cY ns).map (fun x=>x.e.key)) (m:=K) (mA h.keys) (fun x hx=>by
  obtain⟨y,hy,rfl⟩:=List.mem_map.1 hx
  obtain⟨n,hn,hy⟩:=List.mem_flatMap.1 hy
  exact(hK n hn).2 y hy)
 simpa using this
theorem yL {α β:Type} (f:α→List β):∀ (l:List α),(∀ x∈l,f x≠[])→l.length≤(l.flatMap f).length
 | [],_=>by simp
 | x :: l,h=>by
  have h1:=List.length_pos_iff.2 (h x (by simp))
  have:=yL f l (fun y hy=>h y (by simp [hy]))
  rw [List.flatMap_cons,jK,jB];omega
theorem Lst.count {ns:List NT} (h:Lst fs ns):ns.length≤(cY ns).length:=yL _ _ (fun n hn=>(eV (h.ok n hn)).1)
def eY:List (Nat×Pg)→Nat
 | []=>0
 | x :: _=>x.1
def gC:Nat→ByteArray→List Nat→List (Nat×Pg)
 | 0,_,_=>[]
 | k+1,v,fr=>if v.size=0 then [] else
   (fr.getD (gC k (v.extract (min v.size 240) v.size) fr).length 0,fR (eY (gC k (v.extract (min v.size 240) v.size) fr)) (v.extract 0 (min v.size 240))) :: gC k (v.extract (min v.size 240) v.size) fr
theorem iY (k:Nat) (v:ByteArray) (fr:List Nat) (h:v.size=0):gC k v fr=[]:=by
 cases k with
 | zero=>rfl
 | succ k=>simp [gC,h]
theorem iZ (k:Nat) (v:ByteArray) (fr:List Nat) (h:v.size≠0):gC (k+1) v fr=(fr.getD (gC k (v.extract (min v.size 240) v.size) fr).length 0,fR (eY (gC k (v.extract (min v.size 240) v.size) fr)) (v.extract 0 (min v.size 240))) :: gC k (v.extract (min v.size 240) v.size) fr:=by
 rw [gC,if_neg h]
theorem Cl:∀ (k:Nat) (v:ByteArray) (fr:List Nat),(gC k v fr).length≤k
 | 0,_,_=>jU _
 | k+1,v,fr=>by
  by_cases h:v.size=0
  ·rw [iY _ _ _ h];simp
  ·rw [iZ _ _ _ h,jB]
   have:=Cl k (v.extract (min v.size 240) v.size) fr
   omega
theorem rF:∀ (k:Nat) (v:ByteArray) (fr:List Nat),(gC k v fr).length≤fr.length→(gC k v fr).reverse.map (·.1)=fr.take (gC k v fr).length
 | 0,_,_,_=>by simp [gC]
 | k+1,v,fr,hl=>by
  by_cases h:v.size=0
  ·rw [iY _ _ _ h];simp
  ·rw [iZ _ _ _ h] at hl ⊢
   rw [jB] at hl ⊢
   have ih:=rF k (v.extract (min v.size 240) v.size) fr (by omega)
   rw [List.reverse_cons,List.map_append,ih,List.take_succ_eq_append_getElem (by omega)]
   simp [jQ (show (gC k (v.extract (min v.size 240) v.size) fr).length<fr.length by omega)]
theorem rG {k:Nat} {v:ByteArray}  (hl:(gC k v fr).length≤fr.length):∀ x∈gC k v fr,x.1∈fr:=by
 intro x hx
 have h1:x.1∈(gC k v fr).reverse.map (·.1):=List.mem_map.2 ⟨x,by simpa using hx,rfl⟩
 rw [rF k v fr hl] at h1
 exact List.mem_of_mem_take h1
theorem dQ (v:ByteArray) (a b:Nat) (hb:b≤v.size):(v.extract a b).size=b-a:=by
 simp only [ByteArray.size_extract];omega
theorem Cm:∀ (k:Nat) (v:ByteArray) (fr:List Nat),v.size≤240 * k→(∀ x∈gC k v fr,fs.has x.1 x.2∧x.1≠0)→eP fs (eY (gC k v fr)) v.size (gC k v fr)
 | 0,v,fr,hv,_=>by
  have:v.size=0:=by omega
  simp [gC,eP,this]
 | k+1,v,fr,hv,hx=>by
  by_cases h:v.size=0
  ·rw [iY _ _ _ h];exact h
  ·rw [iZ _ _ _ h] at hx ⊢
   have hs1:(v.extract (min v.size 240) v.size).size=v.size-min v.size 240:=dQ _ _ _ (jU _)
   have hs0:(v.extract 0 (min v.size 240)).size=min v.size 240:=by rw [dQ _ _ _ (by omega)];omega
   have ih:=Cm k (v.extract (min v.size 240) v.size) fr (by omega) (fun x hx'=>hx x (by simp [hx']))
   refine⟨rfl,by omega,(hx _ (by simp)).1,rfl,hs0,_,rfl,?_,?_⟩
   ·show _↔v.size-(v.extract 0 (min v.size 240)).size=0
    rw [hs0]
    constructor
    ·intro h0
     cases hc:gC k (v.extract (min v.size 240) v.size) fr with
     | nil =>
      rw [hc] at ih
      have:(v.extract (min v.size 240) v.size).size=0:=ih
      omega
     | cons y l =>
      rw [hc] at h0
      exact absurd h0 (hx y (by rw [hc];simp)).2
    ·intro h0
     rw [iY _ _ _ (by omega)];rfl
   ·show eP fs _ (v.size-(v.extract 0 (min v.size 240)).size) _
    rw [hs0,← hs1]
    exact ih
theorem Lv:∀ (k:Nat) (v:ByteArray) (fr:List Nat),(gC k v fr).length≤fr.length→(∀ p∈fr,aS (p:Nat)=true)→∀ x∈gC k v fr,x.2.encE=0
 | 0,_,_,_,_,x,hx=>by simp [gC] at hx
 | k+1,v,fr,hl,hp,x,hx=>by
  by_cases h:v.size=0
  ·rw [iY _ _ _ h] at hx;simp at hx
  ·rw [iZ _ _ _ h] at hl hx
   rw [jB] at hl
   rcases List.mem_cons.1 hx with rfl|hx
   ·have hs0:(v.extract 0 (min v.size 240)).size=min v.size 240:=by rw [dQ _ _ _ (by omega)];omega
    refine Nk _ _ ?_ (by rw [hs0];omega) (by rw [hs0];omega)
    cases hc:gC k (v.extract (min v.size 240) v.size) fr with
    | nil=>exact .inl rfl
    | cons y l =>
     refine .inr (hp _ (rG (k:=k) (v:=v.extract (min v.size 240) v.size) (by omega) y (by rw [hc];simp)))
   ·exact Lv k _ fr (by omega) hp x hx
def eL (ch:List (Nat×Pg)):List UInt8:=ch.flatMap (fun x=>x.2.data.data.toList)
theorem Gv:∀ (k:Nat) (v:ByteArray) (fr:List Nat),v.size≤240 * k→eL (gC k v fr)=v.data.toList
 | 0,v,fr,hv=>by
  have h0:v.size=0:=by omega
  rw [nY h0];rfl
 | k+1,v,fr,hv=>by
  by_cases h:v.size=0
  ·rw [iY _ _ _ h,nY h];rfl
  ·rw [iZ _ _ _ h]
   have hs1:(v.extract (min v.size 240) v.size).size=v.size-min v.size 240:=dQ _ _ _ (jU _)
   have ih:=Gv k (v.extract (min v.size 240) v.size) fr (by omega)
   rw [eL,List.flatMap_cons]
   rw [eL] at ih
   rw [ih]
   show (v.extract 0 (min v.size 240)).data.toList++(v.extract (min v.size 240) v.size).data.toList=_
   rw [ByteArray.data_extract,ByteArray.data_extract,← Array.toList_append,Array.extract_append_extract]
   congr 1
   have h1:min 0 (min v.size 240)=0:=by omega
   have h2:max (min v.size 240) v.size=v.size:=by omega
   rw [h1,h2]
   exact Array.extract_eq_self_of_le (jU _)
def En.value (x:En):List UInt8:=if x.e.over=0 then x.e.val.data.toList else eL x.ch
def En.newB (x:En):Bool:=x.e.over==0&&decide (60<x.e.size)
def dJ (x:En) (fr:List Nat):List (Nat×Pg):=if x.newB=true then gC 2 x.e.val fr else []
def mV (x:En) (fr:List Nat):En:=if x.newB=true then ⟨⟨x.e.key,⟨#[]⟩,x.e.size,eY (dJ x fr)⟩,dJ x fr⟩ else x
def aT:List En→List Nat→List En×List (Nat×Pg)
 | [],_=>([],[])
 | x :: es,fr=>(mV x fr :: (aT es (fr.drop (dJ x fr).length)).1,(dJ x fr).reverse++(aT es (fr.drop (dJ x fr).length)).2)
theorem uX (x:En) (fr:List Nat):(mV x fr).e.key=x.e.key:=by unfold mV;split<;>rfl
theorem mK:∀ (es:List En) (fr:List Nat),(aT es fr).1.map (fun x=>x.e.key)=es.map (fun x=>x.e.key)
 | [],_=>rfl
 | x :: es,fr=>by simp only [aT,List.map_cons,uX,mK es]
theorem pU (es:List En) (fr:List Nat):(aT es fr).1.length=es.length:=by
 have:=congrArg List.length (mK es fr);simpa using this
theorem vA:∀ (es:List En) (fr:List Nat),(aT es fr).2.length≤fr.length→(aT es fr).2.map (·.1)=fr.take (aT es fr).2.length
 | [],_,_=>by simp [aT]
 | x :: es,fr,hl=>by
  simp only [aT,jK,List.length_reverse] at hl ⊢
  have hn:(dJ x fr).reverse.map (·.1)=fr.take (dJ x fr).length:=by
   unfold dJ at hl ⊢
   split
   ·rename_i h;rw [if_pos h] at hl;exact rF 2 _ fr (by omega)
   ·simp
  have ih:=vA es (fr.drop (dJ x fr).length) (by rw [List.length_drop];omega)
  rw [List.map_append,hn,ih,List.take_add]
theorem Xu {l:List (Nat×Pg)}  (h:l.map (·.1)=fr.take l.length):∀ x∈l,x.1∈fr:=by
 intro x hx
 have h1:x.1∈l.map (·.1):=List.mem_map.2 ⟨x,hx,rfl⟩
 rw [h] at h1
 exact List.mem_of_mem_take h1
theorem pV {P:En→List Nat→Prop}:∀ (es:List En) (fr:List Nat),(aT es fr).2.length≤fr.length→∀ y∈(aT es fr).1,∃ x∈es,∃ f,(∀ p∈f,p∈fr)∧(dJ x f).length≤f.length∧y=mV x f∧∀ z∈dJ x f,z∈(aT es fr).2
 | [],_,_,y,hy=>by simp [aT] at hy
 | x :: es,fr,hl,y,hy=>by
  simp only [aT,jK,List.length_reverse,List.mem_cons] at hl hy
  rcases hy with rfl|hy
  ·exact⟨x,by simp,fr,fun p hp=>hp,by omega,rfl,fun z hz=>by simp [aT,hz]⟩
  ·obtain⟨x',h1,f,h2,h3,h4,h5⟩:=pV (P:=P) es (fr.drop (dJ x fr).length) (by rw [List.length_drop];omega) y hy
   exact⟨x',by simp [h1],f,fun p hp=>List.mem_of_mem_drop (h2 p hp),h3,h4,fun z hz=>by simp [aT,h5 z hz]⟩
theorem Hb:∀ (es:List En) (fr:List Nat),(aT es fr).2.length≤fr.length→(∀ p∈fr,aS (p:Nat)=true)→∀ x∈(aT es fr).2,x.2.encE=0
 | [],_,_,_,x,hx=>by simp [aT] at hx
 | x :: es,fr,hl,hp,y,hy=>by
  simp only [aT,jK,List.length_reverse,List.mem_append,List.mem_reverse] at hl hy
  rcases hy with hy|hy
  ·unfold dJ at hy hl
   split at hy
   ·rename_i h;rw [if_pos h] at hl;exact Lv 2 _ fr (by omega) hp y hy
   ·simp at hy
  ·exact Hb es (fr.drop (dJ x fr).length) (by rw [List.length_drop];omega) (fun p h=>hp p (List.mem_of_mem_drop h)) y hy
theorem oP {x:En} (h:x.good fs) (hn:x.newB=true):x.e.size=(x.e.val.size:Int)∧x.e.val.size≤400∧60<x.e.val.size∧x.ch=[]:=by
 simp only [En.newB,Bool.and_eq_true,beq_iff_eq,decide_eq_true_eq] at hn
 obtain⟨_,_,h|⟨_,h1,sz,ov,_,h2,_⟩⟩:=h
 ·exact⟨h.2.2.1,h.2.2.2,by omega,h.2.1⟩
 ·rw [hn.1] at h1;simp [aS] at h1
theorem Zo (x:En) (fr:List Nat):esz (mV x fr)=esz x:=by
 unfold mV
 split
 ·rename_i h
  simp only [En.newB,Bool.and_eq_true,beq_iff_eq,decide_eq_true_eq] at h
  unfold esz
  simp only
  rw [if_pos h.2,if_pos h.2]
 ·rfl
theorem Cb {x:En} (h:x.good fs) (hn:x.newB=true) (fr:List Nat):dJ x fr≠[]:=by
 obtain⟨_,_,h3,_⟩:=oP h hn
 rw [dJ,if_pos hn,iZ _ _ _ (by omega)]
 simp
theorem tQ {ch:List (Nat×Pg)} (h:ch≠[]):∃ y∈ch,eY ch=y.1:=by
 cases ch with
 | nil=>exact absurd rfl h
 | cons y l=>exact⟨y,by simp,rfl⟩
theorem eU (h:aS (p:Nat)=true):2≤p∧p<4096:=by
 simp only [aS,Bool.and_eq_true,decide_eq_true_eq] at h;omega
theorem Qe {x:En} (h:x.good fs) (fr:List Nat) (hl:(dJ x fr).length≤fr.length) (hp:∀ p∈fr,aS (p:Nat)=true):nV (mV x fr).e.val (mV x fr).e.size (mV x fr).e.over=true:=by
 unfold mV
 by_cases hn:x.newB=true
 ·rw [if_pos hn]
  obtain⟨h1,h2,h3,_⟩:=oP h hn
  obtain⟨y,hy,e⟩:=tQ (Cb h hn fr)
  have hm:y.1∈fr:=by
   rw [dJ,if_pos hn] at hy hl
   exact rG hl y hy
  simp only [nV,Bool.or_eq_true,Bool.and_eq_true,beq_iff_eq,decide_eq_true_eq]
  refine .inr ⟨⟨⟨?_,jD.2 rfl⟩,by omega⟩,by omega⟩
  rw [e];exact hp _ hm
 ·rw [if_neg hn]
  simp only [En.newB,Bool.and_eq_true,beq_iff_eq,decide_eq_true_eq,not_and,Int.not_lt] at hn
  simp only [nV,Bool.or_eq_true,Bool.and_eq_true,beq_iff_eq,decide_eq_true_eq]
  obtain⟨_,_,⟨h1,h2,h3,h4⟩|⟨h1,h2,sz,ov,h3,h4,h5,h6,_⟩⟩:=h
  ·exact .inl ⟨⟨h1,by have:=hn h1;omega⟩,h3⟩
  ·exact .inr ⟨⟨⟨h2,jD.2 h1⟩,by omega⟩,by omega⟩
theorem rP:∀ {l:List (Nat×Pg)} {p r:Nat},eP fs p r l→(∀ x∈l,∀ g,fs.has x.1 g→fs'.has x.1 g)→eP fs' p r l
 | [],_,_,h,_=>h
 | x :: l,p,r,h,hs=>by
  obtain⟨a1,a2,a3,a4,a5,nx,a6,a7,a8⟩:=h
  refine⟨a1,a2,?_,a4,a5,nx,a6,a7,rP a8 (fun y hy=>hs y (by simp [hy]))⟩
  rw [← a1] at a3 ⊢
  exact hs x (by simp) _ a3
theorem qCj {x:En} (h:x.good fs) (fr:List Nat) (hl:(dJ x fr).length≤fr.length) (hp:∀ p∈fr,aS (p:Nat)=true) (hw:∀ y∈dJ x fr,fs'.has y.1 y.2) (hs:∀ p∈x.pages,∀ g,fs.has p g→fs'.has p g):(mV x fr).ok fs':=by
 unfold mV
 by_cases hn:x.newB=true
 ·rw [if_pos hn]
  obtain⟨h1,h2,h3,_⟩:=oP h hn
  have hpl:∀ y∈dJ x fr,y.1≠0:=fun y hy=>by
   rw [dJ,if_pos hn] at hy hl
   have:=eU (hp _ (rG hl y hy));omega
  obtain⟨y,hy,e⟩:=tQ (Cb h hn fr)
  refine⟨x.e.val.size,eY (dJ x fr),h1,rfl,h2,.inr ⟨by rw [e];have:=hpl y hy;omega,?_⟩⟩
  rw [dJ,if_pos hn] at hw hpl ⊢
  exact Cm 2 x.e.val fr (by omega) (fun y hy=>⟨hw y hy,hpl y hy⟩)
 ·rw [if_neg hn]
  obtain⟨_,_,⟨h1,h2,h3,h4⟩|⟨h1,h2,sz,ov,h3,h4,h5,h6,h7⟩⟩:=h
  ·exact⟨x.e.val.size,0,h3,h1,h4,.inl ⟨rfl,h2⟩⟩
  ·refine⟨sz,ov,h3,h4,h6,.inr ⟨?_,rP h7 (fun y hy=>hs y.1 (List.mem_map.2 ⟨y,hy,rfl⟩))⟩⟩
   rw [h4] at h2
   have:=eU h2;omega
theorem Qd {x:En} (h:x.good fs) (fr:List Nat) (hl:(dJ x fr).length≤fr.length) (hp:∀ p∈fr,aS (p:Nat)=true):(mV x fr).value=x.value:=by
 unfold mV
 by_cases hn:x.newB=true
 ·rw [if_pos hn]
  obtain⟨h1,h2,h3,_⟩:=oP h hn
  obtain⟨y,hy,e⟩:=tQ (Cb h hn fr)
  have hm:2≤y.1:=by
   rw [dJ,if_pos hn] at hy hl
   exact(eU (hp _ (rG hl y hy))).1
  have h0:x.e.over=0:=by
   simp only [En.newB,Bool.and_eq_true,beq_iff_eq] at hn;exact hn.1
  unfold En.value
  rw [if_pos h0]
  simp only
  rw [if_neg (by rw [e];omega),dJ,if_pos hn]
  exact Gv 2 _ fr (by omega)
 ·rw [if_neg hn]
def dK:NT→List Nat→T×List (Nat×Pg)
 | .kept t _,_=>(t,[])
 | .leaf _ es,fr=>(.leaf (fr.getD (aT es fr).2.length 0) (aT es fr).1,(aT es fr).2++[(fr.getD (aT es fr).2.length 0,eJ (aT es fr).1)])
 | .bran _ _,_=>(.leaf 0 [],[])
def aY:List NT→List Nat→List T×List (Nat×Pg)
 | [],_=>([],[])
 | n :: ns,fr=>((dK n fr).1 :: (aY ns (fr.drop (dK n fr).2.length)).1,(dK n fr).2++(aY ns (fr.drop (dK n fr).2.length)).2)
def gD (ns:List NT) (fr:List Nat):T×List (Nat×Pg) :=
 (.branch (fr.getD (aY ns fr).2.length 0) (ns.tail.map (fun n=>n.sp.lo)) (aY ns fr).1,
  (aY ns fr).2++[(fr.getD (aY ns fr).2.length 0,eM (ns.tail.map (fun n=>n.sp.lo)) ((aY ns fr).1.map T.place))])
theorem yH (n:NT) (fr:List Nat) (hl:(dK n fr).2.length≤fr.length):(dK n fr).2.map (·.1)=fr.take (dK n fr).2.length:=by
 cases n with
 | kept=>simp [dK]
 | bran=>simp [dK]
 | leaf s es =>
  simp only [dK,jK,List.length_singleton] at hl ⊢
  rw [List.map_append,vA es fr (by omega),List.take_succ_eq_append_getElem (by omega)]
  simp [jQ (show (aT es fr).2.length<fr.length by omega)]
theorem uY:∀ (ns:List NT) (fr:List Nat),(aY ns fr).2.length≤fr.length→(aY ns fr).2.map (·.1)=fr.take (aY ns fr).2.length
 | [],_,_=>by simp [aY]
 | n :: ns,fr,hl=>by
  simp only [aY,jK] at hl ⊢
  rw [List.map_append,yH n fr (by omega),uY ns (fr.drop (dK n fr).2.length) (by rw [List.length_drop];omega),List.take_add]
theorem Me (ns:List NT) (fr:List Nat) (hl:(gD ns fr).2.length≤fr.length):(gD ns fr).2.map (·.1)=fr.take (gD ns fr).2.length:=by
 simp only [gD,jK,List.length_singleton] at hl ⊢
 rw [List.map_append,uY ns fr (by omega),List.take_succ_eq_append_getElem (by omega)]
 simp [jQ (show (aY ns fr).2.length<fr.length by omega)]
theorem dN:∀ (ns:List NT) (fr:List Nat),(aY ns fr).1.length=ns.length
 | [],_=>rfl
 | n :: ns,fr=>by simp [aY,dN ns]
theorem uZ:∀ (ns:List NT) (fr:List Nat) (j:Nat) (hj:j<ns.length),(aY ns fr).2.length≤fr.length→∃ f,(∀ p∈f,p∈fr)∧(dK ns[j] f).2.length≤f.length∧(aY ns fr).1[j]?=some (dK ns[j] f).1∧∀ y∈(dK ns[j] f).2,y∈(aY ns fr).2
 | [],_,j,hj,_=>by simp at hj
 | n :: ns,fr,j,hj,hl=>by
  simp only [aY,jK] at hl ⊢
  cases j with
  | zero=>exact⟨fr,fun p hp=>hp,by simp;omega,by simp,fun y hy=>by simp at hy;simp [hy]⟩
  | succ j =>
   obtain⟨f,h1,h2,h3,h4⟩:=uZ ns (fr.drop (dK n fr).2.length) j (by simpa using hj) (by rw [List.length_drop];omega)
   exact⟨f,fun p hp=>List.mem_of_mem_drop (h1 p hp),by simpa using h2,by simpa using h3,fun y hy=>by simp at hy;simp [h4 y hy]⟩
structure Laid (fs fs':Fs) (Z:List Nat) (ws:List (Nat×Pg)):Prop where
 has:∀ y∈ws,fs'.has y.1 y.2
 keep:∀ p g,p ∉ Z→fs.has p g→fs'.has p g
theorem Uj {l m:List En} (h:l.map (fun x=>x.e.key)=m.map (fun x=>x.e.key)) (hm:cO m):cO l:=by
 have h1:(m.map (fun x=>x.e.key)).Pairwise (fun a b=>lt a b=true):=by rw [List.pairwise_map];exact hm
 rw [← h,List.pairwise_map] at h1
 exact h1
theorem Mg {l m:List En} (h:l.map (fun x=>x.e.key)=m.map (fun x=>x.e.key)) {y:En} (hy:y∈l):∃ x∈m,x.e.key=y.e.key:=by
 have:y.e.key∈m.map (fun x=>x.e.key):=by rw [← h];exact List.mem_map.2 ⟨y,hy,rfl⟩
 obtain⟨x,hx,e⟩:=List.mem_map.1 this
 exact⟨x,hx,e⟩
theorem Ha:∀ (es:List En) (fr:List Nat),tot esz (aT es fr).1=tot esz es
 | [],_=>rfl
 | x :: es,fr=>by simp only [aT,gH,Zo,Ha es]
theorem Cp {n:NT} (h:Ok0 fs n) (fr:List Nat) (hl:(dK n fr).2.length≤fr.length) (hp:∀ p∈fr,aS (p:Nat)=true):∀ y∈(dK n fr).2,y.2.encE=0:=by
 cases n with
 | kept=>simp [dK]
 | bran=>exact h.elim
 | leaf s es =>
  obtain⟨h1,h2,h3,h4,h5⟩:=h
  simp only [dK,jK,List.length_singleton] at hl ⊢
  intro y hy
  rcases List.mem_append.1 hy with hy|hy
  ·exact Hb es fr (by omega) hp y hy
  ·rw [List.mem_singleton] at hy
   subst hy
   have hk:=mK es fr
   refine qAj _ ?_ (Uj hk h3) ?_ (by rw [Ha];exact h4)
   ·intro e
    have:=congrArg List.length hk
    rw [e] at this
    simp at this
    exact h1 (List.eq_nil_of_length_eq_zero this.symm)
   ·intro y hy
    obtain⟨x,hx,f,hf,hfl,rfl,_⟩:=pV (P:=fun _ _=>True) es fr (by omega) y hy
    have hg:=h5 x hx
    rw [uX]
    exact⟨hg.1,hg.2.1,Qe hg f hfl (fun p h=>hp p (hf p h))⟩
theorem bH.in0 {s s':Sp} (h:bH fs 0 t s) (hs:∀ x∈T.ents 0 t,s'.has x.e.key=true):bH fs 0 t s':=by
 cases t with
 | branch=>exact h.elim
 | leaf p es =>
  obtain⟨g,a1,a2,a3,a4,_,a6⟩:=h
  exact⟨g,a1,a2,a3,a4,hs,a6⟩
theorem Pa (h:bH fs 0 t s) (hk:∀ p∈T.pages 0 t,∀ g,fs.has p g→fs'.has p g):bH fs' 0 t s:=by
 cases t with
 | branch=>exact h.elim
 | leaf p es =>
  obtain⟨g,a1,a2,a3,a4,a5,a6⟩:=h
  refine⟨g,hk p (by simp [T.pages]) g a1,a2,a3,a4,a5,fun x hx=>?_⟩
  obtain⟨sz,ov,b1,b2,b3,b4⟩:=a6 x hx
  refine⟨sz,ov,b1,b2,b3,b4.imp id (fun ⟨c1,c2⟩=>⟨c1,rP c2 (fun y hy=>hk y.1 ?_)⟩)⟩
  simp only [T.pages,List.mem_cons,List.mem_flatMap]
  exact .inr ⟨x,hx,List.mem_map.2 ⟨y,hy,rfl⟩⟩
def NT.pages0:NT→List Nat
 | .kept t _=>T.pages 0 t
 | .leaf _ es=>es.flatMap En.pages
 | .bran _ _=>[]
variable {n:NT} {ns:List NT}
theorem yG {Z fr f:List Nat} {ws:List (Nat×Pg)} (L:Laid fs fs' Z ws) (h:Ok0 fs n) (hf:∀ p∈f,p∈fr) (hl:(dK n f).2.length≤f.length) (hp:∀ p∈fr,aS (p:Nat)=true) (hw:∀ y∈(dK n f).2,y∈ws) (ha:∀ p∈n.pages0,p ∉ Z) (s:Sp) (hs:∀ x∈n.ents0,s.has x.e.key=true) :
  bH fs' 0 (dK n f).1 s∧aS ((dK n f).1.place:Nat)=true∨bH fs' 0 (dK n f).1 s∧∃ t sp,n=.kept t sp:=by
 cases n with
 | bran=>exact h.elim
 | kept t sp =>
  refine .inr ⟨?_,t,sp,rfl⟩
  cases t with
  | branch=>exact h.elim
  | leaf p es =>
   have h0:bH fs 0 (.leaf p es) sp:=h
   exact(Pa h0 (fun q hq g hg=>L.keep q g (ha q hq) hg)).in0 hs
 | leaf sp es =>
  obtain⟨h1,h2,h3,h4,h5⟩:=h
  simp only [dK,jK,List.length_singleton] at hl hw ⊢
  have hm:f.getD (aT es f).2.length 0∈f:=by
   rw [List.getD_eq_getElem?_getD,jQ (by omega)]
   exact List.getElem_mem _
  refine .inl ⟨⟨eJ (aT es f).1,L.has (f.getD (aT es f).2.length 0,eJ (aT es f).1) (hw _ (List.mem_append_right _ (List.mem_singleton.2 rfl))),rfl,rfl,?_,?_,?_⟩,hp _ (hf _ hm)⟩
  ·intro e
   have:=pU es f
   rw [e] at this
   exact h1 (List.eq_nil_of_length_eq_zero this.symm)
  ·intro y hy
   obtain⟨x,hx,e⟩:=Mg (mK es f) hy
   rw [← e];exact hs x hx
  ·intro y hy
   obtain⟨x,hx,f',hf',hfl,rfl,hz⟩:=pV (P:=fun _ _=>True) es f (by omega) y hy
   refine qCj (h5 x hx) f' hfl (fun p h=>hp p (hf p (hf' p h))) (fun z hzz=>L.has _ (hw _ (by simp [hz z hzz]))) ?_
   intro p hpp g hg
   exact L.keep p g (ha p (List.mem_flatMap.2 ⟨x,hx,hpp⟩)) hg
theorem Co (h:Ok0 fs n) (hkp:∀ t sp,n=.kept t sp→aS (t.place:Nat)=true) (f:List Nat) (hl:(dK n f).2.length≤f.length) (hp:∀ p∈f,aS (p:Nat)=true):aS ((dK n f).1.place:Nat)=true:=by
 cases n with
 | bran=>exact h.elim
 | kept t sp=>exact hkp t sp rfl
 | leaf sp es =>
  simp only [dK,jK,List.length_singleton] at hl ⊢
  have hm:f.getD (aT es f).2.length 0∈f:=by
   rw [List.getD_eq_getElem?_getD,jQ (by omega)]
   exact List.getElem_mem _
  exact hp _ hm
theorem Gy:∀ (ns:List NT) (fr:List Nat),(∀ n∈ns,Ok0 fs n)→(aY ns fr).2.length≤fr.length→(∀ p∈fr,aS (p:Nat)=true)→∀ y∈(aY ns fr).2,y.2.encE=0
 | [],_,_,_,_=>by simp [aY]
 | n :: ns,fr,ho,hl,hp=>by
  simp only [aY,jK] at hl ⊢
  intro y hy
  rcases List.mem_append.1 hy with hy|hy
  ·exact Cp (ho n (by simp)) fr (by omega) hp y hy
  ·exact Gy ns (fr.drop (dK n fr).2.length) (fun m hm=>ho m (by simp [hm])) (by rw [List.length_drop];omega) (fun p h=>hp p (List.mem_of_mem_drop h)) y hy
theorem Lx (ho:∀ n∈ns,Ok0 fs n) (hkp:∀ n∈ns,∀ t sp,n=.kept t sp→aS (t.place:Nat)=true) (hl:(aY ns fr).2.length≤fr.length) (hp:∀ p∈fr,aS (p:Nat)=true):∀ t∈(aY ns fr).1,aS (t.place:Nat)=true:=by
 intro t ht
 obtain⟨j,hj,rfl⟩:=List.getElem_of_mem ht
 rw [dN] at hj
 obtain⟨f,h1,h2,h3,_⟩:=uZ ns fr j hj hl
 have h4:=List.getElem?_eq_some_iff.1 h3
 obtain⟨h5,h6⟩:=h4
 rw [h6]
 exact Co (ho _ (List.getElem_mem _)) (hkp _ (List.getElem_mem _)) f h2 (fun p h=>hp p (h1 p h))
theorem Lst.tail_los (h:Lst fs (n :: ns)):(ns.map (fun n=>n.sp.lo)).Pairwise (fun a b=>lt a b=true)∧∀ k∈ns.map (fun n=>n.sp.lo),lt ⟨#[]⟩ k=true:=by
 have h0:=h.los
 rw [List.map_cons] at h0
 obtain⟨h1,h2⟩:=List.pairwise_cons.1 h0
 exact⟨h2,fun k hk=>fT (Bz _) (h1 k hk)⟩
theorem qBq (ns:List NT):2 * ns.length+tot (fun k:ByteArray=>k.size+1) (ns.map (fun n=>n.sp.lo))=tot zI ns:=by
 induction ns with
 | nil=>rfl
 | cons n ns ih=>rw [List.map_cons,gH,gH,jB];unfold zI at *;omega
theorem Zp (h:Lst fs (n :: ns)) (hne:ns≠[]) (h24:∀ m∈n :: ns,m.sp.lo.size≤24) (hkp:∀ m∈n :: ns,∀ t sp,m=.kept t sp→aS (t.place:Nat)=true) (hs:tot zI (n :: ns)≤250) (fr:List Nat) (hl:(gD (n :: ns) fr).2.length≤fr.length) (hp:∀ p∈fr,aS (p:Nat)=true):∀ y∈(gD (n :: ns) fr).2,y.2.encE=0:=by
 simp only [gD,jK,List.length_singleton] at hl ⊢
 intro y hy
 rcases List.mem_append.1 hy with hy|hy
 ·exact Gy _ fr h.ok (by omega) hp y hy
 ·rw [List.mem_singleton] at hy
  subst hy
  obtain⟨t1,t2⟩:=h.tail_los
  refine qAk _ _ ?_ ?_ t1 ?_ ?_ ?_
  ·simpa using hne
  ·simp [dN]
  ·intro k hk
   refine⟨t2 k hk,?_⟩
   simp only [List.tail_cons] at hk
   obtain⟨m,hm,rfl⟩:=List.mem_map.1 hk
   exact h24 m (by simp [hm])
  ·intro p hpp
   obtain⟨t,ht,rfl⟩:=List.mem_map.1 hpp
   exact Lx h.ok hkp (by omega) hp t ht
  ·rw [List.length_map,dN,List.tail_cons,jB]
   have e1:=qBq ns
   rw [gH] at hs
   unfold zI at hs e1
   omega
theorem Lst.has (h:Lst fs ns) (j:Nat) (hj:j<ns.length):∀ x∈(ns[j]).ents0,(⟨nR ⟨⟨#[]⟩,⟨#[]⟩⟩ (ns.tail.map (fun n=>n.sp.lo)) j,mX ⟨⟨#[]⟩,⟨#[]⟩⟩ (ns.tail.map (fun n=>n.sp.lo)) j⟩:Sp).has x.e.key=true:=by
 intro x hx
 simp only [Sp.has,Bool.and_eq_true]
 have hlo:=h.lo ns[j] (List.getElem_mem _) x hx
 constructor
 ·unfold nR
  split
  ·exact Bz _
  ·rename_i h0
   have e:(ns.tail.map (fun n=>n.sp.lo))[j-1]?=some (ns[j]).sp.lo:=by
    rw [List.getElem?_map,List.getElem?_tail,show j-1+1=j by omega,jQ hj];rfl
   rw [e];exact hlo
 ·unfold mX
  rw [List.getElem?_map,List.getElem?_tail]
  by_cases h1:j+1<ns.length
  ·rw [jQ h1]
   refine fA.2 (.inr ?_)
   exact(List.pairwise_iff_getElem.1 h.sep j (j+1) hj h1 (by omega)) x hx
  ·rw [List.getElem?_eq_none (by omega)]
   exact fA.2 (.inl rfl)
theorem Md {Z fr:List Nat} (h:Lst fs (n :: ns)) (hne:ns≠[]) (L:Laid fs fs' Z (gD (n :: ns) fr).2) (hl:(gD (n :: ns) fr).2.length≤fr.length) (hp:∀ p∈fr,aS (p:Nat)=true) (ha:∀ m∈n :: ns,∀ p∈m.pages0,p ∉ Z) :
  bH fs' 1 (gD (n :: ns) fr).1 ⟨⟨#[]⟩,⟨#[]⟩⟩∧aS ((gD (n :: ns) fr).1.place:Nat)=true:=by
 simp only [gD,jK,List.length_singleton] at hl L ⊢
 have hm:fr.getD (aY (n :: ns) fr).2.length 0∈fr:=by
  rw [List.getD_eq_getElem?_getD,jQ (by omega)]
  exact List.getElem_mem _
 obtain⟨t1,t2⟩:=h.tail_los
 have hlen:0<ns.length:=List.length_pos_iff.2 hne
 refine⟨⟨eM (ns.map (fun n=>n.sp.lo)) ((aY (n :: ns) fr).1.map T.place),L.has (fr.getD (aY (n :: ns) fr).2.length 0,eM (ns.map (fun n=>n.sp.lo)) ((aY (n :: ns) fr).1.map T.place)) (List.mem_append_right _ (List.mem_singleton.2 rfl)),rfl,rfl,?_,?_,⟨by simpa using hlen,?_,Io _⟩,?_⟩,hp _ hm⟩
 ·simp [eM]
 ·simp [dN]
 ·exact t2 _ (List.getElem_mem _)
 ·intro x hx
  obtain⟨j,hj,e⟩:=List.getElem_of_mem hx
  rw [fC,dN] at hj
  have hat:=iN ⟨⟨#[]⟩,⟨#[]⟩⟩ ((n :: ns).tail.map (fun n=>n.sp.lo)) (aY (n :: ns) fr).1 j (by rw [dN];exact hj)
  have e2:x=((aY (n :: ns) fr).1[j]'(by rw [dN];exact hj),⟨nR ⟨⟨#[]⟩,⟨#[]⟩⟩ ((n :: ns).tail.map (fun n=>n.sp.lo)) j,mX ⟨⟨#[]⟩,⟨#[]⟩⟩ ((n :: ns).tail.map (fun n=>n.sp.lo)) j⟩):=by
   have h1:=List.getElem?_eq_some_iff.1 hat
   obtain⟨_,h2⟩:=h1
   rw [← e,← h2]
  obtain⟨f,h1,h2,h3,h4⟩:=uZ (n :: ns) fr j hj (by omega)
  obtain⟨h5,h6⟩:=List.getElem?_eq_some_iff.1 h3
  rw [e2,h6]
  rcases yG L (h.ok _ (List.getElem_mem hj)) h1 h2 hp (fun y hy=>List.mem_append_left _ (h4 y hy)) (ha _ (List.getElem_mem hj)) _ (h.has j hj) with h|h
  ·exact h.1
  ·exact h.1
def cM (o:Option (Nat×T)) (cs:List Ch):List NT:=match o with
 | none=>cU (aX [] cs)
 | some (_,.leaf _ es)=>cU (aX es cs)
 | some (_,.branch _ ks kids)=>Tb ⟨⟨#[]⟩,⟨#[]⟩⟩ ks kids cs
def fW:Option (Nat×T)→Prop
 | none=>True
 | some (h,_)=>h≤1
def qDe (K:List ByteArray):Option (Nat×T)→Prop
 | none=>True
 | some (h,t)=>TIn K h t
theorem iV (hro:bI fs root o) (hf:fW o):o=none∨(∃ p es,o=some (0,.leaf p es)∧bH fs 0 (.leaf p es) ⟨⟨#[]⟩,⟨#[]⟩⟩)∨∃ p ks kids,o=some (1,.branch p ks kids)∧bH fs 1 (.branch p ks kids) ⟨⟨#[]⟩,⟨#[]⟩⟩:=by
 cases o with
 | none=>exact .inl rfl
 | some x =>
  obtain⟨h,t⟩:=x
  obtain⟨_,_,hs⟩:=hro
  have hf':h≤1:=hf
  rcases Nat.lt_or_ge h 1 with h0|h0
  ·have:h=0:=by omega
   subst this
   cases t with
   | leaf p es=>exact .inr (.inl ⟨p,es,rfl,hs⟩)
   | branch=>exact hs.elim
  ·have:h=1:=by omega
   subst this
   cases t with
   | leaf=>exact hs.elim
   | branch p ks kids=>exact .inr (.inr ⟨p,ks,kids,rfl,hs⟩)
theorem mJ (hro:bI fs root o) (hf:fW o) (hr:cH cs) (hc:∀ c∈cs,c.good):Lst fs (cM o cs)∧cY (cM o cs)=aX (dD o) cs:=by
 rcases iV hro hf with rfl|⟨p,es,rfl,hs⟩|⟨p,ks,kids,rfl,hs⟩
 ·have hg:=eZ (fs:=fs) (es:=[]) .nil hr (by simp) hc
  exact⟨nJ (iW .nil hr) hg,gB hg⟩
 ·have hre:cO es:=dG (h:=0) hs
  have hg:=eZ hre hr (fB hs) hc
  exact⟨nJ (iW hre hr) hg,gB hg⟩
 ·exact Vq hs hr hc
theorem nH (hro:bI fs root o) (hf:fW o) (hr:cH cs) (hc:∀ c∈cs,c.good) (hcK:∀ c∈cs,c.key∈K) (hoK:qDe K o):∀ n∈cM o cs,xJ K n:=by
 rcases iV hro hf with rfl|⟨p,es,rfl,hs⟩|⟨p,ks,kids,rfl,hs⟩
 ·have hg:=eZ (fs:=fs) (es:=[]) .nil hr (by simp) hc
  refine lL hg (fun x hx=>?_)
  rcases (dI .nil hr x).1 hx with⟨c,h1,_,rfl⟩|⟨h1,_⟩
  ·exact hcK c h1
  ·simp at h1
 ·have hre:cO es:=dG (h:=0) hs
  have hg:=eZ hre hr (fB hs) hc
  refine lL hg (fun x hx=>?_)
  rcases (dI hre hr x).1 hx with⟨c,h1,_,rfl⟩|⟨h1,_⟩
  ·exact hcK c h1
  ·exact hoK x h1
 ·exact Qj hs hr hc hcK hoK
def Eb (P:List Nat) (n:NT):Prop:=(∀ p∈n.pages0,p∈P)∧∀ x∈n.ents0,∀ p∈x.pages,p∈P
theorem lM {es:List En} (hg:∀ x∈es,x.good fs) (hP:∀ x∈es,∀ p∈x.pages,p∈P):∀ n∈cU es,Eb P n:=by
 intro n hn
 have hin:=tO hg n hn
 obtain⟨q,hq,rfl⟩:=List.mem_map.1 hn
 refine⟨?_,fun x hx=>hP x (hin x hx)⟩
 intro p hp
 obtain⟨x,hx,hp⟩:=List.mem_flatMap.1 hp
 exact hP x (hin x hx) p hp
theorem tH {es:List En}  (he:cO es) (hr:cH cs) (hP:∀ x∈es,∀ p∈x.pages,p∈P):∀ x∈aX es cs,∀ p∈x.pages,p∈P:=by
 intro x hx p hp
 rcases (dI he hr x).1 hx with⟨c,h1,_,rfl⟩|⟨h1,_⟩
 ·simp [En.pages,chE] at hp
 ·exact hP x h1 p hp
theorem Xt {A B:List NT} {l n:NT} (h:Lst fs (A++l :: n :: B)) (hK:∀ m∈A++l :: n :: B,Eb P m):∀ m∈A++(iK l n++B),Eb P m:=by
 intro m hm
 simp only [List.mem_append] at hm
 rcases hm with hm|hm|hm
 ·exact hK m (by simp [hm])
 ·refine lM (fs:=fs) (fun x hx=>?_) (fun x hx=>?_) m hm
  ·rcases List.mem_append.1 hx with hx|hx
   ·exact(eV (h.ok l (by simp))).2.2 x hx
   ·exact(eV (h.ok n (by simp))).2.2 x hx
  ·rcases List.mem_append.1 hx with hx|hx
   ·exact(hK l (by simp)).2 x hx
   ·exact(hK n (by simp)).2 x hx
 ·exact hK m (by simp [hm])
theorem Vw (h:Lst fs ns) (hK:∀ m∈ns,Eb P m):∀ m∈iG iK ns,Eb P m :=
 (nK (J:=fun L=>Lst fs L∧∀ m∈L,Eb P m) (fun _ _ _ _ hL=>⟨hL.1.tog.1,Xt hL.1 hL.2⟩) ⟨h,hK⟩).2
theorem Kg {A B:List NT} {l n:NT} (hK:∀ m∈A++l :: n :: B,∀ t sp,m=.kept t sp→Q t):∀ m∈A++(iK l n++B),∀ t sp,m=.kept t sp→Q t:=by
 intro m hm t sp e
 simp only [List.mem_append] at hm
 rcases hm with hm|hm|hm
 ·exact hK m (by simp [hm]) t sp e
 ·obtain⟨q,_,rfl⟩:=List.mem_map.1 hm
  simp [Gt] at e
 ·exact hK m (by simp [hm]) t sp e
theorem Vv (hK:∀ m∈ns,∀ t sp,m=.kept t sp→Q t):∀ m∈iG iK ns,∀ t sp,m=.kept t sp→Q t :=
 nK (J:=fun L=>∀ m∈L,∀ t sp,m=.kept t sp→Q t) (fun _ _ _ _ hL=>Kg hL) hK
theorem nI {es:List En} :∀ m∈cU es,∀ t sp,m=.kept t sp→Q t:=by
 intro m hm t sp e
 obtain⟨q,_,rfl⟩:=List.mem_map.1 hm
 simp [Gt] at e
theorem yA (hro:bI fs root o) (hf:fW o) (hr:cH cs) (hc:∀ c∈cs,c.good):(∀ n∈cM o cs,Eb (cI o) n)∧∀ n∈cM o cs,∀ t sp,n=.kept t sp→aS (t.place:Nat)=true:=by
 rcases iV hro hf with rfl|⟨p,es,rfl,hs⟩|⟨p,ks,kids,rfl,hs⟩
 ·have hg:=eZ (fs:=fs) (es:=[]) .nil hr (by simp) hc
  exact⟨lM hg (tH .nil hr (by simp)),nI⟩
 ·have hre:cO es:=dG (h:=0) hs
  have hg:=eZ hre hr (fB hs) hc
  refine⟨lM hg (tH hre hr (fun x hx p hp=>?_)),nI⟩
  simp only [cI,T.pages,List.mem_cons,List.mem_flatMap]
  exact .inr ⟨x,hx,hp⟩
 ·obtain⟨hl,hp,hb,_,hall⟩:=fH hs
  have hpp:=kJ _ ks kids hl hp hb
  have hk:=fun x hx=>zV (x:=x.2) (t:=x.1) (hall x hx) hr hc
  obtain⟨f1,f2⟩:=rJ (fun x=>eW x cs) (parts ⟨⟨#[]⟩,⟨#[]⟩⟩ ks kids) (fun x hx=>(hk x hx).1) hpp
  have hmem:∀ x∈parts ⟨⟨#[]⟩,⟨#[]⟩⟩ ks kids,x.1∈kids:=fun x hx=>by
   have:x.1∈(parts ⟨⟨#[]⟩,⟨#[]⟩⟩ ks kids).map (·.1):=List.mem_map.2 ⟨x,hx,rfl⟩
   rwa [gO] at this
  constructor
  ·refine Vw f1 ?_
   intro m hm
   obtain⟨x,hx,hm⟩:=List.mem_flatMap.1 hm
   have hst:=hall x hx
   obtain⟨t,sp⟩:=x
   cases t with
   | branch=>exact hst.elim
   | leaf q es =>
    have hre:cO es:=dG (h:=0) hst
    have hpg:∀ z∈T.pages 0 (.leaf q es),z∈cI (some (1,.branch p ks kids)):=fun z hz=>by
     simp only [cI,T.pages,List.mem_cons,List.mem_flatMap]
     exact .inr ⟨_,hmem _ hx,by simpa [T.pages] using hz⟩
    have hep:∀ x∈es,∀ z∈x.pages,z∈cI (some (1,.branch p ks kids)):=fun x hx z hz=>hpg z (by
     simp only [T.pages,List.mem_cons,List.mem_flatMap];exact .inr ⟨x,hx,hz⟩)
    by_cases h0:(dV cs sp).length=0
    ·have e:eW (.leaf q es,sp) cs=[.kept (.leaf q es) sp]:=by simp [eW,h0]
     rw [e,List.mem_singleton] at hm
     subst hm
     exact⟨hpg,hep⟩
    ·have e:eW (.leaf q es,sp) cs=cU (aX es (dV cs sp)):=by simp [eW,h0]
     rw [e] at hm
     have hro:=iL hr sp
     exact lM (eZ (fs:=fs) hre hro (fB hst) (fun c h=>hc c (jW.1 h).1)) (tH hre hro hep) m hm
  ·refine Vv ?_
   intro m hm t' sp' e'
   obtain⟨x,hx,hm⟩:=List.mem_flatMap.1 hm
   have hx1:=hmem x hx
   obtain⟨t,sp⟩:=x
   have hpl:aS (t.place:Nat)=true:=by
    obtain⟨g,hg,hk2,_,hkd,_⟩:=hs
    refine Mr hg hk2 _ ?_
    rw [hkd]
    exact List.mem_map.2 ⟨t,hx1,rfl⟩
   cases t with
   | branch =>
    simp only [eW,List.mem_singleton] at hm
    rw [hm] at e'
    injection e' with e1 e2
    rw [← e1];exact hpl
   | leaf q es =>
    by_cases h0:(dV cs sp).length=0
    ·have e:eW (.leaf q es,sp) cs=[.kept (.leaf q es) sp]:=by simp [eW,h0]
     rw [e,List.mem_singleton] at hm
     rw [hm] at e'
     injection e' with e1 e2
     rw [← e1];exact hpl
    ·have e:eW (.leaf q es,sp) cs=cU (aX es (dV cs sp)):=by simp [eW,h0]
     rw [e] at hm
     exact nI (Q:=fun t=>aS (t.place:Nat)=true) m hm t' sp' e'
def bJ (N:List NT) (fr:List Nat):Option (Nat×T)×List (Nat×Pg):=match N with
 | []=>(none,[])
 | [n]=>(some (0,(dK n fr).1),(dK n fr).2)
 | n :: m :: r=>(some (1,(gD (n :: m :: r) fr).1),(gD (n :: m :: r) fr).2)
def rootOf:Option (Nat×T)→Nat
 | none=>0
 | some (_,t)=>t.place
theorem Vd (x:En) (fr:List Nat):(dJ x fr).length≤2:=by
 unfold dJ
 split
 ·exact Cl 2 _ _
 ·simp
theorem rH:∀ (es:List En) (fr:List Nat),(aT es fr).2.length≤2 * es.length
 | [],_=>by simp [aT]
 | x :: es,fr=>by
  have h1:=Vd x fr
  have h2:=rH es (fr.drop (dJ x fr).length)
  simp only [aT,jK,List.length_reverse,jB];omega
theorem Cq (n:NT) (fr:List Nat):(dK n fr).2.length≤1+2 * n.ents0.length:=by
 cases n with
 | kept=>simp [dK]
 | bran=>simp [dK]
 | leaf s es =>
  have:=rH es fr
  simp only [dK,jK,List.length_singleton,NT.ents0];omega
theorem yC:∀ (ns:List NT) (fr:List Nat),(aY ns fr).2.length≤ns.length+2 * (cY ns).length
 | [],_=>by simp [aY]
 | n :: ns,fr=>by
  have h1:=Cq n fr
  have h2:=yC ns (fr.drop (dK n fr).2.length)
  simp only [aY,cY,List.flatMap_cons,jK,jB] at *;omega
theorem Iz (N:List NT) (fr:List Nat):(bJ N fr).2.length≤1+N.length+2 * (cY N).length:=by
 unfold bJ
 split
 ·simp
 ·rename_i n
  have:=Cq n fr
  simp only [cY,List.flatMap_cons,List.flatMap_nil,List.append_nil,jB,jN];omega
 ·rename_i n m r
  have:=yC (n :: m :: r) fr
  simp only [gD,jK,List.length_singleton];omega
theorem Eo (N:List NT) (fr:List Nat) (hl:(bJ N fr).2.length≤fr.length):(bJ N fr).2.map (·.1)=fr.take (bJ N fr).2.length:=by
 unfold bJ at hl ⊢
 split
 ·simp
 ·exact yH _ fr hl
 ·exact Me _ fr hl
def En.kv (x:En):ByteArray×List UInt8:=(x.e.key,x.value)
theorem Mc:∀ (es:List En) (fr:List Nat),(∀ x∈es,x.good fs)→(aT es fr).2.length≤fr.length→(∀ p∈fr,aS (p:Nat)=true)→(aT es fr).1.map En.kv=es.map En.kv
 | [],_,_,_,_=>rfl
 | x :: es,fr,hg,hl,hp=>by
  simp only [aT,jK,List.length_reverse] at hl
  have h1:=Qd (hg x (by simp)) fr (by omega) hp
  have h2:=Mc es (fr.drop (dJ x fr).length) (fun y hy=>hg y (by simp [hy])) (by rw [List.length_drop];omega) (fun p h=>hp p (List.mem_of_mem_drop h))
  simp only [aT,List.map_cons,h2,List.cons.injEq,and_true,En.kv,h1,uX]
theorem Sz (h:Ok0 fs n) (fr:List Nat) (hl:(dK n fr).2.length≤fr.length) (hp:∀ p∈fr,aS (p:Nat)=true):(T.ents 0 (dK n fr).1).map En.kv=n.ents0.map En.kv:=by
 cases n with
 | bran=>exact h.elim
 | kept t s=>cases t with
  | leaf=>rfl
  | branch=>exact h.elim
 | leaf s es =>
  simp only [dK,jK,List.length_singleton] at hl
  exact Mc es fr h.2.2.2.2 (by omega) hp
theorem Ly:∀ (ns:List NT) (fr:List Nat),(∀ n∈ns,Ok0 fs n)→(aY ns fr).2.length≤fr.length→(∀ p∈fr,aS (p:Nat)=true)→((aY ns fr).1.flatMap (T.ents 0)).map En.kv=(cY ns).map En.kv
 | [],_,_,_,_=>rfl
 | n :: ns,fr,ho,hl,hp=>by
  simp only [aY,jK] at hl
  have h1:=Sz (ho n (by simp)) fr (by omega) hp
  have h2:=Ly ns (fr.drop (dK n fr).2.length) (fun y hy=>ho y (by simp [hy])) (by rw [List.length_drop];omega) (fun p h=>hp p (List.mem_of_mem_drop h))
  simp only [aY,List.flatMap_cons,List.map_append,cY] at h1 h2 ⊢
  rw [h1,h2]
theorem Vn {N:List NT} (h:∀ n∈N,Ok0 fs n) (fr:List Nat) (hl:(bJ N fr).2.length≤fr.length) (hp:∀ p∈fr,aS (p:Nat)=true):(dD (bJ N fr).1).map En.kv=(cY N).map En.kv:=by
 unfold bJ at hl ⊢
 split
 ·rfl
 ·rename_i n
  have:=Sz (h n (by simp)) fr hl hp
  simp only [dD,cY,List.flatMap_cons,List.flatMap_nil,List.append_nil]
  exact this
 ·rename_i n m r
  simp only [gD,jK,List.length_singleton] at hl
  exact Ly (n :: m :: r) fr h (by omega) hp
theorem Ma (h:Ok0 fs n) (hK:xJ K n) (fr:List Nat):TIn K 0 (dK n fr).1:=by
 cases n with
 | bran=>exact h.elim
 | kept t s=>cases t with
  | leaf=>exact hK.2
  | branch=>exact h.elim
 | leaf s es =>
  intro y hy
  obtain⟨x,hx,e⟩:=Mg (mK es fr) hy
  rw [← e];exact hK.2 x hx
theorem Gw {N:List NT} (h:Lst fs N) (hK:∀ n∈N,xJ K n) (hK24:∀ k∈K,k.size≤24) (hKs:3+tot (fun k:ByteArray=>k.size+3) K≤250) (hkp:∀ n∈N,∀ t sp,n=.kept t sp→aS (t.place:Nat)=true) (fr:List Nat) (hl:(bJ N fr).2.length≤fr.length) (hp:∀ p∈fr,aS (p:Nat)=true) (Z:List Nat) (ha:∀ n∈N,∀ p∈n.pages0,p ∉ Z) :
  (∀ y∈(bJ N fr).2,y.2.encE=0)∧fW (bJ N fr).1∧qDe K (bJ N fr).1∧∀ fs',Laid fs fs' Z (bJ N fr).2→bI fs' (rootOf (bJ N fr).1) (bJ N fr).1∧(rootOf (bJ N fr).1=0∨aS (rootOf (bJ N fr).1:Nat)=true):=by
 have h24:∀ m∈N,m.sp.lo.size≤24:=fun m hm=>by
  rcases (hK m hm).1 with h|h
  ·rw [h];decide
  ·exact hK24 _ h
 have hsz:=h.size hK
 unfold bJ at hl ⊢
 split
 ·exact⟨by simp,trivial,trivial,fun fs' L=>⟨rfl,.inl rfl⟩⟩
 ·rename_i n
  refine⟨Cp (h.ok n (by simp)) fr hl hp,Nat.zero_le _,Ma (h.ok n (by simp)) (hK n (by simp)) fr,fun fs' L=>?_⟩
  have hpl:=Co (h.ok n (by simp)) (hkp n (by simp)) fr hl hp
  have hst:bH fs' 0 (dK n fr).1 ⟨⟨#[]⟩,⟨#[]⟩⟩:=by
   rcases yG L (h.ok n (by simp)) (fun p h=>h) hl hp (fun y h=>h) (ha n (by simp)) ⟨⟨#[]⟩,⟨#[]⟩⟩ (fun x _=>Io _) with h|h
   ·exact h.1
   ·exact h.1
  exact⟨⟨by have:=eU hpl;show 0<(dK n fr).1.place;omega,rfl,hst⟩,.inr hpl⟩
 ·rename_i n m r
  refine⟨Zp h (by simp) h24 hkp (by omega) fr hl hp,jU _,⟨?_,?_⟩,fun fs' L=>?_⟩
  ·intro k hk
   simp only [List.tail_cons] at hk
   obtain⟨q,hq,rfl⟩:=List.mem_map.1 hk
   rcases (hK q (by simp only [List.mem_cons] at hq ⊢;exact .inr hq)).1 with h0|h0
   ·have:=h.tail_los.2 _ (List.mem_map.2 ⟨q,hq,rfl⟩)
    simp only [h0,cC] at this
    cases this
   ·exact h0
  ·intro t ht
   simp only [gD,jK,List.length_singleton] at hl
   obtain⟨j,hj,rfl⟩:=List.getElem_of_mem ht
   rw [dN] at hj
   obtain⟨f,h1,h2,h3,_⟩:=uZ _ fr j hj (by omega)
   obtain⟨h5,h6⟩:=List.getElem?_eq_some_iff.1 h3
   rw [h6]
   exact Ma (h.ok _ (List.getElem_mem _)) (hK _ (List.getElem_mem _)) f
  ·obtain⟨h1,h2⟩:=Md h (by simp) L hl hp ha
   exact⟨⟨by have:=eU h2;show 0<(gD (n :: m :: r) fr).1.place;omega,rfl,h1⟩,.inr h2⟩
theorem Ht:∀ {l:List (Nat×Pg)} {p r k:Nat},eP fs p r l→r≤240 * k→l.length≤k
 | [],_,_,_,_,_=>Nat.zero_le _
 | x :: l,p,r,k,h,hk=>by
  obtain⟨a1,a2,a3,a4,a5,nx,a6,a7,a8⟩:=h
  cases k with
  | zero=>omega
  | succ k =>
   have:=Ht (k:=k) a8 (by rw [a5];omega)
   rw [jB];omega
theorem Jh {x:En} (h:x.ok fs):x.pages.length≤2:=by
 obtain⟨sz,ov,_,_,h3,h|⟨_,h⟩⟩:=h
 ·simp [En.pages,h.2]
 ·simp only [En.pages,List.length_map];exact Ht h (by omega)
theorem wY (f:α→List Nat) (b:Nat):∀ (l:List α),(∀ x∈l,(f x).length≤b)→(l.flatMap f).length≤b * l.length
 | [],_=>by simp
 | x :: l,h=>by
  have h1:=h x (by simp)
  have h2:=wY f b l (fun y hy=>h y (by simp [hy]))
  rw [List.flatMap_cons,jK,jB,Nat.mul_succ];omega
theorem rE {es:List En}  (h:bH fs 0 (.leaf p es) s):(T.pages 0 (.leaf p es)).length≤1+2 * es.length:=by
 obtain⟨g,_,_,_,_,_,h6⟩:=h
 have:=wY En.pages 2 es (fun x hx=>Jh (h6 x hx))
 simp only [T.pages,jB];omega
theorem Ps (hro:bI fs root o) (hf:fW o) (hK:qDe K o):(cI o).length≤1+3 * K.length:=by
 rcases iV hro hf with rfl|⟨p,es,rfl,hs⟩|⟨p,ks,kids,rfl,hs⟩
 ·simp [cI]
 ·have h1:=rE hs
  have hre:cO es:=dG (h:=0) hs
  have h2:=uW (l:=es.map (fun x=>x.e.key)) (m:=K) (mA (by rw [List.pairwise_map];exact hre)) (fun x hx=>by
   obtain⟨y,hy,rfl⟩:=List.mem_map.1 hx
   exact hK y hy)
  rw [List.length_map] at h2
  show (T.pages 0 _).length≤_
  omega
 ·have hre:=dG hs
  obtain⟨hl,hp,hb,_,hall⟩:=fH hs
  have hst:∀ t∈kids,∃ s',bH fs 0 t s':=fun t ht=>by
   obtain⟨s',hs'⟩:=mE (s:=⟨⟨#[]⟩,⟨#[]⟩⟩) (ks:=ks) ht
   exact⟨s',hall _ hs'⟩
  have h2:=uW (l:=(kids.flatMap (T.ents 0)).map (fun x=>x.e.key)) (m:=K) (mA (by rw [List.pairwise_map];exact hre)) (fun x hx=>by
   obtain⟨y,hy,rfl⟩:=List.mem_map.1 hx
   obtain⟨t,ht,hy⟩:=List.mem_flatMap.1 hy
   have h3:=hK.2 t ht
   cases t with
   | leaf=>exact h3 y hy
   | branch=>exact h3.elim)
  rw [List.length_map] at h2
  have key:∀ (l:List T),(∀ t∈l,∃ s',bH fs 0 t s')→(l.flatMap (T.pages 0)).length≤3 * (l.flatMap (T.ents 0)).length:=by
   intro l
   induction l with
   | nil=>simp
   | cons t l ih =>
    intro h
    have h1:=ih (fun t ht=>h t (by simp [ht]))
    obtain⟨s',hs'⟩:=h t (by simp)
    cases t with
    | branch=>exact hs'.elim
    | leaf q es =>
     have h4:=rE hs'
     obtain⟨g,_,_,_,hne,_⟩:=hs'
     have h5:0<es.length:=List.length_pos_iff.2 hne
     rw [List.flatMap_cons,List.flatMap_cons,jK,jK]
     have e:(T.ents 0 (.leaf q es)).length=es.length:=rfl
     omega
  have h3:=key kids hst
  simp only [cI,T.pages,jB]
  omega
theorem Nz:∀ {l:List (Nat×Pg)} {p r:Nat},eP fs p r l→2≤p→∀ x∈l,2≤x.1
 | [],_,_,_,_,x,hx=>by simp at hx
 | y :: l,p,r,h,hp,x,hx=>by
  obtain⟨a1,a2,a3,a4,a5,nx,a6,a7,a8⟩:=h
  rcases List.mem_cons.1 hx with rfl|hx
  ·omega
  ·rcases Zv a3 a4 with h0|h0
   ·have:nx=0:=by omega
    subst this
    have h1:=a7.1 rfl
    rw [h1] at a8
    cases l with
    | nil=>simp at hx
    | cons z l=>obtain⟨_,b2,_⟩:=a8;omega
   ·rw [a6] at h0
    exact Nz a8 (eU h0).1 x hx
theorem Sy {es:List En}  (h:bH fs 0 (.leaf p es) s) (hp:2≤p):∀ q∈T.pages 0 (.leaf p es),2≤q:=by
 intro q hq
 simp only [T.pages,List.mem_cons,List.mem_flatMap] at hq
 rcases hq with rfl|⟨x,hx,hq⟩
 ·exact hp
 ·obtain⟨y,hy,rfl⟩:=List.mem_map.1 hq
  obtain⟨_,_,⟨_,h2,_⟩|⟨h1,h2,sz,ov,h3,h4,h5,h6,h7⟩⟩:=fB h x hx
  ·rw [h2] at hy;simp at hy
  ·rw [h4] at h2
   exact Nz h7 (eU h2).1 y hy
theorem sD (hro:bI fs root o) (hf:fW o) (hr:root=0∨aS (root:Nat)=true):∀ q∈cI o,2≤q:=by
 rcases iV hro hf with rfl|⟨p,es,rfl,hs⟩|⟨p,ks,kids,rfl,hs⟩
 ·simp [cI]
 ·obtain⟨h1,h2,_⟩:=hro
  have h2':p=root:=h2
  exact Sy hs (by rcases hr with h|h;omega;have:=eU h;omega)
 ·obtain⟨h1,h2,_⟩:=hro
  have h2':p=root:=h2
  intro q hq
  simp only [cI,T.pages,List.mem_cons,List.mem_flatMap] at hq
  rcases hq with rfl|⟨t,ht,hq⟩
  ·rcases hr with h|h
   ·omega
   ·have:=eU h;omega
  ·obtain⟨hl,hp,hb,_,hall⟩:=fH hs
   obtain⟨s',hs'⟩:=mE (s:=⟨⟨#[]⟩,⟨#[]⟩⟩) (ks:=ks) ht
   have hst:=hall _ hs'
   have hpl:aS (t.place:Nat)=true:=by
    obtain⟨g,hg,hk2,_,hkd,_⟩:=hs
    refine Mr hg hk2 _ ?_
    rw [hkd]
    exact List.mem_map.2 ⟨t,ht,rfl⟩
   cases t with
   | branch=>exact hst.elim
   | leaf r es=>exact Sy hst (eU hpl).1 q hq
def fU (n:Nat) (u:List Bool):List Nat:=(List.range' 2 (n-2)).filter (fun p=>!(u.getD p true))
theorem wW {n:Nat} {u:List Bool}  (h:p∈fU n u):2≤p∧p<n∧¬ on u p:=by
 simp only [fU,List.mem_filter,List.mem_range'_1] at h
 obtain⟨h1,h2⟩:=h
 refine⟨by omega,by omega,fun h3=>?_⟩
 unfold on at h3
 rw [List.getD_eq_getElem?_getD,h3] at h2
 simp at h2
theorem Mt (n:Nat) (u:List Bool):(fU n u).Nodup:=List.Pairwise.filter _ (List.nodup_range' (s:=2) (n:=n-2))
theorem Qw {n:Nat} {u:List Bool} {ps:List Nat} (hu:n≤u.length) (hps:∀ p,on u p→p∈ps):n-2≤(fU n u).length+ps.length:=by
 have h:=uW (l:=List.range' 2 (n-2)) (m:=fU n u++ps) (List.nodup_range') (fun p hp=>by
  rw [List.mem_range'_1] at hp
  simp only [List.mem_append]
  by_cases h:on u p
  ·exact .inr (hps p h)
  ·refine .inl ?_
   simp only [fU,List.mem_filter,List.mem_range'_1]
   refine⟨hp,?_⟩
   have hl:p<u.length:=by omega
   rw [List.getD_eq_getElem?_getD,jQ hl]
   unfold on at h
   rw [jQ hl] at h
   cases hv:u[p] with
   | false=>rfl
   | true=>rw [hv] at h;exact absurd rfl h)
 rw [List.length_range',jK] at h
 exact h
