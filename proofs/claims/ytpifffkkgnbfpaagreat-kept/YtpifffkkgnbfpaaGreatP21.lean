import Derived.Test.YtpifffkkgnbfpaaGreatP20
set_option linter.unusedSimpArgs false
set_option linter.unusedVariables false
set_option maxRecDepth 100000
set_option maxHeartbeats 8000000
namespace Go.Proofs.YtpifffkkgnbfpaaGreat.Tree
open Go.RowKit Pages
variable {K:List ByteArray} {P Z fr:List Nat} {Q:T→Prop} {g:Pg} {l:List (Nat×Pg)} {o:Option (Nat×T)} {p root:Nat} {s x:Sp} {t:T} {α:Type}
theorem Bs:∀ {l m:List En},cR l→cR m→(∀ y,y∈l↔y∈m)→l=m
 | [],[],_,_,_=>rfl
 | [],y :: m,_,_,h=>absurd ((h y).2 (by simp)) (by simp)
 | x :: l,[],_,_,h=>absurd ((h x).1 (by simp)) (by simp)
 | x :: l,y :: m,hl,hm,h=>by
  obtain⟨hx,hl'⟩:=List.pairwise_cons.1 hl
  obtain⟨hy,hm'⟩:=List.pairwise_cons.1 hm
  have exy:x=y:=by
   rcases List.mem_cons.1 ((h x).1 (by simp)) with e|e
   ·exact e
   ·rcases List.mem_cons.1 ((h y).2 (by simp)) with e'|e'
    ·exact e'.symm
    ·have:=gB (hx y e') (hy x e)
     rw [bU] at this;cases this
  subst exy
  rw [Bs hl' hm' (fun z=>?_)]
  constructor
  ·intro hz
   rcases List.mem_cons.1 ((h z).1 (by simp [hz])) with rfl|hz'
   ·have:=hx z hz;rw [bU] at this;cases this
   ·exact hz'
  ·intro hz
   rcases List.mem_cons.1 ((h z).2 (by simp [hz])) with rfl|hz'
   ·have:=hy z hz;rw [bU] at this;cases this
   ·exact hz'
def gA (next:Nat) (d:ByteArray):Pg:=⟨4,0,0,next,[],[],[],d⟩
def eK (es:List En):Pg:=⟨3,0,0,0,[],[],es.map (·.e),⟨#[]⟩⟩
def eN (los:List ByteArray) (pls:List Nat):Pg:=⟨2,0,0,0,los,pls.map (fun n:Nat=>(n:Int)),[],⟨#[]⟩⟩
def aY (ver root:Int):Pg:=⟨1,ver,root,0,[],[],[],⟨#[]⟩⟩
theorem sR (G:Pg) (hr:dX G.kind G.ver G.root G.next G.keys G.kids G.ents G.data=true) (hl:(fieldsB G.kind G.ver G.root G.next G.keys G.kids G.ents G.data).length≤252):G.encE=0:=by
 unfold Pg.encE Pages.cM
 rw [if_pos (by rw [hr];simpa using hl)]
theorem xI:(⟨#[]⟩:ByteArray).toList.isEmpty=true:=by rw [ByteArray.toList_eq];rfl
theorem oP (s:ByteArray):(dM s).length=s.size+1:=by
 unfold dM
 rw [jK,Array.length_toList]
 show 1+s.size=_
 omega
theorem pJ (ver root:Int) (h0:0≤ver) (h1:root=0∨aS root=true):(aY ver root).encE=0:=by
 refine sR _ ?_ ?_
 ·rcases h1 with h|h<;>simp [aY,dX,fM,kQ,kE,Hd,h0,h,xI]
 ·simp [aY,fieldsB,aI]
theorem Oa (next:Nat) (d:ByteArray) (h1:next=0∨aS next=true) (h2:1≤d.size) (h3:d.size≤240):(gA next d).encE=0:=by
 refine sR _ ?_ ?_
 ·rcases h1 with h|h<;>simp [gA,dX,fM,kQ,kF,Ce,h,h2,h3]
 ·have:=oP d
  simp [gA,fieldsB,aI]
  omega
theorem Hk:∀ (es:List Ent) (last:ByteArray),es.Pairwise (fun a b=>lt a.key b.key=true)→(∀ e∈es,lt last e.key=true∧e.key.size≤24∧oM e.val e.size e.over=true)→fS last es=true
 | [],_,_,_=>rfl
 | e :: r,last,hp,h=>by
  obtain⟨h1,h2⟩:=List.pairwise_cons.1 hp
  obtain⟨a1,a2,a3⟩:=h e (by simp)
  simp only [fS,Bool.and_eq_true,gP]
  refine⟨⟨⟨a1,by simpa using a2⟩,a3⟩,Hk r e.key h2 (fun x hx=>?_)⟩
  obtain⟨_,b2,b3⟩:=h x (by simp [hx])
  exact⟨h1 x hx,b2,b3⟩
theorem Br:∀ (ks:List ByteArray) (last:ByteArray),ks.Pairwise (fun a b=>lt a b=true)→(∀ k∈ks,lt last k=true∧k.size≤24)→fU last ks=true
 | [],_,_,_=>rfl
 | k :: r,last,hp,h=>by
  obtain⟨h1,h2⟩:=List.pairwise_cons.1 hp
  obtain⟨a1,a2⟩:=h k (by simp)
  simp only [fU,Bool.and_eq_true,gP]
  exact⟨⟨a1,by simpa using a2⟩,Br r k h2 (fun x hx=>⟨h1 x hx,(h x (by simp [hx])).2⟩)⟩
theorem qDn (x:En) (h:oM x.e.val x.e.size x.e.over=true):(Ent.bytes x.e).length=esz x:=by
 unfold Ent.bytes lB esz
 rw [jK,oP]
 simp only [oM,Bool.or_eq_true,Bool.and_eq_true,beq_iff_eq,decide_eq_true_eq] at h
 rcases h with⟨⟨h1,h2⟩,h3⟩|⟨⟨⟨h1,h2⟩,h3⟩,h4⟩
 ·rw [if_pos (by simp [h1]),if_neg (by omega),jK,oP]
  simp;omega
 ·have h0:¬ (x.e.over==0)=true:=by
   intro e
   rw [beq_iff_eq.1 e] at h1
   simp [aS] at h1
  rw [if_neg h0,if_pos h3,jK,jK,aI,aI]
  simp
theorem Ny:∀ (es:List En),(∀ x∈es,oM x.e.val x.e.size x.e.over=true)→((es.map (·.e)).flatMap Ent.bytes).length=tot esz es
 | [],_=>rfl
 | x :: es,h=>by
  rw [List.map_cons,List.flatMap_cons,jK,gN,qDn x (h x (by simp)),Ny es (fun y hy=>h y (by simp [hy]))]
theorem qBd (es:List En) (hne:es≠[]) (hr:cR es) (hk:∀ x∈es,lt ⟨#[]⟩ x.e.key=true∧x.e.key.size≤24∧oM x.e.val x.e.size x.e.over=true) (hs:tot esz es≤250):(eK es).encE=0:=by
 have hok:fS ⟨#[]⟩ (es.map (·.e))=true:=Hk _ _ (by rw [List.pairwise_map];exact hr) (fun e he=>by
  obtain⟨x,hx,rfl⟩:=List.mem_map.1 he
  exact hk x hx)
 refine sR _ ?_ ?_
 ·have hne':es.map (·.e)≠[]:=by simpa using hne
  simp [eK,dX,kF,fM,kE,hok,hne,xI]
 ·have h2:=Ny es (fun x hx=>(hk x hx).2.2)
  simp only [eK,fieldsB,lK,jK,aI,if_neg (show ¬ (3:Int)=1 by decide),if_neg (show ¬ (3:Int)=2 by decide),if_pos]
  omega
theorem Mv:∀ (l:List Int),(l.flatMap (beB 2)).length=2 * l.length
 | []=>rfl
 | x :: l=>by rw [List.flatMap_cons,jK,aI,Mv l,jB];omega
theorem Mx:∀ (l:List ByteArray),(l.flatMap dM).length=tot (fun k:ByteArray=>k.size+1) l
 | []=>rfl
 | x :: l=>by rw [List.flatMap_cons,jK,oP,Mx l,gN]
theorem qBe (los:List ByteArray) (pls:List Nat) (hne:los≠[]) (hl:pls.length=los.length+1) (hr:los.Pairwise (fun a b=>lt a b=true)) (hk:∀ k∈los,lt ⟨#[]⟩ k=true∧k.size≤24) (hp:∀ p∈pls,aS (p:Nat)=true) (hs:2 * pls.length+tot (fun k:ByteArray=>k.size+1) los≤250):(eN los pls).encE=0:=by
 refine sR _ ?_ ?_
 ·have h1:=Br los ⟨#[]⟩ hr hk
  have h2:(pls.map (fun n:Nat=>(n:Int))).all aS=true:=by
   rw [List.all_eq_true]
   intro x hx
   obtain⟨p,hpp,rfl⟩:=List.mem_map.1 hx
   exact hp p hpp
  simp only [eN,dX,kF,kQ,kE,gQ,h1,h2,xI,if_neg (show ¬ (2:Int)=1 by decide),if_pos,List.length_map,hl]
  simp [hne]
 ·simp only [eN,fieldsB,eE,jK,aI,if_neg (show ¬ (2:Int)=1 by decide),if_pos,Mv,Mx,List.length_map]
  omega
theorem Ni {fs:Fs}   (h:fs.has p g) (hk:g.kind=2):∀ k∈g.kids,aS k=true:=by
 have:=sN h
 rw [hk] at this
 simp only [dX,if_neg (show ¬ (2:Int)=1 by decide),if_pos,Bool.and_eq_true,gQ,List.all_eq_true] at this
 exact this.2.1.2
theorem qAs {fs:Fs}   (h:fs.has p g) (hk:g.kind=4):g.next=0∨aS g.next=true:=by
 have:=sN h
 rw [hk] at this
 simp only [dX,if_neg (show ¬ (4:Int)=1 by decide),if_neg (show ¬ (4:Int)=2 by decide),if_neg (show ¬ (4:Int)=3 by decide),if_pos,Bool.and_eq_true,Ce,Bool.or_eq_true,beq_iff_eq] at this
 exact this.2.1
theorem iD (g:Pg) (hE:g.encE=0):g.encS.size=256:=by
 unfold Pg.encE Pages.cM at hE
 split at hE
 ·rename_i hT
  unfold Pg.encS Pages.encS
  rw [if_pos hT]
  simp only [Bool.and_eq_true,decide_eq_true_eq] at hT
  show (tC _).toArray.size=256
  simp only [jA,tC,Ez,jK,List.length_replicate,aI]
  omega
 ·simp at hE
theorem vX (g:Pg) (hv:g.ver<9223372036854775808) (hE:g.encE=0):Ep g.encS g:=by
 have h:=Qb g hv hE
 exact⟨iD g hE,by rw [h];exact hE,by rw [h],h.symm⟩
inductive NT where
  | kept (t:T) (s:Sp)
  | leaf (s:Sp) (es:List En)
  | bran (s:Sp) (ks:List NT)
def NT.sp:NT→Sp
  | .kept _ s=>s
  | .leaf s _=>s
  | .bran s _=>s
def Ac (n:NT):Nat:=n.sp.lo.size+3
def Hj (p:List En):NT:=.leaf ⟨iT p,⟨#[]⟩⟩ p
def cV (es:List En):List NT:=(eD esz es).map Hj
def fR:NT→Bool
  | .kept _ _=>false
  | .leaf _ es=>decide (tot esz es<62)
  | .bran _ ks=>decide (tot Ac ks<62)
def NT.ents0:NT→List En
  | .kept (.leaf _ es) _=>es
  | .kept (.branch _ _ _) _=>[]
  | .leaf _ es=>es
  | .bran _ _=>[]
def vN (tog:NT→NT→List NT):List NT→List NT→List NT
  | [],next=>next
  | l :: acc,next=>match next with
    | [m]=>if fR l=true∨fR m=true then vN tog acc (tog l m) else (l :: acc).reverse++[m]
    | _=>(l :: acc).reverse++next
def rL (tog:NT→NT→List NT) (acc next:List NT):List NT:=vN tog acc.reverse next
def Hv (tog:NT→NT→List NT) (acc:List NT) (n:NT):List NT:=rL tog acc [n]
def iK (tog:NT→NT→List NT) (ns:List NT):List NT:=ns.foldl (Hv tog) []
theorem Xk {tog:NT→NT→List NT} {acc:List NT} {l m:NT} (h:fR l=true∨fR m=true):rL tog (acc++[l]) [m]=rL tog acc (tog l m):=by
  rw [rL,List.reverse_append,List.reverse_singleton,List.singleton_append]
  exact if_pos h
theorem Xj {tog:NT→NT→List NT} {acc:List NT} {l m:NT} (h:¬ (fR l=true∨fR m=true)):rL tog (acc++[l]) [m]=(acc++[l])++[m]:=by
  rw [rL,List.reverse_append,List.reverse_singleton,List.singleton_append]
  refine(if_neg h).trans ?_
  rw [List.reverse_cons,List.reverse_reverse]
theorem Ri {tog:NT→NT→List NT} {acc next:List NT} (h:next.length≠1):rL tog acc next=acc++next:=by
  rcases List.eq_nil_or_concat acc with rfl|⟨A,l,rfl⟩
  · rfl
  · rw [rL,List.concat_eq_append,List.reverse_append,List.reverse_singleton,List.singleton_append]
    match next,h with
    | [],_=>show (l :: A.reverse).reverse++[]=_;rw [List.reverse_cons,List.reverse_reverse]
    | [_],h=>exact absurd rfl h
    | x :: y :: r,_=>show (l :: A.reverse).reverse++_=_;rw [List.reverse_cons,List.reverse_reverse]
theorem zD {tog:NT→NT→List NT} {J:List NT→Prop} (hJ:∀ A l n B,J (A++l :: n :: B)→J (A++(tog l n++B))):∀ (acc next B:List NT),J (acc.reverse++(next++B))→J (vN tog acc next++B)
  | [],next,B,h=>by simpa [vN] using h
  | l :: acc,next,B,h=>by
    match next,h with
    | [],h=>simpa [vN] using h
    | [m],h =>
      by_cases hs:fR l=true∨fR m=true
      · have e:vN tog (l :: acc) [m]=vN tog acc (tog l m):=if_pos hs
        rw [e]
        exact zD hJ acc (tog l m) B (hJ _ _ _ _ (by simpa using h))
      · have e:vN tog (l :: acc) [m]=(l :: acc).reverse++[m]:=if_neg hs
        rw [e];simpa using h
    | x :: y :: r,h=>simpa [vN] using h
theorem My {tog:NT→NT→List NT} {J:List NT→Prop} (hJ:∀ A l n B,J (A++l :: n :: B)→J (A++(tog l n++B))) {acc:List NT} {n:NT} {B:List NT} (h:J (acc++n :: B)):J (Hv tog acc n++B) :=
  zD hJ acc.reverse [n] B (by simpa using h)
theorem De {tog:NT→NT→List NT} {J:List NT→Prop} (hJ:∀ A l n B,J (A++l :: n :: B)→J (A++(tog l n++B))):∀ {ns acc:List NT},J (acc++ns)→J (ns.foldl (Hv tog) acc)
  | [],acc,h=>by simpa using h
  | n :: ns,acc,h=>De hJ (ns:=ns) (acc:=Hv tog acc n) (My hJ h)
theorem nV {tog:NT→NT→List NT} {J:List NT→Prop} (hJ:∀ A l n B,J (A++l :: n :: B)→J (A++(tog l n++B))) {ns:List NT} (h:J ns):J (iK tog ns):=De hJ (ns:=ns) (acc:=[]) h
def iM (a b:NT):List NT:=cV (a.ents0++b.ents0)
def cZ (ns:List NT):List En:=ns.flatMap NT.ents0
def En.good (fs:Fs) (x:En):Prop:=lt ⟨#[]⟩ x.e.key=true∧x.e.key.size≤24 ∧
  ((x.e.over=0∧x.ch=[]∧x.e.size=(x.e.val.size:Int)∧x.e.val.size≤400) ∨
   (x.e.val=⟨#[]⟩∧aS x.e.over=true∧∃ size over:Nat,x.e.size=size∧x.e.over=over∧60<size∧size≤400∧eS fs over size x.ch))
theorem qAu {fs:Fs} {x:En} (h:x.good fs):esz x≤87:=by
  obtain⟨_,hk,h|⟨hv,_,sz,ov,h1,_,h2,_⟩⟩:=h
  · obtain⟨_,_,h1,h2⟩:=h
    unfold esz;split<;>omega
  · unfold esz;rw [h1,if_pos (by omega)];omega
theorem pH {fs:Fs} {x:En} (h:x.good fs):x.fits:=by
  obtain⟨_,hk,h|⟨hv,_⟩⟩:=h
  · exact⟨hk,h.2.2.2⟩
  · refine⟨hk,?_⟩;rw [hv];decide
def Ok0 (fs:Fs):NT→Prop
  | .kept (.leaf p es) s=>bG fs 0 (.leaf p es) s
  | .kept (.branch _ _ _) _=>False
  | .leaf s es=>es≠[]∧s.lo=iT es∧cR es∧tot esz es≤250∧∀ x∈es,x.good fs
  | .bran _ _=>False
def qGk (a b:NT):Prop:=∀ x∈a.ents0,lt x.e.key b.sp.lo=true
structure Lst (fs:Fs) (ns:List NT):Prop where
  ok:∀ n∈ns,Ok0 fs n
  lo:∀ n∈ns,∀ x∈n.ents0,le n.sp.lo x.e.key=true
  sep:ns.Pairwise qGk
theorem Vl {x:En} {l:List En}:cR (x :: l)↔(∀ y∈l,lt x.e.key y.e.key=true)∧cR l:=List.pairwise_cons
theorem qS {l m:List En}:cR (l++m)↔cR l∧cR m∧∀ x∈l,∀ y∈m,lt x.e.key y.e.key=true:=List.pairwise_append
theorem Nq {es:List En} (h:cR es):∀ x∈es,le (iT es) x.e.key=true:=by
  intro x hx
  cases es with
  | nil=>simp at hx
  | cons y l =>
    rcases List.mem_cons.1 hx with rfl|hx
    · exact bF _
    · exact kJ ((Vl.1 h).1 x hx)
theorem vU {es:List En} (h:es≠[]):∃ x∈es,iT es=x.e.key:=by
  cases es with
  | nil=>exact absurd rfl h
  | cons y l=>exact⟨y,by simp,rfl⟩
theorem Bv {fs:Fs}:∀ {ps:List (List En)},cR ps.flatten→(∀ x∈ps.flatten,x.good fs)→(∀ p∈ps,p≠[])→(∀ p∈ps,tot esz p≤250)→Lst fs (ps.map Hj)
  | [],_,_,_,_=>⟨by simp,by simp,by simp⟩
  | p :: ps,hr,hg,hne,hf=>by
    rw [List.flatten_cons] at hr hg
    obtain⟨h1,h2,h3⟩:=qS.1 hr
    have ih:=Bv h2 (fun x hx=>hg x (by simp only [List.mem_append];exact .inr hx)) (fun q hq=>hne q (by simp [hq])) (fun q hq=>hf q (by simp [hq]))
    have hp:Ok0 fs (Hj p):=⟨hne p (by simp),rfl,h1,hf p (by simp),fun x hx=>hg x (by simp [hx])⟩
    refine⟨?_,?_,?_⟩
    · rw [List.map_cons];intro n hn
      rcases List.mem_cons.1 hn with rfl|hn
      · exact hp
      · exact ih.ok n hn
    · rw [List.map_cons];intro n hn
      rcases List.mem_cons.1 hn with rfl|hn
      · exact Nq h1
      · exact ih.lo n hn
    · rw [List.map_cons]
      refine List.pairwise_cons.2 ⟨fun n hn x hx=>?_,ih.sep⟩
      obtain⟨q,hq,rfl⟩:=List.mem_map.1 hn
      obtain⟨y,hy,e⟩:=vU (hne q (by simp [hq]))
      show lt x.e.key (iT q)=true
      rw [e]
      exact h3 x hx y (List.mem_flatten.2 ⟨q,hq,hy⟩)
theorem nX {fs:Fs} {es:List En} (hg:∀ x∈es,x.good fs):∀ x∈es,esz x≤250:=fun x hx=>by have:=qAu (hg x hx);omega
theorem nT {fs:Fs} {es:List En} (hr:cR es) (hg:∀ x∈es,x.good fs):Lst fs (cV es):=by
  have h:=pK esz es (nX hg)
  exact Bv (by rw [h];exact hr) (by rw [h];exact hg) (Ar esz es (nX hg)) (qBi esz es)
theorem Kb (ps:List (List En)):cZ (ps.map Hj)=ps.flatten:=by
  induction ps with
  | nil=>rfl
  | cons p ps ih=>simp only [cZ,List.map_cons,List.flatMap_cons,List.flatten_cons] at ih ⊢;rw [ih];rfl
theorem gH {fs:Fs} {es:List En} (hg:∀ x∈es,x.good fs):cZ (cV es)=es:=by
  rw [cV,Kb,pK esz es (nX hg)]
theorem tV {fs:Fs} {es:List En} (hg:∀ x∈es,x.good fs):∀ n∈cV es,∃ x∈es,n.sp.lo=x.e.key:=by
  intro n hn
  obtain⟨p,hp,rfl⟩:=List.mem_map.1 hn
  obtain⟨x,hx,e⟩:=vU (Ar esz es (nX hg) p hp)
  refine⟨x,?_,e⟩
  rw [← pK esz es (nX hg)]
  exact List.mem_flatten.2 ⟨p,hp,hx⟩
theorem tY {fs:Fs} {es:List En} (hg:∀ x∈es,x.good fs):∀ n∈cV es,∀ x∈n.ents0,x∈es:=by
  intro n hn x hx
  rw [← gH hg]
  exact List.mem_flatMap.2 ⟨n,hn,hx⟩
theorem fK {fs:Fs}  {es:List En}  (h:bG fs 0 (.leaf p es) s):∀ x∈es,x.good fs:=by
  obtain⟨g,hg,hk,he,_,_,hok⟩:=h
  intro x hx
  obtain⟨_,hl⟩:=Nh hg hk
  obtain⟨h1,h2,h3⟩:=hl x.e (by rw [he];exact List.mem_map.2 ⟨x,hx,rfl⟩)
  refine⟨h1,h2,?_⟩
  obtain⟨sz,ov,o1,o2,o3,o4⟩:=hok x hx
  simp only [oM,Bool.or_eq_true,Bool.and_eq_true,beq_iff_eq,decide_eq_true_eq] at h3
  rcases h3 with⟨⟨a1,a2⟩,a3⟩|⟨⟨⟨a1,a2⟩,a3⟩,a4⟩
  · rcases o4 with⟨_,hc⟩|⟨hp,_⟩
    · exact .inl ⟨a1,hc,a3,by omega⟩
    · omega
  · have:ov≠0:=by
      intro e
      rw [o2,e] at a1
      simp [aS] at a1
    rcases o4 with⟨h0,_⟩|⟨_,hc⟩
    · exact absurd h0 this
    · exact .inr ⟨by exact mB.1 a2,a1,sz,ov,o1,o2,by omega,o3,hc⟩
theorem eX {fs:Fs} {n:NT} (h:Ok0 fs n):n.ents0≠[]∧cR n.ents0∧∀ x∈n.ents0,x.good fs:=by
  cases n with
  | kept t s =>
    cases t with
    | leaf p es=>exact⟨by obtain⟨g,_,_,_,hne,_⟩:=h;exact hne,dH (h:=0) h,fK h⟩
    | branch=>exact h.elim
  | leaf s es=>exact⟨h.1,h.2.2.1,h.2.2.2.2⟩
  | bran=>exact h.elim
theorem Lst.rise {fs:Fs}:∀ {ns:List NT},Lst fs ns→cR (cZ ns)
  | [],_=>.nil
  | n :: ns,h=>by
    obtain⟨h1,h2⟩:=List.pairwise_cons.1 h.sep
    have ih:=Lst.rise (ns:=ns) ⟨fun m hm=>h.ok m (by simp [hm]),fun m hm=>h.lo m (by simp [hm]),h2⟩
    rw [cZ,List.flatMap_cons]
    refine qS.2 ⟨(eX (h.ok n (by simp))).2.1,ih,fun x hx y hy=>?_⟩
    obtain⟨m,hm,hy⟩:=List.mem_flatMap.1 hy
    exact cD (h1 m hm x hx) (h.lo m (by simp [hm]) y hy)
theorem Lst.good {fs:Fs} {ns:List NT} (h:Lst fs ns):∀ x∈cZ ns,x.good fs:=by
  intro x hx
  obtain⟨m,hm,hx⟩:=List.mem_flatMap.1 hx
  exact(eX (h.ok m hm)).2.2 x hx
theorem lQ (a b:List NT):cZ (a++b)=cZ a++cZ b:=by simp [cZ]
theorem Lst.tog {fs:Fs} {A B:List NT} {l n:NT} (h:Lst fs (A++l :: n :: B)):Lst fs (A++(iM l n++B))∧cZ (A++(iM l n++B))=cZ (A++l :: n :: B):=by
  obtain⟨sA,sB,sAB⟩:=List.pairwise_append.1 h.sep
  obtain⟨sl,sB⟩:=List.pairwise_cons.1 sB
  obtain⟨sn,sB⟩:=List.pairwise_cons.1 sB
  obtain⟨l1,l2,l3⟩:=eX (h.ok l (by simp))
  obtain⟨n1,n2,n3⟩:=eX (h.ok n (by simp))
  have hrise:cR (l.ents0++n.ents0):=qS.2 ⟨l2,n2,fun x hx y hy=>cD (sl n (by simp) x hx) (h.lo n (by simp) y hy)⟩
  have hgood:∀ x∈l.ents0++n.ents0,x.good fs:=fun x hx=>(List.mem_append.1 hx).elim (l3 x) (n3 x)
  have hM:=nT hrise hgood
  refine⟨⟨?_,?_,?_⟩,?_⟩
  · intro m hm
    simp only [List.mem_append] at hm
    rcases hm with hm|hm|hm
    · exact h.ok m (by simp [hm])
    · exact hM.ok m hm
    · exact h.ok m (by simp [hm])
  · intro m hm
    simp only [List.mem_append] at hm
    rcases hm with hm|hm|hm
    · exact h.lo m (by simp [hm])
    · exact hM.lo m hm
    · exact h.lo m (by simp [hm])
  · refine List.pairwise_append.2 ⟨sA,List.pairwise_append.2 ⟨hM.sep,sB,fun m hm b hb x hx=>?_⟩,fun a ha m hm x hx=>?_⟩
    · rcases List.mem_append.1 (tY hgood m hm x hx) with hx|hx
      · exact sl b (by simp [hb]) x hx
      · exact sn b hb x hx
    · rcases List.mem_append.1 hm with hm|hm
      · obtain⟨y,hy,e⟩:=tV hgood m hm
        rw [e]
        rcases List.mem_append.1 hy with hy|hy
        · exact cD (sAB a ha l (by simp) x hx) (h.lo l (by simp) y hy)
        · exact cD (sAB a ha n (by simp) x hx) (h.lo n (by simp) y hy)
      · exact sAB a ha m (by simp [hm]) x hx
  · rw [lQ,lQ,lQ]
    show _++(cZ (cV _)++_)=_
    rw [gH hgood]
    simp [cZ]
theorem Hw {fs:Fs} {ns:List NT} (h:Lst fs ns):Lst fs (iK iM ns)∧cZ (iK iM ns)=cZ ns :=
  nV (J:=fun L=>Lst fs L∧cZ L=cZ ns) (fun _ _ _ _ hL=>⟨hL.1.tog.1,hL.1.tog.2.trans hL.2⟩) ⟨h,rfl⟩
theorem Sy {w:World} {o1 o2:Obj}:((w.alloc o1).alloc o2).heap[w.heap.size]?=some o1∧((w.alloc o1).alloc o2).heap[w.heap.size+1]?=some o2∧Below w.heap.size w ((w.alloc o1).alloc o2) :=
 ⟨aB _ (aA _ _),sM _ _ _ (by simp),(bA _ _).alloc (by simp) _⟩
theorem yG (root:Int) (β:Nat) (ca:Option Addr) (cn cc:Nat) (q:Sp) (w:World) :
  Calls Tryz.prog 74 #[.agg (tA β root ca cn cc),.agg #[.string q.lo,.string q.hi]] w fun e w' =>
   e=.returned (.func (.func 104) #[] #[.pointer (some ⟨w.heap.size,0,none⟩),.pointer (some ⟨w.heap.size+1,0,none⟩)]) ∧
   w'.heap[w.heap.size]?=some (.cells (tA β root ca cn cc) 95)∧w'.heap[w.heap.size+1]?=some (.cells #[.string q.lo,.string q.hi] 135)∧Below w.heap.size w w':=by
 have HR:∀ W4,W4=((w.alloc (.cells (tA β root ca cn cc) 95)).alloc (.cells #[.string q.lo,.string q.hi] 135)) →
   (W4.heap[w.heap.size]?=some (.cells (tA β root ca cn cc) 95)∧W4.heap[w.heap.size+1]?=some (.cells #[.string q.lo,.string q.hi] 135)∧Below w.heap.size w W4):=by
  rintro W4 rfl;exact Sy
 go_enter Tryz.func74,Tryz.ntmps74
 go_wp2
 go_ret
 exact⟨rfl,HR _ rfl⟩
theorem sZ (gf:Nat) (lb:Array Value) (ca:Option Addr) (cn cc:Nat) (w:World) :
  Calls Tryz.prog 136 #[.func (.func gf) #[] lb,.slice ca cn cc] w fun e w' =>
   e=.returned (.func (.func 148) #[] #[.pointer (some ⟨w.heap.size+1,0,none⟩),.pointer (some ⟨w.heap.size,0,none⟩)]) ∧
   w'.heap[w.heap.size]?=some (.cells #[.func (.func gf) #[] lb] 132)∧w'.heap[w.heap.size+1]?=some (.cells #[.slice ca cn cc] 93)∧Below w.heap.size w w':=by
 have HR:∀ W4,W4=((w.alloc (.cells #[.func (.func gf) #[] lb] 132)).alloc (.cells #[.slice ca cn cc] 93)) →
   (W4.heap[w.heap.size]?=some (.cells #[.func (.func gf) #[] lb] 132)∧W4.heap[w.heap.size+1]?=some (.cells #[.slice ca cn cc] 93)∧Below w.heap.size w W4):=by
  rintro W4 rfl;exact Sy
 go_enter Tryz.func136,Tryz.ntmps136
 go_wp2
 go_ret
 exact⟨rfl,HR _ rfl⟩
theorem Kx (ea:Option Addr) (en ec:Nat) (w:World) :
  Calls Tryz.prog 176 #[.slice ea en ec] w fun e w' =>
   e=.returned (.func (.func 185) #[] #[.pointer (some ⟨w.heap.size,0,none⟩)]) ∧
   w'.heap[w.heap.size]?=some (.cells #[.slice ea en ec] 83)∧Below w.heap.size w w':=by
 have HR:∀ W4,W4=(w.alloc (.cells #[.slice ea en ec] 83))→(W4.heap[w.heap.size]?=some (.cells #[.slice ea en ec] 83)∧Below w.heap.size w W4):=by
  rintro W4 rfl;exact⟨aA _ _,bA _ _⟩
 go_enter Tryz.func176,Tryz.ntmps176
 go_wp2
 go_ret
 exact⟨rfl,HR _ rfl⟩
theorem iN {cs:List Ch} (h:cI cs) (q:Sp):cI (eH cs q):=List.Pairwise.filter _ h
theorem Zs (cs:List Ch) (q:Sp):(eH cs q).length≤cs.length:=List.length_filter_le _ _
def RdE (S:Bl) (β:Nat) (sv lv:Value) (w w':World):Bl:=fun k=>S k∨fpF β sv lv k∨(w.heap.size≤k∧k<w'.heap.size)
theorem Fo (β:Nat) (sv lv:Value) (fs:Fs) (hl:(fs.life==0)=false) (root:Nat) (ca:Option Addr) (cc:Nat) (cs:List Ch) (q:Sp) (o:Option (Nat×T)) (hro:bJ fs root o) (S:Bl) (w wa wz:World) (hf:aG w β sv lv fs) (hR:aH w S ca (cs.flatMap Ch.cells)) (hS:∀ b,S b→b<w.heap.size) (hr:cI cs) (hn:cs.length≤1000000)
  (bt be:Nat) (xt:wa.heap[bt]?=some (.cells #[.pointer (some ⟨β,0,none⟩),.int .i64 root,.slice ca cs.length cc] 95)) (xq:wa.heap[bt+1]?=some (.cells #[.string q.lo,.string q.hi] 135)) (KA:Below wa.heap.size wa wz)
  (a:Option Addr) (c:Nat) (hcut:Ks S ca cs a c (eH cs q))
  (xe:wz.heap[be]?=some (.cells #[.func (.func 104) #[] #[.pointer (some ⟨bt,0,none⟩),.pointer (some ⟨bt+1,0,none⟩)]] 132)) (xc:wz.heap[be+1]?=some (.cells #[.slice a (eH cs q).length c] 93))
  (Kw:Below w.heap.size w wz) (hbt:w.heap.size≤bt) (hbe:w.heap.size≤be) :
  oJ Tryz.prog 148 #[.pointer (some ⟨be+1,0,none⟩),.pointer (some ⟨be,0,none⟩)] pN (bD (cP q o) (eH cs q)) (RdE S β sv lv w wz) wz:=by
 have xt':=(KA.block bt (gL xt)).trans xt
 have xq':=(KA.block (bt+1) (gL xq)).trans xq
 have hf':=hf.on (vV Kw (fun k hk=>hf.lies k hk))
 have l1:=(gL xt')
 have l2:=(gL xq')
 have l3:=(gL xe)
 have l4:=(gL xc)
 have h1:=yD β sv lv fs hl root ca cs.length cc q o hro bt (bt+1) (RdE S β sv lv w wz) wz xt' xq' hf' (.inr (.inr ⟨hbt,l1⟩)) (.inr (.inr ⟨by omega,l2⟩)) (fun k hk=>.inr (.inl hk))
 exact Gv _ _ (enters_of Tryz.func104 (by kernel_rfl) rfl) _ _ (be+1) be a c (eH cs q) S (RdE S β sv lv w wz) wz h1 xc xe (hcut.2.1 _ (hR.on (vV Kw hS))) (iN hr q) (vJ (Zs cs q) hn) hcut.1 hcut.2.2 (.inr (.inr ⟨by omega,l4⟩)) (.inr (.inr ⟨hbe,l3⟩)) (fun k hk=>.inl hk) (fun k hk=>hk)
theorem eB {B:Nat} {W a wn:World} (hJ:Below B W a) (hW:B≤W.heap.size) (hbn:Below a.heap.size a wn):Below B W wn:=hJ.trans (hbn.mono (vJ hW hJ.size))
theorem vW (β:Nat) (sv lv:Value) (fs:Fs) (hl:(fs.life==0)=false) (root:Nat) (ca:Option Addr) (cc:Nat) (cs:List Ch) (q:Sp) (o:Option (Nat×T)) (hro:bJ fs root o) (S:Bl) (w:World) (hf:aG w β sv lv fs) (hR:aH w S ca (cs.flatMap Ch.cells)) (hS:∀ b,S b→b<w.heap.size) (hr:cI cs) (hn:cs.length≤1000000) (hc:cs.length≤cc) (hca:(ca=none∧cc=0)∨∃ b off,ca=some ⟨b,off,none⟩) :
  Calls Tryz.prog 110 #[.agg #[.pointer (some ⟨β,0,none⟩),.int .i64 root,.slice ca cs.length cc],.string q.lo,.string q.hi] w fun e w'=>∃ lb,e=.returned (.func (.func 148) #[] lb)∧oJ Tryz.prog 148 lb pN (bD (cP q o) (eH cs q)) (RdE S β sv lv w w') w'∧Below w.heap.size w w':=by
 obtain⟨W1,hW1⟩:=nM (w.alloc (.cells #[.pointer (some ⟨β,0,none⟩),.int .i64 root,.slice ca cs.length cc] 95))
 have b1:Below w.heap.size w W1:=hW1▸(bA _ _)
 have x1:W1.heap[w.heap.size]?=some (.cells #[.pointer (some ⟨β,0,none⟩),.int .i64 root,.slice ca cs.length cc] 95):=hW1▸aA w _
 obtain⟨m0,m1,m2⟩:=eU x1
 have hWz:w.heap.size+1≤W1.heap.size:=(gL x1)
 have hJw:∀ W,Below (w.heap.size+1) W1 W→Below w.heap.size w W:=fun W h=>b1.trans (h.mono (Nat.le_succ _))
 have hA:=fun W=>yG root β ca cs.length cc q W
 have hB:=fun W (h:Below (w.heap.size+1) W1 W)=>Az ca cc cs q S W (hR.on (vV (hJw W h) hS)) (fun b hb=>jY (hS b hb) (hJw W h).size) hr hn hc hca
 have hC:=fun bt a n c W=>sZ 104 #[.pointer (some ⟨bt,0,none⟩),.pointer (some ⟨bt+1,0,none⟩)] a n c W
 have HCL:=fun wa wz=>Fo β sv lv fs hl root ca cc cs q o hro S w wa wz hf hR hS hr hn
 have hJ:Below (w.heap.size+1) W1 W1:=Below.refl _ _
 clear hf hro hR hl
 go_enter Tryz.func110,Tryz.ntmps110
 go_wp2
 go_region_with (first
  | (go_at_call 74;refine(hA _).mono ?_;rintro e wa ⟨rfl,xt,xq,hbA⟩;have KA:Below wa.heap.size wa wa:=Below.refl _ _;have hJ:Below (w.heap.size+1) W1 wa:=(by first|exact eB hJ hWz hbA|exact eB hJ.drew hWz hbA|exact eB hJ.drew.drew hWz hbA);obtain⟨e0,e1,e2⟩:=eU ((hJ.block w.heap.size (Nat.lt_succ_self _)).trans x1))
  | (go_at_call 137;refine(hB _ (by first|exact hJ|exact hJ.drew|exact hJ.drew.drew)).mono ?_;rintro e wb ⟨a,c,rfl,hcut,hbB⟩;try (have KA:Below wa.heap.size wa wb:=(by first|exact eB KA (jU _) hbB|exact eB KA.drew (jU _) hbB|exact eB KA.drew.drew (jU _) hbB));have hJ:Below (w.heap.size+1) W1 wb:=(by first|exact eB hJ hWz hbB|exact eB hJ.drew hWz hbB|exact eB hJ.drew.drew hWz hbB);obtain⟨e0,e1,e2⟩:=eU ((hJ.block w.heap.size (Nat.lt_succ_self _)).trans x1))
  | (go_at_call 136;refine(hC _ _ _ _ _).mono ?_;rintro e wc ⟨rfl,xe,xc,hbC⟩;have KA:Below wa.heap.size wa wc:=(by first|exact eB KA (jU _) hbC|exact eB KA.drew (jU _) hbC|exact eB KA.drew.drew (jU _) hbC);have hJ:Below (w.heap.size+1) W1 wc:=(by first|exact eB hJ hWz hbC|exact eB hJ.drew hWz hbC|exact eB hJ.drew.drew hWz hbC)))
 all_goals go_wp2
 all_goals go_ret
 all_goals exact⟨_,rfl,HCL _ _ _ _ xt xq KA _ _ hcut xe xc (hJw _ hJ) (by first|exact b1.size|exact vJ b1.size hbB.size) (by first|exact vJ b1.size (vJ hbA.size hbB.size)|exact vJ b1.size (vJ hbB.size hbA.size)),hJw _ hJ⟩
def eZ (x:T×Sp) (cs:List Ch):List NT:=match x.1 with
 | .leaf _ es=>if (eH cs x.2).length=0 then [.kept x.1 x.2] else cV (bD es (eH cs x.2))
 | .branch _ _ _=>[.kept x.1 x.2]
def Tu (s:Sp) (ks:List ByteArray) (kids:List T) (cs:List Ch):List NT:=iK iM ((parts s ks kids).flatMap (fun x=>eZ x cs))
def Ch.good (c:Ch):Prop:=lt ⟨#[]⟩ c.key=true∧c.key.size≤24∧c.val.size≤400
variable {cs:List Ch}
theorem Ow {fs:Fs} {c:Ch} (h:c.good):(chE c).good fs:=⟨h.1,h.2.1,.inl ⟨rfl,rfl,rfl,h.2.2⟩⟩
theorem dJ {es:List En}  (he:cR es) (hr:cI cs) (y:En):y∈bD es cs↔(∃ c∈cs,c.gone=false∧y=chE c)∨(y∈es∧∀ c∈cs,c.key≠y.e.key):=by
 rw [Gw];exact Jr es cs he hr y
theorem jG {es:List En}  (he:cR es) (hr:cI cs):cR (bD es cs):=by
 rw [Gw];exact Lp es cs he hr
theorem fG {fs:Fs} {es:List En}  (he:cR es) (hr:cI cs) (hg:∀ x∈es,x.good fs) (hc:∀ c∈cs,c.good):∀ y∈bD es cs,y.good fs:=by
 intro y hy
 rcases (dJ he hr y).1 hy with⟨c,h1,_,rfl⟩|⟨h1,_⟩
 ·exact Ow (hc c h1)
 ·exact hg y h1
theorem jH {es:List En} (he:cR es):bD es []=es:=by
 apply Bs (jG he .nil) he
 intro y
 rw [dJ he .nil]
 simp
theorem kG {q:Sp} {c:Ch}:c∈eH cs q↔c∈cs∧q.has c.key=true:=by simp [eH]
structure Su (fs:Fs) (x:Sp) (ns:List NT):Prop where
 lst:Lst fs ns
 keys:∀ y∈cZ ns,x.has y.e.key=true
 los:∀ n∈ns,le x.lo n.sp.lo=true
theorem qDc {fs:Fs}  {es:List En} (hr:cR es) (hg:∀ y∈es,y.good fs) (hk:∀ y∈es,x.has y.e.key=true):Su fs x (cV es):=by
 refine⟨nT hr hg,?_,?_⟩
 ·rw [gH hg];exact hk
 ·intro n hn
  obtain⟨y,hy,e⟩:=tV hg n hn
  rw [e]
  have:=hk y hy
  simp only [Sp.has,Bool.and_eq_true] at this
  exact this.1
theorem Al {fs:Fs}    (ht:bG fs 0 t x) (hr:cI cs) (hc:∀ c∈cs,c.good):Su fs x (eZ (t,x) cs)∧cZ (eZ (t,x) cs)=bD (T.ents 0 t) (eH cs x):=by
 cases t with
 | branch=>exact ht.elim
 | leaf p es =>
  have hre:cR es:=dH (h:=0) ht
  have hin:∀ y∈es,x.has y.e.key=true:=sQ (h:=0) ht
  have hgd:=fK ht
  by_cases h0:(eH cs x).length=0
  ·have e:eZ (.leaf p es,x) cs=[.kept (.leaf p es) x]:=by simp [eZ,h0]
   rw [e]
   refine⟨⟨⟨?_,?_,by simp⟩,?_,?_⟩,?_⟩
   ·intro n hn;rw [List.mem_singleton] at hn;subst hn;exact ht
   ·intro n hn y hy;rw [List.mem_singleton] at hn;subst hn
    have:=hin y hy
    simp only [Sp.has,Bool.and_eq_true] at this
    exact this.1
   ·intro y hy;simp only [cZ,List.flatMap_cons,List.flatMap_nil,List.append_nil] at hy;exact hin y hy
   ·intro n hn;rw [List.mem_singleton] at hn;subst hn;exact bF _
   ·rw [List.eq_nil_of_length_eq_zero h0]
    simp [cZ,T.ents,jH hre,NT.ents0]
  ·have e:eZ (.leaf p es,x) cs=cV (bD es (eH cs x)):=by simp [eZ,h0]
   rw [e]
   have hro:=iN hr x
   have hg:=fG (fs:=fs) hre hro hgd (fun c h=>hc c (kG.1 h).1)
   refine⟨qDc (jG hre hro) hg ?_,gH hg⟩
   intro y hy
   rcases (dJ hre hro y).1 hy with⟨c,h1,_,rfl⟩|⟨h1,_⟩
   ·exact(kG.1 h1).2
   ·exact hin y h1
theorem rM {fs:Fs} (f:T×Sp→List NT):∀ (l:List (T×Sp)),(∀ x∈l,Su fs x.2 (f x))→l.Pairwise (fun x y=>x.2.hi≠⟨#[]⟩∧le x.2.hi y.2.lo=true)→Lst fs (l.flatMap f)∧cZ (l.flatMap f)=l.flatMap (fun x=>cZ (f x))
 | [],_,_=>⟨⟨by simp,by simp,by simp⟩,rfl⟩
 | x :: l,h,hp=>by
  obtain⟨p1,p2⟩:=List.pairwise_cons.1 hp
  obtain⟨i1,i2⟩:=rM f l (fun y hy=>h y (by simp [hy])) p2
  have hx:=h x (by simp)
  rw [List.flatMap_cons,List.flatMap_cons]
  refine⟨⟨?_,?_,?_⟩,by rw [lQ,i2]⟩
  ·intro n hn;rcases List.mem_append.1 hn with hn|hn
   ·exact hx.lst.ok n hn
   ·exact i1.ok n hn
  ·intro n hn;rcases List.mem_append.1 hn with hn|hn
   ·exact hx.lst.lo n hn
   ·exact i1.lo n hn
  ·refine List.pairwise_append.2 ⟨hx.lst.sep,i1.sep,fun a ha b hb y hy=>?_⟩
   obtain⟨z,hz,hb⟩:=List.mem_flatMap.1 hb
   have h1:=hx.keys y (List.mem_flatMap.2 ⟨a,ha,hy⟩)
   obtain⟨q1,q2⟩:=p1 z hz
   simp only [Sp.has,Bool.and_eq_true] at h1
   have h2:=fH.1 h1.2
   have h3:lt y.e.key x.2.hi=true:=h2.elim (fun h=>absurd h q1) id
   exact cD (cD h3 q2) ((h z (by simp [hz])).los b hb)
theorem yL:∀ (s:Sp) (ks:List ByteArray) (kids:List α),kids.length=ks.length+1→∀ k,s.has k=true→∃ x∈parts s ks kids,x.2.has k=true
 | s,_,[],hl,_,_=>by simp at hl
 | s,[],a :: kids,hl,k,hk=>⟨(a,s),by simp [parts],hk⟩
 | s,q :: ks,a :: kids,hl,k,hk=>by
  rcases Me k q with h|h
  ·refine⟨(a,⟨s.lo,q⟩),by simp [parts],?_⟩
   simp only [Sp.has,Bool.and_eq_true] at hk ⊢
   exact⟨hk.1,fH.2 (.inr h)⟩
  ·obtain⟨x,hx,hx2⟩:=yL ⟨q,s.hi⟩ ks kids (by simpa using hl) k (by
    simp only [Sp.has,Bool.and_eq_true] at hk ⊢
    exact⟨h,hk.2⟩)
   exact⟨x,by simp [parts,hx],hx2⟩
theorem Je (k:ByteArray):(⟨⟨#[]⟩,⟨#[]⟩⟩:Sp).has k=true:=by
 simp only [Sp.has,Bool.and_eq_true]
 exact⟨Cl k,fH.2 (.inl rfl)⟩
theorem Wz {fs:Fs}  {ks:List ByteArray} {kids:List T}  (ht:bG fs 1 (.branch p ks kids) ⟨⟨#[]⟩,⟨#[]⟩⟩) (hr:cI cs) (hc:∀ c∈cs,c.good) :
  Lst fs (Tu ⟨⟨#[]⟩,⟨#[]⟩⟩ ks kids cs)∧cZ (Tu ⟨⟨#[]⟩,⟨#[]⟩⟩ ks kids cs)=bD (T.ents 1 (.branch p ks kids)) cs:=by
 have hrt:=dH ht
 obtain⟨hl,hp,hb,_,hall⟩:=fO ht
 have hpp:=kP _ ks kids hl hp hb
 have hk:=fun x hx=>Al (x:=x.2) (t:=x.1) (hall x hx) hr hc
 obtain⟨f1,f2⟩:=rM (fun x=>eZ x cs) (parts ⟨⟨#[]⟩,⟨#[]⟩⟩ ks kids) (fun x hx=>(hk x hx).1) hpp
 obtain⟨j1,j2⟩:=Hw f1
 refine⟨j1,?_⟩
 show cZ (iK iM _)=_
 apply Bs j1.rise (jG hrt hr)
 intro y
 rw [j2,f2,dJ hrt hr]
 simp only [List.mem_flatMap,T.ents]
 constructor
 ·rintro⟨x,hx,hy⟩
  rw [(hk x hx).2] at hy
  have hxs:cR (T.ents 0 x.1):=dH (hall x hx)
  have hmem:x.1∈kids:=by
   have:x.1∈(parts ⟨⟨#[]⟩,⟨#[]⟩⟩ ks kids).map (·.1):=List.mem_map.2 ⟨x,hx,rfl⟩
   rwa [gU] at this
  rcases (dJ hxs (iN hr x.2) y).1 hy with⟨c,h1,h2,rfl⟩|⟨h1,h2⟩
  ·exact .inl ⟨c,(kG.1 h1).1,h2,rfl⟩
  ·refine .inr ⟨⟨x.1,hmem,h1⟩,fun c hc e=>h2 c (kG.2 ⟨hc,?_⟩) e⟩
   rw [e];exact sQ (hall x hx) y h1
 ·rintro(⟨c,h1,h2,rfl⟩|⟨⟨k,hk1,hy⟩,h2⟩)
  ·obtain⟨x,hx,hx2⟩:=yL ⟨⟨#[]⟩,⟨#[]⟩⟩ ks kids hl c.key (Je _)
   refine⟨x,hx,?_⟩
   rw [(hk x hx).2]
   exact(dJ (dH (hall x hx)) (iN hr x.2) _).2 (.inl ⟨c,kG.2 ⟨h1,hx2⟩,h2,rfl⟩)
  ·obtain⟨s',hs'⟩:=mM (s:=⟨⟨#[]⟩,⟨#[]⟩⟩) (ks:=ks) hk1
   refine⟨(k,s'),hs',?_⟩
   rw [(hk _ hs').2]
   exact(dJ (dH (hall _ hs')) (iN hr s') _).2 (.inr ⟨hy,fun c hc=>h2 c (kG.1 hc).1⟩)
def xZ (K:List ByteArray) (n:NT):Prop:=(n.sp.lo=⟨#[]⟩∨n.sp.lo∈K)∧∀ x∈n.ents0,x.e.key∈K
theorem lO {fs:Fs}  {es:List En} (hg:∀ x∈es,x.good fs) (hK:∀ x∈es,x.e.key∈K):∀ n∈cV es,xZ K n:=by
 intro n hn
 obtain⟨y,hy,e⟩:=tV hg n hn
 exact⟨.inr (by rw [e];exact hK y hy),fun x hx=>hK x (tY hg n hn x hx)⟩
theorem Yt {fs:Fs}  {A B:List NT} {l n:NT} (h:Lst fs (A++l :: n :: B)) (hK:∀ m∈A++l :: n :: B,xZ K m):∀ m∈A++(iM l n++B),xZ K m:=by
 intro m hm
 simp only [List.mem_append] at hm
 rcases hm with hm|hm|hm
 ·exact hK m (by simp [hm])
 ·refine lO (fs:=fs) (fun x hx=>?_) (fun x hx=>?_) m hm
  ·rcases List.mem_append.1 hx with hx|hx
   ·exact(eX (h.ok l (by simp))).2.2 x hx
   ·exact(eX (h.ok n (by simp))).2.2 x hx
  ·rcases List.mem_append.1 hx with hx|hx
   ·exact(hK l (by simp)).2 x hx
   ·exact(hK n (by simp)).2 x hx
 ·exact hK m (by simp [hm])
theorem Xd {fs:Fs}  {ns:List NT} (h:Lst fs ns) (hK:∀ m∈ns,xZ K m):∀ m∈iK iM ns,xZ K m :=
 (nV (J:=fun L=>Lst fs L∧∀ m∈L,xZ K m) (fun _ _ _ _ hL=>⟨hL.1.tog.1,Yt hL.1 hL.2⟩) ⟨h,hK⟩).2
def TIn (K:List ByteArray):Nat→T→Prop
 | _,.leaf _ es=>∀ x∈es,x.e.key∈K
 | 0,.branch _ _ _=>False
 | h+1,.branch _ ks kids=>(∀ k∈ks,k∈K)∧∀ t∈kids,TIn K h t
theorem Lx:∀ (s:Sp) (ks:List ByteArray) (kids:List α),kids.length=ks.length+1→∀ x∈parts s ks kids,x.2.lo=s.lo∨x.2.lo∈ks
 | s,_,[],hl=>by simp at hl
 | s,[],a :: kids,hl=>by
  have:kids=[]:=List.eq_nil_of_length_eq_zero (by simpa using hl)
  subst this
  simp [parts]
 | s,q :: ks,a :: kids,hl=>by
  intro x hx
  simp only [parts,List.mem_cons] at hx
  rcases hx with rfl|hx
  ·exact .inl rfl
  ·rcases Lx ⟨q,s.hi⟩ ks kids (by simpa using hl) x hx with h|h
   ·exact .inr (by rw [h];simp)
   ·exact .inr (by simp [h])
theorem Xa {fs:Fs}     (ht:bG fs 0 t x) (hr:cI cs) (hc:∀ c∈cs,c.good) (hcK:∀ c∈cs,c.key∈K) (htK:TIn K 0 t) (hx:x.lo=⟨#[]⟩∨x.lo∈K):∀ n∈eZ (t,x) cs,xZ K n:=by
 cases t with
 | branch=>exact ht.elim
 | leaf p es =>
  have hre:cR es:=dH (h:=0) ht
  have hgd:=fK ht
  by_cases h0:(eH cs x).length=0
  ·have e:eZ (.leaf p es,x) cs=[.kept (.leaf p es) x]:=by simp [eZ,h0]
   rw [e]
   intro n hn
   rw [List.mem_singleton] at hn;subst hn
   exact⟨hx,htK⟩
  ·have e:eZ (.leaf p es,x) cs=cV (bD es (eH cs x)):=by simp [eZ,h0]
   rw [e]
   have hro:=iN hr x
   refine lO (fG (fs:=fs) hre hro hgd (fun c h=>hc c (kG.1 h).1)) ?_
   intro y hy
   rcases (dJ hre hro y).1 hy with⟨c,h1,_,rfl⟩|⟨h1,_⟩
   ·exact hcK c (kG.1 h1).1
   ·exact htK y h1
theorem Rb {fs:Fs}   {ks:List ByteArray} {kids:List T}  (ht:bG fs 1 (.branch p ks kids) ⟨⟨#[]⟩,⟨#[]⟩⟩) (hr:cI cs) (hc:∀ c∈cs,c.good) (hcK:∀ c∈cs,c.key∈K) (htK:TIn K 1 (.branch p ks kids)) :
  ∀ n∈Tu ⟨⟨#[]⟩,⟨#[]⟩⟩ ks kids cs,xZ K n:=by
 obtain⟨hl,hp,hb,_,hall⟩:=fO ht
 have hpp:=kP _ ks kids hl hp hb
 have hk:=fun x hx=>Al (x:=x.2) (t:=x.1) (hall x hx) hr hc
 obtain⟨f1,f2⟩:=rM (fun x=>eZ x cs) (parts ⟨⟨#[]⟩,⟨#[]⟩⟩ ks kids) (fun x hx=>(hk x hx).1) hpp
 refine Xd f1 ?_
 intro m hm
 obtain⟨x,hx,hm⟩:=List.mem_flatMap.1 hm
 have hmem:x.1∈kids:=by
  have:x.1∈(parts ⟨⟨#[]⟩,⟨#[]⟩⟩ ks kids).map (·.1):=List.mem_map.2 ⟨x,hx,rfl⟩
  rwa [gU] at this
 refine Xa (hall x hx) hr hc hcK (htK.2 _ hmem) ?_ m hm
 rcases Lx _ ks kids hl x hx with h|h
 ·exact .inl h
 ·exact .inr (htK.1 _ h)
theorem Jd [DecidableEq α] (f:α→Nat):∀ {l m:List α},l.Nodup→(∀ x∈l,x∈m)→tot f l≤tot f m
 | [],m,_,_=>Nat.zero_le _
 | x :: l,m,hn,hs=>by
  obtain⟨h1,h2⟩:=List.nodup_cons.1 hn
  have hm:=hs x (by simp)
  have hp:m.Perm (x :: m.erase x):=List.perm_cons_erase hm
  have e:tot f m=f x+tot f (m.erase x):=by
   have:=(hp.map f).sum_nat
   simpa [tot] using this
  have ih:=Jd f (l:=l) (m:=m.erase x) h2 (fun y hy=>by
   have hne:y≠x:=fun e=>h1 (e▸hy)
   exact(List.mem_erase_of_ne hne).2 (hs y (by simp [hy])))
  rw [gN,e];omega
theorem Ta (l:List α):tot (fun _=>1) l=l.length:=by
 induction l with
 | nil=>rfl
 | cons x l ih=>rw [gN,ih,jB];omega
theorem vG [DecidableEq α] {l m:List α} (hn:l.Nodup) (hs:∀ x∈l,x∈m):l.length≤m.length:=by
 have:=Jd (fun _=>1) hn hs
 rwa [Ta,Ta] at this
theorem Lst.los {fs:Fs} {ns:List NT} (h:Lst fs ns):(ns.map (fun n=>n.sp.lo)).Pairwise (fun a b=>lt a b=true):=by
 rw [List.pairwise_map]
 refine List.Pairwise.imp_of_mem ?_ h.sep
 intro a b ha hb hab
 obtain⟨x,hx⟩:=List.exists_mem_of_ne_nil _ (eX (h.ok a ha)).1
 exact gC (h.lo a ha x hx) (hab x hx)
theorem mH {l:List ByteArray} (h:l.Pairwise (fun a b=>lt a b=true)):l.Nodup:=List.Pairwise.imp (fun h=>To h) h
theorem Lst.size {fs:Fs}  {ns:List NT} (h:Lst fs ns) (hK:∀ n∈ns,xZ K n):tot Ac ns≤3+tot (fun k:ByteArray=>k.size+3) K:=by
 have e:tot Ac ns=tot (fun k:ByteArray=>k.size+3) (ns.map (fun n=>n.sp.lo)):=by rw [tot,tot,List.map_map];rfl
 rw [e]
 have:=Jd (fun k:ByteArray=>k.size+3) (l:=ns.map (fun n=>n.sp.lo)) (m:=⟨#[]⟩ :: K) (mH h.los) (fun x hx=>by
  obtain⟨n,hn,rfl⟩:=List.mem_map.1 hx
  rcases (hK n hn).1 with h|h
  ·simp [h]
  ·simp [h])
 rw [gN] at this
 exact this
theorem Lst.keys {fs:Fs} {ns:List NT} (h:Lst fs ns):((cZ ns).map (fun x=>x.e.key)).Pairwise (fun a b=>lt a b=true):=by
 rw [List.pairwise_map];exact h.rise
theorem Lst.many {fs:Fs}  {ns:List NT} (h:Lst fs ns) (hK:∀ n∈ns,xZ K n):(cZ ns).length≤K.length:=by
 have:=vG (l:=(cZ ns).map (fun x=>x.e.key)) (m:=K) (mH h.keys) (fun x hx=>by
  obtain⟨y,hy,rfl⟩:=List.mem_map.1 hx
  obtain⟨n,hn,hy⟩:=List.mem_flatMap.1 hy
  exact(hK n hn).2 y hy)
 simpa using this
theorem zG {α β:Type} (f:α→List β):∀ (l:List α),(∀ x∈l,f x≠[])→l.length≤(l.flatMap f).length
 | [],_=>by simp
 | x :: l,h=>by
  have h1:=List.length_pos_iff.2 (h x (by simp))
  have:=zG f l (fun y hy=>h y (by simp [hy]))
  rw [List.flatMap_cons,jK,jB];omega
theorem Lst.count {fs:Fs} {ns:List NT} (h:Lst fs ns):ns.length≤(cZ ns).length:=zG _ _ (fun n hn=>(eX (h.ok n hn)).1)
def fB:List (Nat×Pg)→Nat
 | []=>0
 | x :: _=>x.1
def gI:Nat→ByteArray→List Nat→List (Nat×Pg)
 | 0,_,_=>[]
 | k+1,v,fr=>if v.size=0 then [] else
   (fr.getD (gI k (v.extract (min v.size 240) v.size) fr).length 0,gA (fB (gI k (v.extract (min v.size 240) v.size) fr)) (v.extract 0 (min v.size 240))) :: gI k (v.extract (min v.size 240) v.size) fr
theorem jL (k:Nat) (v:ByteArray) (fr:List Nat) (h:v.size=0):gI k v fr=[]:=by
 cases k with
 | zero=>rfl
 | succ k=>simp [gI,h]
theorem jM (k:Nat) (v:ByteArray) (fr:List Nat) (h:v.size≠0):gI (k+1) v fr=(fr.getD (gI k (v.extract (min v.size 240) v.size) fr).length 0,gA (fB (gI k (v.extract (min v.size 240) v.size) fr)) (v.extract 0 (min v.size 240))) :: gI k (v.extract (min v.size 240) v.size) fr:=by
 rw [gI,if_neg h]
theorem Cv:∀ (k:Nat) (v:ByteArray) (fr:List Nat),(gI k v fr).length≤k
 | 0,_,_=>jU _
 | k+1,v,fr=>by
  by_cases h:v.size=0
  ·rw [jL _ _ _ h];simp
  ·rw [jM _ _ _ h,jB]
   have:=Cv k (v.extract (min v.size 240) v.size) fr
   omega
theorem rI:∀ (k:Nat) (v:ByteArray) (fr:List Nat),(gI k v fr).length≤fr.length→(gI k v fr).reverse.map (·.1)=fr.take (gI k v fr).length
 | 0,_,_,_=>by simp [gI]
 | k+1,v,fr,hl=>by
  by_cases h:v.size=0
  ·rw [jL _ _ _ h];simp
  ·rw [jM _ _ _ h] at hl ⊢
   rw [jB] at hl ⊢
   have ih:=rI k (v.extract (min v.size 240) v.size) fr (by omega)
   rw [List.reverse_cons,List.map_append,ih,List.take_succ_eq_append_getElem (by omega)]
   simp [jQ (show (gI k (v.extract (min v.size 240) v.size) fr).length<fr.length by omega)]
theorem rJ {k:Nat} {v:ByteArray}  (hl:(gI k v fr).length≤fr.length):∀ x∈gI k v fr,x.1∈fr:=by
 intro x hx
 have h1:x.1∈(gI k v fr).reverse.map (·.1):=List.mem_map.2 ⟨x,by simpa using hx,rfl⟩
 rw [rI k v fr hl] at h1
 exact List.mem_of_mem_take h1
theorem dU (v:ByteArray) (a b:Nat) (hb:b≤v.size):(v.extract a b).size=b-a:=by
 simp only [ByteArray.size_extract];omega
theorem Cw {fs:Fs}:∀ (k:Nat) (v:ByteArray) (fr:List Nat),v.size≤240 * k→(∀ x∈gI k v fr,fs.has x.1 x.2∧x.1≠0)→eS fs (fB (gI k v fr)) v.size (gI k v fr)
 | 0,v,fr,hv,_=>by
  have:v.size=0:=by omega
  simp [gI,eS,this]
 | k+1,v,fr,hv,hx=>by
  by_cases h:v.size=0
  ·rw [jL _ _ _ h];exact h
  ·rw [jM _ _ _ h] at hx ⊢
   have hs1:(v.extract (min v.size 240) v.size).size=v.size-min v.size 240:=dU _ _ _ (jU _)
   have hs0:(v.extract 0 (min v.size 240)).size=min v.size 240:=by rw [dU _ _ _ (by omega)];omega
   have ih:=Cw k (v.extract (min v.size 240) v.size) fr (by omega) (fun x hx'=>hx x (by simp [hx']))
   refine⟨rfl,by omega,(hx _ (by simp)).1,rfl,hs0,_,rfl,?_,?_⟩
   ·show _↔v.size-(v.extract 0 (min v.size 240)).size=0
    rw [hs0]
    constructor
    ·intro h0
     cases hc:gI k (v.extract (min v.size 240) v.size) fr with
     | nil =>
      rw [hc] at ih
      have:(v.extract (min v.size 240) v.size).size=0:=ih
      omega
     | cons y l =>
      rw [hc] at h0
      exact absurd h0 (hx y (by rw [hc];simp)).2
    ·intro h0
     rw [jL _ _ _ (by omega)];rfl
   ·show eS fs _ (v.size-(v.extract 0 (min v.size 240)).size) _
    rw [hs0,← hs1]
    exact ih
theorem Ml:∀ (k:Nat) (v:ByteArray) (fr:List Nat),(gI k v fr).length≤fr.length→(∀ p∈fr,aS (p:Nat)=true)→∀ x∈gI k v fr,x.2.encE=0
 | 0,_,_,_,_,x,hx=>by simp [gI] at hx
 | k+1,v,fr,hl,hp,x,hx=>by
  by_cases h:v.size=0
  ·rw [jL _ _ _ h] at hx;simp at hx
  ·rw [jM _ _ _ h] at hl hx
   rw [jB] at hl
   rcases List.mem_cons.1 hx with rfl|hx
   ·have hs0:(v.extract 0 (min v.size 240)).size=min v.size 240:=by rw [dU _ _ _ (by omega)];omega
    refine Oa _ _ ?_ (by rw [hs0];omega) (by rw [hs0];omega)
    cases hc:gI k (v.extract (min v.size 240) v.size) fr with
    | nil=>exact .inl rfl
    | cons y l =>
     refine .inr (hp _ (rJ (k:=k) (v:=v.extract (min v.size 240) v.size) (by omega) y (by rw [hc];simp)))
   ·exact Ml k _ fr (by omega) hp x hx
def eM (ch:List (Nat×Pg)):List UInt8:=ch.flatMap (fun x=>x.2.data.data.toList)
theorem Hl:∀ (k:Nat) (v:ByteArray) (fr:List Nat),v.size≤240 * k→eM (gI k v fr)=v.data.toList
 | 0,v,fr,hv=>by
  have h0:v.size=0:=by omega
  rw [oQ h0];rfl
 | k+1,v,fr,hv=>by
  by_cases h:v.size=0
  ·rw [jL _ _ _ h,oQ h];rfl
  ·rw [jM _ _ _ h]
   have hs1:(v.extract (min v.size 240) v.size).size=v.size-min v.size 240:=dU _ _ _ (jU _)
   have ih:=Hl k (v.extract (min v.size 240) v.size) fr (by omega)
   rw [eM,List.flatMap_cons]
   rw [eM] at ih
   rw [ih]
   show (v.extract 0 (min v.size 240)).data.toList++(v.extract (min v.size 240) v.size).data.toList=_
   rw [ByteArray.data_extract,ByteArray.data_extract,← Array.toList_append,Array.extract_append_extract]
   congr 1
   have h1:min 0 (min v.size 240)=0:=by omega
   have h2:max (min v.size 240) v.size=v.size:=by omega
   rw [h1,h2]
   exact Array.extract_eq_self_of_le (jU _)
def En.value (x:En):List UInt8:=if x.e.over=0 then x.e.val.data.toList else eM x.ch
def En.newB (x:En):Bool:=x.e.over==0&&decide (60<x.e.size)
def dK (x:En) (fr:List Nat):List (Nat×Pg):=if x.newB=true then gI 2 x.e.val fr else []
def nH (x:En) (fr:List Nat):En:=if x.newB=true then ⟨⟨x.e.key,⟨#[]⟩,x.e.size,fB (dK x fr)⟩,dK x fr⟩ else x
def aU:List En→List Nat→List En×List (Nat×Pg)
 | [],_=>([],[])
 | x :: es,fr=>(nH x fr :: (aU es (fr.drop (dK x fr).length)).1,(dK x fr).reverse++(aU es (fr.drop (dK x fr).length)).2)
theorem vH (x:En) (fr:List Nat):(nH x fr).e.key=x.e.key:=by unfold nH;split<;>rfl
theorem mS:∀ (es:List En) (fr:List Nat),(aU es fr).1.map (fun x=>x.e.key)=es.map (fun x=>x.e.key)
 | [],_=>rfl
 | x :: es,fr=>by simp only [aU,List.map_cons,vH,mS es]
theorem qB (es:List En) (fr:List Nat):(aU es fr).1.length=es.length:=by
 have:=congrArg List.length (mS es fr);simpa using this
theorem vM:∀ (es:List En) (fr:List Nat),(aU es fr).2.length≤fr.length→(aU es fr).2.map (·.1)=fr.take (aU es fr).2.length
 | [],_,_=>by simp [aU]
 | x :: es,fr,hl=>by
  simp only [aU,jK,List.length_reverse] at hl ⊢
  have hn:(dK x fr).reverse.map (·.1)=fr.take (dK x fr).length:=by
   unfold dK at hl ⊢
   split
   ·rename_i h;rw [if_pos h] at hl;exact rI 2 _ fr (by omega)
   ·simp
  have ih:=vM es (fr.drop (dK x fr).length) (by rw [List.length_drop];omega)
  rw [List.map_append,hn,ih,List.take_add]
theorem Bi (h:l.map (·.1)=fr.take l.length):∀ x∈l,x.1∈fr:=by
 intro x hx
 have h1:x.1∈l.map (·.1):=List.mem_map.2 ⟨x,hx,rfl⟩
 rw [h] at h1
 exact List.mem_of_mem_take h1
theorem qC {P:En→List Nat→Prop}:∀ (es:List En) (fr:List Nat),(aU es fr).2.length≤fr.length→∀ y∈(aU es fr).1,∃ x∈es,∃ f,(∀ p∈f,p∈fr)∧(dK x f).length≤f.length∧y=nH x f∧∀ z∈dK x f,z∈(aU es fr).2
 | [],_,_,y,hy=>by simp [aU] at hy
 | x :: es,fr,hl,y,hy=>by
  simp only [aU,jK,List.length_reverse,List.mem_cons] at hl hy
  rcases hy with rfl|hy
  ·exact⟨x,by simp,fr,fun p hp=>hp,by omega,rfl,fun z hz=>by simp [aU,hz]⟩
  ·obtain⟨x',h1,f,h2,h3,h4,h5⟩:=qC (P:=P) es (fr.drop (dK x fr).length) (by rw [List.length_drop];omega) y hy
   exact⟨x',by simp [h1],f,fun p hp=>List.mem_of_mem_drop (h2 p hp),h3,h4,fun z hz=>by simp [aU,h5 z hz]⟩
theorem Hr:∀ (es:List En) (fr:List Nat),(aU es fr).2.length≤fr.length→(∀ p∈fr,aS (p:Nat)=true)→∀ x∈(aU es fr).2,x.2.encE=0
 | [],_,_,_,x,hx=>by simp [aU] at hx
 | x :: es,fr,hl,hp,y,hy=>by
  simp only [aU,jK,List.length_reverse,List.mem_append,List.mem_reverse] at hl hy
  rcases hy with hy|hy
  ·unfold dK at hy hl
   split at hy
   ·rename_i h;rw [if_pos h] at hl;exact Ml 2 _ fr (by omega) hp y hy
   ·simp at hy
  ·exact Hr es (fr.drop (dK x fr).length) (by rw [List.length_drop];omega) (fun p h=>hp p (List.mem_of_mem_drop h)) y hy
theorem pF {fs:Fs} {x:En} (h:x.good fs) (hn:x.newB=true):x.e.size=(x.e.val.size:Int)∧x.e.val.size≤400∧60<x.e.val.size∧x.ch=[]:=by
 simp only [En.newB,Bool.and_eq_true,beq_iff_eq,decide_eq_true_eq] at hn
 obtain⟨_,_,h|⟨_,h1,sz,ov,_,h2,_⟩⟩:=h
 ·exact⟨h.2.2.1,h.2.2.2,by omega,h.2.1⟩
 ·rw [hn.1] at h1;simp [aS] at h1
theorem qAl (x:En) (fr:List Nat):esz (nH x fr)=esz x:=by
 unfold nH
 split
 ·rename_i h
  simp only [En.newB,Bool.and_eq_true,beq_iff_eq,decide_eq_true_eq] at h
  unfold esz
  simp only
  rw [if_pos h.2,if_pos h.2]
 ·rfl
theorem Cn {fs:Fs} {x:En} (h:x.good fs) (hn:x.newB=true) (fr:List Nat):dK x fr≠[]:=by
 obtain⟨_,_,h3,_⟩:=pF h hn
 rw [dK,if_pos hn,jM _ _ _ (by omega)]
 simp
theorem uA {ch:List (Nat×Pg)} (h:ch≠[]):∃ y∈ch,fB ch=y.1:=by
 cases ch with
 | nil=>exact absurd rfl h
 | cons y l=>exact⟨y,by simp,rfl⟩
theorem eW (h:aS (p:Nat)=true):2≤p∧p<4096:=by
 simp only [aS,Bool.and_eq_true,decide_eq_true_eq] at h;omega
theorem Qv {fs:Fs} {x:En} (h:x.good fs) (fr:List Nat) (hl:(dK x fr).length≤fr.length) (hp:∀ p∈fr,aS (p:Nat)=true):oM (nH x fr).e.val (nH x fr).e.size (nH x fr).e.over=true:=by
 unfold nH
 by_cases hn:x.newB=true
 ·rw [if_pos hn]
  obtain⟨h1,h2,h3,_⟩:=pF h hn
  obtain⟨y,hy,e⟩:=uA (Cn h hn fr)
  have hm:y.1∈fr:=by
   rw [dK,if_pos hn] at hy hl
   exact rJ hl y hy
  simp only [oM,Bool.or_eq_true,Bool.and_eq_true,beq_iff_eq,decide_eq_true_eq]
  refine .inr ⟨⟨⟨?_,mB.2 rfl⟩,by omega⟩,by omega⟩
  rw [e];exact hp _ hm
 ·rw [if_neg hn]
  simp only [En.newB,Bool.and_eq_true,beq_iff_eq,decide_eq_true_eq,not_and,Int.not_lt] at hn
  simp only [oM,Bool.or_eq_true,Bool.and_eq_true,beq_iff_eq,decide_eq_true_eq]
  obtain⟨_,_,⟨h1,h2,h3,h4⟩|⟨h1,h2,sz,ov,h3,h4,h5,h6,_⟩⟩:=h
  ·exact .inl ⟨⟨h1,by have:=hn h1;omega⟩,h3⟩
  ·exact .inr ⟨⟨⟨h2,mB.2 h1⟩,by omega⟩,by omega⟩
theorem rT {fs fs':Fs}:∀ {l:List (Nat×Pg)} {p r:Nat},eS fs p r l→(∀ x∈l,∀ g,fs.has x.1 g→fs'.has x.1 g)→eS fs' p r l
 | [],_,_,h,_=>h
 | x :: l,p,r,h,hs=>by
  obtain⟨a1,a2,a3,a4,a5,nx,a6,a7,a8⟩:=h
  refine⟨a1,a2,?_,a4,a5,nx,a6,a7,rT a8 (fun y hy=>hs y (by simp [hy]))⟩
  rw [← a1] at a3 ⊢
  exact hs x (by simp) _ a3
theorem qDd {fs fs':Fs} {x:En} (h:x.good fs) (fr:List Nat) (hl:(dK x fr).length≤fr.length) (hp:∀ p∈fr,aS (p:Nat)=true) (hw:∀ y∈dK x fr,fs'.has y.1 y.2) (hs:∀ p∈x.pages,∀ g,fs.has p g→fs'.has p g):(nH x fr).ok fs':=by
 unfold nH
 by_cases hn:x.newB=true
 ·rw [if_pos hn]
  obtain⟨h1,h2,h3,_⟩:=pF h hn
  have hpl:∀ y∈dK x fr,y.1≠0:=fun y hy=>by
   rw [dK,if_pos hn] at hy hl
   have:=eW (hp _ (rJ hl y hy));omega
  obtain⟨y,hy,e⟩:=uA (Cn h hn fr)
  refine⟨x.e.val.size,fB (dK x fr),h1,rfl,h2,.inr ⟨by rw [e];have:=hpl y hy;omega,?_⟩⟩
  rw [dK,if_pos hn] at hw hpl ⊢
  exact Cw 2 x.e.val fr (by omega) (fun y hy=>⟨hw y hy,hpl y hy⟩)
 ·rw [if_neg hn]
  obtain⟨_,_,⟨h1,h2,h3,h4⟩|⟨h1,h2,sz,ov,h3,h4,h5,h6,h7⟩⟩:=h
  ·exact⟨x.e.val.size,0,h3,h1,h4,.inl ⟨rfl,h2⟩⟩
  ·refine⟨sz,ov,h3,h4,h6,.inr ⟨?_,rT h7 (fun y hy=>hs y.1 (List.mem_map.2 ⟨y,hy,rfl⟩))⟩⟩
   rw [h4] at h2
   have:=eW h2;omega
theorem Qu {fs:Fs} {x:En} (h:x.good fs) (fr:List Nat) (hl:(dK x fr).length≤fr.length) (hp:∀ p∈fr,aS (p:Nat)=true):(nH x fr).value=x.value:=by
 unfold nH
 by_cases hn:x.newB=true
 ·rw [if_pos hn]
  obtain⟨h1,h2,h3,_⟩:=pF h hn
  obtain⟨y,hy,e⟩:=uA (Cn h hn fr)
  have hm:2≤y.1:=by
   rw [dK,if_pos hn] at hy hl
   exact(eW (hp _ (rJ hl y hy))).1
  have h0:x.e.over=0:=by
   simp only [En.newB,Bool.and_eq_true,beq_iff_eq] at hn;exact hn.1
  unfold En.value
  rw [if_pos h0]
  simp only
  rw [if_neg (by rw [e];omega),dK,if_pos hn]
  exact Hl 2 _ fr (by omega)
 ·rw [if_neg hn]
def dL:NT→List Nat→T×List (Nat×Pg)
 | .kept t _,_=>(t,[])
 | .leaf _ es,fr=>(.leaf (fr.getD (aU es fr).2.length 0) (aU es fr).1,(aU es fr).2++[(fr.getD (aU es fr).2.length 0,eK (aU es fr).1)])
 | .bran _ _,_=>(.leaf 0 [],[])
def aZ:List NT→List Nat→List T×List (Nat×Pg)
 | [],_=>([],[])
 | n :: ns,fr=>((dL n fr).1 :: (aZ ns (fr.drop (dL n fr).2.length)).1,(dL n fr).2++(aZ ns (fr.drop (dL n fr).2.length)).2)
def gJ (ns:List NT) (fr:List Nat):T×List (Nat×Pg) :=
 (.branch (fr.getD (aZ ns fr).2.length 0) (ns.tail.map (fun n=>n.sp.lo)) (aZ ns fr).1,
  (aZ ns fr).2++[(fr.getD (aZ ns fr).2.length 0,eN (ns.tail.map (fun n=>n.sp.lo)) ((aZ ns fr).1.map T.place))])
theorem yW (n:NT) (fr:List Nat) (hl:(dL n fr).2.length≤fr.length):(dL n fr).2.map (·.1)=fr.take (dL n fr).2.length:=by
 cases n with
 | kept=>simp [dL]
 | bran=>simp [dL]
 | leaf s es =>
  simp only [dL,jK,List.length_singleton] at hl ⊢
  rw [List.map_append,vM es fr (by omega),List.take_succ_eq_append_getElem (by omega)]
  simp [jQ (show (aU es fr).2.length<fr.length by omega)]
theorem vI:∀ (ns:List NT) (fr:List Nat),(aZ ns fr).2.length≤fr.length→(aZ ns fr).2.map (·.1)=fr.take (aZ ns fr).2.length
 | [],_,_=>by simp [aZ]
 | n :: ns,fr,hl=>by
  simp only [aZ,jK] at hl ⊢
  rw [List.map_append,yW n fr (by omega),vI ns (fr.drop (dL n fr).2.length) (by rw [List.length_drop];omega),List.take_add]
theorem Mu (ns:List NT) (fr:List Nat) (hl:(gJ ns fr).2.length≤fr.length):(gJ ns fr).2.map (·.1)=fr.take (gJ ns fr).2.length:=by
 simp only [gJ,jK,List.length_singleton] at hl ⊢
 rw [List.map_append,vI ns fr (by omega),List.take_succ_eq_append_getElem (by omega)]
 simp [jQ (show (aZ ns fr).2.length<fr.length by omega)]
theorem dO:∀ (ns:List NT) (fr:List Nat),(aZ ns fr).1.length=ns.length
 | [],_=>rfl
 | n :: ns,fr=>by simp [aZ,dO ns]
theorem vK:∀ (ns:List NT) (fr:List Nat) (j:Nat) (hj:j<ns.length),(aZ ns fr).2.length≤fr.length→∃ f,(∀ p∈f,p∈fr)∧(dL ns[j] f).2.length≤f.length∧(aZ ns fr).1[j]?=some (dL ns[j] f).1∧∀ y∈(dL ns[j] f).2,y∈(aZ ns fr).2
 | [],_,j,hj,_=>by simp at hj
 | n :: ns,fr,j,hj,hl=>by
  simp only [aZ,jK] at hl ⊢
  cases j with
  | zero=>exact⟨fr,fun p hp=>hp,by simp;omega,by simp,fun y hy=>by simp at hy;simp [hy]⟩
  | succ j =>
   obtain⟨f,h1,h2,h3,h4⟩:=vK ns (fr.drop (dL n fr).2.length) j (by simpa using hj) (by rw [List.length_drop];omega)
   exact⟨f,fun p hp=>List.mem_of_mem_drop (h1 p hp),by simpa using h2,by simpa using h3,fun y hy=>by simp at hy;simp [h4 y hy]⟩
structure Laid (fs fs':Fs) (Z:List Nat) (ws:List (Nat×Pg)):Prop where
 has:∀ y∈ws,fs'.has y.1 y.2
 keep:∀ p g,p ∉ Z→fs.has p g→fs'.has p g
theorem Vk {l m:List En} (h:l.map (fun x=>x.e.key)=m.map (fun x=>x.e.key)) (hm:cR m):cR l:=by
 have h1:(m.map (fun x=>x.e.key)).Pairwise (fun a b=>lt a b=true):=by rw [List.pairwise_map];exact hm
 rw [← h,List.pairwise_map] at h1
 exact h1
theorem Mw {l m:List En} (h:l.map (fun x=>x.e.key)=m.map (fun x=>x.e.key)) {y:En} (hy:y∈l):∃ x∈m,x.e.key=y.e.key:=by
 have:y.e.key∈m.map (fun x=>x.e.key):=by rw [← h];exact List.mem_map.2 ⟨y,hy,rfl⟩
 obtain⟨x,hx,e⟩:=List.mem_map.1 this
 exact⟨x,hx,e⟩
theorem Hq:∀ (es:List En) (fr:List Nat),tot esz (aU es fr).1=tot esz es
 | [],_=>rfl
 | x :: es,fr=>by simp only [aU,gN,qAl,Hq es]
theorem Cz {fs:Fs} {n:NT} (h:Ok0 fs n) (fr:List Nat) (hl:(dL n fr).2.length≤fr.length) (hp:∀ p∈fr,aS (p:Nat)=true):∀ y∈(dL n fr).2,y.2.encE=0:=by
 cases n with
 | kept=>simp [dL]
 | bran=>exact h.elim
 | leaf s es =>
  obtain⟨h1,h2,h3,h4,h5⟩:=h
  simp only [dL,jK,List.length_singleton] at hl ⊢
  intro y hy
  rcases List.mem_append.1 hy with hy|hy
  ·exact Hr es fr (by omega) hp y hy
  ·rw [List.mem_singleton] at hy
   subst hy
   have hk:=mS es fr
   refine qBd _ ?_ (Vk hk h3) ?_ (by rw [Hq];exact h4)
   ·intro e
    have:=congrArg List.length hk
    rw [e] at this
    simp at this
    exact h1 (List.eq_nil_of_length_eq_zero this.symm)
   ·intro y hy
    obtain⟨x,hx,f,hf,hfl,rfl,_⟩:=qC (P:=fun _ _=>True) es fr (by omega) y hy
    have hg:=h5 x hx
    rw [vH]
    exact⟨hg.1,hg.2.1,Qv hg f hfl (fun p h=>hp p (hf p h))⟩
theorem bG.in0 {fs:Fs}  {s s':Sp} (h:bG fs 0 t s) (hs:∀ x∈T.ents 0 t,s'.has x.e.key=true):bG fs 0 t s':=by
 cases t with
 | branch=>exact h.elim
 | leaf p es =>
  obtain⟨g,a1,a2,a3,a4,_,a6⟩:=h
  exact⟨g,a1,a2,a3,a4,hs,a6⟩
theorem Pr {fs fs':Fs}   (h:bG fs 0 t s) (hk:∀ p∈T.pages 0 t,∀ g,fs.has p g→fs'.has p g):bG fs' 0 t s:=by
 cases t with
 | branch=>exact h.elim
 | leaf p es =>
  obtain⟨g,a1,a2,a3,a4,a5,a6⟩:=h
  refine⟨g,hk p (by simp [T.pages]) g a1,a2,a3,a4,a5,fun x hx=>?_⟩
  obtain⟨sz,ov,b1,b2,b3,b4⟩:=a6 x hx
  refine⟨sz,ov,b1,b2,b3,b4.imp id (fun ⟨c1,c2⟩=>⟨c1,rT c2 (fun y hy=>hk y.1 ?_)⟩)⟩
  simp only [T.pages,List.mem_cons,List.mem_flatMap]
  exact .inr ⟨x,hx,List.mem_map.2 ⟨y,hy,rfl⟩⟩
def NT.pages0:NT→List Nat
 | .kept t _=>T.pages 0 t
 | .leaf _ es=>es.flatMap En.pages
 | .bran _ _=>[]
variable {n:NT} {ns:List NT}
theorem yV {fs fs':Fs}  {Z fr f:List Nat} {ws:List (Nat×Pg)} (L:Laid fs fs' Z ws) (h:Ok0 fs n) (hf:∀ p∈f,p∈fr) (hl:(dL n f).2.length≤f.length) (hp:∀ p∈fr,aS (p:Nat)=true) (hw:∀ y∈(dL n f).2,y∈ws) (ha:∀ p∈n.pages0,p ∉ Z) (s:Sp) (hs:∀ x∈n.ents0,s.has x.e.key=true) :
  bG fs' 0 (dL n f).1 s∧aS ((dL n f).1.place:Nat)=true∨bG fs' 0 (dL n f).1 s∧∃ t sp,n=.kept t sp:=by
 cases n with
 | bran=>exact h.elim
 | kept t sp =>
  refine .inr ⟨?_,t,sp,rfl⟩
  cases t with
  | branch=>exact h.elim
  | leaf p es =>
   have h0:bG fs 0 (.leaf p es) sp:=h
   exact(Pr h0 (fun q hq g hg=>L.keep q g (ha q hq) hg)).in0 hs
 | leaf sp es =>
  obtain⟨h1,h2,h3,h4,h5⟩:=h
  simp only [dL,jK,List.length_singleton] at hl hw ⊢
  have hm:f.getD (aU es f).2.length 0∈f:=by
   rw [List.getD_eq_getElem?_getD,jQ (by omega)]
   exact List.getElem_mem _
  refine .inl ⟨⟨eK (aU es f).1,L.has (f.getD (aU es f).2.length 0,eK (aU es f).1) (hw _ (List.mem_append_right _ (List.mem_singleton.2 rfl))),rfl,rfl,?_,?_,?_⟩,hp _ (hf _ hm)⟩
  ·intro e
   have:=qB es f
   rw [e] at this
   exact h1 (List.eq_nil_of_length_eq_zero this.symm)
  ·intro y hy
   obtain⟨x,hx,e⟩:=Mw (mS es f) hy
   rw [← e];exact hs x hx
  ·intro y hy
   obtain⟨x,hx,f',hf',hfl,rfl,hz⟩:=qC (P:=fun _ _=>True) es f (by omega) y hy
   refine qDd (h5 x hx) f' hfl (fun p h=>hp p (hf p (hf' p h))) (fun z hzz=>L.has _ (hw _ (by simp [hz z hzz]))) ?_
   intro p hpp g hg
   exact L.keep p g (ha p (List.mem_flatMap.2 ⟨x,hx,hpp⟩)) hg
theorem Cy {fs:Fs}  (h:Ok0 fs n) (hkp:∀ t sp,n=.kept t sp→aS (t.place:Nat)=true) (f:List Nat) (hl:(dL n f).2.length≤f.length) (hp:∀ p∈f,aS (p:Nat)=true):aS ((dL n f).1.place:Nat)=true:=by
 cases n with
 | bran=>exact h.elim
 | kept t sp=>exact hkp t sp rfl
 | leaf sp es =>
  simp only [dL,jK,List.length_singleton] at hl ⊢
  have hm:f.getD (aU es f).2.length 0∈f:=by
   rw [List.getD_eq_getElem?_getD,jQ (by omega)]
   exact List.getElem_mem _
  exact hp _ hm
theorem Ho {fs:Fs}:∀ (ns:List NT) (fr:List Nat),(∀ n∈ns,Ok0 fs n)→(aZ ns fr).2.length≤fr.length→(∀ p∈fr,aS (p:Nat)=true)→∀ y∈(aZ ns fr).2,y.2.encE=0
 | [],_,_,_,_=>by simp [aZ]
 | n :: ns,fr,ho,hl,hp=>by
  simp only [aZ,jK] at hl ⊢
  intro y hy
  rcases List.mem_append.1 hy with hy|hy
  ·exact Cz (ho n (by simp)) fr (by omega) hp y hy
  ·exact Ho ns (fr.drop (dL n fr).2.length) (fun m hm=>ho m (by simp [hm])) (by rw [List.length_drop];omega) (fun p h=>hp p (List.mem_of_mem_drop h)) y hy
theorem Mn {fs:Fs}   (ho:∀ n∈ns,Ok0 fs n) (hkp:∀ n∈ns,∀ t sp,n=.kept t sp→aS (t.place:Nat)=true) (hl:(aZ ns fr).2.length≤fr.length) (hp:∀ p∈fr,aS (p:Nat)=true):∀ t∈(aZ ns fr).1,aS (t.place:Nat)=true:=by
 intro t ht
 obtain⟨j,hj,rfl⟩:=List.getElem_of_mem ht
 rw [dO] at hj
 obtain⟨f,h1,h2,h3,_⟩:=vK ns fr j hj hl
 have h4:=List.getElem?_eq_some_iff.1 h3
 obtain⟨h5,h6⟩:=h4
 rw [h6]
 exact Cy (ho _ (List.getElem_mem _)) (hkp _ (List.getElem_mem _)) f h2 (fun p h=>hp p (h1 p h))
theorem Lst.tail_los {fs:Fs}   (h:Lst fs (n :: ns)):(ns.map (fun n=>n.sp.lo)).Pairwise (fun a b=>lt a b=true)∧∀ k∈ns.map (fun n=>n.sp.lo),lt ⟨#[]⟩ k=true:=by
 have h0:=h.los
 rw [List.map_cons] at h0
 obtain⟨h1,h2⟩:=List.pairwise_cons.1 h0
 exact⟨h2,fun k hk=>gC (Cl _) (h1 k hk)⟩
theorem qCk (ns:List NT):2 * ns.length+tot (fun k:ByteArray=>k.size+1) (ns.map (fun n=>n.sp.lo))=tot Ac ns:=by
 induction ns with
 | nil=>rfl
 | cons n ns ih=>rw [List.map_cons,gN,gN,jB];unfold Ac at *;omega
theorem qAm {fs:Fs}   (h:Lst fs (n :: ns)) (hne:ns≠[]) (h24:∀ m∈n :: ns,m.sp.lo.size≤24) (hkp:∀ m∈n :: ns,∀ t sp,m=.kept t sp→aS (t.place:Nat)=true) (hs:tot Ac (n :: ns)≤250) (fr:List Nat) (hl:(gJ (n :: ns) fr).2.length≤fr.length) (hp:∀ p∈fr,aS (p:Nat)=true):∀ y∈(gJ (n :: ns) fr).2,y.2.encE=0:=by
 simp only [gJ,jK,List.length_singleton] at hl ⊢
 intro y hy
 rcases List.mem_append.1 hy with hy|hy
 ·exact Ho _ fr h.ok (by omega) hp y hy
 ·rw [List.mem_singleton] at hy
  subst hy
  obtain⟨t1,t2⟩:=h.tail_los
  refine qBe _ _ ?_ ?_ t1 ?_ ?_ ?_
  ·simpa using hne
  ·simp [dO]
  ·intro k hk
   refine⟨t2 k hk,?_⟩
   simp only [List.tail_cons] at hk
   obtain⟨m,hm,rfl⟩:=List.mem_map.1 hk
   exact h24 m (by simp [hm])
  ·intro p hpp
   obtain⟨t,ht,rfl⟩:=List.mem_map.1 hpp
   exact Mn h.ok hkp (by omega) hp t ht
  ·rw [List.length_map,dO,List.tail_cons,jB]
   have e1:=qCk ns
   rw [gN] at hs
   unfold Ac at hs e1
   omega
theorem Lst.has {fs:Fs}  (h:Lst fs ns) (j:Nat) (hj:j<ns.length):∀ x∈(ns[j]).ents0,(⟨oG ⟨⟨#[]⟩,⟨#[]⟩⟩ (ns.tail.map (fun n=>n.sp.lo)) j,nI ⟨⟨#[]⟩,⟨#[]⟩⟩ (ns.tail.map (fun n=>n.sp.lo)) j⟩:Sp).has x.e.key=true:=by
 intro x hx
 simp only [Sp.has,Bool.and_eq_true]
 have hlo:=h.lo ns[j] (List.getElem_mem _) x hx
 constructor
 ·unfold oG
  split
  ·exact Cl _
  ·rename_i h0
   have e:(ns.tail.map (fun n=>n.sp.lo))[j-1]?=some (ns[j]).sp.lo:=by
    rw [List.getElem?_map,List.getElem?_tail,show j-1+1=j by omega,jQ hj];rfl
   rw [e];exact hlo
 ·unfold nI
  rw [List.getElem?_map,List.getElem?_tail]
  by_cases h1:j+1<ns.length
  ·rw [jQ h1]
   refine fH.2 (.inr ?_)
   exact(List.pairwise_iff_getElem.1 h.sep j (j+1) hj h1 (by omega)) x hx
  ·rw [List.getElem?_eq_none (by omega)]
   exact fH.2 (.inl rfl)
theorem Mt {fs fs':Fs}    (h:Lst fs (n :: ns)) (hne:ns≠[]) (L:Laid fs fs' Z (gJ (n :: ns) fr).2) (hl:(gJ (n :: ns) fr).2.length≤fr.length) (hp:∀ p∈fr,aS (p:Nat)=true) (ha:∀ m∈n :: ns,∀ p∈m.pages0,p ∉ Z) :
  bG fs' 1 (gJ (n :: ns) fr).1 ⟨⟨#[]⟩,⟨#[]⟩⟩∧aS ((gJ (n :: ns) fr).1.place:Nat)=true:=by
 simp only [gJ,jK,List.length_singleton] at hl L ⊢
 have hm:fr.getD (aZ (n :: ns) fr).2.length 0∈fr:=by
  rw [List.getD_eq_getElem?_getD,jQ (by omega)]
  exact List.getElem_mem _
 obtain⟨t1,t2⟩:=h.tail_los
 have hlen:0<ns.length:=List.length_pos_iff.2 hne
 refine⟨⟨eN (ns.map (fun n=>n.sp.lo)) ((aZ (n :: ns) fr).1.map T.place),L.has (fr.getD (aZ (n :: ns) fr).2.length 0,eN (ns.map (fun n=>n.sp.lo)) ((aZ (n :: ns) fr).1.map T.place)) (List.mem_append_right _ (List.mem_singleton.2 rfl)),rfl,rfl,?_,?_,⟨by simpa using hlen,?_,Je _⟩,?_⟩,hp _ hm⟩
 ·simp [eN]
 ·simp [dO]
 ·exact t2 _ (List.getElem_mem _)
 ·intro x hx
  obtain⟨j,hj,e⟩:=List.getElem_of_mem hx
  rw [fL,dO] at hj
  have hat:=iP ⟨⟨#[]⟩,⟨#[]⟩⟩ ((n :: ns).tail.map (fun n=>n.sp.lo)) (aZ (n :: ns) fr).1 j (by rw [dO];exact hj)
  have e2:x=((aZ (n :: ns) fr).1[j]'(by rw [dO];exact hj),⟨oG ⟨⟨#[]⟩,⟨#[]⟩⟩ ((n :: ns).tail.map (fun n=>n.sp.lo)) j,nI ⟨⟨#[]⟩,⟨#[]⟩⟩ ((n :: ns).tail.map (fun n=>n.sp.lo)) j⟩):=by
   have h1:=List.getElem?_eq_some_iff.1 hat
   obtain⟨_,h2⟩:=h1
   rw [← e,← h2]
  obtain⟨f,h1,h2,h3,h4⟩:=vK (n :: ns) fr j hj (by omega)
  obtain⟨h5,h6⟩:=List.getElem?_eq_some_iff.1 h3
  rw [e2,h6]
  rcases yV L (h.ok _ (List.getElem_mem hj)) h1 h2 hp (fun y hy=>List.mem_append_left _ (h4 y hy)) (ha _ (List.getElem_mem hj)) _ (h.has j hj) with h|h
  ·exact h.1
  ·exact h.1
def cK (o:Option (Nat×T)) (cs:List Ch):List NT:=match o with
 | none=>cV (bD [] cs)
 | some (_,.leaf _ es)=>cV (bD es cs)
 | some (_,.branch _ ks kids)=>Tu ⟨⟨#[]⟩,⟨#[]⟩⟩ ks kids cs
def gS:Option (Nat×T)→Prop
 | none=>True
 | some (h,_)=>h≤1
def qDy (K:List ByteArray):Option (Nat×T)→Prop
 | none=>True
 | some (h,t)=>TIn K h t
theorem iX {fs:Fs}   (hro:bJ fs root o) (hf:gS o):o=none∨(∃ p es,o=some (0,.leaf p es)∧bG fs 0 (.leaf p es) ⟨⟨#[]⟩,⟨#[]⟩⟩)∨∃ p ks kids,o=some (1,.branch p ks kids)∧bG fs 1 (.branch p ks kids) ⟨⟨#[]⟩,⟨#[]⟩⟩:=by
 cases o with
 | none=>exact .inl rfl
 | some x =>
  obtain⟨h,t⟩:=x
  obtain⟨_,_,hs⟩:=hro
  have hf':h≤1:=hf
  rcases Nat.lt_or_ge h 1 with h0|h0
  ·have:h=0:=by omega
   subst this
   cases t with
   | leaf p es=>exact .inr (.inl ⟨p,es,rfl,hs⟩)
   | branch=>exact hs.elim
  ·have:h=1:=by omega
   subst this
   cases t with
   | leaf=>exact hs.elim
   | branch p ks kids=>exact .inr (.inr ⟨p,ks,kids,rfl,hs⟩)
theorem mR {fs:Fs}    (hro:bJ fs root o) (hf:gS o) (hr:cI cs) (hc:∀ c∈cs,c.good):Lst fs (cK o cs)∧cZ (cK o cs)=bD (cQ o) cs:=by
 rcases iX hro hf with rfl|⟨p,es,rfl,hs⟩|⟨p,ks,kids,rfl,hs⟩
 ·have hg:=fG (fs:=fs) (es:=[]) .nil hr (by simp) hc
  exact⟨nT (jG .nil hr) hg,gH hg⟩
 ·have hre:cR es:=dH (h:=0) hs
  have hg:=fG hre hr (fK hs) hc
  exact⟨nT (jG hre hr) hg,gH hg⟩
 ·exact Wz hs hr hc
theorem nR {fs:Fs}     (hro:bJ fs root o) (hf:gS o) (hr:cI cs) (hc:∀ c∈cs,c.good) (hcK:∀ c∈cs,c.key∈K) (hoK:qDy K o):∀ n∈cK o cs,xZ K n:=by
 rcases iX hro hf with rfl|⟨p,es,rfl,hs⟩|⟨p,ks,kids,rfl,hs⟩
 ·have hg:=fG (fs:=fs) (es:=[]) .nil hr (by simp) hc
  refine lO hg (fun x hx=>?_)
  rcases (dJ .nil hr x).1 hx with⟨c,h1,_,rfl⟩|⟨h1,_⟩
  ·exact hcK c h1
  ·simp at h1
 ·have hre:cR es:=dH (h:=0) hs
  have hg:=fG hre hr (fK hs) hc
  refine lO hg (fun x hx=>?_)
  rcases (dJ hre hr x).1 hx with⟨c,h1,_,rfl⟩|⟨h1,_⟩
  ·exact hcK c h1
  ·exact hoK x h1
 ·exact Rb hs hr hc hcK hoK
def Er (P:List Nat) (n:NT):Prop:=(∀ p∈n.pages0,p∈P)∧∀ x∈n.ents0,∀ p∈x.pages,p∈P
theorem lP {fs:Fs}  {es:List En} (hg:∀ x∈es,x.good fs) (hP:∀ x∈es,∀ p∈x.pages,p∈P):∀ n∈cV es,Er P n:=by
 intro n hn
 have hin:=tY hg n hn
 obtain⟨q,hq,rfl⟩:=List.mem_map.1 hn
 refine⟨?_,fun x hx=>hP x (hin x hx)⟩
 intro p hp
 obtain⟨x,hx,hp⟩:=List.mem_flatMap.1 hp
 exact hP x (hin x hx) p hp
theorem tM {es:List En}  (he:cR es) (hr:cI cs) (hP:∀ x∈es,∀ p∈x.pages,p∈P):∀ x∈bD es cs,∀ p∈x.pages,p∈P:=by
 intro x hx p hp
 rcases (dJ he hr x).1 hx with⟨c,h1,_,rfl⟩|⟨h1,_⟩
 ·simp [En.pages,chE] at hp
 ·exact hP x h1 p hp
theorem Yu {fs:Fs}  {A B:List NT} {l n:NT} (h:Lst fs (A++l :: n :: B)) (hK:∀ m∈A++l :: n :: B,Er P m):∀ m∈A++(iM l n++B),Er P m:=by
 intro m hm
 simp only [List.mem_append] at hm
 rcases hm with hm|hm|hm
 ·exact hK m (by simp [hm])
 ·refine lP (fs:=fs) (fun x hx=>?_) (fun x hx=>?_) m hm
  ·rcases List.mem_append.1 hx with hx|hx
   ·exact(eX (h.ok l (by simp))).2.2 x hx
   ·exact(eX (h.ok n (by simp))).2.2 x hx
  ·rcases List.mem_append.1 hx with hx|hx
   ·exact(hK l (by simp)).2 x hx
   ·exact(hK n (by simp)).2 x hx
 ·exact hK m (by simp [hm])
theorem Xi {fs:Fs}   (h:Lst fs ns) (hK:∀ m∈ns,Er P m):∀ m∈iK iM ns,Er P m :=
 (nV (J:=fun L=>Lst fs L∧∀ m∈L,Er P m) (fun _ _ _ _ hL=>⟨hL.1.tog.1,Yu hL.1 hL.2⟩) ⟨h,hK⟩).2
theorem Lb {A B:List NT} {l n:NT} (hK:∀ m∈A++l :: n :: B,∀ t sp,m=.kept t sp→Q t):∀ m∈A++(iM l n++B),∀ t sp,m=.kept t sp→Q t:=by
 intro m hm t sp e
 simp only [List.mem_append] at hm
 rcases hm with hm|hm|hm
 ·exact hK m (by simp [hm]) t sp e
 ·obtain⟨q,_,rfl⟩:=List.mem_map.1 hm
  simp [Hj] at e
 ·exact hK m (by simp [hm]) t sp e
theorem Xe (hK:∀ m∈ns,∀ t sp,m=.kept t sp→Q t):∀ m∈iK iM ns,∀ t sp,m=.kept t sp→Q t :=
 nV (J:=fun L=>∀ m∈L,∀ t sp,m=.kept t sp→Q t) (fun _ _ _ _ hL=>Lb hL) hK
theorem nS {es:List En} :∀ m∈cV es,∀ t sp,m=.kept t sp→Q t:=by
 intro m hm t sp e
 obtain⟨q,_,rfl⟩:=List.mem_map.1 hm
 simp [Hj] at e
theorem yS {fs:Fs}    (hro:bJ fs root o) (hf:gS o) (hr:cI cs) (hc:∀ c∈cs,c.good):(∀ n∈cK o cs,Er (bZ o) n)∧∀ n∈cK o cs,∀ t sp,n=.kept t sp→aS (t.place:Nat)=true:=by
 rcases iX hro hf with rfl|⟨p,es,rfl,hs⟩|⟨p,ks,kids,rfl,hs⟩
 ·have hg:=fG (fs:=fs) (es:=[]) .nil hr (by simp) hc
  exact⟨lP hg (tM .nil hr (by simp)),nS⟩
 ·have hre:cR es:=dH (h:=0) hs
  have hg:=fG hre hr (fK hs) hc
  refine⟨lP hg (tM hre hr (fun x hx p hp=>?_)),nS⟩
  simp only [bZ,T.pages,List.mem_cons,List.mem_flatMap]
  exact .inr ⟨x,hx,hp⟩
 ·obtain⟨hl,hp,hb,_,hall⟩:=fO hs
  have hpp:=kP _ ks kids hl hp hb
  have hk:=fun x hx=>Al (x:=x.2) (t:=x.1) (hall x hx) hr hc
  obtain⟨f1,f2⟩:=rM (fun x=>eZ x cs) (parts ⟨⟨#[]⟩,⟨#[]⟩⟩ ks kids) (fun x hx=>(hk x hx).1) hpp
  have hmem:∀ x∈parts ⟨⟨#[]⟩,⟨#[]⟩⟩ ks kids,x.1∈kids:=fun x hx=>by
   have:x.1∈(parts ⟨⟨#[]⟩,⟨#[]⟩⟩ ks kids).map (·.1):=List.mem_map.2 ⟨x,hx,rfl⟩
   rwa [gU] at this
  constructor
  ·refine Xi f1 ?_
   intro m hm
   obtain⟨x,hx,hm⟩:=List.mem_flatMap.1 hm
   have hst:=hall x hx
   obtain⟨t,sp⟩:=x
   cases t with
   | branch=>exact hst.elim
   | leaf q es =>
    have hre:cR es:=dH (h:=0) hst
    have hpg:∀ z∈T.pages 0 (.leaf q es),z∈bZ (some (1,.branch p ks kids)):=fun z hz=>by
     simp only [bZ,T.pages,List.mem_cons,List.mem_flatMap]
     exact .inr ⟨_,hmem _ hx,by simpa [T.pages] using hz⟩
    have hep:∀ x∈es,∀ z∈x.pages,z∈bZ (some (1,.branch p ks kids)):=fun x hx z hz=>hpg z (by
     simp only [T.pages,List.mem_cons,List.mem_flatMap];exact .inr ⟨x,hx,hz⟩)
    by_cases h0:(eH cs sp).length=0
    ·have e:eZ (.leaf q es,sp) cs=[.kept (.leaf q es) sp]:=by simp [eZ,h0]
     rw [e,List.mem_singleton] at hm
     subst hm
     exact⟨hpg,hep⟩
    ·have e:eZ (.leaf q es,sp) cs=cV (bD es (eH cs sp)):=by simp [eZ,h0]
     rw [e] at hm
     have hro:=iN hr sp
     exact lP (fG (fs:=fs) hre hro (fK hst) (fun c h=>hc c (kG.1 h).1)) (tM hre hro hep) m hm
  ·refine Xe ?_
   intro m hm t' sp' e'
   obtain⟨x,hx,hm⟩:=List.mem_flatMap.1 hm
   have hx1:=hmem x hx
   obtain⟨t,sp⟩:=x
   have hpl:aS (t.place:Nat)=true:=by
    obtain⟨g,hg,hk2,_,hkd,_⟩:=hs
    refine Ni hg hk2 _ ?_
    rw [hkd]
    exact List.mem_map.2 ⟨t,hx1,rfl⟩
   cases t with
   | branch =>
    simp only [eZ,List.mem_singleton] at hm
    rw [hm] at e'
    injection e' with e1 e2
    rw [← e1];exact hpl
   | leaf q es =>
    by_cases h0:(eH cs sp).length=0
    ·have e:eZ (.leaf q es,sp) cs=[.kept (.leaf q es) sp]:=by simp [eZ,h0]
     rw [e,List.mem_singleton] at hm
     rw [hm] at e'
     injection e' with e1 e2
     rw [← e1];exact hpl
    ·have e:eZ (.leaf q es,sp) cs=cV (bD es (eH cs sp)):=by simp [eZ,h0]
     rw [e] at hm
     exact nS (Q:=fun t=>aS (t.place:Nat)=true) m hm t' sp' e'
def bH (N:List NT) (fr:List Nat):Option (Nat×T)×List (Nat×Pg):=match N with
 | []=>(none,[])
 | [n]=>(some (0,(dL n fr).1),(dL n fr).2)
 | n :: m :: r=>(some (1,(gJ (n :: m :: r) fr).1),(gJ (n :: m :: r) fr).2)
def rootOf:Option (Nat×T)→Nat
 | none=>0
 | some (_,t)=>t.place
theorem Wl (x:En) (fr:List Nat):(dK x fr).length≤2:=by
 unfold dK
 split
 ·exact Cv 2 _ _
 ·simp
theorem rK:∀ (es:List En) (fr:List Nat),(aU es fr).2.length≤2 * es.length
 | [],_=>by simp [aU]
 | x :: es,fr=>by
  have h1:=Wl x fr
  have h2:=rK es (fr.drop (dK x fr).length)
  simp only [aU,jK,List.length_reverse,jB];omega
theorem Da (n:NT) (fr:List Nat):(dL n fr).2.length≤1+2 * n.ents0.length:=by
 cases n with
 | kept=>simp [dL]
 | bran=>simp [dL]
 | leaf s es =>
  have:=rK es fr
  simp only [dL,jK,List.length_singleton,NT.ents0];omega
theorem yU:∀ (ns:List NT) (fr:List Nat),(aZ ns fr).2.length≤ns.length+2 * (cZ ns).length
 | [],_=>by simp [aZ]
 | n :: ns,fr=>by
  have h1:=Da n fr
  have h2:=yU ns (fr.drop (dL n fr).2.length)
  simp only [aZ,cZ,List.flatMap_cons,jK,jB] at *;omega
theorem Js (N:List NT) (fr:List Nat):(bH N fr).2.length≤1+N.length+2 * (cZ N).length:=by
 unfold bH
 split
 ·simp
 ·rename_i n
  have:=Da n fr
  simp only [cZ,List.flatMap_cons,List.flatMap_nil,List.append_nil,jB,jN];omega
 ·rename_i n m r
  have:=yU (n :: m :: r) fr
  simp only [gJ,jK,List.length_singleton];omega
theorem Fh (N:List NT) (fr:List Nat) (hl:(bH N fr).2.length≤fr.length):(bH N fr).2.map (·.1)=fr.take (bH N fr).2.length:=by
 unfold bH at hl ⊢
 split
 ·simp
 ·exact yW _ fr hl
 ·exact Mu _ fr hl
def En.kv (x:En):ByteArray×List UInt8:=(x.e.key,x.value)
theorem Ms {fs:Fs}:∀ (es:List En) (fr:List Nat),(∀ x∈es,x.good fs)→(aU es fr).2.length≤fr.length→(∀ p∈fr,aS (p:Nat)=true)→(aU es fr).1.map En.kv=es.map En.kv
 | [],_,_,_,_=>rfl
 | x :: es,fr,hg,hl,hp=>by
  simp only [aU,jK,List.length_reverse] at hl
  have h1:=Qu (hg x (by simp)) fr (by omega) hp
  have h2:=Ms es (fr.drop (dK x fr).length) (fun y hy=>hg y (by simp [hy])) (by rw [List.length_drop];omega) (fun p h=>hp p (List.mem_of_mem_drop h))
  simp only [aU,List.map_cons,h2,List.cons.injEq,and_true,En.kv,h1,vH]
theorem Ts {fs:Fs}  (h:Ok0 fs n) (fr:List Nat) (hl:(dL n fr).2.length≤fr.length) (hp:∀ p∈fr,aS (p:Nat)=true):(T.ents 0 (dL n fr).1).map En.kv=n.ents0.map En.kv:=by
 cases n with
 | bran=>exact h.elim
 | kept t s=>cases t with
  | leaf=>rfl
  | branch=>exact h.elim
 | leaf s es =>
  simp only [dL,jK,List.length_singleton] at hl
  exact Ms es fr h.2.2.2.2 (by omega) hp
theorem Mo {fs:Fs}:∀ (ns:List NT) (fr:List Nat),(∀ n∈ns,Ok0 fs n)→(aZ ns fr).2.length≤fr.length→(∀ p∈fr,aS (p:Nat)=true)→((aZ ns fr).1.flatMap (T.ents 0)).map En.kv=(cZ ns).map En.kv
 | [],_,_,_,_=>rfl
 | n :: ns,fr,ho,hl,hp=>by
  simp only [aZ,jK] at hl
  have h1:=Ts (ho n (by simp)) fr (by omega) hp
  have h2:=Mo ns (fr.drop (dL n fr).2.length) (fun y hy=>ho y (by simp [hy])) (by rw [List.length_drop];omega) (fun p h=>hp p (List.mem_of_mem_drop h))
  simp only [aZ,List.flatMap_cons,List.map_append,cZ] at h1 h2 ⊢
  rw [h1,h2]
theorem Wv {fs:Fs} {N:List NT} (h:∀ n∈N,Ok0 fs n) (fr:List Nat) (hl:(bH N fr).2.length≤fr.length) (hp:∀ p∈fr,aS (p:Nat)=true):(cQ (bH N fr).1).map En.kv=(cZ N).map En.kv:=by
 unfold bH at hl ⊢
 split
 ·rfl
 ·rename_i n
  have:=Ts (h n (by simp)) fr hl hp
  simp only [cQ,cZ,List.flatMap_cons,List.flatMap_nil,List.append_nil]
  exact this
 ·rename_i n m r
  simp only [gJ,jK,List.length_singleton] at hl
  exact Mo (n :: m :: r) fr h (by omega) hp
theorem Mq {fs:Fs}  (h:Ok0 fs n) (hK:xZ K n) (fr:List Nat):TIn K 0 (dL n fr).1:=by
 cases n with
 | bran=>exact h.elim
 | kept t s=>cases t with
  | leaf=>exact hK.2
  | branch=>exact h.elim
 | leaf s es =>
  intro y hy
  obtain⟨x,hx,e⟩:=Mw (mS es fr) hy
  rw [← e];exact hK.2 x hx
theorem Hm {fs:Fs}  {N:List NT} (h:Lst fs N) (hK:∀ n∈N,xZ K n) (hK24:∀ k∈K,k.size≤24) (hKs:3+tot (fun k:ByteArray=>k.size+3) K≤250) (hkp:∀ n∈N,∀ t sp,n=.kept t sp→aS (t.place:Nat)=true) (fr:List Nat) (hl:(bH N fr).2.length≤fr.length) (hp:∀ p∈fr,aS (p:Nat)=true) (Z:List Nat) (ha:∀ n∈N,∀ p∈n.pages0,p ∉ Z) :
  (∀ y∈(bH N fr).2,y.2.encE=0)∧gS (bH N fr).1∧qDy K (bH N fr).1∧∀ fs',Laid fs fs' Z (bH N fr).2→bJ fs' (rootOf (bH N fr).1) (bH N fr).1∧(rootOf (bH N fr).1=0∨aS (rootOf (bH N fr).1:Nat)=true):=by
 have h24:∀ m∈N,m.sp.lo.size≤24:=fun m hm=>by
  rcases (hK m hm).1 with h|h
  ·rw [h];decide
  ·exact hK24 _ h
 have hsz:=h.size hK
 unfold bH at hl ⊢
 split
 ·exact⟨by simp,trivial,trivial,fun fs' L=>⟨rfl,.inl rfl⟩⟩
 ·rename_i n
  refine⟨Cz (h.ok n (by simp)) fr hl hp,Nat.zero_le _,Mq (h.ok n (by simp)) (hK n (by simp)) fr,fun fs' L=>?_⟩
  have hpl:=Cy (h.ok n (by simp)) (hkp n (by simp)) fr hl hp
  have hst:bG fs' 0 (dL n fr).1 ⟨⟨#[]⟩,⟨#[]⟩⟩:=by
   rcases yV L (h.ok n (by simp)) (fun p h=>h) hl hp (fun y h=>h) (ha n (by simp)) ⟨⟨#[]⟩,⟨#[]⟩⟩ (fun x _=>Je _) with h|h
   ·exact h.1
   ·exact h.1
  exact⟨⟨by have:=eW hpl;show 0<(dL n fr).1.place;omega,rfl,hst⟩,.inr hpl⟩
 ·rename_i n m r
  refine⟨qAm h (by simp) h24 hkp (by omega) fr hl hp,jU _,⟨?_,?_⟩,fun fs' L=>?_⟩
  ·intro k hk
   simp only [List.tail_cons] at hk
   obtain⟨q,hq,rfl⟩:=List.mem_map.1 hk
   rcases (hK q (by simp only [List.mem_cons] at hq ⊢;exact .inr hq)).1 with h0|h0
   ·have:=h.tail_los.2 _ (List.mem_map.2 ⟨q,hq,rfl⟩)
    simp only [h0,bU] at this
    cases this
   ·exact h0
  ·intro t ht
   simp only [gJ,jK,List.length_singleton] at hl
   obtain⟨j,hj,rfl⟩:=List.getElem_of_mem ht
   rw [dO] at hj
   obtain⟨f,h1,h2,h3,_⟩:=vK _ fr j hj (by omega)
   obtain⟨h5,h6⟩:=List.getElem?_eq_some_iff.1 h3
   rw [h6]
   exact Mq (h.ok _ (List.getElem_mem _)) (hK _ (List.getElem_mem _)) f
  ·obtain⟨h1,h2⟩:=Mt h (by simp) L hl hp ha
   exact⟨⟨by have:=eW h2;show 0<(gJ (n :: m :: r) fr).1.place;omega,rfl,h1⟩,.inr h2⟩
theorem Ip {fs:Fs}:∀ {l:List (Nat×Pg)} {p r k:Nat},eS fs p r l→r≤240 * k→l.length≤k
 | [],_,_,_,_,_=>Nat.zero_le _
 | x :: l,p,r,k,h,hk=>by
  obtain⟨a1,a2,a3,a4,a5,nx,a6,a7,a8⟩:=h
  cases k with
  | zero=>omega
  | succ k =>
   have:=Ip (k:=k) a8 (by rw [a5];omega)
   rw [jB];omega
theorem Kd {fs:Fs} {x:En} (h:x.ok fs):x.pages.length≤2:=by
 obtain⟨sz,ov,_,_,h3,h|⟨_,h⟩⟩:=h
 ·simp [En.pages,h.2]
 ·simp only [En.pages,List.length_map];exact Ip h (by omega)
theorem xR (f:α→List Nat) (b:Nat):∀ (l:List α),(∀ x∈l,(f x).length≤b)→(l.flatMap f).length≤b * l.length
 | [],_=>by simp
 | x :: l,h=>by
  have h1:=h x (by simp)
  have h2:=xR f b l (fun y hy=>h y (by simp [hy]))
  rw [List.flatMap_cons,jK,jB,Nat.mul_succ];omega
theorem rH {fs:Fs}  {es:List En}  (h:bG fs 0 (.leaf p es) s):(T.pages 0 (.leaf p es)).length≤1+2 * es.length:=by
 obtain⟨g,_,_,_,_,_,h6⟩:=h
 have:=xR En.pages 2 es (fun x hx=>Kd (h6 x hx))
 simp only [T.pages,jB];omega
theorem Qj {fs:Fs}    (hro:bJ fs root o) (hf:gS o) (hK:qDy K o):(bZ o).length≤1+3 * K.length:=by
 rcases iX hro hf with rfl|⟨p,es,rfl,hs⟩|⟨p,ks,kids,rfl,hs⟩
 ·simp [bZ]
 ·have h1:=rH hs
  have hre:cR es:=dH (h:=0) hs
  have h2:=vG (l:=es.map (fun x=>x.e.key)) (m:=K) (mH (by rw [List.pairwise_map];exact hre)) (fun x hx=>by
   obtain⟨y,hy,rfl⟩:=List.mem_map.1 hx
   exact hK y hy)
  rw [List.length_map] at h2
  show (T.pages 0 _).length≤_
  omega
 ·have hre:=dH hs
  obtain⟨hl,hp,hb,_,hall⟩:=fO hs
  have hst:∀ t∈kids,∃ s',bG fs 0 t s':=fun t ht=>by
   obtain⟨s',hs'⟩:=mM (s:=⟨⟨#[]⟩,⟨#[]⟩⟩) (ks:=ks) ht
   exact⟨s',hall _ hs'⟩
  have h2:=vG (l:=(kids.flatMap (T.ents 0)).map (fun x=>x.e.key)) (m:=K) (mH (by rw [List.pairwise_map];exact hre)) (fun x hx=>by
   obtain⟨y,hy,rfl⟩:=List.mem_map.1 hx
   obtain⟨t,ht,hy⟩:=List.mem_flatMap.1 hy
   have h3:=hK.2 t ht
   cases t with
   | leaf=>exact h3 y hy
   | branch=>exact h3.elim)
  rw [List.length_map] at h2
  have key:∀ (l:List T),(∀ t∈l,∃ s',bG fs 0 t s')→(l.flatMap (T.pages 0)).length≤3 * (l.flatMap (T.ents 0)).length:=by
   intro l
   induction l with
   | nil=>simp
   | cons t l ih =>
    intro h
    have h1:=ih (fun t ht=>h t (by simp [ht]))
    obtain⟨s',hs'⟩:=h t (by simp)
    cases t with
    | branch=>exact hs'.elim
    | leaf q es =>
     have h4:=rH hs'
     obtain⟨g,_,_,_,hne,_⟩:=hs'
     have h5:0<es.length:=List.length_pos_iff.2 hne
     rw [List.flatMap_cons,List.flatMap_cons,jK,jK]
     have e:(T.ents 0 (.leaf q es)).length=es.length:=rfl
     omega
  have h3:=key kids hst
  simp only [bZ,T.pages,jB]
  omega
theorem Ou {fs:Fs}:∀ {l:List (Nat×Pg)} {p r:Nat},eS fs p r l→2≤p→∀ x∈l,2≤x.1
 | [],_,_,_,_,x,hx=>by simp at hx
 | y :: l,p,r,h,hp,x,hx=>by
  obtain⟨a1,a2,a3,a4,a5,nx,a6,a7,a8⟩:=h
  rcases List.mem_cons.1 hx with rfl|hx
  ·omega
  ·rcases qAs a3 a4 with h0|h0
   ·have:nx=0:=by omega
    subst this
    have h1:=a7.1 rfl
    rw [h1] at a8
    cases l with
    | nil=>simp at hx
    | cons z l=>obtain⟨_,b2,_⟩:=a8;omega
   ·rw [a6] at h0
    exact Ou a8 (eW h0).1 x hx
theorem Tq {fs:Fs}  {es:List En}  (h:bG fs 0 (.leaf p es) s) (hp:2≤p):∀ q∈T.pages 0 (.leaf p es),2≤q:=by
 intro q hq
 simp only [T.pages,List.mem_cons,List.mem_flatMap] at hq
 rcases hq with rfl|⟨x,hx,hq⟩
 ·exact hp
 ·obtain⟨y,hy,rfl⟩:=List.mem_map.1 hq
  obtain⟨_,_,⟨_,h2,_⟩|⟨h1,h2,sz,ov,h3,h4,h5,h6,h7⟩⟩:=fK h x hx
  ·rw [h2] at hy;simp at hy
  ·rw [h4] at h2
   exact Ou h7 (eW h2).1 y hy
theorem lW {fs:Fs}   (hro:bJ fs root o) (hf:gS o) (hr:root=0∨aS (root:Nat)=true):∀ q∈bZ o,2≤q:=by
 rcases iX hro hf with rfl|⟨p,es,rfl,hs⟩|⟨p,ks,kids,rfl,hs⟩
 ·simp [bZ]
 ·obtain⟨h1,h2,_⟩:=hro
  have h2':p=root:=h2
  exact Tq hs (by rcases hr with h|h;omega;have:=eW h;omega)
 ·obtain⟨h1,h2,_⟩:=hro
  have h2':p=root:=h2
  intro q hq
  simp only [bZ,T.pages,List.mem_cons,List.mem_flatMap] at hq
  rcases hq with rfl|⟨t,ht,hq⟩
  ·rcases hr with h|h
   ·omega
   ·have:=eW h;omega
  ·obtain⟨hl,hp,hb,_,hall⟩:=fO hs
   obtain⟨s',hs'⟩:=mM (s:=⟨⟨#[]⟩,⟨#[]⟩⟩) (ks:=ks) ht
   have hst:=hall _ hs'
   have hpl:aS (t.place:Nat)=true:=by
    obtain⟨g,hg,hk2,_,hkd,_⟩:=hs
    refine Ni hg hk2 _ ?_
    rw [hkd]
    exact List.mem_map.2 ⟨t,ht,rfl⟩
   cases t with
   | branch=>exact hst.elim
   | leaf r es=>exact Tq hst (eW hpl).1 q hq
def eJ (n:Nat) (u:List Bool):List Nat:=(List.range' 2 (n-2)).filter (fun p=>!(u.getD p true))
theorem xQ {n:Nat} {u:List Bool}  (h:p∈eJ n u):2≤p∧p<n∧¬ on u p:=by
 simp only [eJ,List.mem_filter,List.mem_range'_1] at h
 obtain⟨h1,h2⟩:=h
 refine⟨by omega,by omega,fun h3=>?_⟩
 unfold on at h3
 rw [List.getD_eq_getElem?_getD,h3] at h2
 simp at h2
theorem Nk (n:Nat) (u:List Bool):(eJ n u).Nodup:=List.Pairwise.filter _ (List.nodup_range' (s:=2) (n:=n-2))
theorem Rs {n:Nat} {u:List Bool} {ps:List Nat} (hu:n≤u.length) (hps:∀ p,on u p→p∈ps):n-2≤(eJ n u).length+ps.length:=by
 have h:=vG (l:=List.range' 2 (n-2)) (m:=eJ n u++ps) (List.nodup_range') (fun p hp=>by
  rw [List.mem_range'_1] at hp
  simp only [List.mem_append]
  by_cases h:on u p
  ·exact .inr (hps p h)
  ·refine .inl ?_
   simp only [eJ,List.mem_filter,List.mem_range'_1]
   refine⟨hp,?_⟩
   have hl:p<u.length:=by omega
   rw [List.getD_eq_getElem?_getD,jQ hl]
   unfold on at h
   rw [jQ hl] at h
   cases hv:u[p] with
   | false=>rfl
   | true=>rw [hv] at h;exact absurd rfl h)
 rw [List.length_range',jK] at h
 exact h
theorem Bn {P:List α→Prop} (h0:P []) (h1:∀ l x,P l→P (l++[x])) (l:List α):P l:=by
 have key:∀ m:List α,P m.reverse:=by
  intro m
  induction m with
  | nil=>exact h0
  | cons x m ih=>rw [List.reverse_cons];exact h1 _ _ ih
 have:=key l.reverse
 rwa [List.reverse_reverse] at this
theorem Dd (l:List (Nat×ByteArray)) (x:Nat×ByteArray) (p:Nat):qL (l++[x]) p=if x.1=p then some x.2 else qL l p:=by
 unfold qL
 rw [List.reverse_append]
 simp only [List.reverse_singleton,List.singleton_append,List.find?_cons]
 by_cases h:x.1=p
 ·simp [h]
 ·have:(x.1==p)=false:=by simpa using h
  rw [this,if_neg h]
theorem qDe:∀ (l:List (Nat×ByteArray)) (s:List ByteArray) (p:Nat),(∀ x∈l,x.1<s.length)→(laid s l).getD p ⟨#[]⟩=(qL l p).getD (s.getD p ⟨#[]⟩):=by
 intro l
 induction l using Bn with
 | h0=>intro s p _;rfl
 | h1 l x ih =>
  intro s p h
  have e:laid s (l++[x])=(laid s l).set x.1 x.2:=by simp [laid]
  rw [e,Dd,List.getD_eq_getElem?_getD,List.getElem?_set]
  have hx:=h x (by simp)
  by_cases hp:x.1=p
  ·rw [if_pos hp,if_pos hp,if_pos (by rw [cU];omega)];rfl
  ·rw [if_neg hp,if_neg hp,← List.getD_eq_getElem?_getD]
   exact ih s p (fun y hy=>h y (by simp [hy]))
theorem iG (fs:Fs) (h:fs.fits) (p:Nat):fs.synced.at p=fs.at p:=qDe fs.late fs.safe p h
theorem pS {fs:Fs} (h:fs.fits)  :fs.synced.has p g↔fs.has p g:=by
 unfold Fs.has
 rw [iG fs h]
 show p<(laid fs.safe fs.late).length∧_↔_
 rw [cU]
theorem wV (fs:Fs) (q:Nat) (d:ByteArray) (p:Nat):(fs.put q d).at p=if q=p then d else fs.at p:=by
 unfold Fs.at Fs.put
 simp only [Dd]
 split<;>rfl
def Fs.puts (fs:Fs) (l:List (Nat×Pg)):Fs:={ fs with late:=fs.late++l.map (fun y=>(y.1,y.2.encS)) }
theorem Ls (fs:Fs):fs.puts []=fs:=by simp [Fs.puts]
theorem Vq (fs:Fs) (l:List (Nat×Pg)) (y:Nat×Pg):fs.puts (l++[y])=(fs.puts l).put y.1 y.2.encS:=by simp [Fs.puts,Fs.put]
theorem Ah:∀ (l:List (Nat×Pg)) (fs:Fs) (p:Nat),(p ∉ l.map (·.1)→(fs.puts l).at p=fs.at p)∧((l.map (·.1)).Nodup→∀ y∈l,y.1=p→(fs.puts l).at p=y.2.encS):=by
 intro l
 induction l using Bn with
 | h0=>intro fs p;rw [Ls];exact⟨fun _=>rfl,fun _ y hy=>by simp at hy⟩
 | h1 l x ih =>
  intro fs p
  rw [Vq,wV]
  obtain⟨i1,i2⟩:=ih fs p
  constructor
  ·intro h
   rw [List.map_append,List.mem_append] at h
   rw [if_neg (fun e=>h (.inr (by simp [e])))]
   exact i1 (fun h'=>h (.inl h'))
  ·intro hn y hy hyp
   rw [List.map_append] at hn
   obtain⟨n1,n2,n3⟩:=List.nodup_append.1 hn
   rcases List.mem_append.1 hy with hy|hy
   ·have:x.1≠p:=fun e=>n3 y.1 (List.mem_map.2 ⟨y,hy,rfl⟩) x.1 (by simp) (by rw [hyp,e])
    rw [if_neg this]
    exact i2 n1 y hy hyp
   ·rw [List.mem_singleton] at hy
    subst hy
    rw [if_pos hyp]
theorem Zk {fs:Fs}  (hn:(l.map (·.1)).Nodup) (hE:∀ y∈l,y.2.encE=0) (hv:∀ y∈l,y.2.ver=0) (hl:∀ y∈l,y.1<fs.safe.length):∀ y∈l,(fs.puts l).has y.1 y.2:=by
 intro y hy
 refine⟨hl y hy,?_⟩
 rw [(Ah l fs y.1).2 hn y hy rfl]
 exact vX y.2 (by rw [hv y hy];decide) (hE y hy)
theorem Vr {fs:Fs}    (hp:p ∉ l.map (·.1)) (h:fs.has p g):(fs.puts l).has p g:=by
 refine⟨h.1,?_⟩
 rw [(Ah l fs p).1 hp]
 exact h.2
theorem Lt {fs:Fs} {q p:Nat} {d:ByteArray}  (hp:q≠p) (h:fs.has p g):(fs.put q d).has p g:=by
 refine⟨h.1,?_⟩
 rw [wV,if_neg hp]
 exact h.2
def Fs.made (fs:Fs) (l:List (Nat×Pg)) (m:Nat) (mt:Pg):Fs:=(((fs.puts l).synced).put m mt.encS).synced
theorem Ws {fs:Fs}  {m:Nat} {mt:Pg}  (hf:fs.fits) (hn:(l.map (·.1)).Nodup) (hE:∀ y∈l,y.2.encE=0) (hv:∀ y∈l,y.2.ver=0) (hl:∀ y∈l,y.1<fs.safe.length∧y.1≠m) (hm:m<fs.safe.length) (hZ:∀ y∈l,y.1∈Z) (hmZ:m∈Z) :
  Laid fs (fs.made l m mt) Z l∧(fs.made l m mt).at m=mt.encS∧(fs.made l m mt).late=[]∧(fs.made l m mt).safe.length=fs.safe.length∧∀ p,p ∉ Z→(fs.made l m mt).at p=fs.at p:=by
 have f1:(fs.puts l).fits:=by
  intro x hx
  simp only [Fs.puts,List.mem_append,List.mem_map] at hx
  rcases hx with hx|⟨y,hy,rfl⟩
  ·exact hf x hx
  ·exact(hl y hy).1
 have e1:(fs.puts l).synced.safe.length=fs.safe.length:=cU _ _
 have f2:(((fs.puts l).synced).put m mt.encS).fits:=by
  intro x hx
  simp only [Fs.put,Fs.synced,jE,List.mem_singleton] at hx
  subst hx
  show m<(laid _ _).length
  rw [cU];exact hm
 refine⟨⟨fun y hy=>?_,fun p g hp h=>?_⟩,?_,rfl,?_,fun p hp=>?_⟩
 ·exact(pS f2).2 (Lt (hl y hy).2.symm ((pS f1).2 (Zk hn hE hv (fun y hy=>(hl y hy).1) y hy)))
 ·have h1:p ∉ l.map (·.1):=fun hm=>by
   obtain⟨y,hy,rfl⟩:=List.mem_map.1 hm
   exact hp (hZ y hy)
  exact(pS f2).2 (Lt (fun e:m=p=>hp (e▸hmZ)) ((pS f1).2 (Vr h1 h)))
 ·show (Fs.synced _).at m=_
  rw [iG _ f2,wV,if_pos rfl]
 ·show (laid _ _).length=_
  rw [cU];exact e1
 ·show (Fs.synced _).at p=_
  have h1:p ∉ l.map (·.1):=fun hm=>by
   obtain⟨y,hy,rfl⟩:=List.mem_map.1 hm
   exact hp (hZ y hy)
  rw [iG _ f2,wV,if_neg (fun e:m=p=>hp (e▸hmZ)),iG _ f1,(Ah l fs p).1 h1]
