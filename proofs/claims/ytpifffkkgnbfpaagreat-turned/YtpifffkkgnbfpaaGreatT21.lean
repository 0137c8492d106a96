import Derived.Test.YtpifffkkgnbfpaaGreatT20
set_option linter.unusedSimpArgs false
set_option linter.unusedVariables false
set_option maxRecDepth 100000
set_option maxHeartbeats 8000000
namespace Go.Proofs.YtpifffkkgnbfpaaGreat.Tree
open Go.RowKit Pages
variable {K:List ByteArray} {P Z fr:List Nat} {Q:T→Prop} {g:Pg} {l:List (Nat×Pg)} {o:Option (Nat×T)} {p root:Nat} {s x:Sp} {t:T} {α:Type}
theorem Bc:∀ {l m:List En},cM l→cM m→(∀ y,y∈l↔y∈m)→l=m
 | [],[],_,_,_=>rfl
 | [],y :: m,_,_,h=>absurd ((h y).2 (by simp)) (by simp)
 | x :: l,[],_,_,h=>absurd ((h x).1 (by simp)) (by simp)
 | x :: l,y :: m,hl,hm,h=>by
  obtain⟨hx,hl'⟩:=List.pairwise_cons.1 hl
  obtain⟨hy,hm'⟩:=List.pairwise_cons.1 hm
  have exy:x=y:=by
   rcases List.mem_cons.1 ((h x).1 (by simp)) with e|e
   ·exact e
   ·rcases List.mem_cons.1 ((h y).2 (by simp)) with e'|e'
    ·exact e'.symm
    ·have:=fM (hx y e') (hy x e)
     rw [bV] at this;cases this
  subst exy
  rw [Bc hl' hm' (fun z=>?_)]
  constructor
  ·intro hz
   rcases List.mem_cons.1 ((h z).1 (by simp [hz])) with rfl|hz'
   ·have:=hx z hz;rw [bV] at this;cases this
   ·exact hz'
  ·intro hz
   rcases List.mem_cons.1 ((h z).2 (by simp [hz])) with rfl|hz'
   ·have:=hy z hz;rw [bV] at this;cases this
   ·exact hz'
def fL (next:Nat) (d:ByteArray):Pg:=⟨4,0,0,next,[],[],[],d⟩
def eF (es:List En):Pg:=⟨3,0,0,0,[],[],es.map (·.e),⟨#[]⟩⟩
def eI (los:List ByteArray) (pls:List Nat):Pg:=⟨2,0,0,0,los,pls.map (fun n:Nat=>(n:Int)),[],⟨#[]⟩⟩
def bM (ver root:Int):Pg:=⟨1,ver,root,0,[],[],[],⟨#[]⟩⟩
theorem sK (G:Pg) (hr:dL G.kind G.ver G.root G.next G.keys G.kids G.ents G.data=true) (hl:(fieldsB G.kind G.ver G.root G.next G.keys G.kids G.ents G.data).length≤252):G.encE=0:=by
 unfold Pg.encE Pages.cH
 rw [if_pos (by rw [hr];simpa using hl)]
theorem wU:(⟨#[]⟩:ByteArray).toList.isEmpty=true:=by rw [ByteArray.toList_eq];rfl
theorem oD (s:ByteArray):(dK s).length=s.size+1:=by
 unfold dK
 rw [jK,Array.length_toList]
 show 1+s.size=_
 omega
theorem vR (ver root:Int) (h0:0≤ver) (h1:root=0∨aQ root=true):(bM ver root).encE=0:=by
 refine sK _ ?_ ?_
 ·rcases h1 with h|h<;>simp [bM,dL,eZ,kH,jH,Gh,h0,h,wU]
 ·simp [bM,fieldsB,aJ]
theorem Ni (next:Nat) (d:ByteArray) (h1:next=0∨aQ next=true) (h2:1≤d.size) (h3:d.size≤240):(fL next d).encE=0:=by
 refine sK _ ?_ ?_
 ·rcases h1 with h|h<;>simp [fL,dL,eZ,kH,jI,Bp,h,h2,h3]
 ·have:=oD d
  simp [fL,fieldsB,aJ]
  omega
theorem Gp:∀ (es:List Ent) (last:ByteArray),es.Pairwise (fun a b=>lt a.key b.key=true)→(∀ e∈es,lt last e.key=true∧e.key.size≤24∧nY e.val e.size e.over=true)→fG last es=true
 | [],_,_,_=>rfl
 | e :: r,last,hp,h=>by
  obtain⟨h1,h2⟩:=List.pairwise_cons.1 hp
  obtain⟨a1,a2,a3⟩:=h e (by simp)
  simp only [fG,Bool.and_eq_true,gD]
  refine⟨⟨⟨a1,by simpa using a2⟩,a3⟩,Gp r e.key h2 (fun x hx=>?_)⟩
  obtain⟨_,b2,b3⟩:=h x (by simp [hx])
  exact⟨h1 x hx,b2,b3⟩
theorem Bb:∀ (ks:List ByteArray) (last:ByteArray),ks.Pairwise (fun a b=>lt a b=true)→(∀ k∈ks,lt last k=true∧k.size≤24)→fI last ks=true
 | [],_,_,_=>rfl
 | k :: r,last,hp,h=>by
  obtain⟨h1,h2⟩:=List.pairwise_cons.1 hp
  obtain⟨a1,a2⟩:=h k (by simp)
  simp only [fI,Bool.and_eq_true,gD]
  exact⟨⟨a1,by simpa using a2⟩,Bb r k h2 (fun x hx=>⟨h1 x hx,(h x (by simp [hx])).2⟩)⟩
theorem qDk (x:En) (h:nY x.e.val x.e.size x.e.over=true):(Ent.bytes x.e).length=esz x:=by
 unfold Ent.bytes kU esz
 rw [jK,oD]
 simp only [nY,Bool.or_eq_true,Bool.and_eq_true,beq_iff_eq,decide_eq_true_eq] at h
 rcases h with⟨⟨h1,h2⟩,h3⟩|⟨⟨⟨h1,h2⟩,h3⟩,h4⟩
 ·rw [if_pos (by simp [h1]),if_neg (by omega),jK,oD]
  simp;omega
 ·have h0:¬ (x.e.over==0)=true:=by
   intro e
   rw [beq_iff_eq.1 e] at h1
   simp [aQ] at h1
  rw [if_neg h0,if_pos h3,jK,jK,aJ,aJ]
  simp
theorem Ng:∀ (es:List En),(∀ x∈es,nY x.e.val x.e.size x.e.over=true)→((es.map (·.e)).flatMap Ent.bytes).length=tot esz es
 | [],_=>rfl
 | x :: es,h=>by
  rw [List.map_cons,List.flatMap_cons,jK,gB,qDk x (h x (by simp)),Ng es (fun y hy=>h y (by simp [hy]))]
theorem qBc (es:List En) (hne:es≠[]) (hr:cM es) (hk:∀ x∈es,lt ⟨#[]⟩ x.e.key=true∧x.e.key.size≤24∧nY x.e.val x.e.size x.e.over=true) (hs:tot esz es≤250):(eF es).encE=0:=by
 have hok:fG ⟨#[]⟩ (es.map (·.e))=true:=Gp _ _ (by rw [List.pairwise_map];exact hr) (fun e he=>by
  obtain⟨x,hx,rfl⟩:=List.mem_map.1 he
  exact hk x hx)
 refine sK _ ?_ ?_
 ·have hne':es.map (·.e)≠[]:=by simpa using hne
  simp [eF,dL,jI,eZ,jH,hok,hne,wU]
 ·have h2:=Ng es (fun x hx=>(hk x hx).2.2)
  simp only [eF,fieldsB,lB,jK,aJ,if_neg (show ¬ (3:Int)=1 by decide),if_neg (show ¬ (3:Int)=2 by decide),if_pos]
  omega
theorem Mf:∀ (l:List Int),(l.flatMap (beB 2)).length=2 * l.length
 | []=>rfl
 | x :: l=>by rw [List.flatMap_cons,jK,aJ,Mf l,jB];omega
theorem Mh:∀ (l:List ByteArray),(l.flatMap dK).length=tot (fun k:ByteArray=>k.size+1) l
 | []=>rfl
 | x :: l=>by rw [List.flatMap_cons,jK,oD,Mh l,gB]
theorem qBd (los:List ByteArray) (pls:List Nat) (hne:los≠[]) (hl:pls.length=los.length+1) (hr:los.Pairwise (fun a b=>lt a b=true)) (hk:∀ k∈los,lt ⟨#[]⟩ k=true∧k.size≤24) (hp:∀ p∈pls,aQ (p:Nat)=true) (hs:2 * pls.length+tot (fun k:ByteArray=>k.size+1) los≤250):(eI los pls).encE=0:=by
 refine sK _ ?_ ?_
 ·have h1:=Bb los ⟨#[]⟩ hr hk
  have h2:(pls.map (fun n:Nat=>(n:Int))).all aQ=true:=by
   rw [List.all_eq_true]
   intro x hx
   obtain⟨p,hpp,rfl⟩:=List.mem_map.1 hx
   exact hp p hpp
  simp only [eI,dL,jI,kH,jH,gE,h1,h2,wU,if_neg (show ¬ (2:Int)=1 by decide),if_pos,List.length_map,hl]
  simp [hne]
 ·simp only [eI,fieldsB,dZ,jK,aJ,if_neg (show ¬ (2:Int)=1 by decide),if_pos,Mf,Mh,List.length_map]
  omega
theorem Mq {fs:Fs}   (h:fs.has p g) (hk:g.kind=2):∀ k∈g.kids,aQ k=true:=by
 have:=sF h
 rw [hk] at this
 simp only [dL,if_neg (show ¬ (2:Int)=1 by decide),if_pos,Bool.and_eq_true,gE,List.all_eq_true] at this
 exact this.2.1.2
theorem qAn {fs:Fs}   (h:fs.has p g) (hk:g.kind=4):g.next=0∨aQ g.next=true:=by
 have:=sF h
 rw [hk] at this
 simp only [dL,if_neg (show ¬ (4:Int)=1 by decide),if_neg (show ¬ (4:Int)=2 by decide),if_neg (show ¬ (4:Int)=3 by decide),if_pos,Bool.and_eq_true,Bp,Bool.or_eq_true,beq_iff_eq] at this
 exact this.2.1
theorem mP (g:Pg) (hE:g.encE=0):g.encS.size=256:=by
 unfold Pg.encE Pages.cH at hE
 split at hE
 ·rename_i hT
  unfold Pg.encS Pages.encS
  rw [if_pos hT]
  simp only [Bool.and_eq_true,decide_eq_true_eq] at hT
  show (rG _).toArray.size=256
  simp only [jA,rG,zJ,jK,List.length_replicate,aJ]
  omega
 ·simp at hE
theorem Dd (g:Pg) (hv:g.ver<9223372036854775808) (hE:g.encE=0):Ju g.encS g:=by
 have h:=Pi g hv hE
 exact⟨mP g hE,by rw [h];exact hE,by rw [h],h.symm⟩
inductive NT where
  | kept (t:T) (s:Sp)
  | leaf (s:Sp) (es:List En)
  | bran (s:Sp) (ks:List NT)
def NT.sp:NT→Sp
  | .kept _ s=>s
  | .leaf s _=>s
  | .bran s _=>s
def zM (n:NT):Nat:=n.sp.lo.size+3
def Gm (p:List En):NT:=.leaf ⟨iI p,⟨#[]⟩⟩ p
def cP (es:List En):List NT:=(dY esz es).map Gm
def fC:NT→Bool
  | .kept _ _=>false
  | .leaf _ es=>decide (tot esz es<62)
  | .bran _ ks=>decide (tot zM ks<62)
def NT.ents0:NT→List En
  | .kept (.leaf _ es) _=>es
  | .kept (.branch _ _ _) _=>[]
  | .leaf _ es=>es
  | .bran _ _=>[]
def vN (tog:NT→NT→List NT):List NT→List NT→List NT
  | [],next=>next
  | l :: acc,next=>match next with
    | [m]=>if fC l=true∨fC m=true then vN tog acc (tog l m) else (l :: acc).reverse++[m]
    | _=>(l :: acc).reverse++next
def rF (tog:NT→NT→List NT) (acc next:List NT):List NT:=vN tog acc.reverse next
def Ha (tog:NT→NT→List NT) (acc:List NT) (n:NT):List NT:=rF tog acc [n]
def gU (tog:NT→NT→List NT) (ns:List NT):List NT:=ns.foldl (Ha tog) []
theorem Wv {tog:NT→NT→List NT} {acc:List NT} {l m:NT} (h:fC l=true∨fC m=true):rF tog (acc++[l]) [m]=rF tog acc (tog l m):=by
  rw [rF,List.reverse_append,List.reverse_singleton,List.singleton_append]
  exact if_pos h
theorem Wu {tog:NT→NT→List NT} {acc:List NT} {l m:NT} (h:¬ (fC l=true∨fC m=true)):rF tog (acc++[l]) [m]=(acc++[l])++[m]:=by
  rw [rF,List.reverse_append,List.reverse_singleton,List.singleton_append]
  refine(if_neg h).trans ?_
  rw [List.reverse_cons,List.reverse_reverse]
theorem Qs {tog:NT→NT→List NT} {acc next:List NT} (h:next.length≠1):rF tog acc next=acc++next:=by
  rcases List.eq_nil_or_concat acc with rfl|⟨A,l,rfl⟩
  · rfl
  · rw [rF,List.concat_eq_append,List.reverse_append,List.reverse_singleton,List.singleton_append]
    match next,h with
    | [],_=>show (l :: A.reverse).reverse++[]=_;rw [List.reverse_cons,List.reverse_reverse]
    | [_],h=>exact absurd rfl h
    | x :: y :: r,_=>show (l :: A.reverse).reverse++_=_;rw [List.reverse_cons,List.reverse_reverse]
theorem yO {tog:NT→NT→List NT} {J:List NT→Prop} (hJ:∀ A l n B,J (A++l :: n :: B)→J (A++(tog l n++B))):∀ (acc next B:List NT),J (acc.reverse++(next++B))→J (vN tog acc next++B)
  | [],next,B,h=>by simpa [vN] using h
  | l :: acc,next,B,h=>by
    match next,h with
    | [],h=>simpa [vN] using h
    | [m],h =>
      by_cases hs:fC l=true∨fC m=true
      · have e:vN tog (l :: acc) [m]=vN tog acc (tog l m):=if_pos hs
        rw [e]
        exact yO hJ acc (tog l m) B (hJ _ _ _ _ (by simpa using h))
      · have e:vN tog (l :: acc) [m]=(l :: acc).reverse++[m]:=if_neg hs
        rw [e];simpa using h
    | x :: y :: r,h=>simpa [vN] using h
theorem Mi {tog:NT→NT→List NT} {J:List NT→Prop} (hJ:∀ A l n B,J (A++l :: n :: B)→J (A++(tog l n++B))) {acc:List NT} {n:NT} {B:List NT} (h:J (acc++n :: B)):J (Ha tog acc n++B) :=
  yO hJ acc.reverse [n] B (by simpa using h)
theorem Cp {tog:NT→NT→List NT} {J:List NT→Prop} (hJ:∀ A l n B,J (A++l :: n :: B)→J (A++(tog l n++B))):∀ {ns acc:List NT},J (acc++ns)→J (ns.foldl (Ha tog) acc)
  | [],acc,h=>by simpa using h
  | n :: ns,acc,h=>Cp hJ (ns:=ns) (acc:=Ha tog acc n) (Mi hJ h)
theorem nJ {tog:NT→NT→List NT} {J:List NT→Prop} (hJ:∀ A l n B,J (A++l :: n :: B)→J (A++(tog l n++B))) {ns:List NT} (h:J ns):J (gU tog ns):=Cp hJ (ns:=ns) (acc:=[]) h
def iC (a b:NT):List NT:=cP (a.ents0++b.ents0)
def cT (ns:List NT):List En:=ns.flatMap NT.ents0
def En.good (fs:Fs) (x:En):Prop:=lt ⟨#[]⟩ x.e.key=true∧x.e.key.size≤24 ∧
  ((x.e.over=0∧x.ch=[]∧x.e.size=(x.e.val.size:Int)∧x.e.val.size≤400) ∨
   (x.e.val=⟨#[]⟩∧aQ x.e.over=true∧∃ size over:Nat,x.e.size=size∧x.e.over=over∧60<size∧size≤400∧dJ fs over size x.ch))
theorem qAq {fs:Fs} {x:En} (h:x.good fs):esz x≤87:=by
  obtain⟨_,hk,h|⟨hv,_,sz,ov,h1,_,h2,_⟩⟩:=h
  · obtain⟨_,_,h1,h2⟩:=h
    unfold esz;split<;>omega
  · unfold esz;rw [h1,if_pos (by omega)];omega
theorem pB {fs:Fs} {x:En} (h:x.good fs):x.fits:=by
  obtain⟨_,hk,h|⟨hv,_⟩⟩:=h
  · exact⟨hk,h.2.2.2⟩
  · refine⟨hk,?_⟩;rw [hv];decide
def Ok0 (fs:Fs):NT→Prop
  | .kept (.leaf p es) s=>aT fs 0 (.leaf p es) s
  | .kept (.branch _ _ _) _=>False
  | .leaf s es=>es≠[]∧s.lo=iI es∧cM es∧tot esz es≤250∧∀ x∈es,x.good fs
  | .bran _ _=>False
def qFu (a b:NT):Prop:=∀ x∈a.ents0,lt x.e.key b.sp.lo=true
structure Lst (fs:Fs) (ns:List NT):Prop where
  ok:∀ n∈ns,Ok0 fs n
  lo:∀ n∈ns,∀ x∈n.ents0,le n.sp.lo x.e.key=true
  sep:ns.Pairwise qFu
theorem Uz {x:En} {l:List En}:cM (x :: l)↔(∀ y∈l,lt x.e.key y.e.key=true)∧cM l:=List.pairwise_cons
theorem qM {l m:List En}:cM (l++m)↔cM l∧cM m∧∀ x∈l,∀ y∈m,lt x.e.key y.e.key=true:=List.pairwise_append
theorem Mx {es:List En} (h:cM es):∀ x∈es,le (iI es) x.e.key=true:=by
  intro x hx
  cases es with
  | nil=>simp at hx
  | cons y l =>
    rcases List.mem_cons.1 hx with rfl|hx
    · exact bG _
    · exact jS ((Uz.1 h).1 x hx)
theorem vP {es:List En} (h:es≠[]):∃ x∈es,iI es=x.e.key:=by
  cases es with
  | nil=>exact absurd rfl h
  | cons y l=>exact⟨y,by simp,rfl⟩
theorem Bg {fs:Fs}:∀ {ps:List (List En)},cM ps.flatten→(∀ x∈ps.flatten,x.good fs)→(∀ p∈ps,p≠[])→(∀ p∈ps,tot esz p≤250)→Lst fs (ps.map Gm)
  | [],_,_,_,_=>⟨by simp,by simp,by simp⟩
  | p :: ps,hr,hg,hne,hf=>by
    rw [List.flatten_cons] at hr hg
    obtain⟨h1,h2,h3⟩:=qM.1 hr
    have ih:=Bg h2 (fun x hx=>hg x (by simp only [List.mem_append];exact .inr hx)) (fun q hq=>hne q (by simp [hq])) (fun q hq=>hf q (by simp [hq]))
    have hp:Ok0 fs (Gm p):=⟨hne p (by simp),rfl,h1,hf p (by simp),fun x hx=>hg x (by simp [hx])⟩
    refine⟨?_,?_,?_⟩
    · rw [List.map_cons];intro n hn
      rcases List.mem_cons.1 hn with rfl|hn
      · exact hp
      · exact ih.ok n hn
    · rw [List.map_cons];intro n hn
      rcases List.mem_cons.1 hn with rfl|hn
      · exact Mx h1
      · exact ih.lo n hn
    · rw [List.map_cons]
      refine List.pairwise_cons.2 ⟨fun n hn x hx=>?_,ih.sep⟩
      obtain⟨q,hq,rfl⟩:=List.mem_map.1 hn
      obtain⟨y,hy,e⟩:=vP (hne q (by simp [hq]))
      show lt x.e.key (iI q)=true
      rw [e]
      exact h3 x hx y (List.mem_flatten.2 ⟨q,hq,hy⟩)
theorem nL {fs:Fs} {es:List En} (hg:∀ x∈es,x.good fs):∀ x∈es,esz x≤250:=fun x hx=>by have:=qAq (hg x hx);omega
theorem nI {fs:Fs} {es:List En} (hr:cM es) (hg:∀ x∈es,x.good fs):Lst fs (cP es):=by
  have h:=pE esz es (nL hg)
  exact Bg (by rw [h];exact hr) (by rw [h];exact hg) (Ad esz es (nL hg)) (qBi esz es)
theorem Jf (ps:List (List En)):cT (ps.map Gm)=ps.flatten:=by
  induction ps with
  | nil=>rfl
  | cons p ps ih=>simp only [cT,List.map_cons,List.flatMap_cons,List.flatten_cons] at ih ⊢;rw [ih];rfl
theorem fU {fs:Fs} {es:List En} (hg:∀ x∈es,x.good fs):cT (cP es)=es:=by
  rw [cP,Jf,pE esz es (nL hg)]
theorem tT {fs:Fs} {es:List En} (hg:∀ x∈es,x.good fs):∀ n∈cP es,∃ x∈es,n.sp.lo=x.e.key:=by
  intro n hn
  obtain⟨p,hp,rfl⟩:=List.mem_map.1 hn
  obtain⟨x,hx,e⟩:=vP (Ad esz es (nL hg) p hp)
  refine⟨x,?_,e⟩
  rw [← pE esz es (nL hg)]
  exact List.mem_flatten.2 ⟨p,hp,hx⟩
theorem tU {fs:Fs} {es:List En} (hg:∀ x∈es,x.good fs):∀ n∈cP es,∀ x∈n.ents0,x∈es:=by
  intro n hn x hx
  rw [← fU hg]
  exact List.mem_flatMap.2 ⟨n,hn,hx⟩
theorem eX {fs:Fs}  {es:List En}  (h:aT fs 0 (.leaf p es) s):∀ x∈es,x.good fs:=by
  obtain⟨g,hg,hk,he,_,_,hok⟩:=h
  intro x hx
  obtain⟨_,hl⟩:=Mp hg hk
  obtain⟨h1,h2,h3⟩:=hl x.e (by rw [he];exact List.mem_map.2 ⟨x,hx,rfl⟩)
  refine⟨h1,h2,?_⟩
  obtain⟨sz,ov,o1,o2,o3,o4⟩:=hok x hx
  simp only [nY,Bool.or_eq_true,Bool.and_eq_true,beq_iff_eq,decide_eq_true_eq] at h3
  rcases h3 with⟨⟨a1,a2⟩,a3⟩|⟨⟨⟨a1,a2⟩,a3⟩,a4⟩
  · rcases o4 with⟨_,hc⟩|⟨hp,_⟩
    · exact .inl ⟨a1,hc,a3,by omega⟩
    · omega
  · have:ov≠0:=by
      intro e
      rw [o2,e] at a1
      simp [aQ] at a1
    rcases o4 with⟨h0,_⟩|⟨_,hc⟩
    · exact absurd h0 this
    · exact .inr ⟨by exact lT.1 a2,a1,sz,ov,o1,o2,by omega,o3,hc⟩
theorem eP {fs:Fs} {n:NT} (h:Ok0 fs n):n.ents0≠[]∧cM n.ents0∧∀ x∈n.ents0,x.good fs:=by
  cases n with
  | kept t s =>
    cases t with
    | leaf p es=>exact⟨by obtain⟨g,_,_,_,hne,_⟩:=h;exact hne,dD (h:=0) h,eX h⟩
    | branch=>exact h.elim
  | leaf s es=>exact⟨h.1,h.2.2.1,h.2.2.2.2⟩
  | bran=>exact h.elim
theorem Lst.rise {fs:Fs}:∀ {ns:List NT},Lst fs ns→cM (cT ns)
  | [],_=>.nil
  | n :: ns,h=>by
    obtain⟨h1,h2⟩:=List.pairwise_cons.1 h.sep
    have ih:=Lst.rise (ns:=ns) ⟨fun m hm=>h.ok m (by simp [hm]),fun m hm=>h.lo m (by simp [hm]),h2⟩
    rw [cT,List.flatMap_cons]
    refine qM.2 ⟨(eP (h.ok n (by simp))).2.1,ih,fun x hx y hy=>?_⟩
    obtain⟨m,hm,hy⟩:=List.mem_flatMap.1 hy
    exact bZ (h1 m hm x hx) (h.lo m (by simp [hm]) y hy)
theorem Lst.good {fs:Fs} {ns:List NT} (h:Lst fs ns):∀ x∈cT ns,x.good fs:=by
  intro x hx
  obtain⟨m,hm,hx⟩:=List.mem_flatMap.1 hx
  exact(eP (h.ok m hm)).2.2 x hx
theorem lK (a b:List NT):cT (a++b)=cT a++cT b:=by simp [cT]
theorem Lst.tog {fs:Fs} {A B:List NT} {l n:NT} (h:Lst fs (A++l :: n :: B)):Lst fs (A++(iC l n++B))∧cT (A++(iC l n++B))=cT (A++l :: n :: B):=by
  obtain⟨sA,sB,sAB⟩:=List.pairwise_append.1 h.sep
  obtain⟨sl,sB⟩:=List.pairwise_cons.1 sB
  obtain⟨sn,sB⟩:=List.pairwise_cons.1 sB
  obtain⟨l1,l2,l3⟩:=eP (h.ok l (by simp))
  obtain⟨n1,n2,n3⟩:=eP (h.ok n (by simp))
  have hrise:cM (l.ents0++n.ents0):=qM.2 ⟨l2,n2,fun x hx y hy=>bZ (sl n (by simp) x hx) (h.lo n (by simp) y hy)⟩
  have hgood:∀ x∈l.ents0++n.ents0,x.good fs:=fun x hx=>(List.mem_append.1 hx).elim (l3 x) (n3 x)
  have hM:=nI hrise hgood
  refine⟨⟨?_,?_,?_⟩,?_⟩
  · intro m hm
    simp only [List.mem_append] at hm
    rcases hm with hm|hm|hm
    · exact h.ok m (by simp [hm])
    · exact hM.ok m hm
    · exact h.ok m (by simp [hm])
  · intro m hm
    simp only [List.mem_append] at hm
    rcases hm with hm|hm|hm
    · exact h.lo m (by simp [hm])
    · exact hM.lo m hm
    · exact h.lo m (by simp [hm])
  · refine List.pairwise_append.2 ⟨sA,List.pairwise_append.2 ⟨hM.sep,sB,fun m hm b hb x hx=>?_⟩,fun a ha m hm x hx=>?_⟩
    · rcases List.mem_append.1 (tU hgood m hm x hx) with hx|hx
      · exact sl b (by simp [hb]) x hx
      · exact sn b hb x hx
    · rcases List.mem_append.1 hm with hm|hm
      · obtain⟨y,hy,e⟩:=tT hgood m hm
        rw [e]
        rcases List.mem_append.1 hy with hy|hy
        · exact bZ (sAB a ha l (by simp) x hx) (h.lo l (by simp) y hy)
        · exact bZ (sAB a ha n (by simp) x hx) (h.lo n (by simp) y hy)
      · exact sAB a ha m (by simp [hm]) x hx
  · rw [lK,lK,lK]
    show _++(cT (cP _)++_)=_
    rw [fU hgood]
    simp [cT]
theorem Hb {fs:Fs} {ns:List NT} (h:Lst fs ns):Lst fs (gU iC ns)∧cT (gU iC ns)=cT ns :=
  nJ (J:=fun L=>Lst fs L∧cT L=cT ns) (fun _ _ _ _ hL=>⟨hL.1.tog.1,hL.1.tog.2.trans hL.2⟩) ⟨h,rfl⟩
theorem Sj {w:World} {o1 o2:Obj}:((w.alloc o1).alloc o2).heap[w.heap.size]?=some o1∧((w.alloc o1).alloc o2).heap[w.heap.size+1]?=some o2∧Below w.heap.size w ((w.alloc o1).alloc o2) :=
 ⟨aB _ (aA _ _),sE _ _ _ (by simp),(bA _ _).alloc (by simp) _⟩
theorem xU (root:Int) (β:Nat) (ca:Option Addr) (cn cc:Nat) (q:Sp) (w:World) :
  Calls Tryz.prog 74 #[.agg (tA β root ca cn cc),.agg #[.string q.lo,.string q.hi]] w fun e w' =>
   e=.returned (.func (.func 104) #[] #[.pointer (some ⟨w.heap.size,0,none⟩),.pointer (some ⟨w.heap.size+1,0,none⟩)]) ∧
   w'.heap[w.heap.size]?=some (.cells (tA β root ca cn cc) 95)∧w'.heap[w.heap.size+1]?=some (.cells #[.string q.lo,.string q.hi] 135)∧Below w.heap.size w w':=by
 have HR:∀ W4,W4=((w.alloc (.cells (tA β root ca cn cc) 95)).alloc (.cells #[.string q.lo,.string q.hi] 135)) →
   (W4.heap[w.heap.size]?=some (.cells (tA β root ca cn cc) 95)∧W4.heap[w.heap.size+1]?=some (.cells #[.string q.lo,.string q.hi] 135)∧Below w.heap.size w W4):=by
  rintro W4 rfl;exact Sj
 go_enter Tryz.func74,Tryz.ntmps74
 go_wp2
 go_ret
 exact⟨rfl,HR _ rfl⟩
theorem sS (gf:Nat) (lb:Array Value) (ca:Option Addr) (cn cc:Nat) (w:World) :
  Calls Tryz.prog 136 #[.func (.func gf) #[] lb,.slice ca cn cc] w fun e w' =>
   e=.returned (.func (.func 148) #[] #[.pointer (some ⟨w.heap.size+1,0,none⟩),.pointer (some ⟨w.heap.size,0,none⟩)]) ∧
   w'.heap[w.heap.size]?=some (.cells #[.func (.func gf) #[] lb] 132)∧w'.heap[w.heap.size+1]?=some (.cells #[.slice ca cn cc] 93)∧Below w.heap.size w w':=by
 have HR:∀ W4,W4=((w.alloc (.cells #[.func (.func gf) #[] lb] 132)).alloc (.cells #[.slice ca cn cc] 93)) →
   (W4.heap[w.heap.size]?=some (.cells #[.func (.func gf) #[] lb] 132)∧W4.heap[w.heap.size+1]?=some (.cells #[.slice ca cn cc] 93)∧Below w.heap.size w W4):=by
  rintro W4 rfl;exact Sj
 go_enter Tryz.func136,Tryz.ntmps136
 go_wp2
 go_ret
 exact⟨rfl,HR _ rfl⟩
theorem Kb (ea:Option Addr) (en ec:Nat) (w:World) :
  Calls Tryz.prog 176 #[.slice ea en ec] w fun e w' =>
   e=.returned (.func (.func 185) #[] #[.pointer (some ⟨w.heap.size,0,none⟩)]) ∧
   w'.heap[w.heap.size]?=some (.cells #[.slice ea en ec] 83)∧Below w.heap.size w w':=by
 have HR:∀ W4,W4=(w.alloc (.cells #[.slice ea en ec] 83))→(W4.heap[w.heap.size]?=some (.cells #[.slice ea en ec] 83)∧Below w.heap.size w W4):=by
  rintro W4 rfl;exact⟨aA _ _,bA _ _⟩
 go_enter Tryz.func176,Tryz.ntmps176
 go_wp2
 go_ret
 exact⟨rfl,HR _ rfl⟩
theorem iD {cs:List Ch} (h:cI cs) (q:Sp):cI (eD cs q):=List.Pairwise.filter _ h
theorem Zm (cs:List Ch) (q:Sp):(eD cs q).length≤cs.length:=List.length_filter_le _ _
def RdE (S:Bl) (β:Nat) (sv lv:Value) (w w':World):Bl:=fun k=>S k∨fpF β sv lv k∨(w.heap.size≤k∧k<w'.heap.size)
theorem Eh (β:Nat) (sv lv:Value) (fs:Fs) (hl:(fs.life==0)=false) (root:Nat) (ca:Option Addr) (cc:Nat) (cs:List Ch) (q:Sp) (o:Option (Nat×T)) (hro:aY fs root o) (S:Bl) (w wa wz:World) (hf:aD w β sv lv fs) (hR:aI w S ca (cs.flatMap Ch.cells)) (hS:∀ b,S b→b<w.heap.size) (hr:cI cs) (hn:cs.length≤1000000)
  (bt be:Nat) (xt:wa.heap[bt]?=some (.cells #[.pointer (some ⟨β,0,none⟩),.int .i64 root,.slice ca cs.length cc] 95)) (xq:wa.heap[bt+1]?=some (.cells #[.string q.lo,.string q.hi] 135)) (KA:Below wa.heap.size wa wz)
  (a:Option Addr) (c:Nat) (hcut:Jv S ca cs a c (eD cs q))
  (xe:wz.heap[be]?=some (.cells #[.func (.func 104) #[] #[.pointer (some ⟨bt,0,none⟩),.pointer (some ⟨bt+1,0,none⟩)]] 132)) (xc:wz.heap[be+1]?=some (.cells #[.slice a (eD cs q).length c] 93))
  (Kw:Below w.heap.size w wz) (hbt:w.heap.size≤bt) (hbe:w.heap.size≤be) :
  nX Tryz.prog 148 #[.pointer (some ⟨be+1,0,none⟩),.pointer (some ⟨be,0,none⟩)] pH (bI (cK q o) (eD cs q)) (RdE S β sv lv w wz) wz:=by
 have xt':=(KA.block bt (gL xt)).trans xt
 have xq':=(KA.block (bt+1) (gL xq)).trans xq
 have hf':=hf.on (vV Kw (fun k hk=>hf.lies k hk))
 have l1:=(gL xt')
 have l2:=(gL xq')
 have l3:=(gL xe)
 have l4:=(gL xc)
 have h1:=xT β sv lv fs hl root ca cs.length cc q o hro bt (bt+1) (RdE S β sv lv w wz) wz xt' xq' hf' (.inr (.inr ⟨hbt,l1⟩)) (.inr (.inr ⟨by omega,l2⟩)) (fun k hk=>.inr (.inl hk))
 exact Fx _ _ (enters_of Tryz.func104 (by kernel_rfl) rfl) _ _ (be+1) be a c (eD cs q) S (RdE S β sv lv w wz) wz h1 xc xe (hcut.2.1 _ (hR.on (vV Kw hS))) (iD hr q) (vJ (Zm cs q) hn) hcut.1 hcut.2.2 (.inr (.inr ⟨by omega,l4⟩)) (.inr (.inr ⟨hbe,l3⟩)) (fun k hk=>.inl hk) (fun k hk=>hk)
theorem dX {B:Nat} {W a wn:World} (hJ:Below B W a) (hW:B≤W.heap.size) (hbn:Below a.heap.size a wn):Below B W wn:=hJ.trans (hbn.mono (vJ hW hJ.size))
theorem vQ (β:Nat) (sv lv:Value) (fs:Fs) (hl:(fs.life==0)=false) (root:Nat) (ca:Option Addr) (cc:Nat) (cs:List Ch) (q:Sp) (o:Option (Nat×T)) (hro:aY fs root o) (S:Bl) (w:World) (hf:aD w β sv lv fs) (hR:aI w S ca (cs.flatMap Ch.cells)) (hS:∀ b,S b→b<w.heap.size) (hr:cI cs) (hn:cs.length≤1000000) (hc:cs.length≤cc) (hca:(ca=none∧cc=0)∨∃ b off,ca=some ⟨b,off,none⟩) :
  Calls Tryz.prog 110 #[.agg #[.pointer (some ⟨β,0,none⟩),.int .i64 root,.slice ca cs.length cc],.string q.lo,.string q.hi] w fun e w'=>∃ lb,e=.returned (.func (.func 148) #[] lb)∧nX Tryz.prog 148 lb pH (bI (cK q o) (eD cs q)) (RdE S β sv lv w w') w'∧Below w.heap.size w w':=by
 obtain⟨W1,hW1⟩:=nM (w.alloc (.cells #[.pointer (some ⟨β,0,none⟩),.int .i64 root,.slice ca cs.length cc] 95))
 have b1:Below w.heap.size w W1:=hW1▸(bA _ _)
 have x1:W1.heap[w.heap.size]?=some (.cells #[.pointer (some ⟨β,0,none⟩),.int .i64 root,.slice ca cs.length cc] 95):=hW1▸aA w _
 obtain⟨m0,m1,m2⟩:=dR x1
 have hWz:w.heap.size+1≤W1.heap.size:=(gL x1)
 have hJw:∀ W,Below (w.heap.size+1) W1 W→Below w.heap.size w W:=fun W h=>b1.trans (h.mono (Nat.le_succ _))
 have hA:=fun W=>xU root β ca cs.length cc q W
 have hB:=fun W (h:Below (w.heap.size+1) W1 W)=>Al ca cc cs q S W (hR.on (vV (hJw W h) hS)) (fun b hb=>jY (hS b hb) (hJw W h).size) hr hn hc hca
 have hC:=fun bt a n c W=>sS 104 #[.pointer (some ⟨bt,0,none⟩),.pointer (some ⟨bt+1,0,none⟩)] a n c W
 have HCL:=fun wa wz=>Eh β sv lv fs hl root ca cc cs q o hro S w wa wz hf hR hS hr hn
 have hJ:Below (w.heap.size+1) W1 W1:=Below.refl _ _
 clear hf hro hR hl
 go_enter Tryz.func110,Tryz.ntmps110
 go_wp2
 go_region_with (first
  | (go_at_call 74;refine(hA _).mono ?_;rintro e wa ⟨rfl,xt,xq,hbA⟩;have KA:Below wa.heap.size wa wa:=Below.refl _ _;have hJ:Below (w.heap.size+1) W1 wa:=(by first|exact dX hJ hWz hbA|exact dX hJ.drew hWz hbA|exact dX hJ.drew.drew hWz hbA);obtain⟨e0,e1,e2⟩:=dR ((hJ.block w.heap.size (Nat.lt_succ_self _)).trans x1))
  | (go_at_call 137;refine(hB _ (by first|exact hJ|exact hJ.drew|exact hJ.drew.drew)).mono ?_;rintro e wb ⟨a,c,rfl,hcut,hbB⟩;try (have KA:Below wa.heap.size wa wb:=(by first|exact dX KA (jU _) hbB|exact dX KA.drew (jU _) hbB|exact dX KA.drew.drew (jU _) hbB));have hJ:Below (w.heap.size+1) W1 wb:=(by first|exact dX hJ hWz hbB|exact dX hJ.drew hWz hbB|exact dX hJ.drew.drew hWz hbB);obtain⟨e0,e1,e2⟩:=dR ((hJ.block w.heap.size (Nat.lt_succ_self _)).trans x1))
  | (go_at_call 136;refine(hC _ _ _ _ _).mono ?_;rintro e wc ⟨rfl,xe,xc,hbC⟩;have KA:Below wa.heap.size wa wc:=(by first|exact dX KA (jU _) hbC|exact dX KA.drew (jU _) hbC|exact dX KA.drew.drew (jU _) hbC);have hJ:Below (w.heap.size+1) W1 wc:=(by first|exact dX hJ hWz hbC|exact dX hJ.drew hWz hbC|exact dX hJ.drew.drew hWz hbC)))
 all_goals go_wp2
 all_goals go_ret
 all_goals exact⟨_,rfl,HCL _ _ _ _ xt xq KA _ _ hcut xe xc (hJw _ hJ) (by first|exact b1.size|exact vJ b1.size hbB.size) (by first|exact vJ b1.size (vJ hbA.size hbB.size)|exact vJ b1.size (vJ hbB.size hbA.size)),hJw _ hJ⟩
def eR (x:T×Sp) (cs:List Ch):List NT:=match x.1 with
 | .leaf _ es=>if (eD cs x.2).length=0 then [.kept x.1 x.2] else cP (bI es (eD cs x.2))
 | .branch _ _ _=>[.kept x.1 x.2]
def Tl (s:Sp) (ks:List ByteArray) (kids:List T) (cs:List Ch):List NT:=gU iC ((parts s ks kids).flatMap (fun x=>eR x cs))
def Ch.good (c:Ch):Prop:=lt ⟨#[]⟩ c.key=true∧c.key.size≤24∧c.val.size≤400
variable {cs:List Ch}
theorem Ny {fs:Fs} {c:Ch} (h:c.good):(chE c).good fs:=⟨h.1,h.2.1,.inl ⟨rfl,rfl,rfl,h.2.2⟩⟩
theorem dG {es:List En}  (he:cM es) (hr:cI cs) (y:En):y∈bI es cs↔(∃ c∈cs,c.gone=false∧y=chE c)∨(y∈es∧∀ c∈cs,c.key≠y.e.key):=by
 rw [Fy];exact Iv es cs he hr y
theorem iP {es:List En}  (he:cM es) (hr:cI cs):cM (bI es cs):=by
 rw [Fy];exact Kv es cs he hr
theorem eU {fs:Fs} {es:List En}  (he:cM es) (hr:cI cs) (hg:∀ x∈es,x.good fs) (hc:∀ c∈cs,c.good):∀ y∈bI es cs,y.good fs:=by
 intro y hy
 rcases (dG he hr y).1 hy with⟨c,h1,_,rfl⟩|⟨h1,_⟩
 ·exact Ny (hc c h1)
 ·exact hg y h1
theorem rY {es:List En} (he:cM es):bI es []=es:=by
 apply Bc (iP he .nil) he
 intro y
 rw [dG he .nil]
 simp
theorem jL {q:Sp} {c:Ch}:c∈eD cs q↔c∈cs∧q.has c.key=true:=by simp [eD]
structure Si (fs:Fs) (x:Sp) (ns:List NT):Prop where
 lst:Lst fs ns
 keys:∀ y∈cT ns,x.has y.e.key=true
 los:∀ n∈ns,le x.lo n.sp.lo=true
theorem qCz {fs:Fs}  {es:List En} (hr:cM es) (hg:∀ y∈es,y.good fs) (hk:∀ y∈es,x.has y.e.key=true):Si fs x (cP es):=by
 refine⟨nI hr hg,?_,?_⟩
 ·rw [fU hg];exact hk
 ·intro n hn
  obtain⟨y,hy,e⟩:=tT hg n hn
  rw [e]
  have:=hk y hy
  simp only [Sp.has,Bool.and_eq_true] at this
  exact this.1
theorem zV {fs:Fs}    (ht:aT fs 0 t x) (hr:cI cs) (hc:∀ c∈cs,c.good):Si fs x (eR (t,x) cs)∧cT (eR (t,x) cs)=bI (T.ents 0 t) (eD cs x):=by
 cases t with
 | branch=>exact ht.elim
 | leaf p es =>
  have hre:cM es:=dD (h:=0) ht
  have hin:∀ y∈es,x.has y.e.key=true:=sI (h:=0) ht
  have hgd:=eX ht
  by_cases h0:(eD cs x).length=0
  ·have e:eR (.leaf p es,x) cs=[.kept (.leaf p es) x]:=by simp [eR,h0]
   rw [e]
   refine⟨⟨⟨?_,?_,by simp⟩,?_,?_⟩,?_⟩
   ·intro n hn;rw [List.mem_singleton] at hn;subst hn;exact ht
   ·intro n hn y hy;rw [List.mem_singleton] at hn;subst hn
    have:=hin y hy
    simp only [Sp.has,Bool.and_eq_true] at this
    exact this.1
   ·intro y hy;simp only [cT,List.flatMap_cons,List.flatMap_nil,List.append_nil] at hy;exact hin y hy
   ·intro n hn;rw [List.mem_singleton] at hn;subst hn;exact bG _
   ·rw [List.eq_nil_of_length_eq_zero h0]
    simp [cT,T.ents,rY hre,NT.ents0]
  ·have e:eR (.leaf p es,x) cs=cP (bI es (eD cs x)):=by simp [eR,h0]
   rw [e]
   have hro:=iD hr x
   have hg:=eU (fs:=fs) hre hro hgd (fun c h=>hc c (jL.1 h).1)
   refine⟨qCz (iP hre hro) hg ?_,fU hg⟩
   intro y hy
   rcases (dG hre hro y).1 hy with⟨c,h1,_,rfl⟩|⟨h1,_⟩
   ·exact(jL.1 h1).2
   ·exact hin y h1
theorem rH {fs:Fs} (f:T×Sp→List NT):∀ (l:List (T×Sp)),(∀ x∈l,Si fs x.2 (f x))→l.Pairwise (fun x y=>x.2.hi≠⟨#[]⟩∧le x.2.hi y.2.lo=true)→Lst fs (l.flatMap f)∧cT (l.flatMap f)=l.flatMap (fun x=>cT (f x))
 | [],_,_=>⟨⟨by simp,by simp,by simp⟩,rfl⟩
 | x :: l,h,hp=>by
  obtain⟨p1,p2⟩:=List.pairwise_cons.1 hp
  obtain⟨i1,i2⟩:=rH f l (fun y hy=>h y (by simp [hy])) p2
  have hx:=h x (by simp)
  rw [List.flatMap_cons,List.flatMap_cons]
  refine⟨⟨?_,?_,?_⟩,by rw [lK,i2]⟩
  ·intro n hn;rcases List.mem_append.1 hn with hn|hn
   ·exact hx.lst.ok n hn
   ·exact i1.ok n hn
  ·intro n hn;rcases List.mem_append.1 hn with hn|hn
   ·exact hx.lst.lo n hn
   ·exact i1.lo n hn
  ·refine List.pairwise_append.2 ⟨hx.lst.sep,i1.sep,fun a ha b hb y hy=>?_⟩
   obtain⟨z,hz,hb⟩:=List.mem_flatMap.1 hb
   have h1:=hx.keys y (List.mem_flatMap.2 ⟨a,ha,hy⟩)
   obtain⟨q1,q2⟩:=p1 z hz
   simp only [Sp.has,Bool.and_eq_true] at h1
   have h2:=eV.1 h1.2
   have h3:lt y.e.key x.2.hi=true:=h2.elim (fun h=>absurd h q1) id
   exact bZ (bZ h3 q2) ((h z (by simp [hz])).los b hb)
theorem yA:∀ (s:Sp) (ks:List ByteArray) (kids:List α),kids.length=ks.length+1→∀ k,s.has k=true→∃ x∈parts s ks kids,x.2.has k=true
 | s,_,[],hl,_,_=>by simp at hl
 | s,[],a :: kids,hl,k,hk=>⟨(a,s),by simp [parts],hk⟩
 | s,q :: ks,a :: kids,hl,k,hk=>by
  rcases Ln k q with h|h
  ·refine⟨(a,⟨s.lo,q⟩),by simp [parts],?_⟩
   simp only [Sp.has,Bool.and_eq_true] at hk ⊢
   exact⟨hk.1,eV.2 (.inr h)⟩
  ·obtain⟨x,hx,hx2⟩:=yA ⟨q,s.hi⟩ ks kids (by simpa using hl) k (by
    simp only [Sp.has,Bool.and_eq_true] at hk ⊢
    exact⟨h,hk.2⟩)
   exact⟨x,by simp [parts,hx],hx2⟩
theorem Ij (k:ByteArray):(⟨⟨#[]⟩,⟨#[]⟩⟩:Sp).has k=true:=by
 simp only [Sp.has,Bool.and_eq_true]
 exact⟨Bv k,eV.2 (.inl rfl)⟩
theorem Wn {fs:Fs}  {ks:List ByteArray} {kids:List T}  (ht:aT fs 1 (.branch p ks kids) ⟨⟨#[]⟩,⟨#[]⟩⟩) (hr:cI cs) (hc:∀ c∈cs,c.good) :
  Lst fs (Tl ⟨⟨#[]⟩,⟨#[]⟩⟩ ks kids cs)∧cT (Tl ⟨⟨#[]⟩,⟨#[]⟩⟩ ks kids cs)=bI (T.ents 1 (.branch p ks kids)) cs:=by
 have hrt:=dD ht
 obtain⟨hl,hp,hb,_,hall⟩:=fA ht
 have hpp:=kG _ ks kids hl hp hb
 have hk:=fun x hx=>zV (x:=x.2) (t:=x.1) (hall x hx) hr hc
 obtain⟨f1,f2⟩:=rH (fun x=>eR x cs) (parts ⟨⟨#[]⟩,⟨#[]⟩⟩ ks kids) (fun x hx=>(hk x hx).1) hpp
 obtain⟨j1,j2⟩:=Hb f1
 refine⟨j1,?_⟩
 show cT (gU iC _)=_
 apply Bc j1.rise (iP hrt hr)
 intro y
 rw [j2,f2,dG hrt hr]
 simp only [List.mem_flatMap,T.ents]
 constructor
 ·rintro⟨x,hx,hy⟩
  rw [(hk x hx).2] at hy
  have hxs:cM (T.ents 0 x.1):=dD (hall x hx)
  have hmem:x.1∈kids:=by
   have:x.1∈(parts ⟨⟨#[]⟩,⟨#[]⟩⟩ ks kids).map (·.1):=List.mem_map.2 ⟨x,hx,rfl⟩
   rwa [gG] at this
  rcases (dG hxs (iD hr x.2) y).1 hy with⟨c,h1,h2,rfl⟩|⟨h1,h2⟩
  ·exact .inl ⟨c,(jL.1 h1).1,h2,rfl⟩
  ·refine .inr ⟨⟨x.1,hmem,h1⟩,fun c hc e=>h2 c (jL.2 ⟨hc,?_⟩) e⟩
   rw [e];exact sI (hall x hx) y h1
 ·rintro(⟨c,h1,h2,rfl⟩|⟨⟨k,hk1,hy⟩,h2⟩)
  ·obtain⟨x,hx,hx2⟩:=yA ⟨⟨#[]⟩,⟨#[]⟩⟩ ks kids hl c.key (Ij _)
   refine⟨x,hx,?_⟩
   rw [(hk x hx).2]
   exact(dG (dD (hall x hx)) (iD hr x.2) _).2 (.inl ⟨c,jL.2 ⟨h1,hx2⟩,h2,rfl⟩)
  ·obtain⟨s',hs'⟩:=iZ (s:=⟨⟨#[]⟩,⟨#[]⟩⟩) (ks:=ks) hk1
   refine⟨(k,s'),hs',?_⟩
   rw [(hk _ hs').2]
   exact(dG (dD (hall _ hs')) (iD hr s') _).2 (.inr ⟨hy,fun c hc=>h2 c (jL.1 hc).1⟩)
def xN (K:List ByteArray) (n:NT):Prop:=(n.sp.lo=⟨#[]⟩∨n.sp.lo∈K)∧∀ x∈n.ents0,x.e.key∈K
theorem lG {fs:Fs}  {es:List En} (hg:∀ x∈es,x.good fs) (hK:∀ x∈es,x.e.key∈K):∀ n∈cP es,xN K n:=by
 intro n hn
 obtain⟨y,hy,e⟩:=tT hg n hn
 exact⟨.inr (by rw [e];exact hK y hy),fun x hx=>hK x (tU hg n hn x hx)⟩
theorem Yl {fs:Fs}  {A B:List NT} {l n:NT} (h:Lst fs (A++l :: n :: B)) (hK:∀ m∈A++l :: n :: B,xN K m):∀ m∈A++(iC l n++B),xN K m:=by
 intro m hm
 simp only [List.mem_append] at hm
 rcases hm with hm|hm|hm
 ·exact hK m (by simp [hm])
 ·refine lG (fs:=fs) (fun x hx=>?_) (fun x hx=>?_) m hm
  ·rcases List.mem_append.1 hx with hx|hx
   ·exact(eP (h.ok l (by simp))).2.2 x hx
   ·exact(eP (h.ok n (by simp))).2.2 x hx
  ·rcases List.mem_append.1 hx with hx|hx
   ·exact(hK l (by simp)).2 x hx
   ·exact(hK n (by simp)).2 x hx
 ·exact hK m (by simp [hm])
theorem Wr {fs:Fs}  {ns:List NT} (h:Lst fs ns) (hK:∀ m∈ns,xN K m):∀ m∈gU iC ns,xN K m :=
 (nJ (J:=fun L=>Lst fs L∧∀ m∈L,xN K m) (fun _ _ _ _ hL=>⟨hL.1.tog.1,Yl hL.1 hL.2⟩) ⟨h,hK⟩).2
def TIn (K:List ByteArray):Nat→T→Prop
 | _,.leaf _ es=>∀ x∈es,x.e.key∈K
 | 0,.branch _ _ _=>False
 | h+1,.branch _ ks kids=>(∀ k∈ks,k∈K)∧∀ t∈kids,TIn K h t
theorem Lf:∀ (s:Sp) (ks:List ByteArray) (kids:List α),kids.length=ks.length+1→∀ x∈parts s ks kids,x.2.lo=s.lo∨x.2.lo∈ks
 | s,_,[],hl=>by simp at hl
 | s,[],a :: kids,hl=>by
  have:kids=[]:=List.eq_nil_of_length_eq_zero (by simpa using hl)
  subst this
  simp [parts]
 | s,q :: ks,a :: kids,hl=>by
  intro x hx
  simp only [parts,List.mem_cons] at hx
  rcases hx with rfl|hx
  ·exact .inl rfl
  ·rcases Lf ⟨q,s.hi⟩ ks kids (by simpa using hl) x hx with h|h
   ·exact .inr (by rw [h];simp)
   ·exact .inr (by simp [h])
theorem Wo {fs:Fs}     (ht:aT fs 0 t x) (hr:cI cs) (hc:∀ c∈cs,c.good) (hcK:∀ c∈cs,c.key∈K) (htK:TIn K 0 t) (hx:x.lo=⟨#[]⟩∨x.lo∈K):∀ n∈eR (t,x) cs,xN K n:=by
 cases t with
 | branch=>exact ht.elim
 | leaf p es =>
  have hre:cM es:=dD (h:=0) ht
  have hgd:=eX ht
  by_cases h0:(eD cs x).length=0
  ·have e:eR (.leaf p es,x) cs=[.kept (.leaf p es) x]:=by simp [eR,h0]
   rw [e]
   intro n hn
   rw [List.mem_singleton] at hn;subst hn
   exact⟨hx,htK⟩
  ·have e:eR (.leaf p es,x) cs=cP (bI es (eD cs x)):=by simp [eR,h0]
   rw [e]
   have hro:=iD hr x
   refine lG (eU (fs:=fs) hre hro hgd (fun c h=>hc c (jL.1 h).1)) ?_
   intro y hy
   rcases (dG hre hro y).1 hy with⟨c,h1,_,rfl⟩|⟨h1,_⟩
   ·exact hcK c (jL.1 h1).1
   ·exact htK y h1
theorem Qp {fs:Fs}   {ks:List ByteArray} {kids:List T}  (ht:aT fs 1 (.branch p ks kids) ⟨⟨#[]⟩,⟨#[]⟩⟩) (hr:cI cs) (hc:∀ c∈cs,c.good) (hcK:∀ c∈cs,c.key∈K) (htK:TIn K 1 (.branch p ks kids)) :
  ∀ n∈Tl ⟨⟨#[]⟩,⟨#[]⟩⟩ ks kids cs,xN K n:=by
 obtain⟨hl,hp,hb,_,hall⟩:=fA ht
 have hpp:=kG _ ks kids hl hp hb
 have hk:=fun x hx=>zV (x:=x.2) (t:=x.1) (hall x hx) hr hc
 obtain⟨f1,f2⟩:=rH (fun x=>eR x cs) (parts ⟨⟨#[]⟩,⟨#[]⟩⟩ ks kids) (fun x hx=>(hk x hx).1) hpp
 refine Wr f1 ?_
 intro m hm
 obtain⟨x,hx,hm⟩:=List.mem_flatMap.1 hm
 have hmem:x.1∈kids:=by
  have:x.1∈(parts ⟨⟨#[]⟩,⟨#[]⟩⟩ ks kids).map (·.1):=List.mem_map.2 ⟨x,hx,rfl⟩
  rwa [gG] at this
 refine Wo (hall x hx) hr hc hcK (htK.2 _ hmem) ?_ m hm
 rcases Lf _ ks kids hl x hx with h|h
 ·exact .inl h
 ·exact .inr (htK.1 _ h)
theorem Ih [DecidableEq α] (f:α→Nat):∀ {l m:List α},l.Nodup→(∀ x∈l,x∈m)→tot f l≤tot f m
 | [],m,_,_=>Nat.zero_le _
 | x :: l,m,hn,hs=>by
  obtain⟨h1,h2⟩:=List.nodup_cons.1 hn
  have hm:=hs x (by simp)
  have hp:m.Perm (x :: m.erase x):=List.perm_cons_erase hm
  have e:tot f m=f x+tot f (m.erase x):=by
   have:=(hp.map f).sum_nat
   simpa [tot] using this
  have ih:=Ih f (l:=l) (m:=m.erase x) h2 (fun y hy=>by
   have hne:y≠x:=fun e=>h1 (e▸hy)
   exact(List.mem_erase_of_ne hne).2 (hs y (by simp [hy])))
  rw [gB,e];omega
theorem Sn (l:List α):tot (fun _=>1) l=l.length:=by
 induction l with
 | nil=>rfl
 | cons x l ih=>rw [gB,ih,jB];omega
theorem vG [DecidableEq α] {l m:List α} (hn:l.Nodup) (hs:∀ x∈l,x∈m):l.length≤m.length:=by
 have:=Ih (fun _=>1) hn hs
 rwa [Sn,Sn] at this
theorem Lst.los {fs:Fs} {ns:List NT} (h:Lst fs ns):(ns.map (fun n=>n.sp.lo)).Pairwise (fun a b=>lt a b=true):=by
 rw [List.pairwise_map]
 refine List.Pairwise.imp_of_mem ?_ h.sep
 intro a b ha hb hab
 obtain⟨x,hx⟩:=List.exists_mem_of_ne_nil _ (eP (h.ok a ha)).1
 exact fO (h.lo a ha x hx) (hab x hx)
theorem mC {l:List ByteArray} (h:l.Pairwise (fun a b=>lt a b=true)):l.Nodup:=List.Pairwise.imp (fun h=>Te h) h
theorem Lst.size {fs:Fs}  {ns:List NT} (h:Lst fs ns) (hK:∀ n∈ns,xN K n):tot zM ns≤3+tot (fun k:ByteArray=>k.size+3) K:=by
 have e:tot zM ns=tot (fun k:ByteArray=>k.size+3) (ns.map (fun n=>n.sp.lo)):=by rw [tot,tot,List.map_map];rfl
 rw [e]
 have:=Ih (fun k:ByteArray=>k.size+3) (l:=ns.map (fun n=>n.sp.lo)) (m:=⟨#[]⟩ :: K) (mC h.los) (fun x hx=>by
  obtain⟨n,hn,rfl⟩:=List.mem_map.1 hx
  rcases (hK n hn).1 with h|h
  ·simp [h]
  ·simp [h])
 rw [gB] at this
 exact this
theorem Lst.keys {fs:Fs} {ns:List NT} (h:Lst fs ns):((cT ns).map (fun x=>x.e.key)).Pairwise (fun a b=>lt a b=true):=by
 rw [List.pairwise_map];exact h.rise
theorem Lst.many {fs:Fs}  {ns:List NT} (h:Lst fs ns) (hK:∀ n∈ns,xN K n):(cT ns).length≤K.length:=by
 have:=vG (l:=(cT ns).map (fun x=>x.e.key)) (m:=K) (mC h.keys) (fun x hx=>by
  obtain⟨y,hy,rfl⟩:=List.mem_map.1 hx
  obtain⟨n,hn,hy⟩:=List.mem_flatMap.1 hy
  exact(hK n hn).2 y hy)
 simpa using this
theorem yP {α β:Type} (f:α→List β):∀ (l:List α),(∀ x∈l,f x≠[])→l.length≤(l.flatMap f).length
 | [],_=>by simp
 | x :: l,h=>by
  have h1:=List.length_pos_iff.2 (h x (by simp))
  have:=yP f l (fun y hy=>h y (by simp [hy]))
  rw [List.flatMap_cons,jK,jB];omega
theorem Lst.count {fs:Fs} {ns:List NT} (h:Lst fs ns):ns.length≤(cT ns).length:=yP _ _ (fun n hn=>(eP (h.ok n hn)).1)
def eT:List (Nat×Pg)→Nat
 | []=>0
 | x :: _=>x.1
def fV:Nat→ByteArray→List Nat→List (Nat×Pg)
 | 0,_,_=>[]
 | k+1,v,fr=>if v.size=0 then [] else
   (fr.getD (fV k (v.extract (min v.size 240) v.size) fr).length 0,fL (eT (fV k (v.extract (min v.size 240) v.size) fr)) (v.extract 0 (min v.size 240))) :: fV k (v.extract (min v.size 240) v.size) fr
theorem iR (k:Nat) (v:ByteArray) (fr:List Nat) (h:v.size=0):fV k v fr=[]:=by
 cases k with
 | zero=>rfl
 | succ k=>simp [fV,h]
theorem iS (k:Nat) (v:ByteArray) (fr:List Nat) (h:v.size≠0):fV (k+1) v fr=(fr.getD (fV k (v.extract (min v.size 240) v.size) fr).length 0,fL (eT (fV k (v.extract (min v.size 240) v.size) fr)) (v.extract 0 (min v.size 240))) :: fV k (v.extract (min v.size 240) v.size) fr:=by
 rw [fV,if_neg h]
theorem Cg:∀ (k:Nat) (v:ByteArray) (fr:List Nat),(fV k v fr).length≤k
 | 0,_,_=>jU _
 | k+1,v,fr=>by
  by_cases h:v.size=0
  ·rw [iR _ _ _ h];simp
  ·rw [iS _ _ _ h,jB]
   have:=Cg k (v.extract (min v.size 240) v.size) fr
   omega
theorem rA:∀ (k:Nat) (v:ByteArray) (fr:List Nat),(fV k v fr).length≤fr.length→(fV k v fr).reverse.map (·.1)=fr.take (fV k v fr).length
 | 0,_,_,_=>by simp [fV]
 | k+1,v,fr,hl=>by
  by_cases h:v.size=0
  ·rw [iR _ _ _ h];simp
  ·rw [iS _ _ _ h] at hl ⊢
   rw [jB] at hl ⊢
   have ih:=rA k (v.extract (min v.size 240) v.size) fr (by omega)
   rw [List.reverse_cons,List.map_append,ih,List.take_succ_eq_append_getElem (by omega)]
   simp [jQ (show (fV k (v.extract (min v.size 240) v.size) fr).length<fr.length by omega)]
theorem rB {k:Nat} {v:ByteArray}  (hl:(fV k v fr).length≤fr.length):∀ x∈fV k v fr,x.1∈fr:=by
 intro x hx
 have h1:x.1∈(fV k v fr).reverse.map (·.1):=List.mem_map.2 ⟨x,by simpa using hx,rfl⟩
 rw [rA k v fr hl] at h1
 exact List.mem_of_mem_take h1
theorem dQ (v:ByteArray) (a b:Nat) (hb:b≤v.size):(v.extract a b).size=b-a:=by
 simp only [ByteArray.size_extract];omega
theorem Ci {fs:Fs}:∀ (k:Nat) (v:ByteArray) (fr:List Nat),v.size≤240 * k→(∀ x∈fV k v fr,fs.has x.1 x.2∧x.1≠0)→dJ fs (eT (fV k v fr)) v.size (fV k v fr)
 | 0,v,fr,hv,_=>by
  have:v.size=0:=by omega
  simp [fV,dJ,this]
 | k+1,v,fr,hv,hx=>by
  by_cases h:v.size=0
  ·rw [iR _ _ _ h];exact h
  ·rw [iS _ _ _ h] at hx ⊢
   have hs1:(v.extract (min v.size 240) v.size).size=v.size-min v.size 240:=dQ _ _ _ (jU _)
   have hs0:(v.extract 0 (min v.size 240)).size=min v.size 240:=by rw [dQ _ _ _ (by omega)];omega
   have ih:=Ci k (v.extract (min v.size 240) v.size) fr (by omega) (fun x hx'=>hx x (by simp [hx']))
   refine⟨rfl,by omega,(hx _ (by simp)).1,rfl,hs0,_,rfl,?_,?_⟩
   ·show _↔v.size-(v.extract 0 (min v.size 240)).size=0
    rw [hs0]
    constructor
    ·intro h0
     cases hc:fV k (v.extract (min v.size 240) v.size) fr with
     | nil =>
      rw [hc] at ih
      have:(v.extract (min v.size 240) v.size).size=0:=ih
      omega
     | cons y l =>
      rw [hc] at h0
      exact absurd h0 (hx y (by rw [hc];simp)).2
    ·intro h0
     rw [iR _ _ _ (by omega)];rfl
   ·show dJ fs _ (v.size-(v.extract 0 (min v.size 240)).size) _
    rw [hs0,← hs1]
    exact ih
theorem Lv:∀ (k:Nat) (v:ByteArray) (fr:List Nat),(fV k v fr).length≤fr.length→(∀ p∈fr,aQ (p:Nat)=true)→∀ x∈fV k v fr,x.2.encE=0
 | 0,_,_,_,_,x,hx=>by simp [fV] at hx
 | k+1,v,fr,hl,hp,x,hx=>by
  by_cases h:v.size=0
  ·rw [iR _ _ _ h] at hx;simp at hx
  ·rw [iS _ _ _ h] at hl hx
   rw [jB] at hl
   rcases List.mem_cons.1 hx with rfl|hx
   ·have hs0:(v.extract 0 (min v.size 240)).size=min v.size 240:=by rw [dQ _ _ _ (by omega)];omega
    refine Ni _ _ ?_ (by rw [hs0];omega) (by rw [hs0];omega)
    cases hc:fV k (v.extract (min v.size 240) v.size) fr with
    | nil=>exact .inl rfl
    | cons y l =>
     refine .inr (hp _ (rB (k:=k) (v:=v.extract (min v.size 240) v.size) (by omega) y (by rw [hc];simp)))
   ·exact Lv k _ fr (by omega) hp x hx
def eH (ch:List (Nat×Pg)):List UInt8:=ch.flatMap (fun x=>x.2.data.data.toList)
theorem Gq:∀ (k:Nat) (v:ByteArray) (fr:List Nat),v.size≤240 * k→eH (fV k v fr)=v.data.toList
 | 0,v,fr,hv=>by
  have h0:v.size=0:=by omega
  rw [oI h0];rfl
 | k+1,v,fr,hv=>by
  by_cases h:v.size=0
  ·rw [iR _ _ _ h,oI h];rfl
  ·rw [iS _ _ _ h]
   have hs1:(v.extract (min v.size 240) v.size).size=v.size-min v.size 240:=dQ _ _ _ (jU _)
   have ih:=Gq k (v.extract (min v.size 240) v.size) fr (by omega)
   rw [eH,List.flatMap_cons]
   rw [eH] at ih
   rw [ih]
   show (v.extract 0 (min v.size 240)).data.toList++(v.extract (min v.size 240) v.size).data.toList=_
   rw [ByteArray.data_extract,ByteArray.data_extract,← Array.toList_append,Array.extract_append_extract]
   congr 1
   have h1:min 0 (min v.size 240)=0:=by omega
   have h2:max (min v.size 240) v.size=v.size:=by omega
   rw [h1,h2]
   exact Array.extract_eq_self_of_le (jU _)
def En.value (x:En):List UInt8:=if x.e.over=0 then x.e.val.data.toList else eH x.ch
def En.newB (x:En):Bool:=x.e.over==0&&decide (60<x.e.size)
def dH (x:En) (fr:List Nat):List (Nat×Pg):=if x.newB=true then fV 2 x.e.val fr else []
def mX (x:En) (fr:List Nat):En:=if x.newB=true then ⟨⟨x.e.key,⟨#[]⟩,x.e.size,eT (dH x fr)⟩,dH x fr⟩ else x
def aS:List En→List Nat→List En×List (Nat×Pg)
 | [],_=>([],[])
 | x :: es,fr=>(mX x fr :: (aS es (fr.drop (dH x fr).length)).1,(dH x fr).reverse++(aS es (fr.drop (dH x fr).length)).2)
theorem vH (x:En) (fr:List Nat):(mX x fr).e.key=x.e.key:=by unfold mX;split<;>rfl
theorem mN:∀ (es:List En) (fr:List Nat),(aS es fr).1.map (fun x=>x.e.key)=es.map (fun x=>x.e.key)
 | [],_=>rfl
 | x :: es,fr=>by simp only [aS,List.map_cons,vH,mN es]
theorem pV (es:List En) (fr:List Nat):(aS es fr).1.length=es.length:=by
 have:=congrArg List.length (mN es fr);simpa using this
theorem vM:∀ (es:List En) (fr:List Nat),(aS es fr).2.length≤fr.length→(aS es fr).2.map (·.1)=fr.take (aS es fr).2.length
 | [],_,_=>by simp [aS]
 | x :: es,fr,hl=>by
  simp only [aS,jK,List.length_reverse] at hl ⊢
  have hn:(dH x fr).reverse.map (·.1)=fr.take (dH x fr).length:=by
   unfold dH at hl ⊢
   split
   ·rename_i h;rw [if_pos h] at hl;exact rA 2 _ fr (by omega)
   ·simp
  have ih:=vM es (fr.drop (dH x fr).length) (by rw [List.length_drop];omega)
  rw [List.map_append,hn,ih,List.take_add]
theorem Yn (h:l.map (·.1)=fr.take l.length):∀ x∈l,x.1∈fr:=by
 intro x hx
 have h1:x.1∈l.map (·.1):=List.mem_map.2 ⟨x,hx,rfl⟩
 rw [h] at h1
 exact List.mem_of_mem_take h1
theorem pW {P:En→List Nat→Prop}:∀ (es:List En) (fr:List Nat),(aS es fr).2.length≤fr.length→∀ y∈(aS es fr).1,∃ x∈es,∃ f,(∀ p∈f,p∈fr)∧(dH x f).length≤f.length∧y=mX x f∧∀ z∈dH x f,z∈(aS es fr).2
 | [],_,_,y,hy=>by simp [aS] at hy
 | x :: es,fr,hl,y,hy=>by
  simp only [aS,jK,List.length_reverse,List.mem_cons] at hl hy
  rcases hy with rfl|hy
  ·exact⟨x,by simp,fr,fun p hp=>hp,by omega,rfl,fun z hz=>by simp [aS,hz]⟩
  ·obtain⟨x',h1,f,h2,h3,h4,h5⟩:=pW (P:=P) es (fr.drop (dH x fr).length) (by rw [List.length_drop];omega) y hy
   exact⟨x',by simp [h1],f,fun p hp=>List.mem_of_mem_drop (h2 p hp),h3,h4,fun z hz=>by simp [aS,h5 z hz]⟩
theorem Gw:∀ (es:List En) (fr:List Nat),(aS es fr).2.length≤fr.length→(∀ p∈fr,aQ (p:Nat)=true)→∀ x∈(aS es fr).2,x.2.encE=0
 | [],_,_,_,x,hx=>by simp [aS] at hx
 | x :: es,fr,hl,hp,y,hy=>by
  simp only [aS,jK,List.length_reverse,List.mem_append,List.mem_reverse] at hl hy
  rcases hy with hy|hy
  ·unfold dH at hy hl
   split at hy
   ·rename_i h;rw [if_pos h] at hl;exact Lv 2 _ fr (by omega) hp y hy
   ·simp at hy
  ·exact Gw es (fr.drop (dH x fr).length) (by rw [List.length_drop];omega) (fun p h=>hp p (List.mem_of_mem_drop h)) y hy
theorem oV {fs:Fs} {x:En} (h:x.good fs) (hn:x.newB=true):x.e.size=(x.e.val.size:Int)∧x.e.val.size≤400∧60<x.e.val.size∧x.ch=[]:=by
 simp only [En.newB,Bool.and_eq_true,beq_iff_eq,decide_eq_true_eq] at hn
 obtain⟨_,_,h|⟨_,h1,sz,ov,_,h2,_⟩⟩:=h
 ·exact⟨h.2.2.1,h.2.2.2,by omega,h.2.1⟩
 ·rw [hn.1] at h1;simp [aQ] at h1
theorem qAg (x:En) (fr:List Nat):esz (mX x fr)=esz x:=by
 unfold mX
 split
 ·rename_i h
  simp only [En.newB,Bool.and_eq_true,beq_iff_eq,decide_eq_true_eq] at h
  unfold esz
  simp only
  rw [if_pos h.2,if_pos h.2]
 ·rfl
theorem Bz {fs:Fs} {x:En} (h:x.good fs) (hn:x.newB=true) (fr:List Nat):dH x fr≠[]:=by
 obtain⟨_,_,h3,_⟩:=oV h hn
 rw [dH,if_pos hn,iS _ _ _ (by omega)]
 simp
theorem tY {ch:List (Nat×Pg)} (h:ch≠[]):∃ y∈ch,eT ch=y.1:=by
 cases ch with
 | nil=>exact absurd rfl h
 | cons y l=>exact⟨y,by simp,rfl⟩
theorem eO (h:aQ (p:Nat)=true):2≤p∧p<4096:=by
 simp only [aQ,Bool.and_eq_true,decide_eq_true_eq] at h;omega
theorem Qh {fs:Fs} {x:En} (h:x.good fs) (fr:List Nat) (hl:(dH x fr).length≤fr.length) (hp:∀ p∈fr,aQ (p:Nat)=true):nY (mX x fr).e.val (mX x fr).e.size (mX x fr).e.over=true:=by
 unfold mX
 by_cases hn:x.newB=true
 ·rw [if_pos hn]
  obtain⟨h1,h2,h3,_⟩:=oV h hn
  obtain⟨y,hy,e⟩:=tY (Bz h hn fr)
  have hm:y.1∈fr:=by
   rw [dH,if_pos hn] at hy hl
   exact rB hl y hy
  simp only [nY,Bool.or_eq_true,Bool.and_eq_true,beq_iff_eq,decide_eq_true_eq]
  refine .inr ⟨⟨⟨?_,lT.2 rfl⟩,by omega⟩,by omega⟩
  rw [e];exact hp _ hm
 ·rw [if_neg hn]
  simp only [En.newB,Bool.and_eq_true,beq_iff_eq,decide_eq_true_eq,not_and,Int.not_lt] at hn
  simp only [nY,Bool.or_eq_true,Bool.and_eq_true,beq_iff_eq,decide_eq_true_eq]
  obtain⟨_,_,⟨h1,h2,h3,h4⟩|⟨h1,h2,sz,ov,h3,h4,h5,h6,_⟩⟩:=h
  ·exact .inl ⟨⟨h1,by have:=hn h1;omega⟩,h3⟩
  ·exact .inr ⟨⟨⟨h2,lT.2 h1⟩,by omega⟩,by omega⟩
theorem nP {fs fs':Fs}:∀ {l:List (Nat×Pg)} {p r:Nat},dJ fs p r l→(∀ x∈l,∀ g,fs.has x.1 g→fs'.has x.1 g)→dJ fs' p r l
 | [],_,_,h,_=>h
 | x :: l,p,r,h,hs=>by
  obtain⟨a1,a2,a3,a4,a5,nx,a6,a7,a8⟩:=h
  refine⟨a1,a2,?_,a4,a5,nx,a6,a7,nP a8 (fun y hy=>hs y (by simp [hy]))⟩
  rw [← a1] at a3 ⊢
  exact hs x (by simp) _ a3
theorem qDa {fs fs':Fs} {x:En} (h:x.good fs) (fr:List Nat) (hl:(dH x fr).length≤fr.length) (hp:∀ p∈fr,aQ (p:Nat)=true) (hw:∀ y∈dH x fr,fs'.has y.1 y.2) (hs:∀ p∈x.pages,∀ g,fs.has p g→fs'.has p g):(mX x fr).ok fs':=by
 unfold mX
 by_cases hn:x.newB=true
 ·rw [if_pos hn]
  obtain⟨h1,h2,h3,_⟩:=oV h hn
  have hpl:∀ y∈dH x fr,y.1≠0:=fun y hy=>by
   rw [dH,if_pos hn] at hy hl
   have:=eO (hp _ (rB hl y hy));omega
  obtain⟨y,hy,e⟩:=tY (Bz h hn fr)
  refine⟨x.e.val.size,eT (dH x fr),h1,rfl,h2,.inr ⟨by rw [e];have:=hpl y hy;omega,?_⟩⟩
  rw [dH,if_pos hn] at hw hpl ⊢
  exact Ci 2 x.e.val fr (by omega) (fun y hy=>⟨hw y hy,hpl y hy⟩)
 ·rw [if_neg hn]
  obtain⟨_,_,⟨h1,h2,h3,h4⟩|⟨h1,h2,sz,ov,h3,h4,h5,h6,h7⟩⟩:=h
  ·exact⟨x.e.val.size,0,h3,h1,h4,.inl ⟨rfl,h2⟩⟩
  ·refine⟨sz,ov,h3,h4,h6,.inr ⟨?_,nP h7 (fun y hy=>hs y.1 (List.mem_map.2 ⟨y,hy,rfl⟩))⟩⟩
   rw [h4] at h2
   have:=eO h2;omega
theorem Qg {fs:Fs} {x:En} (h:x.good fs) (fr:List Nat) (hl:(dH x fr).length≤fr.length) (hp:∀ p∈fr,aQ (p:Nat)=true):(mX x fr).value=x.value:=by
 unfold mX
 by_cases hn:x.newB=true
 ·rw [if_pos hn]
  obtain⟨h1,h2,h3,_⟩:=oV h hn
  obtain⟨y,hy,e⟩:=tY (Bz h hn fr)
  have hm:2≤y.1:=by
   rw [dH,if_pos hn] at hy hl
   exact(eO (hp _ (rB hl y hy))).1
  have h0:x.e.over=0:=by
   simp only [En.newB,Bool.and_eq_true,beq_iff_eq] at hn;exact hn.1
  unfold En.value
  rw [if_pos h0]
  simp only
  rw [if_neg (by rw [e];omega),dH,if_pos hn]
  exact Gq 2 _ fr (by omega)
 ·rw [if_neg hn]
def dI:NT→List Nat→T×List (Nat×Pg)
 | .kept t _,_=>(t,[])
 | .leaf _ es,fr=>(.leaf (fr.getD (aS es fr).2.length 0) (aS es fr).1,(aS es fr).2++[(fr.getD (aS es fr).2.length 0,eF (aS es fr).1)])
 | .bran _ _,_=>(.leaf 0 [],[])
def aV:List NT→List Nat→List T×List (Nat×Pg)
 | [],_=>([],[])
 | n :: ns,fr=>((dI n fr).1 :: (aV ns (fr.drop (dI n fr).2.length)).1,(dI n fr).2++(aV ns (fr.drop (dI n fr).2.length)).2)
def fW (ns:List NT) (fr:List Nat):T×List (Nat×Pg) :=
 (.branch (fr.getD (aV ns fr).2.length 0) (ns.tail.map (fun n=>n.sp.lo)) (aV ns fr).1,
  (aV ns fr).2++[(fr.getD (aV ns fr).2.length 0,eI (ns.tail.map (fun n=>n.sp.lo)) ((aV ns fr).1.map T.place))])
theorem yM (n:NT) (fr:List Nat) (hl:(dI n fr).2.length≤fr.length):(dI n fr).2.map (·.1)=fr.take (dI n fr).2.length:=by
 cases n with
 | kept=>simp [dI]
 | bran=>simp [dI]
 | leaf s es =>
  simp only [dI,jK,List.length_singleton] at hl ⊢
  rw [List.map_append,vM es fr (by omega),List.take_succ_eq_append_getElem (by omega)]
  simp [jQ (show (aS es fr).2.length<fr.length by omega)]
theorem vI:∀ (ns:List NT) (fr:List Nat),(aV ns fr).2.length≤fr.length→(aV ns fr).2.map (·.1)=fr.take (aV ns fr).2.length
 | [],_,_=>by simp [aV]
 | n :: ns,fr,hl=>by
  simp only [aV,jK] at hl ⊢
  rw [List.map_append,yM n fr (by omega),vI ns (fr.drop (dI n fr).2.length) (by rw [List.length_drop];omega),List.take_add]
theorem Me (ns:List NT) (fr:List Nat) (hl:(fW ns fr).2.length≤fr.length):(fW ns fr).2.map (·.1)=fr.take (fW ns fr).2.length:=by
 simp only [fW,jK,List.length_singleton] at hl ⊢
 rw [List.map_append,vI ns fr (by omega),List.take_succ_eq_append_getElem (by omega)]
 simp [jQ (show (aV ns fr).2.length<fr.length by omega)]
theorem dM:∀ (ns:List NT) (fr:List Nat),(aV ns fr).1.length=ns.length
 | [],_=>rfl
 | n :: ns,fr=>by simp [aV,dM ns]
theorem vK:∀ (ns:List NT) (fr:List Nat) (j:Nat) (hj:j<ns.length),(aV ns fr).2.length≤fr.length→∃ f,(∀ p∈f,p∈fr)∧(dI ns[j] f).2.length≤f.length∧(aV ns fr).1[j]?=some (dI ns[j] f).1∧∀ y∈(dI ns[j] f).2,y∈(aV ns fr).2
 | [],_,j,hj,_=>by simp at hj
 | n :: ns,fr,j,hj,hl=>by
  simp only [aV,jK] at hl ⊢
  cases j with
  | zero=>exact⟨fr,fun p hp=>hp,by simp;omega,by simp,fun y hy=>by simp at hy;simp [hy]⟩
  | succ j =>
   obtain⟨f,h1,h2,h3,h4⟩:=vK ns (fr.drop (dI n fr).2.length) j (by simpa using hj) (by rw [List.length_drop];omega)
   exact⟨f,fun p hp=>List.mem_of_mem_drop (h1 p hp),by simpa using h2,by simpa using h3,fun y hy=>by simp at hy;simp [h4 y hy]⟩
structure Laid (fs fs':Fs) (Z:List Nat) (ws:List (Nat×Pg)):Prop where
 has:∀ y∈ws,fs'.has y.1 y.2
 keep:∀ p g,p ∉ Z→fs.has p g→fs'.has p g
theorem Uy {l m:List En} (h:l.map (fun x=>x.e.key)=m.map (fun x=>x.e.key)) (hm:cM m):cM l:=by
 have h1:(m.map (fun x=>x.e.key)).Pairwise (fun a b=>lt a b=true):=by rw [List.pairwise_map];exact hm
 rw [← h,List.pairwise_map] at h1
 exact h1
theorem Mg {l m:List En} (h:l.map (fun x=>x.e.key)=m.map (fun x=>x.e.key)) {y:En} (hy:y∈l):∃ x∈m,x.e.key=y.e.key:=by
 have:y.e.key∈m.map (fun x=>x.e.key):=by rw [← h];exact List.mem_map.2 ⟨y,hy,rfl⟩
 obtain⟨x,hx,e⟩:=List.mem_map.1 this
 exact⟨x,hx,e⟩
theorem Gv:∀ (es:List En) (fr:List Nat),tot esz (aS es fr).1=tot esz es
 | [],_=>rfl
 | x :: es,fr=>by simp only [aS,gB,qAg,Gv es]
theorem Cl {fs:Fs} {n:NT} (h:Ok0 fs n) (fr:List Nat) (hl:(dI n fr).2.length≤fr.length) (hp:∀ p∈fr,aQ (p:Nat)=true):∀ y∈(dI n fr).2,y.2.encE=0:=by
 cases n with
 | kept=>simp [dI]
 | bran=>exact h.elim
 | leaf s es =>
  obtain⟨h1,h2,h3,h4,h5⟩:=h
  simp only [dI,jK,List.length_singleton] at hl ⊢
  intro y hy
  rcases List.mem_append.1 hy with hy|hy
  ·exact Gw es fr (by omega) hp y hy
  ·rw [List.mem_singleton] at hy
   subst hy
   have hk:=mN es fr
   refine qBc _ ?_ (Uy hk h3) ?_ (by rw [Gv];exact h4)
   ·intro e
    have:=congrArg List.length hk
    rw [e] at this
    simp at this
    exact h1 (List.eq_nil_of_length_eq_zero this.symm)
   ·intro y hy
    obtain⟨x,hx,f,hf,hfl,rfl,_⟩:=pW (P:=fun _ _=>True) es fr (by omega) y hy
    have hg:=h5 x hx
    rw [vH]
    exact⟨hg.1,hg.2.1,Qh hg f hfl (fun p h=>hp p (hf p h))⟩
theorem aT.in0 {fs:Fs}  {s s':Sp} (h:aT fs 0 t s) (hs:∀ x∈T.ents 0 t,s'.has x.e.key=true):aT fs 0 t s':=by
 cases t with
 | branch=>exact h.elim
 | leaf p es =>
  obtain⟨g,a1,a2,a3,a4,_,a6⟩:=h
  exact⟨g,a1,a2,a3,a4,hs,a6⟩
theorem Ii {fs fs':Fs}   (h:aT fs 0 t s) (hk:∀ p∈T.pages 0 t,∀ g,fs.has p g→fs'.has p g):aT fs' 0 t s:=by
 cases t with
 | branch=>exact h.elim
 | leaf p es =>
  obtain⟨g,a1,a2,a3,a4,a5,a6⟩:=h
  refine⟨g,hk p (by simp [T.pages]) g a1,a2,a3,a4,a5,fun x hx=>?_⟩
  obtain⟨sz,ov,b1,b2,b3,b4⟩:=a6 x hx
  refine⟨sz,ov,b1,b2,b3,b4.imp id (fun ⟨c1,c2⟩=>⟨c1,nP c2 (fun y hy=>hk y.1 ?_)⟩)⟩
  simp only [T.pages,List.mem_cons,List.mem_flatMap]
  exact .inr ⟨x,hx,List.mem_map.2 ⟨y,hy,rfl⟩⟩
def NT.pages0:NT→List Nat
 | .kept t _=>T.pages 0 t
 | .leaf _ es=>es.flatMap En.pages
 | .bran _ _=>[]
variable {n:NT} {ns:List NT}
theorem yL {fs fs':Fs}  {Z fr f:List Nat} {ws:List (Nat×Pg)} (L:Laid fs fs' Z ws) (h:Ok0 fs n) (hf:∀ p∈f,p∈fr) (hl:(dI n f).2.length≤f.length) (hp:∀ p∈fr,aQ (p:Nat)=true) (hw:∀ y∈(dI n f).2,y∈ws) (ha:∀ p∈n.pages0,p ∉ Z) (s:Sp) (hs:∀ x∈n.ents0,s.has x.e.key=true) :
  aT fs' 0 (dI n f).1 s∧aQ ((dI n f).1.place:Nat)=true∨aT fs' 0 (dI n f).1 s∧∃ t sp,n=.kept t sp:=by
 cases n with
 | bran=>exact h.elim
 | kept t sp =>
  refine .inr ⟨?_,t,sp,rfl⟩
  cases t with
  | branch=>exact h.elim
  | leaf p es =>
   have h0:aT fs 0 (.leaf p es) sp:=h
   exact(Ii h0 (fun q hq g hg=>L.keep q g (ha q hq) hg)).in0 hs
 | leaf sp es =>
  obtain⟨h1,h2,h3,h4,h5⟩:=h
  simp only [dI,jK,List.length_singleton] at hl hw ⊢
  have hm:f.getD (aS es f).2.length 0∈f:=by
   rw [List.getD_eq_getElem?_getD,jQ (by omega)]
   exact List.getElem_mem _
  refine .inl ⟨⟨eF (aS es f).1,L.has (f.getD (aS es f).2.length 0,eF (aS es f).1) (hw _ (List.mem_append_right _ (List.mem_singleton.2 rfl))),rfl,rfl,?_,?_,?_⟩,hp _ (hf _ hm)⟩
  ·intro e
   have:=pV es f
   rw [e] at this
   exact h1 (List.eq_nil_of_length_eq_zero this.symm)
  ·intro y hy
   obtain⟨x,hx,e⟩:=Mg (mN es f) hy
   rw [← e];exact hs x hx
  ·intro y hy
   obtain⟨x,hx,f',hf',hfl,rfl,hz⟩:=pW (P:=fun _ _=>True) es f (by omega) y hy
   refine qDa (h5 x hx) f' hfl (fun p h=>hp p (hf p (hf' p h))) (fun z hzz=>L.has _ (hw _ (by simp [hz z hzz]))) ?_
   intro p hpp g hg
   exact L.keep p g (ha p (List.mem_flatMap.2 ⟨x,hx,hpp⟩)) hg
theorem Ck {fs:Fs}  (h:Ok0 fs n) (hkp:∀ t sp,n=.kept t sp→aQ (t.place:Nat)=true) (f:List Nat) (hl:(dI n f).2.length≤f.length) (hp:∀ p∈f,aQ (p:Nat)=true):aQ ((dI n f).1.place:Nat)=true:=by
 cases n with
 | bran=>exact h.elim
 | kept t sp=>exact hkp t sp rfl
 | leaf sp es =>
  simp only [dI,jK,List.length_singleton] at hl ⊢
  have hm:f.getD (aS es f).2.length 0∈f:=by
   rw [List.getD_eq_getElem?_getD,jQ (by omega)]
   exact List.getElem_mem _
  exact hp _ hm
theorem Gt {fs:Fs}:∀ (ns:List NT) (fr:List Nat),(∀ n∈ns,Ok0 fs n)→(aV ns fr).2.length≤fr.length→(∀ p∈fr,aQ (p:Nat)=true)→∀ y∈(aV ns fr).2,y.2.encE=0
 | [],_,_,_,_=>by simp [aV]
 | n :: ns,fr,ho,hl,hp=>by
  simp only [aV,jK] at hl ⊢
  intro y hy
  rcases List.mem_append.1 hy with hy|hy
  ·exact Cl (ho n (by simp)) fr (by omega) hp y hy
  ·exact Gt ns (fr.drop (dI n fr).2.length) (fun m hm=>ho m (by simp [hm])) (by rw [List.length_drop];omega) (fun p h=>hp p (List.mem_of_mem_drop h)) y hy
theorem Lx {fs:Fs}   (ho:∀ n∈ns,Ok0 fs n) (hkp:∀ n∈ns,∀ t sp,n=.kept t sp→aQ (t.place:Nat)=true) (hl:(aV ns fr).2.length≤fr.length) (hp:∀ p∈fr,aQ (p:Nat)=true):∀ t∈(aV ns fr).1,aQ (t.place:Nat)=true:=by
 intro t ht
 obtain⟨j,hj,rfl⟩:=List.getElem_of_mem ht
 rw [dM] at hj
 obtain⟨f,h1,h2,h3,_⟩:=vK ns fr j hj hl
 have h4:=List.getElem?_eq_some_iff.1 h3
 obtain⟨h5,h6⟩:=h4
 rw [h6]
 exact Ck (ho _ (List.getElem_mem _)) (hkp _ (List.getElem_mem _)) f h2 (fun p h=>hp p (h1 p h))
theorem Lst.tail_los {fs:Fs}   (h:Lst fs (n :: ns)):(ns.map (fun n=>n.sp.lo)).Pairwise (fun a b=>lt a b=true)∧∀ k∈ns.map (fun n=>n.sp.lo),lt ⟨#[]⟩ k=true:=by
 have h0:=h.los
 rw [List.map_cons] at h0
 obtain⟨h1,h2⟩:=List.pairwise_cons.1 h0
 exact⟨h2,fun k hk=>fO (Bv _) (h1 k hk)⟩
theorem qCh (ns:List NT):2 * ns.length+tot (fun k:ByteArray=>k.size+1) (ns.map (fun n=>n.sp.lo))=tot zM ns:=by
 induction ns with
 | nil=>rfl
 | cons n ns ih=>rw [List.map_cons,gB,gB,jB];unfold zM at *;omega
theorem qAh {fs:Fs}   (h:Lst fs (n :: ns)) (hne:ns≠[]) (h24:∀ m∈n :: ns,m.sp.lo.size≤24) (hkp:∀ m∈n :: ns,∀ t sp,m=.kept t sp→aQ (t.place:Nat)=true) (hs:tot zM (n :: ns)≤250) (fr:List Nat) (hl:(fW (n :: ns) fr).2.length≤fr.length) (hp:∀ p∈fr,aQ (p:Nat)=true):∀ y∈(fW (n :: ns) fr).2,y.2.encE=0:=by
 simp only [fW,jK,List.length_singleton] at hl ⊢
 intro y hy
 rcases List.mem_append.1 hy with hy|hy
 ·exact Gt _ fr h.ok (by omega) hp y hy
 ·rw [List.mem_singleton] at hy
  subst hy
  obtain⟨t1,t2⟩:=h.tail_los
  refine qBd _ _ ?_ ?_ t1 ?_ ?_ ?_
  ·simpa using hne
  ·simp [dM]
  ·intro k hk
   refine⟨t2 k hk,?_⟩
   simp only [List.tail_cons] at hk
   obtain⟨m,hm,rfl⟩:=List.mem_map.1 hk
   exact h24 m (by simp [hm])
  ·intro p hpp
   obtain⟨t,ht,rfl⟩:=List.mem_map.1 hpp
   exact Lx h.ok hkp (by omega) hp t ht
  ·rw [List.length_map,dM,List.tail_cons,jB]
   have e1:=qCh ns
   rw [gB] at hs
   unfold zM at hs e1
   omega
theorem Lst.has {fs:Fs}  (h:Lst fs ns) (j:Nat) (hj:j<ns.length):∀ x∈(ns[j]).ents0,(⟨iV ⟨⟨#[]⟩,⟨#[]⟩⟩ (ns.tail.map (fun n=>n.sp.lo)) j,iH ⟨⟨#[]⟩,⟨#[]⟩⟩ (ns.tail.map (fun n=>n.sp.lo)) j⟩:Sp).has x.e.key=true:=by
 intro x hx
 simp only [Sp.has,Bool.and_eq_true]
 have hlo:=h.lo ns[j] (List.getElem_mem _) x hx
 constructor
 ·unfold iV
  split
  ·exact Bv _
  ·rename_i h0
   have e:(ns.tail.map (fun n=>n.sp.lo))[j-1]?=some (ns[j]).sp.lo:=by
    rw [List.getElem?_map,List.getElem?_tail,show j-1+1=j by omega,jQ hj];rfl
   rw [e];exact hlo
 ·unfold iH
  rw [List.getElem?_map,List.getElem?_tail]
  by_cases h1:j+1<ns.length
  ·rw [jQ h1]
   refine eV.2 (.inr ?_)
   exact(List.pairwise_iff_getElem.1 h.sep j (j+1) hj h1 (by omega)) x hx
  ·rw [List.getElem?_eq_none (by omega)]
   exact eV.2 (.inl rfl)
theorem Md {fs fs':Fs}    (h:Lst fs (n :: ns)) (hne:ns≠[]) (L:Laid fs fs' Z (fW (n :: ns) fr).2) (hl:(fW (n :: ns) fr).2.length≤fr.length) (hp:∀ p∈fr,aQ (p:Nat)=true) (ha:∀ m∈n :: ns,∀ p∈m.pages0,p ∉ Z) :
  aT fs' 1 (fW (n :: ns) fr).1 ⟨⟨#[]⟩,⟨#[]⟩⟩∧aQ ((fW (n :: ns) fr).1.place:Nat)=true:=by
 simp only [fW,jK,List.length_singleton] at hl L ⊢
 have hm:fr.getD (aV (n :: ns) fr).2.length 0∈fr:=by
  rw [List.getD_eq_getElem?_getD,jQ (by omega)]
  exact List.getElem_mem _
 obtain⟨t1,t2⟩:=h.tail_los
 have hlen:0<ns.length:=List.length_pos_iff.2 hne
 refine⟨⟨eI (ns.map (fun n=>n.sp.lo)) ((aV (n :: ns) fr).1.map T.place),L.has (fr.getD (aV (n :: ns) fr).2.length 0,eI (ns.map (fun n=>n.sp.lo)) ((aV (n :: ns) fr).1.map T.place)) (List.mem_append_right _ (List.mem_singleton.2 rfl)),rfl,rfl,?_,?_,⟨by simpa using hlen,?_,Ij _⟩,?_⟩,hp _ hm⟩
 ·simp [eI]
 ·simp [dM]
 ·exact t2 _ (List.getElem_mem _)
 ·intro x hx
  obtain⟨j,hj,e⟩:=List.getElem_of_mem hx
  rw [dB,dM] at hj
  have hat:=fK ⟨⟨#[]⟩,⟨#[]⟩⟩ ((n :: ns).tail.map (fun n=>n.sp.lo)) (aV (n :: ns) fr).1 j (by rw [dM];exact hj)
  have e2:x=((aV (n :: ns) fr).1[j]'(by rw [dM];exact hj),⟨iV ⟨⟨#[]⟩,⟨#[]⟩⟩ ((n :: ns).tail.map (fun n=>n.sp.lo)) j,iH ⟨⟨#[]⟩,⟨#[]⟩⟩ ((n :: ns).tail.map (fun n=>n.sp.lo)) j⟩):=by
   have h1:=List.getElem?_eq_some_iff.1 hat
   obtain⟨_,h2⟩:=h1
   rw [← e,← h2]
  obtain⟨f,h1,h2,h3,h4⟩:=vK (n :: ns) fr j hj (by omega)
  obtain⟨h5,h6⟩:=List.getElem?_eq_some_iff.1 h3
  rw [e2,h6]
  rcases yL L (h.ok _ (List.getElem_mem hj)) h1 h2 hp (fun y hy=>List.mem_append_left _ (h4 y hy)) (ha _ (List.getElem_mem hj)) _ (h.has j hj) with h|h
  ·exact h.1
  ·exact h.1
def cG (o:Option (Nat×T)) (cs:List Ch):List NT:=match o with
 | none=>cP (bI [] cs)
 | some (_,.leaf _ es)=>cP (bI es cs)
 | some (_,.branch _ ks kids)=>Tl ⟨⟨#[]⟩,⟨#[]⟩⟩ ks kids cs
def gQ:Option (Nat×T)→Prop
 | none=>True
 | some (h,_)=>h≤1
def qDu (K:List ByteArray):Option (Nat×T)→Prop
 | none=>True
 | some (h,t)=>TIn K h t
theorem iL {fs:Fs}   (hro:aY fs root o) (hf:gQ o):o=none∨(∃ p es,o=some (0,.leaf p es)∧aT fs 0 (.leaf p es) ⟨⟨#[]⟩,⟨#[]⟩⟩)∨∃ p ks kids,o=some (1,.branch p ks kids)∧aT fs 1 (.branch p ks kids) ⟨⟨#[]⟩,⟨#[]⟩⟩:=by
 cases o with
 | none=>exact .inl rfl
 | some x =>
  obtain⟨h,t⟩:=x
  obtain⟨_,_,hs⟩:=hro
  have hf':h≤1:=hf
  rcases Nat.lt_or_ge h 1 with h0|h0
  ·have:h=0:=by omega
   subst this
   cases t with
   | leaf p es=>exact .inr (.inl ⟨p,es,rfl,hs⟩)
   | branch=>exact hs.elim
  ·have:h=1:=by omega
   subst this
   cases t with
   | leaf=>exact hs.elim
   | branch p ks kids=>exact .inr (.inr ⟨p,ks,kids,rfl,hs⟩)
theorem mM {fs:Fs}    (hro:aY fs root o) (hf:gQ o) (hr:cI cs) (hc:∀ c∈cs,c.good):Lst fs (cG o cs)∧cT (cG o cs)=bI (eY o) cs:=by
 rcases iL hro hf with rfl|⟨p,es,rfl,hs⟩|⟨p,ks,kids,rfl,hs⟩
 ·have hg:=eU (fs:=fs) (es:=[]) .nil hr (by simp) hc
  exact⟨nI (iP .nil hr) hg,fU hg⟩
 ·have hre:cM es:=dD (h:=0) hs
  have hg:=eU hre hr (eX hs) hc
  exact⟨nI (iP hre hr) hg,fU hg⟩
 ·exact Wn hs hr hc
theorem nG {fs:Fs}     (hro:aY fs root o) (hf:gQ o) (hr:cI cs) (hc:∀ c∈cs,c.good) (hcK:∀ c∈cs,c.key∈K) (hoK:qDu K o):∀ n∈cG o cs,xN K n:=by
 rcases iL hro hf with rfl|⟨p,es,rfl,hs⟩|⟨p,ks,kids,rfl,hs⟩
 ·have hg:=eU (fs:=fs) (es:=[]) .nil hr (by simp) hc
  refine lG hg (fun x hx=>?_)
  rcases (dG .nil hr x).1 hx with⟨c,h1,_,rfl⟩|⟨h1,_⟩
  ·exact hcK c h1
  ·simp at h1
 ·have hre:cM es:=dD (h:=0) hs
  have hg:=eU hre hr (eX hs) hc
  refine lG hg (fun x hx=>?_)
  rcases (dG hre hr x).1 hx with⟨c,h1,_,rfl⟩|⟨h1,_⟩
  ·exact hcK c h1
  ·exact hoK x h1
 ·exact Qp hs hr hc hcK hoK
def Dp (P:List Nat) (n:NT):Prop:=(∀ p∈n.pages0,p∈P)∧∀ x∈n.ents0,∀ p∈x.pages,p∈P
theorem lH {fs:Fs}  {es:List En} (hg:∀ x∈es,x.good fs) (hP:∀ x∈es,∀ p∈x.pages,p∈P):∀ n∈cP es,Dp P n:=by
 intro n hn
 have hin:=tU hg n hn
 obtain⟨q,hq,rfl⟩:=List.mem_map.1 hn
 refine⟨?_,fun x hx=>hP x (hin x hx)⟩
 intro p hp
 obtain⟨x,hx,hp⟩:=List.mem_flatMap.1 hp
 exact hP x (hin x hx) p hp
theorem tL {es:List En}  (he:cM es) (hr:cI cs) (hP:∀ x∈es,∀ p∈x.pages,p∈P):∀ x∈bI es cs,∀ p∈x.pages,p∈P:=by
 intro x hx p hp
 rcases (dG he hr x).1 hx with⟨c,h1,_,rfl⟩|⟨h1,_⟩
 ·simp [En.pages,chE] at hp
 ·exact hP x h1 p hp
theorem Ym {fs:Fs}  {A B:List NT} {l n:NT} (h:Lst fs (A++l :: n :: B)) (hK:∀ m∈A++l :: n :: B,Dp P m):∀ m∈A++(iC l n++B),Dp P m:=by
 intro m hm
 simp only [List.mem_append] at hm
 rcases hm with hm|hm|hm
 ·exact hK m (by simp [hm])
 ·refine lH (fs:=fs) (fun x hx=>?_) (fun x hx=>?_) m hm
  ·rcases List.mem_append.1 hx with hx|hx
   ·exact(eP (h.ok l (by simp))).2.2 x hx
   ·exact(eP (h.ok n (by simp))).2.2 x hx
  ·rcases List.mem_append.1 hx with hx|hx
   ·exact(hK l (by simp)).2 x hx
   ·exact(hK n (by simp)).2 x hx
 ·exact hK m (by simp [hm])
theorem Wt {fs:Fs}   (h:Lst fs ns) (hK:∀ m∈ns,Dp P m):∀ m∈gU iC ns,Dp P m :=
 (nJ (J:=fun L=>Lst fs L∧∀ m∈L,Dp P m) (fun _ _ _ _ hL=>⟨hL.1.tog.1,Ym hL.1 hL.2⟩) ⟨h,hK⟩).2
theorem Ki {A B:List NT} {l n:NT} (hK:∀ m∈A++l :: n :: B,∀ t sp,m=.kept t sp→Q t):∀ m∈A++(iC l n++B),∀ t sp,m=.kept t sp→Q t:=by
 intro m hm t sp e
 simp only [List.mem_append] at hm
 rcases hm with hm|hm|hm
 ·exact hK m (by simp [hm]) t sp e
 ·obtain⟨q,_,rfl⟩:=List.mem_map.1 hm
  simp [Gm] at e
 ·exact hK m (by simp [hm]) t sp e
theorem Ws (hK:∀ m∈ns,∀ t sp,m=.kept t sp→Q t):∀ m∈gU iC ns,∀ t sp,m=.kept t sp→Q t :=
 nJ (J:=fun L=>∀ m∈L,∀ t sp,m=.kept t sp→Q t) (fun _ _ _ _ hL=>Ki hL) hK
theorem nH {es:List En} :∀ m∈cP es,∀ t sp,m=.kept t sp→Q t:=by
 intro m hm t sp e
 obtain⟨q,_,rfl⟩:=List.mem_map.1 hm
 simp [Gm] at e
theorem yI {fs:Fs}    (hro:aY fs root o) (hf:gQ o) (hr:cI cs) (hc:∀ c∈cs,c.good):(∀ n∈cG o cs,Dp (bH o) n)∧∀ n∈cG o cs,∀ t sp,n=.kept t sp→aQ (t.place:Nat)=true:=by
 rcases iL hro hf with rfl|⟨p,es,rfl,hs⟩|⟨p,ks,kids,rfl,hs⟩
 ·have hg:=eU (fs:=fs) (es:=[]) .nil hr (by simp) hc
  exact⟨lH hg (tL .nil hr (by simp)),nH⟩
 ·have hre:cM es:=dD (h:=0) hs
  have hg:=eU hre hr (eX hs) hc
  refine⟨lH hg (tL hre hr (fun x hx p hp=>?_)),nH⟩
  simp only [bH,T.pages,List.mem_cons,List.mem_flatMap]
  exact .inr ⟨x,hx,hp⟩
 ·obtain⟨hl,hp,hb,_,hall⟩:=fA hs
  have hpp:=kG _ ks kids hl hp hb
  have hk:=fun x hx=>zV (x:=x.2) (t:=x.1) (hall x hx) hr hc
  obtain⟨f1,f2⟩:=rH (fun x=>eR x cs) (parts ⟨⟨#[]⟩,⟨#[]⟩⟩ ks kids) (fun x hx=>(hk x hx).1) hpp
  have hmem:∀ x∈parts ⟨⟨#[]⟩,⟨#[]⟩⟩ ks kids,x.1∈kids:=fun x hx=>by
   have:x.1∈(parts ⟨⟨#[]⟩,⟨#[]⟩⟩ ks kids).map (·.1):=List.mem_map.2 ⟨x,hx,rfl⟩
   rwa [gG] at this
  constructor
  ·refine Wt f1 ?_
   intro m hm
   obtain⟨x,hx,hm⟩:=List.mem_flatMap.1 hm
   have hst:=hall x hx
   obtain⟨t,sp⟩:=x
   cases t with
   | branch=>exact hst.elim
   | leaf q es =>
    have hre:cM es:=dD (h:=0) hst
    have hpg:∀ z∈T.pages 0 (.leaf q es),z∈bH (some (1,.branch p ks kids)):=fun z hz=>by
     simp only [bH,T.pages,List.mem_cons,List.mem_flatMap]
     exact .inr ⟨_,hmem _ hx,by simpa [T.pages] using hz⟩
    have hep:∀ x∈es,∀ z∈x.pages,z∈bH (some (1,.branch p ks kids)):=fun x hx z hz=>hpg z (by
     simp only [T.pages,List.mem_cons,List.mem_flatMap];exact .inr ⟨x,hx,hz⟩)
    by_cases h0:(eD cs sp).length=0
    ·have e:eR (.leaf q es,sp) cs=[.kept (.leaf q es) sp]:=by simp [eR,h0]
     rw [e,List.mem_singleton] at hm
     subst hm
     exact⟨hpg,hep⟩
    ·have e:eR (.leaf q es,sp) cs=cP (bI es (eD cs sp)):=by simp [eR,h0]
     rw [e] at hm
     have hro:=iD hr sp
     exact lH (eU (fs:=fs) hre hro (eX hst) (fun c h=>hc c (jL.1 h).1)) (tL hre hro hep) m hm
  ·refine Ws ?_
   intro m hm t' sp' e'
   obtain⟨x,hx,hm⟩:=List.mem_flatMap.1 hm
   have hx1:=hmem x hx
   obtain⟨t,sp⟩:=x
   have hpl:aQ (t.place:Nat)=true:=by
    obtain⟨g,hg,hk2,_,hkd,_⟩:=hs
    refine Mq hg hk2 _ ?_
    rw [hkd]
    exact List.mem_map.2 ⟨t,hx1,rfl⟩
   cases t with
   | branch =>
    simp only [eR,List.mem_singleton] at hm
    rw [hm] at e'
    injection e' with e1 e2
    rw [← e1];exact hpl
   | leaf q es =>
    by_cases h0:(eD cs sp).length=0
    ·have e:eR (.leaf q es,sp) cs=[.kept (.leaf q es) sp]:=by simp [eR,h0]
     rw [e,List.mem_singleton] at hm
     rw [hm] at e'
     injection e' with e1 e2
     rw [← e1];exact hpl
    ·have e:eR (.leaf q es,sp) cs=cP (bI es (eD cs sp)):=by simp [eR,h0]
     rw [e] at hm
     exact nH (Q:=fun t=>aQ (t.place:Nat)=true) m hm t' sp' e'
def bD (N:List NT) (fr:List Nat):Option (Nat×T)×List (Nat×Pg):=match N with
 | []=>(none,[])
 | [n]=>(some (0,(dI n fr).1),(dI n fr).2)
 | n :: m :: r=>(some (1,(fW (n :: m :: r) fr).1),(fW (n :: m :: r) fr).2)
def rootOf:Option (Nat×T)→Nat
 | none=>0
 | some (_,t)=>t.place
theorem Vr (x:En) (fr:List Nat):(dH x fr).length≤2:=by
 unfold dH
 split
 ·exact Cg 2 _ _
 ·simp
theorem rC:∀ (es:List En) (fr:List Nat),(aS es fr).2.length≤2 * es.length
 | [],_=>by simp [aS]
 | x :: es,fr=>by
  have h1:=Vr x fr
  have h2:=rC es (fr.drop (dH x fr).length)
  simp only [aS,jK,List.length_reverse,jB];omega
theorem Cm (n:NT) (fr:List Nat):(dI n fr).2.length≤1+2 * n.ents0.length:=by
 cases n with
 | kept=>simp [dI]
 | bran=>simp [dI]
 | leaf s es =>
  have:=rC es fr
  simp only [dI,jK,List.length_singleton,NT.ents0];omega
theorem yK:∀ (ns:List NT) (fr:List Nat),(aV ns fr).2.length≤ns.length+2 * (cT ns).length
 | [],_=>by simp [aV]
 | n :: ns,fr=>by
  have h1:=Cm n fr
  have h2:=yK ns (fr.drop (dI n fr).2.length)
  simp only [aV,cT,List.flatMap_cons,jK,jB] at *;omega
theorem Iy (N:List NT) (fr:List Nat):(bD N fr).2.length≤1+N.length+2 * (cT N).length:=by
 unfold bD
 split
 ·simp
 ·rename_i n
  have:=Cm n fr
  simp only [cT,List.flatMap_cons,List.flatMap_nil,List.append_nil,jB,jN];omega
 ·rename_i n m r
  have:=yK (n :: m :: r) fr
  simp only [fW,jK,List.length_singleton];omega
theorem Ed (N:List NT) (fr:List Nat) (hl:(bD N fr).2.length≤fr.length):(bD N fr).2.map (·.1)=fr.take (bD N fr).2.length:=by
 unfold bD at hl ⊢
 split
 ·simp
 ·exact yM _ fr hl
 ·exact Me _ fr hl
def En.kv (x:En):ByteArray×List UInt8:=(x.e.key,x.value)
theorem Mc {fs:Fs}:∀ (es:List En) (fr:List Nat),(∀ x∈es,x.good fs)→(aS es fr).2.length≤fr.length→(∀ p∈fr,aQ (p:Nat)=true)→(aS es fr).1.map En.kv=es.map En.kv
 | [],_,_,_,_=>rfl
 | x :: es,fr,hg,hl,hp=>by
  simp only [aS,jK,List.length_reverse] at hl
  have h1:=Qg (hg x (by simp)) fr (by omega) hp
  have h2:=Mc es (fr.drop (dH x fr).length) (fun y hy=>hg y (by simp [hy])) (by rw [List.length_drop];omega) (fun p h=>hp p (List.mem_of_mem_drop h))
  simp only [aS,List.map_cons,h2,List.cons.injEq,and_true,En.kv,h1,vH]
theorem Ti {fs:Fs}  (h:Ok0 fs n) (fr:List Nat) (hl:(dI n fr).2.length≤fr.length) (hp:∀ p∈fr,aQ (p:Nat)=true):(T.ents 0 (dI n fr).1).map En.kv=n.ents0.map En.kv:=by
 cases n with
 | bran=>exact h.elim
 | kept t s=>cases t with
  | leaf=>rfl
  | branch=>exact h.elim
 | leaf s es =>
  simp only [dI,jK,List.length_singleton] at hl
  exact Mc es fr h.2.2.2.2 (by omega) hp
theorem Ly {fs:Fs}:∀ (ns:List NT) (fr:List Nat),(∀ n∈ns,Ok0 fs n)→(aV ns fr).2.length≤fr.length→(∀ p∈fr,aQ (p:Nat)=true)→((aV ns fr).1.flatMap (T.ents 0)).map En.kv=(cT ns).map En.kv
 | [],_,_,_,_=>rfl
 | n :: ns,fr,ho,hl,hp=>by
  simp only [aV,jK] at hl
  have h1:=Ti (ho n (by simp)) fr (by omega) hp
  have h2:=Ly ns (fr.drop (dI n fr).2.length) (fun y hy=>ho y (by simp [hy])) (by rw [List.length_drop];omega) (fun p h=>hp p (List.mem_of_mem_drop h))
  simp only [aV,List.flatMap_cons,List.map_append,cT] at h1 h2 ⊢
  rw [h1,h2]
theorem Wk {fs:Fs} {N:List NT} (h:∀ n∈N,Ok0 fs n) (fr:List Nat) (hl:(bD N fr).2.length≤fr.length) (hp:∀ p∈fr,aQ (p:Nat)=true):(eY (bD N fr).1).map En.kv=(cT N).map En.kv:=by
 unfold bD at hl ⊢
 split
 ·rfl
 ·rename_i n
  have:=Ti (h n (by simp)) fr hl hp
  simp only [eY,cT,List.flatMap_cons,List.flatMap_nil,List.append_nil]
  exact this
 ·rename_i n m r
  simp only [fW,jK,List.length_singleton] at hl
  exact Ly (n :: m :: r) fr h (by omega) hp
theorem Ma {fs:Fs}  (h:Ok0 fs n) (hK:xN K n) (fr:List Nat):TIn K 0 (dI n fr).1:=by
 cases n with
 | bran=>exact h.elim
 | kept t s=>cases t with
  | leaf=>exact hK.2
  | branch=>exact h.elim
 | leaf s es =>
  intro y hy
  obtain⟨x,hx,e⟩:=Mg (mN es fr) hy
  rw [← e];exact hK.2 x hx
theorem Gr {fs:Fs}  {N:List NT} (h:Lst fs N) (hK:∀ n∈N,xN K n) (hK24:∀ k∈K,k.size≤24) (hKs:3+tot (fun k:ByteArray=>k.size+3) K≤250) (hkp:∀ n∈N,∀ t sp,n=.kept t sp→aQ (t.place:Nat)=true) (fr:List Nat) (hl:(bD N fr).2.length≤fr.length) (hp:∀ p∈fr,aQ (p:Nat)=true) (Z:List Nat) (ha:∀ n∈N,∀ p∈n.pages0,p ∉ Z) :
  (∀ y∈(bD N fr).2,y.2.encE=0)∧gQ (bD N fr).1∧qDu K (bD N fr).1∧∀ fs',Laid fs fs' Z (bD N fr).2→aY fs' (rootOf (bD N fr).1) (bD N fr).1∧(rootOf (bD N fr).1=0∨aQ (rootOf (bD N fr).1:Nat)=true):=by
 have h24:∀ m∈N,m.sp.lo.size≤24:=fun m hm=>by
  rcases (hK m hm).1 with h|h
  ·rw [h];decide
  ·exact hK24 _ h
 have hsz:=h.size hK
 unfold bD at hl ⊢
 split
 ·exact⟨by simp,trivial,trivial,fun fs' L=>⟨rfl,.inl rfl⟩⟩
 ·rename_i n
  refine⟨Cl (h.ok n (by simp)) fr hl hp,Nat.zero_le _,Ma (h.ok n (by simp)) (hK n (by simp)) fr,fun fs' L=>?_⟩
  have hpl:=Ck (h.ok n (by simp)) (hkp n (by simp)) fr hl hp
  have hst:aT fs' 0 (dI n fr).1 ⟨⟨#[]⟩,⟨#[]⟩⟩:=by
   rcases yL L (h.ok n (by simp)) (fun p h=>h) hl hp (fun y h=>h) (ha n (by simp)) ⟨⟨#[]⟩,⟨#[]⟩⟩ (fun x _=>Ij _) with h|h
   ·exact h.1
   ·exact h.1
  exact⟨⟨by have:=eO hpl;show 0<(dI n fr).1.place;omega,rfl,hst⟩,.inr hpl⟩
 ·rename_i n m r
  refine⟨qAh h (by simp) h24 hkp (by omega) fr hl hp,jU _,⟨?_,?_⟩,fun fs' L=>?_⟩
  ·intro k hk
   simp only [List.tail_cons] at hk
   obtain⟨q,hq,rfl⟩:=List.mem_map.1 hk
   rcases (hK q (by simp only [List.mem_cons] at hq ⊢;exact .inr hq)).1 with h0|h0
   ·have:=h.tail_los.2 _ (List.mem_map.2 ⟨q,hq,rfl⟩)
    simp only [h0,bV] at this
    cases this
   ·exact h0
  ·intro t ht
   simp only [fW,jK,List.length_singleton] at hl
   obtain⟨j,hj,rfl⟩:=List.getElem_of_mem ht
   rw [dM] at hj
   obtain⟨f,h1,h2,h3,_⟩:=vK _ fr j hj (by omega)
   obtain⟨h5,h6⟩:=List.getElem?_eq_some_iff.1 h3
   rw [h6]
   exact Ma (h.ok _ (List.getElem_mem _)) (hK _ (List.getElem_mem _)) f
  ·obtain⟨h1,h2⟩:=Md h (by simp) L hl hp ha
   exact⟨⟨by have:=eO h2;show 0<(fW (n :: m :: r) fr).1.place;omega,rfl,h1⟩,.inr h2⟩
theorem Hr {fs:Fs}:∀ {l:List (Nat×Pg)} {p r k:Nat},dJ fs p r l→r≤240 * k→l.length≤k
 | [],_,_,_,_,_=>Nat.zero_le _
 | x :: l,p,r,k,h,hk=>by
  obtain⟨a1,a2,a3,a4,a5,nx,a6,a7,a8⟩:=h
  cases k with
  | zero=>omega
  | succ k =>
   have:=Hr (k:=k) a8 (by rw [a5];omega)
   rw [jB];omega
theorem Jh {fs:Fs} {x:En} (h:x.ok fs):x.pages.length≤2:=by
 obtain⟨sz,ov,_,_,h3,h|⟨_,h⟩⟩:=h
 ·simp [En.pages,h.2]
 ·simp only [En.pages,List.length_map];exact Hr h (by omega)
theorem xH (f:α→List Nat) (b:Nat):∀ (l:List α),(∀ x∈l,(f x).length≤b)→(l.flatMap f).length≤b * l.length
 | [],_=>by simp
 | x :: l,h=>by
  have h1:=h x (by simp)
  have h2:=xH f b l (fun y hy=>h y (by simp [hy]))
  rw [List.flatMap_cons,jK,jB,Nat.mul_succ];omega
theorem qZ {fs:Fs}  {es:List En}  (h:aT fs 0 (.leaf p es) s):(T.pages 0 (.leaf p es)).length≤1+2 * es.length:=by
 obtain⟨g,_,_,_,_,_,h6⟩:=h
 have:=xH En.pages 2 es (fun x hx=>Jh (h6 x hx))
 simp only [T.pages,jB];omega
theorem Ps {fs:Fs}    (hro:aY fs root o) (hf:gQ o) (hK:qDu K o):(bH o).length≤1+3 * K.length:=by
 rcases iL hro hf with rfl|⟨p,es,rfl,hs⟩|⟨p,ks,kids,rfl,hs⟩
 ·simp [bH]
 ·have h1:=qZ hs
  have hre:cM es:=dD (h:=0) hs
  have h2:=vG (l:=es.map (fun x=>x.e.key)) (m:=K) (mC (by rw [List.pairwise_map];exact hre)) (fun x hx=>by
   obtain⟨y,hy,rfl⟩:=List.mem_map.1 hx
   exact hK y hy)
  rw [List.length_map] at h2
  show (T.pages 0 _).length≤_
  omega
 ·have hre:=dD hs
  obtain⟨hl,hp,hb,_,hall⟩:=fA hs
  have hst:∀ t∈kids,∃ s',aT fs 0 t s':=fun t ht=>by
   obtain⟨s',hs'⟩:=iZ (s:=⟨⟨#[]⟩,⟨#[]⟩⟩) (ks:=ks) ht
   exact⟨s',hall _ hs'⟩
  have h2:=vG (l:=(kids.flatMap (T.ents 0)).map (fun x=>x.e.key)) (m:=K) (mC (by rw [List.pairwise_map];exact hre)) (fun x hx=>by
   obtain⟨y,hy,rfl⟩:=List.mem_map.1 hx
   obtain⟨t,ht,hy⟩:=List.mem_flatMap.1 hy
   have h3:=hK.2 t ht
   cases t with
   | leaf=>exact h3 y hy
   | branch=>exact h3.elim)
  rw [List.length_map] at h2
  have key:∀ (l:List T),(∀ t∈l,∃ s',aT fs 0 t s')→(l.flatMap (T.pages 0)).length≤3 * (l.flatMap (T.ents 0)).length:=by
   intro l
   induction l with
   | nil=>simp
   | cons t l ih =>
    intro h
    have h1:=ih (fun t ht=>h t (by simp [ht]))
    obtain⟨s',hs'⟩:=h t (by simp)
    cases t with
    | branch=>exact hs'.elim
    | leaf q es =>
     have h4:=qZ hs'
     obtain⟨g,_,_,_,hne,_⟩:=hs'
     have h5:0<es.length:=List.length_pos_iff.2 hne
     rw [List.flatMap_cons,List.flatMap_cons,jK,jK]
     have e:(T.ents 0 (.leaf q es)).length=es.length:=rfl
     omega
  have h3:=key kids hst
  simp only [bH,T.pages,jB]
  omega
theorem Nw {fs:Fs}:∀ {l:List (Nat×Pg)} {p r:Nat},dJ fs p r l→2≤p→∀ x∈l,2≤x.1
 | [],_,_,_,_,x,hx=>by simp at hx
 | y :: l,p,r,h,hp,x,hx=>by
  obtain⟨a1,a2,a3,a4,a5,nx,a6,a7,a8⟩:=h
  rcases List.mem_cons.1 hx with rfl|hx
  ·omega
  ·rcases qAn a3 a4 with h0|h0
   ·have:nx=0:=by omega
    subst this
    have h1:=a7.1 rfl
    rw [h1] at a8
    cases l with
    | nil=>simp at hx
    | cons z l=>obtain⟨_,b2,_⟩:=a8;omega
   ·rw [a6] at h0
    exact Nw a8 (eO h0).1 x hx
theorem Tg {fs:Fs}  {es:List En}  (h:aT fs 0 (.leaf p es) s) (hp:2≤p):∀ q∈T.pages 0 (.leaf p es),2≤q:=by
 intro q hq
 simp only [T.pages,List.mem_cons,List.mem_flatMap] at hq
 rcases hq with rfl|⟨x,hx,hq⟩
 ·exact hp
 ·obtain⟨y,hy,rfl⟩:=List.mem_map.1 hq
  obtain⟨_,_,⟨_,h2,_⟩|⟨h1,h2,sz,ov,h3,h4,h5,h6,h7⟩⟩:=eX h x hx
  ·rw [h2] at hy;simp at hy
  ·rw [h4] at h2
   exact Nw h7 (eO h2).1 y hy
theorem lQ {fs:Fs}   (hro:aY fs root o) (hf:gQ o) (hr:root=0∨aQ (root:Nat)=true):∀ q∈bH o,2≤q:=by
 rcases iL hro hf with rfl|⟨p,es,rfl,hs⟩|⟨p,ks,kids,rfl,hs⟩
 ·simp [bH]
 ·obtain⟨h1,h2,_⟩:=hro
  have h2':p=root:=h2
  exact Tg hs (by rcases hr with h|h;omega;have:=eO h;omega)
 ·obtain⟨h1,h2,_⟩:=hro
  have h2':p=root:=h2
  intro q hq
  simp only [bH,T.pages,List.mem_cons,List.mem_flatMap] at hq
  rcases hq with rfl|⟨t,ht,hq⟩
  ·rcases hr with h|h
   ·omega
   ·have:=eO h;omega
  ·obtain⟨hl,hp,hb,_,hall⟩:=fA hs
   obtain⟨s',hs'⟩:=iZ (s:=⟨⟨#[]⟩,⟨#[]⟩⟩) (ks:=ks) ht
   have hst:=hall _ hs'
   have hpl:aQ (t.place:Nat)=true:=by
    obtain⟨g,hg,hk2,_,hkd,_⟩:=hs
    refine Mq hg hk2 _ ?_
    rw [hkd]
    exact List.mem_map.2 ⟨t,ht,rfl⟩
   cases t with
   | branch=>exact hst.elim
   | leaf r es=>exact Tg hst (eO hpl).1 q hq
def iT (n:Nat) (u:List Bool):List Nat:=(List.range' 2 (n-2)).filter (fun p=>!(u.getD p true))
theorem xG {n:Nat} {u:List Bool}  (h:p∈iT n u):2≤p∧p<n∧¬ on u p:=by
 simp only [iT,List.mem_filter,List.mem_range'_1] at h
 obtain⟨h1,h2⟩:=h
 refine⟨by omega,by omega,fun h3=>?_⟩
 unfold on at h3
 rw [List.getD_eq_getElem?_getD,h3] at h2
 simp at h2
theorem Mr (n:Nat) (u:List Bool):(iT n u).Nodup:=List.Pairwise.filter _ (List.nodup_range' (s:=2) (n:=n-2))
theorem Rh {n:Nat} {u:List Bool} {ps:List Nat} (hu:n≤u.length) (hps:∀ p,on u p→p∈ps):n-2≤(iT n u).length+ps.length:=by
 have h:=vG (l:=List.range' 2 (n-2)) (m:=iT n u++ps) (List.nodup_range') (fun p hp=>by
  rw [List.mem_range'_1] at hp
  simp only [List.mem_append]
  by_cases h:on u p
  ·exact .inr (hps p h)
  ·refine .inl ?_
   simp only [iT,List.mem_filter,List.mem_range'_1]
   refine⟨hp,?_⟩
   have hl:p<u.length:=by omega
   rw [List.getD_eq_getElem?_getD,jQ hl]
   unfold on at h
   rw [jQ hl] at h
   cases hv:u[p] with
   | false=>rfl
   | true=>rw [hv] at h;exact absurd rfl h)
 rw [List.length_range',jK] at h
 exact h
theorem Ax {P:List α→Prop} (h0:P []) (h1:∀ l x,P l→P (l++[x])) (l:List α):P l:=by
 have key:∀ m:List α,P m.reverse:=by
  intro m
  induction m with
  | nil=>exact h0
  | cons x m ih=>rw [List.reverse_cons];exact h1 _ _ ih
 have:=key l.reverse
 rwa [List.reverse_reverse] at this
theorem Co (l:List (Nat×ByteArray)) (x:Nat×ByteArray) (p:Nat):qF (l++[x]) p=if x.1=p then some x.2 else qF l p:=by
 unfold qF
 rw [List.reverse_append]
 simp only [List.reverse_singleton,List.singleton_append,List.find?_cons]
 by_cases h:x.1=p
 ·simp [h]
 ·have:(x.1==p)=false:=by simpa using h
  rw [this,if_neg h]
theorem qDb:∀ (l:List (Nat×ByteArray)) (s:List ByteArray) (p:Nat),(∀ x∈l,x.1<s.length)→(laid s l).getD p ⟨#[]⟩=(qF l p).getD (s.getD p ⟨#[]⟩):=by
 intro l
 induction l using Ax with
 | h0=>intro s p _;rfl
 | h1 l x ih =>
  intro s p h
  have e:laid s (l++[x])=(laid s l).set x.1 x.2:=by simp [laid]
  rw [e,Co,List.getD_eq_getElem?_getD,List.getElem?_set]
  have hx:=h x (by simp)
  by_cases hp:x.1=p
  ·rw [if_pos hp,if_pos hp,if_pos (by rw [dP];omega)];rfl
  ·rw [if_neg hp,if_neg hp,← List.getD_eq_getElem?_getD]
   exact ih s p (fun y hy=>h y (by simp [hy]))
theorem oG (fs:Fs) (h:fs.fits) (p:Nat):fs.synced.at p=fs.at p:=qDb fs.late fs.safe p h
theorem pM {fs:Fs} (h:fs.fits)  :fs.synced.has p g↔fs.has p g:=by
 unfold Fs.has
 rw [oG fs h]
 show p<(laid fs.safe fs.late).length∧_↔_
 rw [dP]
theorem Be (fs:Fs) (q:Nat) (d:ByteArray) (p:Nat):(fs.put q d).at p=if q=p then d else fs.at p:=by
 unfold Fs.at Fs.put
 simp only [Co]
 split<;>rfl
def Fs.puts (fs:Fs) (l:List (Nat×Pg)):Fs:={ fs with late:=fs.late++l.map (fun y=>(y.1,y.2.encS)) }
theorem Kz (fs:Fs):fs.puts []=fs:=by simp [Fs.puts]
theorem Vf (fs:Fs) (l:List (Nat×Pg)) (y:Nat×Pg):fs.puts (l++[y])=(fs.puts l).put y.1 y.2.encS:=by simp [Fs.puts,Fs.put]
theorem Io:∀ (l:List (Nat×Pg)) (fs:Fs) (p:Nat),(p ∉ l.map (·.1)→(fs.puts l).at p=fs.at p)∧((l.map (·.1)).Nodup→∀ y∈l,y.1=p→(fs.puts l).at p=y.2.encS):=by
 intro l
 induction l using Ax with
 | h0=>intro fs p;rw [Kz];exact⟨fun _=>rfl,fun _ y hy=>by simp at hy⟩
 | h1 l x ih =>
  intro fs p
  rw [Vf,Be]
  obtain⟨i1,i2⟩:=ih fs p
  constructor
  ·intro h
   rw [List.map_append,List.mem_append] at h
   rw [if_neg (fun e=>h (.inr (by simp [e])))]
   exact i1 (fun h'=>h (.inl h'))
  ·intro hn y hy hyp
   rw [List.map_append] at hn
   obtain⟨n1,n2,n3⟩:=List.nodup_append.1 hn
   rcases List.mem_append.1 hy with hy|hy
   ·have:x.1≠p:=fun e=>n3 y.1 (List.mem_map.2 ⟨y,hy,rfl⟩) x.1 (by simp) (by rw [hyp,e])
    rw [if_neg this]
    exact i2 n1 y hy hyp
   ·rw [List.mem_singleton] at hy
    subst hy
    rw [if_pos hyp]
theorem Zd {fs:Fs}  (hn:(l.map (·.1)).Nodup) (hE:∀ y∈l,y.2.encE=0) (hv:∀ y∈l,y.2.ver=0) (hl:∀ y∈l,y.1<fs.safe.length):∀ y∈l,(fs.puts l).has y.1 y.2:=by
 intro y hy
 refine⟨hl y hy,?_⟩
 rw [(Io l fs y.1).2 hn y hy rfl]
 exact Dd y.2 (by rw [hv y hy];decide) (hE y hy)
theorem Vg {fs:Fs}    (hp:p ∉ l.map (·.1)) (h:fs.has p g):(fs.puts l).has p g:=by
 refine⟨h.1,?_⟩
 rw [(Io l fs p).1 hp]
 exact h.2
theorem La {fs:Fs} {q p:Nat} {d:ByteArray}  (hp:q≠p) (h:fs.has p g):(fs.put q d).has p g:=by
 refine⟨h.1,?_⟩
 rw [Be,if_neg hp]
 exact h.2
def Fs.made (fs:Fs) (l:List (Nat×Pg)) (m:Nat) (mt:Pg):Fs:=(((fs.puts l).synced).put m mt.encS).synced
theorem Vy {fs:Fs}  {m:Nat} {mt:Pg}  (hf:fs.fits) (hn:(l.map (·.1)).Nodup) (hE:∀ y∈l,y.2.encE=0) (hv:∀ y∈l,y.2.ver=0) (hl:∀ y∈l,y.1<fs.safe.length∧y.1≠m) (hm:m<fs.safe.length) (hZ:∀ y∈l,y.1∈Z) (hmZ:m∈Z) :
  Laid fs (fs.made l m mt) Z l∧(fs.made l m mt).at m=mt.encS∧(fs.made l m mt).late=[]∧(fs.made l m mt).safe.length=fs.safe.length∧∀ p,p ∉ Z→(fs.made l m mt).at p=fs.at p:=by
 have f1:(fs.puts l).fits:=by
  intro x hx
  simp only [Fs.puts,List.mem_append,List.mem_map] at hx
  rcases hx with hx|⟨y,hy,rfl⟩
  ·exact hf x hx
  ·exact(hl y hy).1
 have e1:(fs.puts l).synced.safe.length=fs.safe.length:=dP _ _
 have f2:(((fs.puts l).synced).put m mt.encS).fits:=by
  intro x hx
  simp only [Fs.put,Fs.synced,jE,List.mem_singleton] at hx
  subst hx
  show m<(laid _ _).length
  rw [dP];exact hm
 refine⟨⟨fun y hy=>?_,fun p g hp h=>?_⟩,?_,rfl,?_,fun p hp=>?_⟩
 ·exact(pM f2).2 (La (hl y hy).2.symm ((pM f1).2 (Zd hn hE hv (fun y hy=>(hl y hy).1) y hy)))
 ·have h1:p ∉ l.map (·.1):=fun hm=>by
   obtain⟨y,hy,rfl⟩:=List.mem_map.1 hm
   exact hp (hZ y hy)
  exact(pM f2).2 (La (fun e:m=p=>hp (e▸hmZ)) ((pM f1).2 (Vg h1 h)))
 ·show (Fs.synced _).at m=_
  rw [oG _ f2,Be,if_pos rfl]
 ·show (laid _ _).length=_
  rw [dP];exact e1
 ·show (Fs.synced _).at p=_
  have h1:p ∉ l.map (·.1):=fun hm=>by
   obtain⟨y,hy,rfl⟩:=List.mem_map.1 hm
   exact hp (hZ y hy)
  rw [oG _ f2,Be,if_neg (fun e:m=p=>hp (e▸hmZ)),oG _ f1,(Io l fs p).1 h1]
