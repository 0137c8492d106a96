/-
  Joined: LayL, LayB.
-/
import Derived.Test.YtfnhmpcpeahfkaaGreatW38
set_option linter.unusedSimpArgs false
set_option linter.unusedVariables false
set_option maxRecDepth 100000
set_option maxHeartbeats 8000000
namespace Go.Proofs.YtfnhmpcpeahfkaaGreat.Tree
open Go.RowKit Pages
theorem own_empty (w:World) (E:TypeId) (z:Nat):(w.alloc (.cells #[] E)).ownsRow 0 E z (.slice (some ⟨w.heap.size,0,none⟩) 0 0) 0 []:=by
 refine⟨by simp,.inr ⟨w.heap.size,0,#[],rfl,Nat.zero_le _,heap_new w _,jU _,by unfold maxLen;omega,by simp,by simp⟩⟩
theorem clone_any (b off:Nat) (ec:Nat) (es:List En) (S:Bl) (w:World) (hR:RowOn w S (some ⟨b,off,none⟩) (ecells es)) (hS:∀ b,S b→b<w.heap.size) (hn:es.length≤100000) (h0:es≠[]) :
  Calls Tryz.prog 181 #[.slice (some ⟨b,off,none⟩) es.length ec] w fun e w'=>∃ v,e=.returned v∧w'.ownsRow 0 108 4 v es.length (ecells es)∧Below w.heap.size w w'∧∀ k,v.ownBlock=some k→w.heap.size≤k:=by
 have hcell:∀ j u,(ecells es)[j]?=some u→(w.alloc (.cells #[] 108)).cell? ((⟨b,off,none⟩:Addr).add j)=some u:=by
  intro j u hu
  obtain⟨b',off',ha,hb',hc⟩:=hR.val hu
  simp only [Option.some.injEq,Addr.mk.injEq,and_true] at ha
  obtain⟨rfl,rfl⟩:=ha
  have e:(⟨b,off,none⟩:Addr).add j=⟨b,off+j,none⟩:=by unfold Addr.add;split<;>simp_all
  rw [e,World.cell?_of_block (w:=w) (Below.heap_alloc w _ b (hS b hb'))]
  exact hc
 have hq:∀ (u:World),(binOp .eql 83 (.slice (some ⟨b,off,none⟩) es.length ec) (.slice none 0 0)).run Tryz.prog u=.ok (.bool false) u:=fun u=>Go.Lib.run_eql_slice_nil (P:=Tryz.prog) u 83 108 (some ⟨b,off,none⟩) es.length ec 0 0 Tryz.underlying83
 go_enter Tryz.func181,Tryz.ntmps181
 go_wp2_with (at_builtin;refine wp_app (w.alloc (.cells #[] 108)) rfl (.tmp 5) (.tmp 6) 83 108 _ 4 48 rfl Tryz.underlying83 infoEn rfl (by decide) (.slice (some ⟨w.heap.size,0,none⟩) 0 0) 0 [] rfl (own_empty w _ 4) ⟨b,off,none⟩ es.length ec (ecells es) rfl (by rw [ecells_len]) hcell (ecells_one es) (by omega) (by omega) ?_;intro v3 w3 A3)
 go_ret
 refine⟨_,rfl,by simpa using A3.row,((Below.refl _ w).alloc (jU _) _).trans (A3.fr.below (by simp) (fun k hk=>by simp [Value.ownBlock] at hk;omega)),fun k hk=>?_⟩
 rcases A3.lies k hk with h|h
 ·simp [Value.ownBlock] at h;omega
 ·simp at h;omega
theorem layEs_snoc:∀ (es:List En) (x:En) (fr:List Nat),layEs (es++[x]) fr=((layEs es fr).1++[layX x (fr.drop (layEs es fr).2.length)],(layEs es fr).2++(newCh x (fr.drop (layEs es fr).2.length)).reverse)
 | [],x,fr=>by simp [layEs]
 | y :: es,x,fr=>by
  simp only [List.cons_append,layEs,layEs_snoc es x,List.drop_drop,jK,List.length_reverse,List.append_assoc]
theorem layEs_take1 (es:List En) (fr:List Nat) (j:Nat) (hj:j<es.length):layEs (es.take (j+1)) fr=((layEs (es.take j) fr).1++[layX es[j] (fr.drop (layEs (es.take j) fr).2.length)],(layEs (es.take j) fr).2++(newCh es[j] (fr.drop (layEs (es.take j) fr).2.length)).reverse):=by
 rw [List.take_succ_eq_append_getElem hj,layEs_snoc]
theorem layEs_take_le:∀ (es:List En) (fr:List Nat) (j:Nat),(layEs (es.take j) fr).2.length≤(layEs es fr).2.length
 | [],_,_=>by simp [layEs]
 | x :: es,fr,0=>by simp [layEs]
 | x :: es,fr,j+1=>by
  have:=layEs_take_le es (fr.drop (newCh x fr).length) j
  simp only [List.take_succ_cons,layEs,jK,List.length_reverse];omega
theorem ecells_put (A B:List En) (x y:En) (o:Int) (s:ByteArray) (hy:y.e=⟨x.e.key,s,x.e.size,o⟩):((ecells (A++x :: B)).set (A.length * 4+3) (.int .i64 o)).set (A.length * 4+1) (.string s)=ecells (A++y :: B):=by
 have hA:(ecells A).length=A.length * 4:=ecells_len A
 have e1:ecells (A++x :: B)=ecells A++(x.e.cells++ecells B):=by simp [ecells]
 have e2:ecells (A++y :: B)=ecells A++(y.e.cells++ecells B):=by simp [ecells]
 rw [e1,e2,← hA,List.set_append_right _ _ (by omega),List.set_append_right _ _ (by omega)]
 congr 1
 rw [show (ecells A).length+3-(ecells A).length=3 by omega,show (ecells A).length+1-(ecells A).length=1 by omega,hy]
 rfl
theorem leaf_small (es:List En) (hn:es.length≤100000) (hf:∀ x∈es,x.fits):(leafPg es).small:=by
 refine⟨by simp [leafPg],by simp [leafPg],by simp [leafPg];omega,?_,?_,?_,Nat.zero_le _⟩
 ·intro e he
  obtain⟨x,hx,rfl⟩:=List.mem_map.1 he
  have:=hf x hx
  exact⟨by have:=this.1;omega,by have:=this.2;omega⟩
 ·simp [leafPg,branchB,beB_length]
 ·have key:∀ (l:List En),(∀ x∈l,x.fits)→((l.map (·.e)).flatMap Ent.bytes).length≤500 * l.length:=by
   intro l
   induction l with
   | nil=>simp
   | cons x l ih =>
    intro h
    have h1:=ih (fun y hy=>h y (by simp [hy]))
    have h2:=h x (by simp)
    have h3:(Ent.bytes x.e).length≤500:=by
     unfold Ent.bytes entBytes
     have:=text_len x.e.key
     have:=text_len x.e.val
     have a1:=h2.1
     have a2:=h2.2
     split
     ·rw [jK,jK];simp;omega
     ·rw [jK,jK,jK,beB_length,beB_length];simp;omega
    rw [List.map_cons,List.flatMap_cons,jK,List.length_cons];omega
  have:=key es hf
  simp only [leafPg,leafB,jK,beB_length];omega
theorem LayAt.not {w:World} {b:Nat} {Sf:Bl} {fa:Option Addr} {fc:Nat} {fr:List Nat} {wv:Value} {ws:List (Nat×ByteArray)} (h:LayAt w b Sf fa fc fr wv ws) {k:Nat} {cs:Array Value} {t:TypeId} (hk:w.heap[k]?=some (.cells cs t)) (h1:t≠220) (h2:t≠209):¬ fpL b wv k:=by
 rintro(rfl|e)
 ·rw [h.box] at hk
  simp at hk
  exact h1 hk.2.symm
 ·exact own_ne h.own hk h2 e
theorem LayAt.beside {w w':World} {b:Nat} {Sf:Bl} {fa:Option Addr} {fc:Nat} {fr:List Nat} {wv:Value} {ws:List (Nat×ByteArray)} (h:LayAt w b Sf fa fc fr wv ws) {Y:Bl} (f:Fr Y w w') (h1:∀ k,Y k→¬ fpL b wv k) (h2:∀ k,Y k→¬ Sf k):LayAt w' b Sf fa fc fr wv ws :=
 ⟨f.heap h.box (fun e=>h1 b e (.inl rfl)),h.free.on (f.on (fun k hk=>⟨(h.apart k hk).1,fun e=>h2 k e hk⟩)),h.some',h.cap,own_on h.own (f.on (Z:=fun k=>wv.ownBlock=some k) (fun k hk=>⟨own_lt h.own hk,fun e=>h1 k e (.inr hk)⟩)) (fun k hk=>hk),fun k hk=>⟨jY (h.apart k hk).1 f.size,(h.apart k hk).2⟩⟩
theorem own_heap {w:World} {e:TypeId} {z g n c:Nat} {xs:List Value} (h:w.ownsRow 0 e z (.slice (some ⟨g,0,none⟩) n c) n xs):∃ cur,w.heap[g]?=some (.cells cur e):=by
 obtain⟨_,h2⟩:=h
 rcases h2 with⟨h3,_⟩|⟨g',cap,cur,h3,_,hg,_⟩
 ·simp at h3
 ·simp only [Value.slice.injEq,Option.some.injEq,Addr.mk.injEq,and_true,true_and] at h3
  obtain⟨rfl,_⟩:=h3
  exact⟨cur,hg⟩
theorem leaf_any (b:Nat) (Sf:Bl) (fs:Fs) (es:List En) (ea:Option Addr) (ec:Nat) (S:Bl) (fa:Option Addr) (fc:Nat) (fr:List Nat) (wv:Value) (ws:List (Nat×ByteArray)) (w:World) (h:LayAt w b Sf fa fc fr wv ws) (hR:RowOn w S ea (ecells es)) (hS:∀ b,S b→b<w.heap.size) (hne:es≠[]) (hr:RiseE es) (hg:∀ x∈es,x.good fs) (ht:tot esz es≤250) (hn:es.length≤1000) (hl:(layEs es fr).2.length<fr.length) (hp:∀ p∈fr,placeB (p:Nat)=true) (hws:ws.length≤10000) :
  Calls Tryz.prog 167 #[.pointer (some ⟨b,0,none⟩),.slice ea es.length ec] w fun e w'=>e=.returned (.int .i64 (fr.getD (layEs es fr).2.length 0:Nat)) ∧
   ∃ fa' fc' wv',LayAt w' b Sf fa' fc' (fr.drop ((layEs es fr).2.length+1)) wv' (ws++((layEs es fr).2++[(fr.getD (layEs es fr).2.length 0,leafPg (layEs es fr).1)]).map enc1)∧Fr (fpL b wv) w w'∧∀ k,wv'.ownBlock=some k→wv.ownBlock=some k∨w.heap.size≤k:=by
 obtain⟨b0,o0,rfl,hb0⟩:=hR.addr (ecells_ne (List.length_pos_iff.2 hne))
 have hC:=clone_any b0 o0 ec es S w hR hS (by omega) hne
 have hcount:=layEs_count es fr
 go_enter Tryz.func167,Tryz.ntmps167
 go_wp2_with (go_at_call 181;(with_reducible refine Calls.mono hC ?_);rintro e wc ⟨v,rfl,hown,hbc,hlies⟩;obtain⟨g,cE,rfl,hgl,hcE⟩:=own_some hown (List.length_pos_iff.2 hne))
 have hgw:w.heap.size≤g:=hlies g rfl
 have hL0:=h.fr hbc
 have bP:Below wc.heap.size wc (wc.alloc (.cells #[.int .i64 3,.int .i64 0,.int .i64 0,.int .i64 0,.slice none 0 0,.slice none 0 0,.slice (some ⟨g,0,none⟩) es.length cE,.string ⟨#[]⟩] 85)):=(Below.refl _ _).alloc (jU _) _
 have xP:=heap_new wc (.cells #[.int .i64 3,.int .i64 0,.int .i64 0,.int .i64 0,.slice none 0 0,.slice none 0 0,.slice (some ⟨g,0,none⟩) es.length cE,.string ⟨#[]⟩] 85)
 have hLP:=hL0.fr bP
 have hoP:=World.ownsRow.alloc (w:=wc) hown (.cells #[.int .i64 3,.int .i64 0,.int .i64 0,.int .i64 0,.slice none 0 0,.slice none 0 0,.slice (some ⟨g,0,none⟩) es.length cE,.string ⟨#[]⟩] 85)
 obtain⟨WP,hWP⟩:∃ WP,wc.alloc (.cells #[.int .i64 3,.int .i64 0,.int .i64 0,.int .i64 0,.slice none 0 0,.slice none 0 0,.slice (some ⟨g,0,none⟩) es.length cE,.string ⟨#[]⟩] 85)=WP:=⟨_,rfl⟩
 obtain⟨p0,p1,p2,p3,p4,p5,p6,p7⟩:=box8 xP
 have FP:Fr (fpL b wv) w WP:=(Fr.of_below hbc).trans (hWP▸Fr.of_below bP)
 go_loopw [14] (fun i wr=>∃ (j:Nat) (fa':Option Addr) (fc':Nat) (wv':Value),i=.int .i64 j∧j≤es.length∧LayAt wr b Sf fa' fc' (fr.drop (layEs (es.take j) fr).2.length) wv' (ws++(layEs (es.take j) fr).2.map enc1)∧wr.ownsRow 0 108 4 (.slice (some ⟨g,0,none⟩) es.length cE) es.length (ecells ((layEs (es.take j) fr).1++es.drop j))∧wr.heap[wc.heap.size]?=some (.cells #[.int .i64 3,.int .i64 0,.int .i64 0,.int .i64 0,.slice none 0 0,.slice none 0 0,.slice (some ⟨g,0,none⟩) es.length cE,.string ⟨#[]⟩] 85)∧Fr (fpL b wv) w wr∧∀ k,wv'.ownBlock=some k→wv.ownBlock=some k∨w.heap.size≤k) (fun i _=>es.length-(intOf i).toNat)
 case atStart=>rw [hWP] at hLP hoP xP ⊢;exact⟨0,fa,fc,wv,rfl,Nat.zero_le _,by simpa [layEs] using hLP,by simpa [layEs] using hoP,xP,FP,fun k hk=>.inl hk⟩
 case round =>
  obtain⟨j,fa',fc',wv',rfl,hj,hL,ho,xp,hF,hli⟩:=hrel
  clear p0 p1 p2 p3 p4 p5 p6 p7
  obtain⟨p0,p1,p2,p3,p4,p5,p6,p7⟩:=box8 xp
  have zF:=hF.size
  by_cases hlt:j<es.length
  ·obtain⟨x,hx⟩:∃ x,es[j]=x:=⟨_,rfl⟩
   have hxm:x∈es:=hx▸List.getElem_mem hlt
   obtain⟨A,hA⟩:∃ A,(layEs (es.take j) fr).1=A:=⟨_,rfl⟩
   have hAl:A.length=j:=by rw [← hA,layEs_length,List.length_take];omega
   obtain⟨f,hf⟩:∃ f,fr.drop (layEs (es.take j) fr).2.length=f:=⟨_,rfl⟩
   have hst:=layEs_take1 es fr j hlt
   rw [hx,hA,hf] at hst
   have hle1:=layEs_take_le es fr (j+1)
   rw [hst] at hle1
   simp only [jK,List.length_reverse] at hle1
   have hfl2:f.length=fr.length-(layEs (es.take j) fr).2.length:=by rw [← hf,List.length_drop]
   have hfl:(newCh x f).length≤f.length:=by omega
   have hfp:∀ p∈f,placeB (p:Nat)=true:=fun p hpp=>hp p (List.mem_of_mem_drop (hf▸hpp))
   have hdr:es.drop j=x :: es.drop (j+1):=by rw [List.drop_eq_getElem_cons hlt,hx]
   rw [hA,hdr] at ho
   rw [hf] at hL
   have hcell:∀ i (u:Value),i<4→x.e.cells[i]?=some u→wr.cell? ⟨g,j * 4+i,none⟩=some u:=fun i u hi hu=>by
    have hidx:(ecells (A++x :: es.drop (j+1)))[j * 4+i]?=some u:=by
     have e1:ecells (A++x :: es.drop (j+1))=ecells A++(x.e.cells++ecells (es.drop (j+1))):=by simp [ecells]
     have hA4:(ecells A).length=j * 4:=by rw [ecells_len,hAl]
     rw [e1,List.getElem?_append_right (by omega),hA4,show j * 4+i-j * 4=i by omega,List.getElem?_append_left (by have:x.e.cells.length=4:=rfl;omega)]
     exact hu
    obtain⟨g',e1,_,_,e2⟩:=own_get ho hidx
    simp only [Option.some.injEq,Addr.mk.injEq,and_true] at e1
    rw [e1];exact e2
   have hgx:=hg x hxm
   obtain⟨⟨xk,xv,xs,xo⟩,xch⟩:=x
   have c0:wr.cell? ⟨g,j * 4,none⟩=some (.string xk):=hcell 0 _ (by decide) rfl
   have c1:wr.cell? ⟨g,j * 4+1,none⟩=some (.string xv):=hcell 1 _ (by decide) rfl
   have c2:wr.cell? ⟨g,j * 4+2,none⟩=some (.int .i64 xs):=hcell 2 _ (by decide) rfl
   have c3:wr.cell? ⟨g,j * 4+3,none⟩=some (.int .i64 xo):=hcell 3 _ (by decide) rfl
   have hcE':es.length≤cE:=by have:=ho.2;rcases this with⟨h1,_⟩|⟨_,cap,cur,h1,_,_,h2,_⟩;simp at h1;simp at h1;omega
   have nE:=heap_new wr (.cells #[.string xk,.string xv,.int .i64 xs,.int .i64 xo] 108)
   obtain⟨q0,q1,q2,q3⟩:=box4 nE
   have bE:Below wr.heap.size wr (wr.alloc (.cells #[.string xk,.string xv,.int .i64 xs,.int .i64 xo] 108)):=(Below.refl _ _).alloc (jU _) _
   have xpE:=heap_keep (.cells #[.string xk,.string xv,.int .i64 xs,.int .i64 xo] 108) xp
   obtain⟨r0,r1,r2,r3,r4,r5,r6,r7⟩:=box8 xpE
   have hLE:=hL.fr bE
   have hoE:=World.ownsRow.alloc (w:=wr) ho (.cells #[.string xk,.string xv,.int .i64 xs,.int .i64 xo] 108)
   have FE:Fr (fpL b wv) w (wr.alloc (.cells #[.string xk,.string xv,.int .i64 xs,.int .i64 xo] 108)):=hF.trans (Fr.of_below bE)
   have HST:Hid (layEs (es.take (j+1)) fr=(A++[layX ⟨⟨xk,xv,xs,xo⟩,xch⟩ f],(layEs (es.take j) fr).2++(newCh ⟨⟨xk,xv,xs,xo⟩,xch⟩ f).reverse)):=hst
   have HF:Hid (fr.drop (layEs (es.take j) fr).2.length=f):=hf
   have HAL:Hid (A.length=j):=hAl
   have same:(⟨⟨xk,xv,xs,xo⟩,xch⟩:En).newB=false→(∃ (j_1:Nat) (fa':Option Addr) (fc':Nat) (wv':Value),(Value.int IntKind.i64 ((j:Int)+1))=.int .i64 j_1∧j_1≤es.length∧LayAt (wr.alloc (.cells #[.string xk,.string xv,.int .i64 xs,.int .i64 xo] 108)) b Sf fa' fc' (fr.drop (layEs (es.take j_1) fr).2.length) wv' (ws++(layEs (es.take j_1) fr).2.map enc1)∧(wr.alloc (.cells #[.string xk,.string xv,.int .i64 xs,.int .i64 xo] 108)).ownsRow 0 108 4 (.slice (some ⟨g,0,none⟩) es.length cE) es.length (ecells ((layEs (es.take j_1) fr).1++es.drop j_1))∧(wr.alloc (.cells #[.string xk,.string xv,.int .i64 xs,.int .i64 xo] 108)).heap[wc.heap.size]?=some (.cells #[.int .i64 3,.int .i64 0,.int .i64 0,.int .i64 0,.slice none 0 0,.slice none 0 0,.slice (some ⟨g,0,none⟩) es.length cE,.string ⟨#[]⟩] 85)∧Fr (fpL b wv) w (wr.alloc (.cells #[.string xk,.string xv,.int .i64 xs,.int .i64 xo] 108))∧∀ k,wv'.ownBlock=some k→wv.ownBlock=some k∨w.heap.size≤k):=by
    intro hnb
    have e1:newCh ⟨⟨xk,xv,xs,xo⟩,xch⟩ f=[]:=by rw [newCh,hnb];rfl
    have e2:layX ⟨⟨xk,xv,xs,xo⟩,xch⟩ f=⟨⟨xk,xv,xs,xo⟩,xch⟩:=by rw [layX,hnb];rfl
    have e3:=HST.out
    rw [e1,e2,List.reverse_nil,List.append_nil] at e3
    refine⟨j+1,fa',fc',wv',by simp,by omega,?_,?_,xpE,FE,hli⟩
    ·rw [e3,HF.out];exact hLE
    ·rw [e3,List.append_assoc];exact hoE
   clear hst hf hAl hcell hx hA hdr hcE
   by_cases ho0:xo=0
   ·subst ho0
    by_cases hs60:60<xs
    ·have hnb:(⟨⟨xk,xv,xs,0⟩,xch⟩:En).newB=true:=by simp [En.newB];omega
     obtain⟨gs1,gs2,gs3,gs4⟩:=good_size hgx hnb
     have ech:newCh ⟨⟨xk,xv,xs,0⟩,xch⟩ f=layV 2 xv f:=by rw [newCh,hnb];rfl
     rw [ech] at hfl
     obtain⟨ch,hch⟩:∃ ch,layV 2 xv f=ch:=⟨_,rfl⟩
     have hlenw:(ws++(layEs (es.take j) fr).2.map enc1).length+2≤100000:=by
      have:=layEs_take_le es fr j
      rw [jK,List.length_map];omega
     have hV:=value_any b Sf 2 xv fa' fc' f wv' (ws++(layEs (es.take j) fr).2.map enc1) (wr.alloc (.cells #[.string xk,.string xv,.int .i64 xs,.int .i64 0] 108)).drew (hLE.fr ((Below.refl _ _).drew)) (by simp only at gs2;omega) (by simp only at gs2;omega) hfl hfp hlenw
     rw [hch] at hV
     have elx:layX ⟨⟨xk,xv,xs,0⟩,xch⟩ f=⟨⟨xk,⟨#[]⟩,xs,(headPl ch:Nat)⟩,ch⟩:=by rw [layX,hnb,if_pos rfl,ech,hch]
     have HST2:Hid (layEs (es.take (j+1)) fr=(A++[⟨⟨xk,⟨#[]⟩,xs,(headPl ch:Nat)⟩,ch⟩],(layEs (es.take j) fr).2++ch.reverse)):=by
      show _=_;rw [HST.out,elx,ech,hch]
     obtain⟨hd,hhd⟩:∃ hd,headPl ch=hd:=⟨_,rfl⟩
     rw [hhd] at hV HST2
     have hs6:(60:Int)<xs:=hs60
     obtain⟨curE,hgE⟩:=own_heap hoE
     have zE:g<wr.heap.size:=(jJ.1 (own_heap ho).choose_spec).1
     have cB:∀ {o:Nat} {u:Value},wr.cell? ⟨g,o,none⟩=some u→(wr.alloc (.cells #[.string xk,.string xv,.int .i64 xs,.int .i64 0] 108)).cell? ⟨g,o,none⟩=some u:=fun h=>by rw [World.cell?_of_block (w:=wr) (bE.block g zE)];exact h
     have d1:=cB c1
     have d3:=cB c3
     have hnp:g≠wc.heap.size:=by omega
     have hpz:=(jJ.1 xp).1
     clear same HST hnb ech hch elx hhd cB hs60 gs1 gs2 gs3 gs4
     go_wp2
     go_region_held3 (fun X=>X.cell? ⟨wc.heap.size,6,none⟩=some (.slice (some ⟨g,0,none⟩) es.length cE)∧X.cell? ⟨wr.heap.size,1,none⟩=some (.string xv))
      ((first|(with_reducible exact⟨r6,q1⟩)|(refine⟨?_,?_⟩<;>(with_reducible refine cell_other (by omega) ?_)<;>(first|(with_reducible exact r6)|(with_reducible exact q1)))|(simp [r6,q1])))
      (first
       | (go_at_call 182;(with_reducible refine Calls.mono hV ?_);rintro e wt ⟨rfl,fa2,fc2,wv2,hL2,hF2,hli2⟩;have hF3:Fr (fpL b wv') (wr.alloc (.cells #[.string xk,.string xv,.int .i64 xs,.int .i64 0] 108)) wt:=(Fr.refl _ _).drew.trans hF2;have xpT:=hF3.heap xpE (hLE.not xpE (by decide) (by decide));have nET:=hF3.heap nE (hLE.not nE (by decide) (by decide));have hng:=hLE.not hgE (by decide) (by decide);have hoT:=own_on hoE (hF3.on (Z:=fun k=>k=g) (fun k hk=>⟨by subst hk;exact(jJ.1 hgE).1,by subst hk;exact hng⟩)) (fun k hk=>by simp [Value.ownBlock] at hk;exact hk.symm);obtain⟨r0,r1,r2,r3,r4,r5,r6,r7⟩:=box8 xpT;obtain⟨q0,q1,q2,q3⟩:=box4 nET;have d1T:=(hF3.cell (o:=j * 4+1) (jJ.1 hgE).1 hng).trans d1;have d3T:=(hF3.cell (o:=j * 4+3) (jJ.1 hgE).1 hng).trans d3;have gfr:=free_of (hF3.heap hgE hng)))
     all_goals
      obtain⟨wz,hwz⟩:∃ wz,wt.setCell ⟨g,j * 4+3,none⟩ (.int .i64 hd)=wz:=⟨_,rfl⟩
      rw [hwz]
      have fz:Fr (Bl.one g) wt wz:=hwz▸(Fr.refl (Bl.one g) wt).setCell (p:=⟨g,j * 4+3,none⟩) (.inl rfl) _
      have xpz:=fz.heap xpT (fun e=>by simp only [Bl.one] at e;omega)
      have hAl:=HAL.out
      have hlenE:(ecells (A++⟨⟨xk,xv,xs,0⟩,xch⟩ :: es.drop (j+1))).length=es.length * 4:=by rw [ecells_len,jK,List.length_cons,List.length_drop];omega
      have hoz:=own_set hoT (j * 4+3) (by omega) (.int .i64 hd)
      rw [hwz] at hoz
      have hoz2:=own_set hoz (j * 4+1) (by rw [List.length_set];omega) (.string ⟨#[]⟩)
      have d1z:wz.cell? ⟨g,j * 4+1,none⟩=some (.string xv):=by rw [← hwz,World.cell?_setCell_other _ _ _ _ (by simp)];exact d1T
      obtain⟨curz,hgz⟩:=own_heap hoz
      have zfr:=free_of hgz
      obtain⟨s0,s1,s2,s3,s4,s5,s6,s7⟩:=box8 xpz
      clear r0 r1 r2 r3 r4 r5 r6 r7 q0 q1 q2 q3 d1T d3T gfr p0 p1 p2 p3 p4 p5 p6 p7 d1 d3 c0 c1 c2 c3
      go_wp2
      have hput:=ecells_put A (es.drop (j+1)) ⟨⟨xk,xv,xs,0⟩,xch⟩ ⟨⟨xk,⟨#[]⟩,xs,(hd:Nat)⟩,ch⟩ (hd:Nat) ⟨#[]⟩ rfl
      rw [hAl] at hput
      rw [hput] at hoz2
      have fz2:Fr (Bl.one g) wt (wz.setCell ⟨g,j * 4+1,none⟩ (.string ⟨#[]⟩)):=fz.setCell (p:=⟨g,j * 4+1,none⟩) (.inl rfl) _
      have hngT:¬ fpL b wv2 g:=hL2.not (hF3.heap hgE hng) (by decide) (by decide)
      refine⟨⟨j+1,fa2,fc2,wv2,by simp,by omega,?_,?_,fz2.heap xpT (fun e=>by simp only [Bl.one] at e;omega),?_,?_⟩,by simp [intOf];omega⟩
      ·rw [HST2.out]
       simp only [jK,List.length_reverse,List.map_append]
       rw [← List.drop_drop,HF.out,← List.append_assoc]
       exact hL2.beside fz2 (fun k hk=>by simp only [Bl.one] at hk;subst hk;exact hngT) (fun k hk=>by simp only [Bl.one] at hk;subst hk;intro hs;have:=(h.apart k hs).1;omega)
      ·rw [HST2.out,List.append_assoc]
       exact hoz2
      ·refine(FE.grow hF3 (fun k hk=>?_)).grow fz2 (fun k hk=>.inr (by simp only [Bl.one] at hk;omega))
       rcases hk with hk|hk
       ·exact .inl (.inl hk)
       ·exact(hli k hk).imp (fun h=>.inr h) id
      ·intro k hk
       rcases hli2 k hk with h1|h1
       ·exact hli k h1
       ·have h2:wr.heap.size+1≤k:=by simpa using h1
        exact .inr (by omega)
    ·have SM:=same (by simp [En.newB];omega)
     have hs6:¬ (60:Int)<xs:=hs60
     clear same
     go_wp2
     exact⟨SM,by simp [intOf];omega⟩
   ·have SM:=same (by simp [En.newB,ho0])
    have hob:(xo==0)=false:=by simpa using ho0
    clear same
    go_wp2
    exact⟨SM,by simp [intOf];omega⟩
  ·obtain rfl:j=es.length:=by omega
   rw [List.take_length] at hL ho
   rw [List.drop_length,List.append_nil] at ho
   obtain⟨les,hles⟩:∃ les,(layEs es fr).1=les:=⟨_,rfl⟩
   have hll:les.length=es.length:=by rw [← hles];exact layEs_length es fr
   obtain⟨pl,hpl⟩:∃ pl,fr[(layEs es fr).2.length]'(by omega)=pl:=⟨_,rfl⟩
   have hgD:fr.getD (layEs es fr).2.length 0=pl:=by rw [List.getD_eq_getElem?_getD,jQ (by omega),hpl];rfl
   have hdr:fr.drop (layEs es fr).2.length=pl :: fr.drop ((layEs es fr).2.length+1):=by rw [List.drop_eq_getElem_cons (by omega),hpl]
   have hE:=layN_enc (fs:=fs) (n:=.leaf ⟨firstKey es,⟨#[]⟩⟩ es) ⟨hne,rfl,hr,ht,hg⟩ fr (by simp only [layN,jK,List.length_singleton];omega) hp (fr.getD (layEs es fr).2.length 0,leafPg (layEs es fr).1) (by simp [layN])
   rw [hles] at ho hE
   have hsm:(leafPg les).small:=leaf_small les (by omega) (fun y hy=>by
    rw [← hles] at hy
    obtain⟨x,hx,f',hf',hfl',rfl,_⟩:=layEs_each (P:=fun _ _=>True) es fr (by omega) y hy
    have hgx:=hg x hx
    refine⟨by rw [layX_key];exact hgx.2.1,?_⟩
    unfold layX
    split
    ·exact Nat.zero_le _
    ·exact(good_fits hgx).2)
   rw [hdr] at hL
   obtain⟨_,_,e1,_,hrow⟩:=own_row0 ho
   simp only [Value.slice.injEq,true_and] at e1
   obtain⟨rfl,rfl⟩:=e1
   have hgz:g<wr.heap.size:=by obtain⟨_,h1⟩:=own_heap ho;exact(jJ.1 h1).1
   obtain⟨curE,hgE⟩:=own_heap ho
   have hPg:=page_any b Sf fa' fc' pl _ wv' _ (leafPg les) none none (some ⟨g,0,none⟩) 0 0 cE (fun k=>k=g) wr hL ⟨.inl rfl,.inl rfl,(by
     have e:(leafPg les).ents.flatMap Ent.cells=ecells les:=rfl
     rw [e];exact hrow.mono (fun k hk=>by simp [Value.ownBlock] at hk;exact hk.symm))⟩ (fun k hk=>by subst hk;exact hgz) (fun e=>hL.not hgE (by decide) (by decide) (.inl e.symm)) hsm hE (by
     rw [jK,List.length_map];omega)
   have e1:(leafPg les).ents.length=es.length:=by simp [leafPg,hll]
   rw [e1] at hPg
   have e2:(leafPg les).keys.length=0:=rfl
   have e3:(leafPg les).kids.length=0:=rfl
   rw [e2,e3] at hPg
   have HO:Hid (ws++((layEs es fr).2++[(fr.getD (layEs es fr).2.length 0,leafPg (layEs es fr).1)]).map enc1=(ws++(layEs es fr).2.map enc1)++[(pl,(leafPg les).encS)]):=by
    show _=_
    rw [hgD,hles,List.map_append,List.append_assoc];rfl
   obtain⟨sn,hsn⟩:∃ sn,(leafPg les).encS=sn:=⟨_,rfl⟩
   rw [hsn] at hPg HO
   have HGD:Hid (fr.getD (layEs es fr).2.length 0=pl):=hgD
   simp only [leafPg] at hPg
   clear e1 e2 e3 hsn hgD hdr hE hles hll hpl
   go_wp2_with (go_at_call 180;(with_reducible refine Calls.mono hPg ?_);rintro e wp ⟨rfl,fa2,wv2,hL2,hF2,hli2⟩)
   go_ret
   rw [HO.out,HGD.out]
   refine⟨rfl,fa2,_,wv2,hL2,hF.grow hF2 (fun k hk=>?_),fun k hk=>?_⟩
   ·rcases hk with hk|hk
    ·exact .inl (.inl hk)
    ·exact(hli k hk).imp (fun h=>.inr h) id
   ·rcases hli2 k hk with h1|h1
    ·exact hli k h1
    ·exact .inr (vJ hF.size h1)
theorem node0_any (b:Nat) (Sf:Bl) (fs:Fs) (n:NT) (hn:Ok0 fs n) (hpl:Placed n) (m:MN) (S:Bl) (fa:Option Addr) (fc:Nat) (fr:List Nat) (wv:Value) (ws:List (Nat×ByteArray)) (w:World) (h:LayAt w b Sf fa fc fr wv ws) (hm:NdOn w S (nd0 n) m) (hS:∀ b,S b→b<w.heap.size) (hlen:n.ents0.length≤1000) (hl:(layN n fr).2.length≤fr.length) (hp:∀ p∈fr,placeB (p:Nat)=true) (hws:ws.length≤10000) :
  Calls Tryz.prog 147 #[.pointer (some ⟨b,0,none⟩),.agg #[.string m.lo,.string m.hi,.int .i64 m.place,.slice m.ea m.en m.ec,.slice m.ka m.kn m.kc]] w fun e w'=>e=.returned (.int .i64 ((layN n fr).1.place:Nat)) ∧
   ∃ fa' fc' wv',LayAt w' b Sf fa' fc' (fr.drop (layN n fr).2.length) wv' (ws++(layN n fr).2.map enc1)∧Fr (fpL b wv) w w'∧∀ k,wv'.ownBlock=some k→wv.ownBlock=some k∨w.heap.size≤k:=by
 obtain⟨lo,hi,pl,ea,en,ec,ka,kn,kc⟩:=m
 obtain⟨W1,hW1⟩:∃ W1,w.alloc (.cells #[.string lo,.string hi,.int .i64 pl,.slice ea en ec,.slice ka kn kc] 224)=W1:=⟨_,rfl⟩
 have b1:Below w.heap.size w W1:=hW1▸(Below.refl _ _).alloc (jU _) _
 have x1:W1.heap[w.heap.size]?=some (.cells #[.string lo,.string hi,.int .i64 pl,.slice ea en ec,.slice ka kn kc] 224):=hW1▸heap_new w _
 obtain⟨m0,m1,m2,m3,m4⟩:=box5 x1
 have h1:=h.fr b1
 cases n with
 | bran=>exact hn.elim
 | kept t s =>
  obtain⟨_,_,_,_,_,ms,g1,g2,g3,g4,g5,g6,g7,g8,g9,g10,g11⟩:=hm
  have g3':pl=t.place:=g3
  have h0:0<t.place:=hpl t s rfl
  have hpb:((pl:Int) != 0)=true:=by simp;omega
  have HP:Hid (pl=t.place):=g3'
  clear g1 g2 g3 g3' g4 g5 g6 g7 g8 g9 g10 g11
  go_enter Tryz.func147,Tryz.ntmps147
  go_wp2
  go_ret
  exact⟨by rw [HP.out];rfl,fa,fc,wv,by simpa [layN] using h1,Fr.of_below b1,fun k hk=>.inl hk⟩
 | leaf s es =>
  obtain⟨_,_,_,_,_,ms,g1,g2,g3,g4,g5,g6,g7,g8,g9,g10,g11⟩:=hm
  have g3':pl=0:=g3
  have g4':en=es.length:=g4
  have g5':kn=0:=g5
  subst g3' g4' g5'
  clear m0 m1 m2 m3 m4
  change w.alloc (.cells #[.string lo,.string hi,.int .i64 0,.slice ea es.length ec,.slice ka 0 kc] 224)=W1 at hW1
  change W1.heap[w.heap.size]?=some (.cells #[.string lo,.string hi,.int .i64 0,.slice ea es.length ec,.slice ka 0 kc] 224) at x1
  obtain⟨m0,m1,m2,m3,m4⟩:=box5 x1
  simp only [layN,jK,List.length_singleton] at hl ⊢
  have hLf:=leaf_any b Sf fs es ea ec S fa fc fr wv ws W1 h1 (g8.on (vV b1 hS)) (fun k hk=>jY (hS k hk) b1.size) hn.1 hn.2.2.1 hn.2.2.2.2 hn.2.2.2.1 hlen (by omega) hp hws
  obtain⟨pp,hpp⟩:∃ pp,fr.getD (layEs es fr).2.length 0=pp:=⟨_,rfl⟩
  rw [hpp] at hLf
  have HPP:Hid (fr.getD (layEs es fr).2.length 0=pp):=hpp
  clear hpp g1 g2 g3 g4 g5 g6 g7 g8 g9 g10 g11 hl
  go_enter Tryz.func147,Tryz.ntmps147
  go_wp2_with (go_at_call 167;(with_reducible refine Calls.mono hLf ?_);rintro e w2 ⟨rfl,fa2,fc2,wv2,hL2,hF2,hli2⟩)
  go_ret
  rw [HPP.out]
  exact⟨rfl,fa2,fc2,wv2,hL2,(Fr.of_below b1).trans hF2,fun k hk=>(hli2 k hk).imp id (fun h=>vJ b1.size h)⟩
theorem layNs_snoc:∀ (ns:List NT) (n:NT) (fr:List Nat),layNs (ns++[n]) fr=((layNs ns fr).1++[(layN n (fr.drop (layNs ns fr).2.length)).1],(layNs ns fr).2++(layN n (fr.drop (layNs ns fr).2.length)).2)
 | [],n,fr=>by simp [layNs]
 | y :: ns,n,fr=>by
  simp only [List.cons_append,layNs,layNs_snoc ns n,List.drop_drop,jK,List.append_assoc]
theorem layNs_take1 (ns:List NT) (fr:List Nat) (j:Nat) (hj:j<ns.length):layNs (ns.take (j+1)) fr=((layNs (ns.take j) fr).1++[(layN ns[j] (fr.drop (layNs (ns.take j) fr).2.length)).1],(layNs (ns.take j) fr).2++(layN ns[j] (fr.drop (layNs (ns.take j) fr).2.length)).2):=by
 rw [List.take_succ_eq_append_getElem hj,layNs_snoc]
theorem layNs_take_le:∀ (ns:List NT) (fr:List Nat) (j:Nat),(layNs (ns.take j) fr).2.length≤(layNs ns fr).2.length
 | [],_,_=>by simp [layNs]
 | x :: ns,fr,0=>by simp [layNs]
 | x :: ns,fr,j+1=>by
  have:=layNs_take_le ns (fr.drop (layN x fr).2.length) j
  simp only [List.take_succ_cons,layNs,jK];omega
def lowsP (ns:List NT) (j:Nat):List ByteArray:=(ns.take j).tail.map (fun n=>n.sp.lo)
def placesP (ns:List NT) (fr:List Nat) (j:Nat):List Nat:=(layNs (ns.take j) fr).1.map T.place
theorem lowsP_succ (ns:List NT) (j:Nat) (hj:j<ns.length) (h0:0<j):lowsP ns (j+1)=lowsP ns j++[(ns[j]).sp.lo]:=by
 unfold lowsP
 rw [List.take_succ_eq_append_getElem hj,List.tail_append_of_ne_nil (by intro e;have:=congrArg List.length e;rw [List.length_take,List.length_nil] at this;omega),List.map_append];rfl
theorem lowsP_one (ns:List NT):lowsP ns 1=[]:=by
 unfold lowsP
 cases ns<;>rfl
theorem lowsP_len (ns:List NT) (j:Nat) (hj:j≤ns.length):(lowsP ns j).length=j-1:=by
 unfold lowsP;rw [List.length_map,List.length_tail,List.length_take];omega
theorem placesP_len (ns:List NT) (fr:List Nat) (j:Nat) (hj:j≤ns.length):(placesP ns fr j).length=j:=by
 unfold placesP;rw [List.length_map,layNs_length,List.length_take];omega
theorem LayAt.notOwn {w:World} {b:Nat} {Sf:Bl} {fa:Option Addr} {fc:Nat} {fr:List Nat} {wv:Value} {ws:List (Nat×ByteArray)} (h:LayAt w b Sf fa fc fr wv ws) {e:TypeId} {z n:Nat} {v:Value} {xs:List Value} (ho:w.ownsRow 0 e z v n xs) (h1:e≠220) (h2:e≠209):∀ k,v.ownBlock=some k→¬ fpL b wv k:=by
 intro k hk
 have ho':=ho
 obtain⟨_,h3⟩:=ho'
 rcases h3 with⟨rfl,_⟩|⟨g,cap,cur,rfl,_,hg,_⟩
 ·simp [Value.ownBlock] at hk
 ·simp [Value.ownBlock] at hk
  subst hk
  exact h.not hg h1 h2
theorem own_keep {Y:Bl} {w w':World} {e:TypeId} {z n:Nat} {v:Value} {xs:List Value} (ho:w.ownsRow 0 e z v n xs) (f:Fr Y w w') (h:∀ k,v.ownBlock=some k→¬ Y k):w'.ownsRow 0 e z v n xs :=
 own_on ho (f.on (Z:=fun k=>v.ownBlock=some k) (fun k hk=>⟨own_lt ho hk,h k hk⟩)) (fun k hk=>hk)
theorem infoInt:(Tryz.prog.info? 3).map (fun i=>(i.zero,i.size,i.bytes))=some (some (.int .i64 0),1,8):=by kernel_rfl
theorem branch_any (b:Nat) (Sf:Bl) (fs:Fs) (ns:List NT) (hn:∀ n∈ns,Ok0 fs n∧Placed n∧n.ents0.length≤1000) (ms:List MN) (ka:Option Addr) (kc:Nat) (S:Bl) (fa:Option Addr) (fc:Nat) (fr:List Nat) (wv:Value) (ws:List (Nat×ByteArray)) (w:World) (h:LayAt w b Sf fa fc fr wv ws) (hR:RowOn w S ka (ncells ms)) (hm:NdsOn w S (ns.map nd0) ms) (hS:∀ k,S k→k<w.heap.size∧¬ fpL b wv k) (hlen:ns.length≤1000) (hkc:ns.length≤kc) (hl:(layNs ns fr).2.length<fr.length) (hp:∀ p∈fr,placeB (p:Nat)=true) (hws:ws.length+(layNs ns fr).2.length≤10000)
  (hE:(branPg (ns.tail.map (fun n=>n.sp.lo)) ((layNs ns fr).1.map T.place)).encE=0) (hsm:(branPg (ns.tail.map (fun n=>n.sp.lo)) ((layNs ns fr).1.map T.place)).small) :
  Calls Tryz.prog 166 #[.pointer (some ⟨b,0,none⟩),.slice ka ns.length kc] w fun e w'=>e=.returned (.int .i64 ((layB ns fr).1.place:Nat)) ∧
   ∃ fa' fc' wv',LayAt w' b Sf fa' fc' (fr.drop (layB ns fr).2.length) wv' (ws++(layB ns fr).2.map enc1)∧Fr (fpL b wv) w w'∧∀ k,wv'.ownBlock=some k→wv.ownBlock=some k∨w.heap.size≤k:=by
 have hml:ms.length=ns.length:=by rw [hm.1,List.length_map]
 have xP:=heap_new w (.cells #[.int .i64 2,.int .i64 0,.int .i64 0,.int .i64 0,.slice none 0 0,.slice none 0 0,.slice none 0 0,.string ⟨#[]⟩] 85)
 have bP:Below w.heap.size w (w.alloc (.cells #[.int .i64 2,.int .i64 0,.int .i64 0,.int .i64 0,.slice none 0 0,.slice none 0 0,.slice none 0 0,.string ⟨#[]⟩] 85)):=(Below.refl _ _).alloc (jU _) _
 have hLP:=h.fr bP
 go_enter Tryz.func166,Tryz.ntmps166
 go_wp2
 go_loopw [11] (fun i wr=>∃ (j:Nat) (vka via:Option Addr) (vkc vic:Nat) (fa':Option Addr) (fc':Nat) (wv':Value),i=.int .i64 j∧j≤ns.length∧wr.heap[w.heap.size]?=some (.cells #[.int .i64 2,.int .i64 0,.int .i64 0,.int .i64 0,.slice vka (lowsP ns j).length vkc,.slice via (placesP ns fr j).length vic,.slice none 0 0,.string ⟨#[]⟩] 85)∧wr.ownsRow 0 9 1 (.slice vka (lowsP ns j).length vkc) (lowsP ns j).length ((lowsP ns j).map .string)∧wr.ownsRow 0 3 1 (.slice via (placesP ns fr j).length vic) (placesP ns fr j).length ((placesP ns fr j).map (fun n:Nat=>Value.int .i64 n))∧LayAt wr b Sf fa' fc' (fr.drop (layNs (ns.take j) fr).2.length) wv' (ws++(layNs (ns.take j) fr).2.map enc1)∧Fr (fpL b wv) w wr∧(∀ k,wv'.ownBlock=some k→wv.ownBlock=some k∨w.heap.size≤k)∧(∀ k,(Value.slice vka (lowsP ns j).length vkc).ownBlock=some k→w.heap.size≤k)∧(∀ k,(Value.slice via (placesP ns fr j).length vic).ownBlock=some k→w.heap.size≤k)) (fun i _=>ns.length-(intOf i).toNat)
 case atStart=>exact⟨0,none,none,0,0,fa,fc,wv,rfl,Nat.zero_le _,by simpa [lowsP,placesP,layNs] using xP,by simpa [lowsP] using World.ownsRow_nil _ _ _ _,by simpa [placesP,layNs] using World.ownsRow_nil _ _ _ _,by simpa [layNs] using hLP,Fr.of_below bP,fun k hk=>.inl hk,by simp [Value.ownBlock],by simp [Value.ownBlock]⟩
 case round =>
  obtain⟨j,vka,via,vkc,vic,fa',fc',wv',rfl,hj,xp,hoK,hoI,hL,hF,hli,hlk,hlii⟩:=hrel
  have zF:=hF.size
  have hpz:w.heap.size<wr.heap.size:=(jJ.1 xp).1
  by_cases hlt:j<ns.length
  ·obtain⟨n,hnj⟩:∃ n,ns[j]=n:=⟨_,rfl⟩
   have hlt2:j<ms.length:=by omega
   obtain⟨m,hmj⟩:∃ m,ms[j]=m:=⟨_,rfl⟩
   have oS:On S w wr:=hF.on (fun k hk=>hS k hk)
   obtain⟨rb,ro,hna,hrb,n0,n1,n2,n3,n4⟩:=(hR.on oS).nod hlt2
   rw [hmj] at n0 n1 n2 n3 n4
   subst hna
   have hnm:NdOn wr S (nd0 n) m:=(hm.2 j (nd0 n) m (by rw [List.getElem?_map,jQ hlt,hnj];rfl) (by rw [jQ hlt2,hmj])).on oS
   have hnn:=hn n (hnj▸List.getElem_mem hlt)
   have hlo:=hnm.lo
   obtain⟨lo,hi,pl,ea,en,ec,qa,qn,qc⟩:=m
   dsimp only at n0 n1 n2 n3 n4 hlo
   have hlo':n.sp.lo=lo:=by rw [hlo];cases n<;>rfl
   have hst:=layNs_take1 ns fr j hlt
   rw [hnj] at hst
   obtain⟨f,hf⟩:∃ f,fr.drop (layNs (ns.take j) fr).2.length=f:=⟨_,rfl⟩
   rw [hf] at hst hL
   have hle1:=layNs_take_le ns fr (j+1)
   have hle0:=layNs_take_le ns fr j
   rw [hst] at hle1
   simp only [jK] at hle1
   have hfl2:f.length=fr.length-(layNs (ns.take j) fr).2.length:=by rw [← hf,List.length_drop]
   have hfp:∀ p∈f,placeB (p:Nat)=true:=fun p hpp=>hp p (List.mem_of_mem_drop (hf▸hpp))
   have nE:=heap_new wr (.cells #[.string lo,.string hi,.int .i64 pl,.slice ea en ec,.slice qa qn qc] 224)
   have bE:Below wr.heap.size wr (wr.alloc (.cells #[.string lo,.string hi,.int .i64 pl,.slice ea en ec,.slice qa qn qc] 224)):=(Below.refl _ _).alloc (jU _) _
   have xpE:=heap_keep (.cells #[.string lo,.string hi,.int .i64 pl,.slice ea en ec,.slice qa qn qc] 224) xp
   have hLE:=hL.fr bE
   have hoKE:=World.ownsRow.alloc (w:=wr) hoK (.cells #[.string lo,.string hi,.int .i64 pl,.slice ea en ec,.slice qa qn qc] 224)
   have hoIE:=World.ownsRow.alloc (w:=wr) hoI (.cells #[.string lo,.string hi,.int .i64 pl,.slice ea en ec,.slice qa qn qc] 224)
   have FE:Fr (fpL b wv) w (wr.alloc (.cells #[.string lo,.string hi,.int .i64 pl,.slice ea en ec,.slice qa qn qc] 224)):=hF.trans (Fr.of_below bE)
   have hSE:∀ k,S k→k<(wr.alloc (.cells #[.string lo,.string hi,.int .i64 pl,.slice ea en ec,.slice qa qn qc] 224)).heap.size:=fun k hk=>by have:=(hS k hk).1;simp;omega
   have hNd:=node0_any b Sf fs n hnn.1 hnn.2.1 ⟨lo,hi,pl,ea,en,ec,qa,qn,qc⟩ S fa' fc' f wv' (ws++(layNs (ns.take j) fr).2.map enc1) (wr.alloc (.cells #[.string lo,.string hi,.int .i64 pl,.slice ea en ec,.slice qa qn qc] 224)).drew (hLE.fr ((Below.refl _ _).drew)) (((hnm.on (vV bE (fun k hk=>by have:=(hS k hk).1;omega))).on (vV ((Below.refl _ _).drew) hSE))) hSE hnn.2.2 (by omega) hfp (by rw [jK,List.length_map];omega)
   obtain⟨pp,hpp⟩:∃ pp,(layN n f).1.place=pp:=⟨_,rfl⟩
   rw [hpp] at hNd
   have HPL:Hid (placesP ns fr (j+1)=placesP ns fr j++[pp]):=by
    show _=_
    unfold placesP
    rw [hst,List.map_append,← hpp];rfl
   have HST:Hid ((layNs (ns.take (j+1)) fr).2=(layNs (ns.take j) fr).2++(layN n f).2):=by show _=_;rw [hst]
   have HF:Hid (fr.drop (layNs (ns.take j) fr).2.length=f):=hf
   have HLO:Hid (0<j→lowsP ns (j+1)=lowsP ns j++[lo]):=fun h0=>by rw [lowsP_succ ns j hlt h0,hnj,hlo']
   have hpln:(placesP ns fr j).length=j:=placesP_len ns fr j hj
   have hlwn:(lowsP ns j).length=j-1:=lowsP_len ns j hj
   have HPN:Hid ((placesP ns fr j).length=j):=hpln
   have HLN:Hid ((lowsP ns j).length=j-1):=hlwn
   obtain⟨u0,u1,u2,u3,u4,u5,u6,u7⟩:=box8 xpE
   obtain⟨q0,q1,q2,q3,q4⟩:=box5 nE
   have hb3:(placesP ns fr j).length+1≤100000:=by omega
   have hb4:(lowsP ns j).length+1≤100000:=by omega
   clear hst hf hle1 hle0 hfl2 hpp hlo hlo' hnj hmj hpln hlwn
   go_wp2
   refine region_anyT (S:=(fun X=>X.cell? ⟨wr.heap.size,0,none⟩=some (.string lo)∧X.cell? ⟨wr.heap.size,1,none⟩=some (.string hi)∧X.cell? ⟨wr.heap.size,2,none⟩=some (.int .i64 pl)∧X.cell? ⟨wr.heap.size,3,none⟩=some (.slice ea en ec)∧X.cell? ⟨wr.heap.size,4,none⟩=some (.slice qa qn qc)∧X.cell? ⟨w.heap.size,5,none⟩=some (.slice via (placesP ns fr j).length vic))) 8 (by kernel_rfl) ?_
   have hHeld:=(show ((fun X=>X.cell? ⟨wr.heap.size,0,none⟩=some (.string lo)∧X.cell? ⟨wr.heap.size,1,none⟩=some (.string hi)∧X.cell? ⟨wr.heap.size,2,none⟩=some (.int .i64 pl)∧X.cell? ⟨wr.heap.size,3,none⟩=some (.slice ea en ec)∧X.cell? ⟨wr.heap.size,4,none⟩=some (.slice qa qn qc)∧X.cell? ⟨w.heap.size,5,none⟩=some (.slice via (placesP ns fr j).length vic))) ((wr.alloc (.cells #[.string lo,.string hi,.int .i64 pl,.slice ea en ec,.slice qa qn qc] 224)).drew) from ⟨q0,q1,q2,q3,q4,u5⟩)
   refine anyT_take (i:=0) (v:=.pointer (some ⟨w.heap.size,5,none⟩)) rfl (by kernel_rfl) (fun _ _ _ h=>h) (.inl ⟨by rfl,fun w hSw=>by(try dsimp only at hSw);go_simp⟩) (by assumption) (fun hHeld=>?_)
   try simp only [Act.put,jV,jZ,jX]
   refine anyT_take (i:=1) (v:=.slice via (placesP ns fr j).length vic) rfl (by kernel_rfl) (fun _ _ _ h=>h) (.inl ⟨by rfl,fun w hSw=>by(try dsimp only at hSw);go_simp⟩) (by assumption) (fun hHeld=>?_)
   try simp only [Act.put,jV,jZ,jX]
   refine anyT_take (i:=2) (v:=.pointer (some ⟨b,0,none⟩)) rfl (by kernel_rfl) (fun _ _ _ h=>h) (.inl ⟨by rfl,fun w hSw=>by(try dsimp only at hSw);go_simp⟩) (by assumption) (fun hHeld=>?_)
   try simp only [Act.put,jV,jZ,jX]
   refine anyT_take (i:=3) (v:=.agg #[.string lo,.string hi,.int .i64 pl,.slice ea en ec,.slice qa qn qc]) rfl (by kernel_rfl) (fun _ _ _ h=>h) (.inl ⟨by rfl,fun w hSw=>by(try dsimp only at hSw);go_simp⟩) (by assumption) (fun hHeld=>?_)
   try simp only [Act.put,jV,jZ,jX]
   refine anyT_one (i:=4) (by kernel_rfl) rfl (fun K hK=>?_)
   go_simp
   (go_at_call 147;(with_reducible refine Calls.mono hNd ?_);rintro e wt ⟨rfl,fa2,fc2,wv2,hL2,hF2,hli2⟩;have hF3:Fr (fpL b wv') (wr.alloc (.cells #[.string lo,.string hi,.int .i64 pl,.slice ea en ec,.slice qa qn qc] 224)) wt:=(Fr.refl _ _).drew.trans hF2;have xpT:=hF3.heap xpE (hLE.not xpE (by decide) (by decide));have nET:=hF3.heap nE (hLE.not nE (by decide) (by decide));have hoKT:=own_keep hoKE hF3 (hLE.notOwn hoKE (by decide) (by decide));have hoIT:=own_keep hoIE hF3 (hLE.notOwn hoIE (by decide) (by decide));obtain⟨u0,u1,u2,u3,u4,u5,u6,u7⟩:=box8 xpT;obtain⟨q0,q1,q2,q3,q4⟩:=box5 nET;have xpTA:=heap_keep (.cells #[.int .i64 (pp:Nat)] 3) xpT;have nETA:=heap_keep (.cells #[.int .i64 (pp:Nat)] 3) nET;obtain⟨t0,t1,t2,t3,t4,t5,t6,t7⟩:=box8 xpTA;obtain⟨qq0,qq1,qq2,qq3,qq4⟩:=box5 nETA)
   simp only []
   refine hK.out _ _ (fun _=>⟨q0,q1,q2,q3,q4,u5⟩) ?_
   clear hK K
   try simp only [Act.put,jV,jZ,jX]
   refine anyT_one (i:=5) (by kernel_rfl) rfl (fun K hK=>?_)
   go_simp
   refine hK.out _ _ (fun _=>⟨qq0,qq1,qq2,qq3,qq4,t5⟩) ?_
   clear hK K
   try simp only [Act.put,jV,jZ,jX]
   refine anyT_one (i:=6) (by kernel_rfl) rfl (fun K hK=>?_)
   (refine step_app1 wt rfl (.tmp 17) (.tmp 21) 22 3 _ 1 8 rfl Tryz.underlying22 infoInt rfl (by decide) (.slice via (placesP ns fr j).length vic) (placesP ns fr j).length ((placesP ns fr j).map (fun n:Nat=>Value.int .i64 n)) (by simp [Act.eval,Act.put]) hoIT [.int .i64 (pp:Nat)] (by simp [Act.eval,Act.put]) rfl (by simp [Value.oneCell']) (by omega) (by omega) ?_;intro v3 w3 A3;obtain⟨g3,k3,rfl⟩:=A3.shape (by decide);have xp3:=A3.fr.heap xpT (own_ne hoIT xpT (by decide));have nE3:=A3.fr.heap nET (own_ne hoIT nET (by decide));obtain⟨u0,u1,u2,u3,u4,u5,u6,u7⟩:=box8 xp3;obtain⟨q0,q1,q2,q3,q4⟩:=box5 nE3;have pfr:=free_of xp3)
   refine hK.out _ _ (fun _=>⟨q0,q1,q2,q3,q4,u5⟩) ?_
   clear hK K
   try simp only [Act.put,jV,jZ,jX]
   have hHeld:=(show ((fun X=>X.cell? ⟨wr.heap.size,0,none⟩=some (.string lo)∧X.cell? ⟨wr.heap.size,1,none⟩=some (.string hi)∧X.cell? ⟨wr.heap.size,2,none⟩=some (.int .i64 pl)∧X.cell? ⟨wr.heap.size,3,none⟩=some (.slice ea en ec)∧X.cell? ⟨wr.heap.size,4,none⟩=some (.slice qa qn qc)∧X.cell? ⟨w.heap.size,5,none⟩=some (.slice via (placesP ns fr j).length vic))) w3 from ⟨q0,q1,q2,q3,q4,u5⟩)
   refine anyT_take (i:=7) (v:=.pointer (some ⟨w.heap.size,5,none⟩)) rfl (by kernel_rfl) (fun _ _ _ h=>h) (.inl ⟨by rfl,fun w hSw=>by(try dsimp only at hSw);go_simp⟩) (by assumption) (fun hHeld=>?_)
   try simp only [Act.put,jV,jZ,jX]
   refine anyT_one (i:=8) (by kernel_rfl) rfl (fun K hK=>?_)
   go_simp
   refine hK.out _ _ (fun e=>by cases e) ?_
   clear hK K
   try simp only [Act.put,jV,jZ,jX]
   refine anyT_done (by kernel_rfl) ?_ _
   all_goals
    obtain⟨w4,hw4⟩:∃ w4,w3.setCell ⟨w.heap.size,5,none⟩ (.slice (some ⟨g3,0,none⟩) ((placesP ns fr j).length+1) k3)=w4:=⟨_,rfl⟩
    rw [hw4]
    have f4:Fr (Bl.one w.heap.size) w3 w4:=hw4▸(Fr.refl (Bl.one w.heap.size) w3).setCell (p:=⟨w.heap.size,5,none⟩) (.inl rfl) _
    have xp4:w4.heap[w.heap.size]?=some (.cells #[.int .i64 2,.int .i64 0,.int .i64 0,.int .i64 0,.slice vka (lowsP ns j).length vkc,.slice (some ⟨g3,0,none⟩) ((placesP ns fr j).length+1) k3,.slice none 0 0,.string ⟨#[]⟩] 85):=by rw [← hw4];have:=set_of xp3 5 (.slice (some ⟨g3,0,none⟩) ((placesP ns fr j).length+1) k3);simpa using this
    have nE4:=f4.heap nE3 (fun e=>by simp only [Bl.one] at e;omega)
    have hoI4:=own_keep A3.row f4 (fun k hk e=>by simp only [Bl.one] at e;subst e;exact own_ne A3.row xp3 (by decide) hk)
    have hoK3:=own_keep hoKT A3.fr (fun k hk e=>by rcases own_ne2 hoKT hoIT (by decide) with h1|h1;rw [h1] at hk;cases hk;exact h1 (hk.trans e.symm))
    have hoK4:=own_keep hoK3 f4 (fun k hk e=>by simp only [Bl.one] at e;subst e;exact own_ne hoK3 xp3 (by decide) hk)
    have hL3:=hL2.beside A3.fr (fun k hk=>hL2.notOwn hoIT (by decide) (by decide) k hk) (fun k hk hs=>by have h1:=hlii k hk;have h2:=(h.apart k hs).1;omega)
    have hL4:=hL3.beside f4 (fun k hk=>by simp only [Bl.one] at hk;subst hk;exact hL3.not xp3 (by decide) (by decide)) (fun k hk hs=>by simp only [Bl.one] at hk;have h2:=(h.apart k hs).1;omega)
    have F3:Fr (fpL b wv) w wt:=FE.grow hF3 (fun k hk=>by rcases hk with hk|hk;exact .inl (.inl hk);exact(hli k hk).imp (fun h=>.inr h) id)
    have F4:Fr (fpL b wv) w w4:=(F3.grow A3.fr (fun k hk=>.inr (hlii k hk))).grow f4 (fun k hk=>.inr (by simp only [Bl.one] at hk;omega))
    have hli4:∀ k,wv2.ownBlock=some k→wv.ownBlock=some k∨w.heap.size≤k:=fun k hk=>by
     rcases hli2 k hk with h1|h1
     ·exact hli k h1
     ·have h2:wr.heap.size+1≤k:=by simpa using h1
      exact .inr (by omega)
    have hli3:∀ k,(Value.slice (some ⟨g3,0,none⟩) ((placesP ns fr j).length+1) k3).ownBlock=some k→w.heap.size≤k:=fun k hk=>by
     rcases A3.lies k hk with h1|h1
     ·exact hlii k h1
     ·have:=F3.size;omega
    have HI:Hid (w4.ownsRow 0 3 1 (.slice (some ⟨g3,0,none⟩) (placesP ns fr (j+1)).length k3) (placesP ns fr (j+1)).length ((placesP ns fr (j+1)).map (fun n:Nat=>Value.int .i64 n))):=by
     rw [HPL.out,jK,List.length_singleton,List.map_append];exact hoI4
    have HLL:Hid (LayAt w4 b Sf fa2 fc2 (fr.drop (layNs (ns.take (j+1)) fr).2.length) wv2 (ws++(layNs (ns.take (j+1)) fr).2.map enc1)):=by
     rw [HST.out,jK,List.map_append,← List.drop_drop,HF.out,← List.append_assoc];exact hL4
    have HPLn:Hid ((placesP ns fr (j+1)).length=(placesP ns fr j).length+1):=by show _=_;rw [HPL.out,jK];rfl
    obtain⟨v0,v1,v2,v3',v4,v5',v6,v7⟩:=box8 xp4
    obtain⟨q0,q1,q2,q3,q4⟩:=box5 nE4
    have pfr4:=free_of xp4
    have nfr4:=free_of nE4
    clear u0 u1 u2 u3 u4 u5 u6 u7 hw4 hNd xpTA nETA qq0 qq1 qq2 qq3 qq4 t0 t1 t2 t3 t4 t5 t6 t7 n0 n1 n2 n3 n4
    by_cases hj0:0<j
    ·have hj0':(0:Int)<(j:Int):=by omega
     go_wp2_with (at_builtin;refine wp_app1 w4 rfl (.tmp 27) (.tmp 31) 70 9 _ 1 16 rfl Tryz.underlying70 infoString rfl (by decide) (.slice vka (lowsP ns j).length vkc) (lowsP ns j).length ((lowsP ns j).map .string) rfl hoK4 [.string lo] (by simp [Act.eval]) rfl (by simp [Value.oneCell']) (by omega) (by omega) ?_;intro vv5 w5 A5;obtain⟨g5,k5,rfl⟩:=A5.shape (by decide);have xp5:=A5.fr.heap xp4 (own_ne hoK4 xp4 (by decide));obtain⟨z0,z1,z2,z3,z4,z5,z6,z7⟩:=box8 xp5;have pfr5:=free_of xp5)
     have f6:Fr (Bl.one w.heap.size) w5 (w5.setCell ⟨w.heap.size,4,none⟩ (.slice (some ⟨g5,0,none⟩) ((lowsP ns j).length+1) k5)):=(Fr.refl (Bl.one w.heap.size) w5).setCell (p:=⟨w.heap.size,4,none⟩) (.inl rfl) _
     have xp6:=set_of xp5 4 (.slice (some ⟨g5,0,none⟩) ((lowsP ns j).length+1) k5)
     have hoI5:=own_keep HI.out A5.fr (fun k hk e=>by rcases own_ne2 HI.out hoK4 (by decide) with h1|h1;rw [h1] at hk;cases hk;exact h1 (hk.trans e.symm))
     have hoI6:=own_keep hoI5 f6 (fun k hk e=>by simp only [Bl.one] at e;subst e;exact own_ne hoI5 xp5 (by decide) hk)
     have hoK6:=own_keep A5.row f6 (fun k hk e=>by simp only [Bl.one] at e;subst e;exact own_ne A5.row xp5 (by decide) hk)
     have hL5:=HLL.out.beside A5.fr (fun k hk=>HLL.out.notOwn hoK4 (by decide) (by decide) k hk) (fun k hk hs=>by have h1:=hlk k hk;have h2:=(h.apart k hs).1;omega)
     have hL6:=hL5.beside f6 (fun k hk=>by simp only [Bl.one] at hk;subst hk;exact hL5.not xp5 (by decide) (by decide)) (fun k hk hs=>by simp only [Bl.one] at hk;have h2:=(h.apart k hs).1;omega)
     have hlw:=HLO.out hj0
     have hlwl:(lowsP ns (j+1)).length=(lowsP ns j).length+1:=by rw [hlw,jK];rfl
     refine⟨⟨j+1,some ⟨g5,0,none⟩,some ⟨g3,0,none⟩,k5,k3,fa2,fc2,wv2,by simp,by omega,?_,?_,hoI6,hL6,(F4.grow A5.fr (fun k hk=>.inr (hlk k hk))).grow f6 (fun k hk=>.inr (by simp only [Bl.one] at hk;omega)),hli4,?_,?_⟩,by simp [intOf];omega⟩
     ·rw [hlwl,HPLn.out];simpa using xp6
     ·rw [hlwl,hlw,List.map_append];exact hoK6
     ·intro k hk
      rw [hlwl] at hk
      rcases A5.lies k hk with h1|h1
      ·exact hlk k h1
      ·have:=F4.size;omega
     ·intro k hk
      rw [HPLn.out] at hk
      exact hli3 k hk
    ·have hj0':¬ (0:Int)<(j:Int):=by omega
     have hj00:j=0:=by omega
     have hl1:lowsP ns (j+1)=lowsP ns j:=by rw [hj00,lowsP_one];rfl
     have HL1:Hid (lowsP ns (j+1)=lowsP ns j):=hl1
     have HJ0:Hid (j=0):=hj00
     clear hl1 hj00
     go_wp2
     refine⟨⟨j+1,vka,some ⟨g3,0,none⟩,vkc,k3,fa2,fc2,wv2,by simp,by omega,?_,?_,HI.out,HLL.out,F4,hli4,?_,?_⟩,by simp [intOf];omega⟩
     ·rw [HL1.out,HPLn.out];exact xp4
     ·rw [HL1.out];exact hoK4
     ·intro k hk;rw [HL1.out] at hk;exact hlk k hk
     ·intro k hk
      rw [HPLn.out] at hk
      exact hli3 k hk
  ·obtain rfl:j=ns.length:=by omega
   rw [List.take_length] at hL
   have hlw:lowsP ns ns.length=ns.tail.map (fun n=>n.sp.lo):=by unfold lowsP;rw [List.take_length]
   have hpw:placesP ns fr ns.length=(layNs ns fr).1.map T.place:=by unfold placesP;rw [List.take_length]
   rw [hlw] at xp hoK hlk
   rw [hpw] at xp hoI hlii
   obtain⟨los,hlos⟩:∃ los,ns.tail.map (fun n=>n.sp.lo)=los:=⟨_,rfl⟩
   obtain⟨pls,hpls⟩:∃ pls,(layNs ns fr).1.map T.place=pls:=⟨_,rfl⟩
   rw [hlos] at xp hoK hlk hE hsm
   rw [hpls] at xp hoI hlii hE hsm
   obtain⟨pl,hpl⟩:∃ pl,fr[(layNs ns fr).2.length]'(by omega)=pl:=⟨_,rfl⟩
   have hgD:fr.getD (layNs ns fr).2.length 0=pl:=by rw [List.getD_eq_getElem?_getD,jQ (by omega),hpl];rfl
   have hdr:fr.drop (layNs ns fr).2.length=pl :: fr.drop ((layNs ns fr).2.length+1):=by rw [List.drop_eq_getElem_cons (by omega),hpl]
   rw [hdr] at hL
   obtain⟨a1,c1,e1,hc1,hrowK⟩:=own_row0 hoK
   simp only [Value.slice.injEq,true_and] at e1
   obtain⟨rfl,rfl⟩:=e1
   obtain⟨a2,c2,e2,hc2,hrowI⟩:=own_row0 hoI
   simp only [Value.slice.injEq,true_and] at e2
   obtain⟨rfl,rfl⟩:=e2
   have hPg:=page_any b Sf fa' fc' pl _ wv' _ (branPg los pls) vka via none vkc vic 0 (fun k=>(Value.slice vka los.length vkc).ownBlock=some k∨(Value.slice via pls.length vic).ownBlock=some k) wr hL ⟨hrowK.mono (fun k hk=>.inl hk),(by
     have e:(branPg los pls).kids.map (Value.int .i64)=pls.map (fun n:Nat=>Value.int .i64 n):=by simp [branPg,Function.comp_def]
     rw [e];exact hrowI.mono (fun k hk=>.inr hk)),.inl rfl⟩ (fun k hk=>by rcases hk with hk|hk;exact own_lt hoK hk;exact own_lt hoI hk) (fun e=>by rcases e with e|e;exact hL.notOwn hoK (by decide) (by decide) _ e (.inl rfl);exact hL.notOwn hoI (by decide) (by decide) _ e (.inl rfl)) hsm hE (by rw [jK,List.length_map];omega)
   have e1:(branPg los pls).kids.length=pls.length:=by simp [branPg]
   rw [e1] at hPg
   have e2:(branPg los pls).ents.length=0:=rfl
   rw [e2] at hPg
   obtain⟨sn,hsn⟩:∃ sn,(branPg los pls).encS=sn:=⟨_,rfl⟩
   rw [hsn] at hPg
   have HO:Hid (ws++(layB ns fr).2.map enc1=(ws++(layNs ns fr).2.map enc1)++[(pl,sn)]):=by
    show _=_
    rw [layB]
    simp only
    rw [hgD,hlos,hpls,List.map_append,List.append_assoc,← hsn];rfl
   have HPP:Hid ((layB ns fr).1.place=pl):=by show _=_;rw [layB];exact hgD
   have HLB:Hid ((layB ns fr).2.length=(layNs ns fr).2.length+1):=by show _=_;rw [layB];simp
   simp only [branPg] at hPg
   obtain⟨v0,v1,v2,v3',v4,v5',v6,v7⟩:=box8 xp
   clear e1 e2 hsn hgD hdr hE hsm hlos hpls hpl hlw hpw
   go_wp2_with (go_at_call 180;(with_reducible refine Calls.mono hPg ?_);rintro e wp ⟨rfl,fa2,wv2,hL2,hF2,hli2⟩)
   go_ret
   rw [HO.out,HPP.out,HLB.out]
   refine⟨rfl,fa2,_,wv2,hL2,hF.grow hF2 (fun k hk=>?_),fun k hk=>?_⟩
   ·rcases hk with hk|hk
    ·exact .inl (.inl hk)
    ·exact(hli k hk).imp (fun h=>.inr h) id
   ·rcases hli2 k hk with h1|h1
    ·exact hli k h1
    ·exact .inr (vJ hF.size h1)
end Go.Proofs.YtfnhmpcpeahfkaaGreat.Tree
