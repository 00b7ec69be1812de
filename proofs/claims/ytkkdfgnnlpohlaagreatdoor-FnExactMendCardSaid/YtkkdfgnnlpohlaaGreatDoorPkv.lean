import Derived.Test.YtkkdfgnnlpohlaaGreatDoorPks
import Derived.Test.YtkkdfgnnlpohlaaGreatDoorPkr
import Derived.Test.YtkkdfgnnlpohlaaGreatDoorPko
import Derived.Test.YtkkdfgnnlpohlaaGreatDoorPkq
namespace Go.Proofs.YtkkdfgnnlpohlaaGreatDoor
set_option maxRecDepth 20000
set_option linter.unusedVariables false
set_option linter.unusedSimpArgs false
set_option maxHeartbeats 4000000
open Go.RowKit Go.Proofs.Tryz
variable {W X Y w w' w0 wr : World} {A B at_ b b2 base' c cap e f g go gs hi i j k lo m n s u val z : Nat} {E G I J K L M N O u0 u1 u2 v0 v1 v2 v3 v4 v5 v6 x y : Value} {o : Oper} {Q : Exit → Act → World → Prop} {cs tmps : Array Value} {t : TypeId} {p : Addr} {l : List Nat} {bvs xs : List Value} {a : List UInt8} {first ok : Bool}
theorem A7(l:LN):(iS l==0)=(fi l&&decide (fW l=0)):=by
 unfold iS;by_cases h:fi l=true
 ·rw[OS h,h];by_cases z:fW l=0
  ·rw[z];rfl
  ·rw[OM z];simp;omega
 ·rw[OR h];simp[h]
theorem gQ.kept{v:Value}{A:List S3}{I:List (LN)}{z:Option Nat}(h:gQ w lo v A I)(E:w.grownBy w' z)(J:v.ownBlock=none∨v.ownBlock≠z)(K:∀y∈A,y.2.2.ownBlock=none∨y.2.2.ownBlock≠z):gQ w' lo v A I:=by
 refine⟨h.len,OE h.row E J,fun i hi=> ?_,h.apart⟩;obtain⟨x,G,L⟩:=h.body i hi;exact⟨x,G,OE L E (K x (List.mem_of_getElem? G))⟩
theorem Spg.kept{w W W':World}{G:Nat}{I v:Value}{K M:Nat}{xs:List Value}{J:List S3}{L:List (LN)}{A:Option Nat}(h:Spg w W G I v K M xs J L)(z:W.grownBy W' A)(E:∀g,A=some g→G≤g)(N:v.ownBlock=none∨v.ownBlock≠A)(O:∀y∈J,y.2.2.ownBlock=none∨y.2.2.ownBlock≠A):Spg w W' G I v K M xs J L:=by
 have Q:=h.lo;have R:=h.sz;refine⟨h.b0.grown z (fun e=>by have:=E _ e.symm;omega),h.b1.grown z (fun e=>by have:=E _ e.symm;omega),OE h.st z ?_,h.stlt,h.os.kept z N O,h.bel.grown z (by omega) (fun g e=>by have:=E g e;omega),O0 h.sz z.size,h.lo⟩;cases hb:I.ownBlock with
 |none=>exact .inl rfl
 |some g=>exact .inr fun e=>by have:=E g e.symm;have:=h.stlt g hb;omega
theorem GU(f p:Nat)(d:LN):∀x∈gA f p d,0<x.2:=by
 induction f generalizing p d with
 |zero=>intro x z;simp[gA] at z
 |succ f ih=>
  intro x z;rw[gA] at z;split at z
  ·cases z
  ·rcases Pd.1 z with rfl|z
   ·exact jM d (by omega)
   ·exact ih _ _ x z
theorem J4{d:LN}{cs:Nat}{x:Nat×Nat}(z:x.1=at_)(A:cs≤at_):ig d cs at_++dS d x=ig d cs (at_+x.2):=by
 unfold ig dS;rw[z,show at_+x.2-cs=(at_-cs)+x.2 from by omega,List.take_add,List.drop_drop,show cs+(at_-cs)=at_ from by omega]
theorem E3{d:LN}{cs:Nat}(z:cs≤at_)(A:at_≤d.length):(ig d cs at_).length=at_-cs:=by
 unfold ig;rw[Pa,O9];omega
theorem dR.text{l:LN}(h:dR w z (sS g n cap) l):eh w g 0 l:=fun i hi=>by
 obtain⟨b,E,e,A⟩:=h.row (by omega);simp only[OY,PG,and_true] at e;obtain⟨rfl,rfl⟩:=e;exact A i hi
theorem dR.at0{v:Value}{l:LN}(h:dR w z v l)(J:0<l.length):∃g c,v=sS g l.length c∧z≤g∧g<w.heap.size∧l.length≤c:=by
 rcases h.2 with⟨_,K⟩|⟨g,cap,I,rfl,A,G,E,_⟩
 ·omega
 ·refine⟨g,cap,rfl,A,OT G,?_⟩;exact E
structure wB(w wr:World)(lo2:Nat)(lv v cur:Value)(d:LN)(xs:List Value)(xsL:List (Nat×Nat))(k cs at_ lc:Nat)(vs:List S3)(acc:List (Nat×Nat×LN)):Prop where
 sg:Spg w wr lo2 lv v 52 xsL.length xs vs (acc.map (·.2.2))
 cu:dR wr lc cur (ig d cs at_)
 lc1:lo2≤lc
 lc2:lc≤wr.heap.size
 ap:∀y∈vs,∀g,y.2.2.ownBlock=some g→g<lc
 cov:lH d at_ (xsL.drop k)
 pos:(at_=0∧cs=0)∨cs<at_
 vm:vs.map (fun x:S3=>(x.1,x.2.1))=acc.map (fun x=>(x.1,x.2.1))
 go:(eI d (xsL.drop k) cs at_).map (acc++·)=eI d xsL 0 0
 al:acc.length≤k
theorem we(b A cap:Nat)(d:LN)(w:World)(E:40000<d.length)(G:d.length≤1048576):
  Calls prog 101 #[.slice (some ⟨b,A,none⟩) d.length cap] w (jx d w):=by
 have hi:(40000:Int)<(d.length:Int):=(by omega);have z:gu (w.alloc (.cells #[.bool false,sN] 179)) w.heap.size (.bool false) (sN):=OP w _;go_enter func101,ntmps101;go_wp2;exact OJ (f9 w.heap.size _ _ _ rfl rfl z) rfl ⟨_,rfl,by rw[jl (Or.inl E)];exact rfl,(OX _ _).alloc (OV _) _⟩
theorem B5{d:LN}{z:List (Nat×Nat)}{x:Nat×Nat}{r:List (Nat×Nat)}{cs:Nat}{A:List (Nat×Nat×LN)}(E:(eI d (x::r) cs at_).map (A++·)=eI d z 0 0)(hcut:iP d x=true∧0<at_)(G:eB (ig d cs at_)=false):eI d z 0 0=none:=by
 rw[←E,eI,OS hcut,OR (by rw[G];simp)];rfl
theorem zn{d:LN}{A:List (Nat×Nat)}{x:Nat×Nat}{r:List (Nat×Nat)}{cs at_:Nat}{z:List (Nat×Nat×LN)}(E:(eI d (x::r) cs at_).map (z++·)=eI d A 0 0)(hcut:iP d x=true∧0<at_)(G:eB (ig d cs at_)=true):(eI d r at_ (at_+x.2)).map ((z++[qh d cs at_])++·)=eI d A 0 0:=by
 rw[←E,eI,OS hcut,OS G];cases eI d r at_ (at_+x.2) with
 |none=>rfl
 |some l=>simp
theorem B6{d:LN}{z:List (Nat×Nat)}{cs:Nat}{A:List (Nat×Nat×LN)}(E:(eI d [] cs at_).map (A++·)=eI d z 0 0)(I:0<at_)(G:eB (ig d cs at_)=false):eI d z 0 0=none:=by
 rw[←E,eI,OS I,OR (by rw[G];simp)];rfl
theorem zo{d:LN}{A:List (Nat×Nat)}{cs:Nat}{z:List (Nat×Nat×LN)}(E:(eI d [] cs at_).map (z++·)=eI d A 0 0)(I:0<at_)(G:eB (ig d cs at_)=true):eI d A 0 0=some (z++[qh d cs at_]):=by
 rw[←E,eI,OS I,OS G];rfl
theorem wh{d:LN}{A:List (Nat×Nat)}{cs:Nat}{z:List (Nat×Nat×LN)}(E:(eI d [] cs at_).map (z++·)=eI d A 0 0)(G:¬0<at_):eI d A 0 0=some z:=by
 rw[←E,eI,OR G];simp
theorem Jd{E w6:World}{G:Nat}{v u:Value}{d:LN}{z:List (Nat×Nat)}{cs V:Nat}{K:List S3}{A:List (Nat×Nat×LN)}{x:Nat×Nat}
  (S:wB w wr G J v N d xs z k cs at_ V K A) (Q:x.1=at_) (Y:0<x.2) (R:lH d (at_+x.2) (z.drop (k+1)))
  (O:(eI d (z.drop (k+1)) at_ (at_+x.2)).map ((A++[qh d cs at_])++·)=eI d z 0 0)
  (I:Spg w E G J v3 52 z.length xs (K++[(cs,at_,u)]) (A.map (·.2.2)++[d6 (et (ig d cs at_))]))
  (M:dR w6 E.heap.size v6 ([]++dS d x)) (L:E.grownBy w6 (Value.slice none 0 0).ownBlock):
  wB w w6 G J v3 v6 d xs z (k+1) at_ (at_+x.2) E.heap.size (K++[(cs,at_,u)]) (A++[qh d cs at_]):=by
 refine⟨?_,?_,I.sz,L.size,fun y U g e=>I.os.lt y U g e,R,Or.inr (by omega),?_,O,by rw[O1];have:=S.al;simp;omega⟩
 ·rw[O7];exact I.kept L (fun g e=>by cases e) (by
   cases e:v3.ownBlock with
   |none=>exact .inl rfl
   |some g=>exact .inr (by simp[Value.ownBlock])) (fun y _=>by
   cases e:y.2.2.ownBlock with
   |none=>exact .inl rfl
   |some g=>exact .inr (by simp[Value.ownBlock]))
 ·rw[PC] at M;have e:ig d at_ (at_+x.2)=dS d x:=by
   unfold ig dS;rw[Q,show at_+x.2-at_=x.2 from by omega]
  rw[e];exact M
 ·rw[O7,O7,S.vm];rfl
theorem Gg{w M w6:World}{J:Nat}{K v G v6:Value}{d:LN}{xs:List Value}{z:List (Nat×Nat)}{k cs at_ E:Nat}{L:List S3}{A:List (Nat×Nat×LN)}{x:Nat×Nat}
  (S:wB w M J K v G d xs z k cs at_ E L A) (O:x.1=at_) (Y:0<x.2) (Q:lH d (at_+x.2) (z.drop (k+1)))
  (N:(eI d (z.drop (k+1)) cs (at_+x.2)).map (A++·)=eI d z 0 0)
  (U:dR w6 E v6 (ig d cs at_++dS d x)) (I:M.grownBy w6 G.ownBlock):
  wB w w6 J K v v6 d xs z (k+1) cs (at_+x.2) E L A:=by
 refine⟨S.sg.kept I (fun g e=>by have:=(OF S.cu g e).1;have:=S.lc1;omega) (mN S.sg.os.row S.cu (by decide)) (fun y V=> ?_),by rw[←J4 O (by have:=S.pos;omega)];exact U,S.lc1,O0 S.lc2 I.size,S.ap,Q,Or.inr (by have:=S.pos;omega),S.vm,N,by have:=S.al;omega⟩;cases e:y.2.2.ownBlock with
 |none=>exact .inl rfl
 |some g=>exact .inr fun R=>by have:=S.ap y V g e;have:=(OF S.cu g R.symm).1;omega
theorem E8{v:Value}{E I:Nat}{A:List S3}{l:List (Nat×Nat×LN)}(S:Spg w W z J v E I xs A (l.map (·.2.2)))(G:A.map (fun x:S3=>(x.1,x.2.1))=l.map (fun x=>(x.1,x.2.1))):
  lK ((W.setCell ⟨w.heap.size,0,none⟩ (.bool true)).setCell ⟨w.heap.size,1,none⟩ v) w.heap.size (.agg #[.bool true,v]) (some l):=by
 have K:=S.lo;exact⟨v,A,rfl,G,((S.os.other (show w.heap.size<z by omega) _).other (show w.heap.size<z by omega) _).mono (by omega)⟩
theorem zh(b J cap:Nat)(d:LN)(w:World)(hd:d.length≤40000)(aT:d.length≤cap)(hT:eh w b J d)(aw:b<w.heap.size)(hb:∀x∈d,x<256):
  Calls prog 101 #[.slice (some ⟨b,J,none⟩) d.length cap] w (jx d w):=by
 have hi:¬(40000:Int)<(d.length:Int):=(by omega);have b0:gu ((w.alloc (.cells #[.bool false,sN] 179)).alloc (.cells #[.bool true,sN] 179)) w.heap.size (.bool false) (sN):=(Below.heap_alloc _ _ _ (by simp)).trans (OP w _);have b1:gu ((w.alloc (.cells #[.bool false,sN] 179)).alloc (.cells #[.bool true,sN] 179)) (w.heap.size+1) (.bool true) (sN):=by
  have h:=OP (w.alloc (.cells #[.bool false,sN] 179)) (.cells #[.bool true,sN] 179);simpa[gu] using h
 have bw:Below w.heap.size w ((w.alloc (.cells #[.bool false,sN] 179)).alloc (.cells #[.bool true,sN] 179)):=((OX _ _).alloc (OV _) _).alloc (by simp) _;have Q:((w.alloc (.cells #[.bool false,sN] 179)).alloc (.cells #[.bool true,sN] 179)).heap.size=w.heap.size+2:=(by simp);have ac:=a8 (show iK d=eI d (eP d) 0 0 by rw[←Ke];unfold rf;rw[OR (by omega)]);have HB:=a8 hb;have HT:=a8 hT;clear hb hT;go_enter func101,ntmps101;go_wp2_with fail;generalize (w.alloc (.cells #[.bool false,sN] 179)).alloc (.cells #[.bool true,sN] 179)=W1 at b0 b1 bw Q⊢;refine(rJ b J cap d W1 (by omega) aT (HT.below bw aw) (by have:=bw.size;omega)).mono ?_;rintro e W2 ⟨lv,rfl,ab,ah⟩;have ap:=jK d;have ay:=BY d (jK d);have an:=GU d.length 0 d;have ba:(eP d).length≤d.length:=pp _ _ _;rw[show gA d.length 0 d=eP d from rfl] at an;generalize eP d=G at ab ap ay an ba ac;obtain⟨la,aE,rfl⟩:=JZ ab;have aV:=ah.size;have S0:wB w W2 W2.heap.size (.slice la G.length aE) (sN) (sN) d (G.map (lnV b J cap)) G 0 0 0 W2.heap.size [] []:=
  ⟨⟨b0.below ah b0.lt,b1.below ah b1.lt,by rw[Q] at ab;exact ab,fun g hg=>(OF ab g hg).2,gQ.nil _ _,bw.trans (ah.mono bw.size),OV _,by omega⟩,by show dR _ _ _ (ig d 0 0);simpa[ig] using dR.nil _ _,OV _,OV _,fun y Z=>(by cases Z),(by simpa using ap),Or.inl ⟨rfl,rfl⟩,rfl,by simp,OV _⟩
 have aI:=a8 S0;have aX:=a8 an;have bd:=a8 ay;clear b0 b1 bw Q ab ah aV ap S0 an ay;go_wp2;go_loopw [4,5,7,16] (fun a c _ i wr=>∃(k cs at_ lc:Nat) (v:Value) (vs:List S3) (ag:List (Nat×Nat×LN)),k≤G.length∧i=iI k∧a=iI at_∧wB w wr W2.heap.size (.slice la G.length aE) v c d (G.map (lnV b J cap)) G k cs at_ lc vs ag) (fun _ _ _ i _=>G.length-(intOf i).toNat)
 case atStart=>exact⟨0,0,0,W2.heap.size,_,[],[],O4 _,rfl,rfl,aI⟩
 case round=>
  obtain⟨k,cs,at_,lc,v,vs,ag,hk,rfl,rfl,z⟩:=hrel;obtain⟨va,vc,bb⟩:=z.sg.os.slice;subst bb;clear aI;have aQ:=H7 z.cov;have be:=z.al;by_cases az:k<G.length
  ·have aN:=z.cov;have I:=z.go;rw[Pv az] at aN I;obtain⟨aj,bc,aD⟩:=aN;have aC:=aX.out _ (O6 az);obtain⟨g1,aZ,hc⟩:=wG (k:=k) z.sg.st (OZ (by simpa using az)) (by omega);subst aZ;rw[Po] at hc;generalize G[k]=x at I aj bc aD aC hc;simp only[lnV] at hc;rw[aj] at hc;have aL:=HT.below z.sg.bel aw;have av:eh wr b (J+at_) (dS d x):=(by rw[←aj];exact lU (fun _=>aL) x (by omega));have aA:=oD d x (by omega);have aM:∀y∈dS d x,y<256:=fun y Z=>HB.out y (oy Z);have hM:=a8 (xl b (J+at_) (cap-at_) x.2 (dS d x) wr aA (by omega) (by omega) av aM);have Q:(iS (dS d x)==0)=iP d x:=A7 (dS d x);generalize iS (dS d x)=mv at hM Q;have aH:=a8 (eJ av);have ae:=E3 (d:=d) (cs:=cs) (at_:=at_) (by have:=z.pos;omega) aQ;have af:=a8 I;have E:=a8 z;have aK:=a8 aD;have am:=a8 aj;have aa:=a8 aA;clear I aL av z aM aD aA aj;go_wp2_with fail;refine(hM.out).mono ?_;rintro e w2 ⟨rfl,rfl⟩;clear hM;by_cases hcut:iP d x=true∧0<at_
   ·rw[hcut.1] at Q;have ao:(0:Int)<(at_:Int):=(by have:=hcut.2;omega);have aF:=a8 hcut;clear hcut;have aS:cs<at_:=by have:=E.pos;omega
    obtain⟨gc,cc,aq,aU,ar,ad⟩:=E.cu.at0 (by omega);have ak:=a8 E.cu;have L:∀y∈ig d cs at_,y<256:=fun y Z=>HB.out y (Pk (Pi Z))
    subst aq;have M:=ak.text;by_cases K:eB (ig d cs at_)=true
    ·have Y:=a8 (pQ E.sg gc cc cs at_ (ig d cs at_) (by omega) (by omega) ad M ar L K (by rw[OW];omega));have HG:=a8 (zn af aF K);clear K M L af;rw[ae] at Y⊢;go_wp2_with fail;refine(Y.out).mono ?_;rintro e w3 ⟨v3,u,rfl,O⟩;have A:=a8 O;have aW:=a8 (fun v6 w6 h6 N=>Jd (v6:=v6) (w6:=w6) E am aC aK HG O h6 N);have aY:=a8 (show dW w3 (some ⟨b,J+at_,none⟩) (dS d x) by rw[←am.out];exact eJ (lU (fun _=>HT.below O.bel aw) x (by have:=am.out;omega)));clear Y O HG;go_wp2_with (at_builtin;refine fE _ rfl (.tmp 32) (.tmp 33) rfl w3.heap.size (sN) [] (dS d x) x.2 aa rfl (dR.nil _ _) ⟨b,J+at_,none⟩ (cap-at_) rfl aY (by have:=aa.out;simp;omega) (OV _) ?_;intro v6 w6 ai N)
     go_roundw
     case rel=>exact⟨k+1,at_,at_+x.2,w3.heap.size,_,_,_,by omega,by go_num,by go_num,aW.out _ _ ai N⟩
     case measure=>simp[intOf];omega
    ·have R:eB (ig d cs at_)=false:=(by simpa using K);have V:=a8 (rK (w.heap.size+1) gc cc at_ (ig d cs at_) w2 (by omega) ad M L R);have U:=a8 (B5 af aF R);have p0:=E.sg.b0.c0;have p1:=E.sg.b0.c1;have f0:=E.sg.b0.fz 0;have f1:=E.sg.b0.fz 1;clear K R M L af;rw[ae] at V⊢;go_wp2_with fail;refine(V.out).mono ?_;rintro e w3 ⟨rfl,rfl⟩;clear V;go_wp2;exact OJ (f9 w.heap.size _ _ _ rfl rfl ((E.sg.b0.set0 _).set1 _)) rfl ⟨_,rfl,by rw[ac.out,U.out];exact rfl,(E.sg.bel.setCell (p:=⟨w.heap.size,0,none⟩) (OV _) _).setCell (p:=⟨w.heap.size,1,none⟩) (OV _) _⟩
   ·have au:(eI d (G.drop (k+1)) cs (at_+x.2)).map (ag++·)=eI d G 0 0:=(by have h:=af.out;rw[eI,OR hcut] at h;exact h);have aG:=a8 (fun v6 w6 h6 N=>Gg (v6:=v6) (w6:=w6) E am aC aK au h6 N);have aP:=E.lc2;have ak:=a8 E.cu;by_cases hh:iP d x=true
    ·have ao:¬(0:Int)<(at_:Int):=(by have:¬0<at_:=fun h=>hcut ⟨hh,h⟩;omega);rw[hh] at Q;clear hcut au hh;go_wp2_with (at_builtin;refine fE _ rfl (.tmp 32) (.tmp 33) rfl lc u5 (ig d cs at_) (dS d x) x.2 aa rfl ak ⟨b,J+at_,none⟩ (cap-at_) rfl aH (by have:=aa.out;omega) aP ?_;intro v6 w6 ai N)
     go_roundw
     case rel=>exact⟨k+1,cs,at_+x.2,lc,_,_,_,by omega,by go_num,by go_num,aG.out _ _ ai N⟩
     case measure=>simp[intOf];omega
    ·have aO:iP d x=false:=(by simpa using hh);rw[aO] at Q;clear hcut au hh aO;go_wp2_with (at_builtin;refine fE _ rfl (.tmp 32) (.tmp 33) rfl lc u5 (ig d cs at_) (dS d x) x.2 aa rfl ak ⟨b,J+at_,none⟩ (cap-at_) rfl aH (by have:=aa.out;omega) aP ?_;intro v6 w6 ai N)
     go_roundw
     case rel=>exact⟨k+1,cs,at_+x.2,lc,_,_,_,by omega,by go_num,by go_num,aG.out _ _ ai N⟩
     case measure=>simp[intOf];omega
  ·obtain rfl:k=G.length:=(by omega);have I:=z.go;rw[PO] at I;have aJ:=a8 z.vm;by_cases h0:0<at_
   ·have ao:(0:Int)<(at_:Int):=(by omega);have aS:cs<at_:=by have:=z.pos;omega
    have ae:=E3 (d:=d) (cs:=cs) (at_:=at_) (by omega) aQ;obtain⟨gc,cc,aq,aU,ar,ad⟩:=z.cu.at0 (by omega);have ax:=z.cu;subst aq;have M:=ax.text;have L:∀y∈ig d cs at_,y<256:=fun y Z=>HB.out y (Pk (Pi Z))
    by_cases K:eB (ig d cs at_)=true
    ·have Y:=a8 (pQ z.sg gc cc cs at_ (ig d cs at_) (by omega) (by omega) ad M ar L K (by rw[OW];omega));have U:=a8 (zo I h0 K);clear K M L I z ax;rw[ae] at Y⊢;go_wp2_with fail;refine(Y.out).mono ?_;rintro e w3 ⟨v3,u,rfl,O⟩;obtain⟨a3,c3,aR⟩:=O.os.slice;rw[O1,OW,List.length_singleton] at aR;subst aR;have A:=a8 (show Spg w w3 W2.heap.size (.slice la G.length aE) (.slice a3 (ag.length+1) c3) 52 G.length (G.map (lnV b J cap)) (vs++[(cs,at_,u)]) ((ag++[qh d cs at_]).map (·.2.2)) by rw[O7];exact O);clear Y O;have p0:=A.b0.c0;have p1:=A.b0.c1;have f0:=A.b0.fz 0;have f1:=A.b0.fz 1;have q0:=A.b1.c0;have q1:=A.b1.c1;go_wp2;exact OJ (f9 w.heap.size _ _ _ rfl rfl ((A.b0.set0 _).set1 _)) rfl ⟨_,rfl,by rw[ac.out,U.out];exact E8 A (by rw[O7,O7,aJ.out];rfl),(A.bel.setCell (p:=⟨w.heap.size,0,none⟩) (OV _) _).setCell (p:=⟨w.heap.size,1,none⟩) (OV _) _⟩
    ·have R:eB (ig d cs at_)=false:=(by simpa using K);have V:=a8 (rK (w.heap.size+1) gc cc at_ (ig d cs at_) wr (by omega) ad M L R);have U:=a8 (B6 I h0 R);have p0:=z.sg.b0.c0;have p1:=z.sg.b0.c1;have f0:=z.sg.b0.fz 0;have f1:=z.sg.b0.fz 1;have E:=a8 z;clear K R M L I z ax;rw[ae] at V⊢;go_wp2_with fail;refine(V.out).mono ?_;rintro e w3 ⟨rfl,rfl⟩;clear V;go_wp2;exact OJ (f9 w.heap.size _ _ _ rfl rfl ((E.sg.b0.set0 _).set1 _)) rfl ⟨_,rfl,by rw[ac.out,U.out];exact rfl,(E.sg.bel.setCell (p:=⟨w.heap.size,0,none⟩) (OV _) _).setCell (p:=⟨w.heap.size,1,none⟩) (OV _) _⟩
   ·have ao:¬(0:Int)<(at_:Int):=(by omega);have U:=a8 (wh I h0);have aB:=z.sg;rw[OW] at aB;have A:=a8 aB;clear I z aB;have p0:=A.b0.c0;have p1:=A.b0.c1;have f0:=A.b0.fz 0;have f1:=A.b0.fz 1;have q0:=A.b1.c0;have q1:=A.b1.c1;go_wp2;exact OJ (f9 w.heap.size _ _ _ rfl rfl ((A.b0.set0 _).set1 _)) rfl ⟨_,rfl,by rw[ac.out,U.out];exact E8 A aJ,(A.bel.setCell (p:=⟨w.heap.size,0,none⟩) (OV _) _).setCell (p:=⟨w.heap.size,1,none⟩) (OV _) _⟩
theorem yA(a:OA)(c:Nat)(w:World):Calls prog 130 #[.slice a 0 c] w fun e w'=>e= .returned (sN)∧w'=w:=by
 go_enter func130,ntmps130;go_wp2;go_loopw [3,4,5,8] (fun o f _ i wr=>o=sN∧f= .int .i64 0∧i= .int .i64 0∧wr=w) (fun _ _ _ _ _=>0)
 case atStart=>exact⟨rfl,rfl,rfl,rfl⟩
 case round=>
  obtain⟨rfl,rfl,rfl,rfl⟩:=hrel;go_wp2;go_ret;exact⟨rfl,rfl⟩
theorem xE:iK []=some []:=by decide
theorem zk(a:OA)(c:Nat)(w:World):Calls prog 101 #[.slice a 0 c] w (jx [] w):=by
 obtain⟨z,E,G,I⟩:=sj w #[.bool false,sN] #[.bool true,sN] 179 179;have M:=a8 (fun(X:World) (h:Below w.heap.size w X)=>show jx [] w (.returned (.agg #[.bool true,sN])) X from⟨_,rfl,by rw[xE];exact⟨_,[],rfl,rfl,gQ.nil _ _⟩,h⟩);have L:=a8 (yA a c);go_enter func101,ntmps101;go_wp2_with fail;generalize (w.alloc (.cells #[.bool false,sN] 179)).alloc (.cells #[.bool true,sN] 179)=W at z E G I⊢;refine(L.out W).mono ?_;rintro e A ⟨rfl,rfl⟩;obtain⟨N,O⟩:=E.c2;obtain⟨R,U⟩:=z.c2;have Q:=fun j=>z.fz j;have K:=a8 G;have J:=a8 z;clear z E G I;go_wp2;go_loopw [4,5,7,16] (fun x y _ i wr=>x= .int .i64 0∧y=sN∧i= .int .i64 0∧wr=A) (fun _ _ _ _ _=>0)
 case atStart=>exact⟨rfl,rfl,rfl,rfl⟩
 case round=>
  obtain⟨rfl,rfl,rfl,rfl⟩:=hrel;go_wp2;refine OJ (f9 w.heap.size _ (.bool true) (sN) rfl rfl ((J.set 0 (.bool true)).set 1 (sN))) rfl (M.out _ ((K.setCell (p:=⟨w.heap.size,0,none⟩) (OV _) _).setCell (p:=⟨w.heap.size,1,none⟩) (OV _) _))
theorem fV.take{a:OA}{d:LN}(h:fV w a c d)(n:Nat):fV w a c (d.take n):=
 ⟨h.row.take n,O0 (by rw[Pa];omega) h.room,h.cap,(fun x z=>h.byte x (Pi z)),h.nl,h.spot⟩
theorem fV.text{a:OA}{d:LN}(h:fV w a c d)(E:0<d.length):∃b z,a=some ⟨b,z,none⟩∧eh w b z d∧b<w.heap.size:=by
 obtain⟨b,z,rfl,A⟩:=h.row E;exact⟨b,z,rfl,fun i hi=>A i hi,dG (A 0 E)⟩
theorem Ka{a:OA}{d:LN}(h:fV w a c d)(I:d.length≤1048576):Calls prog 101 #[.slice a d.length c] w (jx d w):=by
 by_cases A:d.length=0
 ·rw[Pp] at A;subst A;exact zk a c w
 ·obtain⟨b,z,rfl,E,G⟩:=h.text (by omega);by_cases J:40000<d.length
  ·exact we b z c d w J I
  ·exact zh b z c d w (by omega) h.room E G h.byte
section
open Go.Sort Go.Lib
def MC(D:dO)(nm:BA)(w0 w:World)(e:Ending)(w':World):Prop:=∃a c,e= .returned (.tuple #[.slice a (b9 D nm).2.length c,.bool (b9 D nm).1])∧fV w0 a c (b9 D nm).2∧Below w.heap.size w w'
theorem ol(v:Value)(D:dO)(nm:BA)(w0 w:World)(hv:eM D)(hd:kJ w0 v D)(z:Below w0.heap.size w0 w):
  Calls prog 87 #[v,.string nm] w (MC D nm w0 w):=by
 obtain⟨a1,M,L,G,a3,c3,a4,c4,rfl,r1,r2,r3,r4⟩:=hd;have ar:eU (D.nodes.length:Int) D.names=true:=hv.2.2.2.2.1;obtain⟨aj,au,ax,ap⟩:=fX ar;have ay:D.nodes.length≤600:=(by have h:=hv.2.2.2.1;unfold gz at h;exact(OU h).1);have A:=nAl w (.cells #[.slice a1 D.nodes.length M,.slice L D.names.length G,.slice a3 D.kept.length c3,.slice a4 D.pend.length c4,.int .i64 D.quota] 34);have E:=ed.new w #[.slice a1 D.nodes.length M,.slice L D.names.length G,.slice a3 D.kept.length c3,.slice a4 D.pend.length c4,.int .i64 D.quota] 34;have R:=a8 (fun(W:World) (hb:Below w.heap.size w W)=>x7 L G D.names nm W (by omega) (r2.below (z.trans (hb.mono z.size))) au);have ag:=a8 r1;have ah:=a8 (fun(W:World) (hb:Below w.heap.size w W)=>r2.below (z.trans (hb.mono z.size)));have ad:=a8 z;have af:=a8 (fun(n:Int)=>mU (n:=n) (s:=nm) aj.good);have ae:=a8 ap;clear r1 r2 r3 r4 aj au ap ar hv z;go_enter func87,ntmps87;go_wp2_with fail;generalize w.alloc (.cells #[.slice a1 D.nodes.length M,.slice L D.names.length G,.slice a3 D.kept.length c3,.slice a4 D.pend.length c4,.int .i64 D.quota] 34)=wA at A E⊢;refine(R.out wA A).mono ?_;rintro e w1 ⟨⟨i,f,rfl,Y,V⟩,J⟩;have I:=a8 (A.trans (J.mono A.size));have K:=E.below J E.lt;cases f with
 |false=>
  have HN:=a8 (uK (vQ (V rfl)));clear Y V A E J R K;go_wp2;go_ret2;exact⟨none,0,by rw[HN.out];rfl,by rw[HN.out];exact fV.nil _,I⟩
 |true=>
  obtain⟨hi,aq⟩:=Y rfl;have Q:(nm,D.names[i].2)∈D.names:=(by rw[←aq];exact O6 hi);obtain⟨an,ao⟩:=ae.out _ Q;obtain⟨k,N⟩:=Int.eq_ofNat_of_zero_le an;simp only at N ao;have am:k<D.nodes.length:=(by omega);have U:=a8 (pn ((af.out _).2 Q) N am);obtain⟨b2,o2,e2,al⟩:=(ah.out w1 I) (by omega)
  obtain⟨b1,o1,e1,ak⟩:=ag.out (by omega);obtain⟨ai,ci,Z,aa,ac⟩:=ak k am;have O:=ad.trans (I.mono ad.size);have k0:=(O.cell (p:=⟨b1,o1+k*2,none⟩) (dG Z)).trans Z;have k1:=(O.cell (p:=⟨b1,o1+k*2+1,none⟩) (dG aa)).trans aa;have g1:=(al i hi).2;rw[N] at g1;subst e1 e2;obtain⟨t0,t1⟩:=K.c2;have av:(i:Int)<(D.names.length:Int):=(by omega);have aw:(k:Int)<(D.nodes.length:Int):=(by omega);have ab:=a8 ac;clear Z aa O;generalize D.nodes[k].1=bl at k0 U ab;generalize D.nodes[k].2=sf at k1;clear Y V A E J R K Q an ao N ak al ac ae af ag ah aq;go_wp2;go_quiet(fail);go_wp2;go_ret2;exact⟨ai,ci,by rw[U.out];rfl,by rw[U.out];exact ab.out,OI I _⟩
theorem Gt(g:Nat):(⟨#[109,98,111,120,46]⟩:BA)++jd g=ej g:=by
 apply ByteArray.ext;rw[ByteArray.data_append];unfold ej jd;simp
theorem Ep(g:Nat)(w:World)(K:g≤99999)(A:TabIs prog w "internal/strconv.uint64pow10" .u64 Lib.pow10Tab):
  Calls prog 153 #[.int .u64 (g:Int)] w fun e w'=>e= .returned (.string (ej g))∧Below w.heap.size w w':=by
 have z:=a8 (lY g w (by omega) A);have E:=a8 (Gt g);have I:(jd g).size≤24:=by
  have:=Gx g (by omega);have h:(jd g).size=(Lib.decDigits g).length:=(by unfold jd;rfl);rw[h,Lib.decDigits_length];omega
 clear A;generalize jd g=x at z E I;go_enter func153,ntmps153;go_wp2_with fail;refine z.mono ?_;rintro e L ⟨rfl,G⟩;have J:=a8 G;clear G z;go_wp2;go_ret;exact⟨by rw[←E.out];rfl,J⟩
theorem qN(a:OA)(c:Nat)(w:World)(I:c≤9223372036854775807):
  Calls prog 181 #[.slice a 0 c] w fun e w'=>e= .returned (sN)∧Below w.heap.size w w':=by
 have z:=a8 (mh a c [] w (by simp) (by simp) I (fun h=>OH h (Nat.lt_irrefl _)) (fun x K=>by cases K));go_enter func181,ntmps181;go_wp2_with fail;refine z.mono ?_;rintro e L ⟨v,rfl,E,A⟩;have G:=a8 A;have J:∃p q,v= .slice p 0 q:=by
  rcases E.2 with⟨rfl,_⟩|⟨g,cap,M,rfl,_⟩
  ·exact⟨_,_,rfl⟩
  ·exact⟨_,_,rfl⟩
 obtain⟨p,q,rfl⟩:=J;clear E A z;go_wp2;go_loopw [3,5,9] (fun x _ i wr=>x=sN∧i= .int .i64 0∧wr=L) (fun _ _ _ _=>0)
 case atStart=>exact⟨rfl,rfl,rfl⟩
 case round=>
  obtain⟨rfl,rfl,rfl⟩:=hrel;go_wp2;go_ret;exact⟨rfl,G⟩
theorem yo(a:OA)(c:Nat)(w:World)(R:c≤9223372036854775807):Calls prog 154 #[.slice a 0 c] w (jx [] w):=by
 obtain⟨E,G,I,L⟩:=sj w #[.bool false,sN] #[.bool true,sN] 179 179;have Q:=a8 (fun(X:World) (h:Below w.heap.size w X)=>show jx [] w (.returned (.agg #[.bool true,sN])) X from⟨_,rfl,by rw[xE];exact⟨_,[],rfl,rfl,gQ.nil _ _⟩,h⟩);have O:=a8 (fun W=>qN a c W R);go_enter func154,ntmps154;go_wp2_with fail;generalize (w.alloc (.cells #[.bool false,sN] 179)).alloc (.cells #[.bool true,sN] 179)=W at E G I L⊢;refine(O.out W).mono ?_;rintro e A ⟨rfl,J⟩;have z:=E.below J E.lt;have K:=G.below J G.lt;obtain⟨U,V⟩:=K.c2;obtain⟨Z,r1⟩:=z.c2;have Y:=fun j=>z.fz j;have N:=a8 (I.trans (J.mono I.size));have M:=a8 z;clear E G I L z K J;go_wp2;go_loopw [5,6,7,8,9,34] (fun _ _ _ _ _ i wr=>i= .int .i64 0∧wr=A) (fun _ _ _ _ _ _ _=>0)
 case atStart=>exact⟨rfl,rfl⟩
 case round=>
  obtain⟨rfl,rfl⟩:=hrel;go_wp2;refine OJ (f9 w.heap.size _ (.bool true) (sN) rfl rfl ((M.set 0 (.bool true)).set 1 (sN))) rfl (Q.out _ ((N.setCell (p:=⟨w.heap.size,0,none⟩) (OV _) _).setCell (p:=⟨w.heap.size,1,none⟩) (OV _) _))
theorem IT{a:OA}{c:Nat}{d:LN}{w:World}(h:fV w a c d)(I:d.length≤1048576):Calls prog 154 #[.slice a d.length c] w (jx d w):=by
 by_cases A:d.length=0
 ·rw[Pp] at A;subst A;exact yo a c w h.cap
 ·obtain⟨b,z,rfl,E,G⟩:=h.text (by omega);by_cases J:40000<d.length
  ·exact tQ b z c d w J I
  ·exact vF b z c d w (by omega) h.room h.cap E G h.byte
end
end Go.Proofs.YtkkdfgnnlpohlaaGreatDoor
