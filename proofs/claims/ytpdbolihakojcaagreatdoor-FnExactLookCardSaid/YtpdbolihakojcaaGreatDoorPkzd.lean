import Derived.Test.YtpdbolihakojcaaGreatDoorPkz
namespace Go.Proofs.YtpdbolihakojcaaGreatDoor
set_option maxRecDepth 20000
set_option linter.unusedVariables false
set_option linter.unusedSimpArgs false
set_option maxHeartbeats 4000000
open Go.RowKit
variable {W Y w w' w0 wr : World} {b : List UInt8} {A B at_ base' c cap e f g gs i j k lo m n u z : Nat} {R d is l : List Nat} {E G I J K L M N O v0 v1 v2 v3 v4 v5 v6 x y : Value} {o : Oper} {Q : Exit → Act → World → Prop} {bvs xs : List Value} {t : TypeId} {cs tmps : Array Value} {p : Addr} {a : Option Addr} {first ok : Bool} {s : ByteArray} {rs : List (List Nat)}
def oa(w:World)(a:Option Addr)(ls:List LM):Prop:=
 0<ls.length→∃b off,a=some ⟨b,off,none⟩∧∀i (h:i<ls.length),∃ai ci,w.cell? ⟨b,off+i*4,none⟩=some (.int .u32 (ls[i].uid:Int))∧w.cell? ⟨b,off+i*4+1,none⟩=some (.int .i64 (ls[i].stamp:Int))∧w.cell? ⟨b,off+i*4+2,none⟩=some (.int .u32 (ls[i].flags:Int))∧w.cell? ⟨b,off+i*4+3,none⟩=some (.slice ai ls[i].body.length ci)∧dW w ai ls[i].body
theorem oa.below{K:List LM}(h:oa w a K)(A:Below w.heap.size w w'):oa w' a K:=fun R=>by
 obtain⟨b,z,rfl,O⟩:=h R;refine⟨b,z,rfl,fun i Q=> ?_⟩;obtain⟨L,M,E,G,I,J,N⟩:=O i Q;exact⟨L,M,by rw[A.cell (p:=⟨b,z+i*4,none⟩) (dH E)];exact E,by rw[A.cell (p:=⟨b,z+i*4+1,none⟩) (dH G)];exact G,by rw[A.cell (p:=⟨b,z+i*4+2,none⟩) (dH I)];exact I,by rw[A.cell (p:=⟨b,z+i*4+3,none⟩) (dH J)];exact J,N.below A⟩
theorem zE{J:Nat}{ys:List VM}(h:je w lo (.slice a n c) ys)(L:∀m∈ys,dO w J m.v m.x.body):oa w a (ys.map VM.x):=fun I=>by
 rw[MI] at I;obtain⟨g,rfl,_,_⟩:=b9.at0 h (by rw[MI];exact I);refine⟨g,0,rfl,fun i E=> ?_⟩;have A:i<ys.length:=(by rw[MI] at E;exact E);have z:∀k (G:k<4),w.cell? ⟨g,i*4+k,none⟩=(vmC ys[i])[k]? :=fun k G=>by
  have K:=b9.cell h i k (by rw[MI];exact A) (by rw[MY];exact G);rw[K];simp only[MY];exact(MM _).symm
 simp only[MY,Ng];exact⟨ys[i].ba,ys[i].bc,z 0 (by omega),z 1 (by omega),z 2 (by omega),z 3 (by omega),(L _ (MO A)).row⟩
theorem yM(a A:Option Addr)(c c':Nat)(u s f:Int)(l:List Nat)(w:World)(V:l.length≤9223372036854775807)(U:dW w a l)(K:dW w A l):
  Calls Tryz.prog 47 #[.agg #[.int .u32 u,.int .i64 s,.int .u32 f,.slice a l.length c],.agg #[.int .u32 u,.int .i64 s,.int .u32 f,.slice A l.length c']] w fun e w'=>e= .returned (.bool true)∧Below w.heap.size w w':=by
 obtain⟨Q,R,I,Y⟩:=nE w #[.int .u32 u,.int .i64 s,.int .u32 f,.slice a l.length c] #[.int .u32 u,.int .i64 s,.int .u32 f,.slice A l.length c'] 57 57;have O:=a8 (U.below I);have J:=a8 (K.below I);have M:=a8 I;have E:=a8 Q;have G:=a8 R;have hu:(u !=u)=false:=(by simp);have hs:(s !=s)=false:=(by simp);have hf:(f !=f)=false:=(by simp);clear U K I Q R Y;go_enter Tryz.func47,Tryz.ntmps47;go_upto_region 1 with fail;generalize (w.alloc (.cells #[.int .u32 u,.int .i64 s,.int .u32 f,.slice a l.length c] 57)).alloc (.cells #[.int .u32 u,.int .i64 s,.int .u32 f,.slice A l.length c'] 57)=z at O J M E G⊢;obtain⟨Z,p1,p2,p3⟩:=E.out.c4;obtain⟨q0,q1,q2,q3⟩:=G.out.c4;have L:=a8 ((qs a A c c' l l z V O.out J.out).mono (fun e w' h=>(show e= .returned (.bool true)∧∃n,w'=z.drewN n from⟨by rw[h.1,decide_eq_true (rfl:l=l)],h.2⟩)));go_wp2_with fail;refine L.out.mono ?_;rintro e w2 ⟨rfl,n,rfl⟩;have N:=a8 (below_drewN M.out n);clear L Z p1 p2 p3 q0 q1 q2 q3;generalize z.drewN n=w3 at N⊢;go_wp2;go_ret;exact⟨rfl,N.out⟩
theorem wJ(a a':Option Addr)(cap ad:Nat)(z:List LM)(w:World)(hl:z.length≤9223372036854775807)(aa:∀e∈z,e.body.length≤9223372036854775807)(hr:oa w a z)(ab:oa w a' z):
  Calls Tryz.prog 23 #[.slice a z.length cap,.slice a' z.length ad] w fun e w'=>e= .returned (.bool true)∧Below w.heap.size w w':=by
 go_enter Tryz.func23,Tryz.ntmps23;go_wp2;go_loopw [5] (fun i wr=>∃k:Nat,k≤z.length∧i= .int .i64 k∧Below w.heap.size w wr) (fun i _=>z.length-(intOf i).toNat)
 case atStart=>exact⟨0,MQ _,rfl,MJ _ _⟩
 case round=>
  obtain⟨k,hk,rfl,A⟩:=hrel;by_cases E:k<z.length
  ·obtain⟨b,aj,rfl,hc⟩:=(hr.below A) (by omega)
   obtain⟨b',ah,rfl,M⟩:=(ab.below A) (by omega)
   obtain⟨ai,ci,N,O,Q,R,ac⟩:=hc k E;obtain⟨af,ag,U,V,hd2,Y,J⟩:=M k E;have Z:=aa _ (MO E);have L:=a8 ac;have G:=a8 J;have K:=a8 Z;have HN:=a8 A;clear hc M hr ab A ac J Z aa;generalize z[k].body=l0 at R Y L G K;generalize (z[k].uid:Int)=u0 at N U;generalize (z[k].stamp:Int)=s0 at O V;generalize (z[k].flags:Int)=f0 at Q hd2;go_wp2;go_region_with (go_at_call 47;refine(yM ai af ci ag u0 s0 f0 l0 _ K.out (L.out.drew 1) (G.out.drew 1)).mono ?_;rintro e w2 ⟨rfl,hb⟩)
   all_goals
    have I:Below w.heap.size w w2:=HN.out.drew.trans (hb.mono HN.out.size);have ae:=a8 I;clear I hb N O Q R U V hd2 Y;go_wp2;go_roundw
    case rel=>exact⟨k+1,by omega,by go_num,ae.out⟩
    case measure=>simp[intOf];omega
  ·go_wp2;go_ret;exact⟨rfl,A⟩
theorem yO(a I:Option Addr)(c c':Nat)(v0 v1 v2 v3 v4:Int)(z:List LM)(w:World)(hl:z.length≤9223372036854775807)(M:∀e∈z,e.body.length≤9223372036854775807)(Y:oa w a z)(N:oa w I z):
  Calls Tryz.prog 8 #[.agg #[.int .i64 v0,.int .i64 v1,.int .u32 v2,.int .u32 v3,.int .u32 v4,.slice a z.length c],.agg #[.int .i64 v0,.int .i64 v1,.int .u32 v2,.int .u32 v3,.int .u32 v4,.slice I z.length c']] w fun e w'=>e= .returned (.bool true)∧Below w.heap.size w w':=by
 obtain⟨U,V,J,hz⟩:=nE w #[.int .i64 v0,.int .i64 v1,.int .u32 v2,.int .u32 v3,.int .u32 v4,.slice a z.length c] #[.int .i64 v0,.int .i64 v1,.int .u32 v2,.int .u32 v3,.int .u32 v4,.slice I z.length c'] 31 31;have R:=a8 (Y.below J);have K:=a8 (N.below J);have Q:=a8 J;have E:=a8 U;have G:=a8 V;have Z:=a8 M;have e0:(v0 !=v0)=false:=(by simp);have e1:(v1 !=v1)=false:=(by simp);have e2:(v2 !=v2)=false:=(by simp);have e3:(v3 !=v3)=false:=(by simp);have e4:(v4 !=v4)=false:=(by simp);clear Y N J U V hz M;go_enter Tryz.func8,Tryz.ntmps8;go_upto_region 1 with fail;generalize (w.alloc (.cells #[.int .i64 v0,.int .i64 v1,.int .u32 v2,.int .u32 v3,.int .u32 v4,.slice a z.length c] 31)).alloc (.cells #[.int .i64 v0,.int .i64 v1,.int .u32 v2,.int .u32 v3,.int .u32 v4,.slice I z.length c'] 31)=A at R K Q E G⊢;obtain⟨p0,p1,p2,p3,p4,p5⟩:=E.out.c6;obtain⟨q0,q1,q2,q3,q4,q5⟩:=G.out.c6;have O:=a8 (wJ a I c c' z A hl Z.out R.out K.out);go_wp2_with fail;refine O.out.mono ?_;rintro e w2 ⟨rfl,L⟩;have HB:=bTr Q L;clear O p0 p1 p2 p3 p4 p5 q0 q1 q2 q3 q4 q5 L;go_wp2;go_ret;exact⟨rfl,HB.out⟩
def mlK(m:VM):Nat:=m.x.body.length+3
def mk1(k:Nat)(m:VM):VM:=⟨⟨k,k+1,k+2,iV (k+3) m.x.body.length⟩,m.ba,m.bc⟩
def kV(k:Nat):List VM→Nat→Nat
 |_,0=>k
 |[],_=>k
 |u::r,i+1=>kV (k+mlK u) r i
def mvs(k:Nat):List VM→List VM
 |[]=>[]
 |u::r=>mk1 k u::mvs (k+mlK u) r
theorem fE:∀(k:Nat) (us:List VM),(mvs k us).length=us.length
 |_,[]=>rfl
 |k,u::r=>by rw[mvs,M2,M2,fE]
theorem Hn:∀(k:Nat) (us:List VM) (i:Nat) (h:i<us.length),(mvs k us)[i]? =some (mk1 (kV k us i) us[i])
 |k,u::r,0,_=>rfl
 |k,u::r,i+1,h=>by rw[mvs,Ni,Hn (k+mlK u) r i (by simpa using h)];rfl
 |_,[],i,h=>by simp at h
theorem rp(k:Nat)(us:List VM)(i:Nat)(h:i<us.length):(mvs k us)[i]'(by rw[fE];exact h)=mk1 (kV k us i) us[i]:=by
 have:=Hn k us i h;rw[MM (by rw[fE];exact h),MK] at this;exact this
theorem xc(k:Nat)(us:List VM):kV k us 0=k:=by cases us<;>rfl
theorem oV:∀(k:Nat) (us:List VM) (i:Nat) (h:i<us.length),kV k us (i+1)=kV k us i+mlK us[i]
 |k,u::r,0,_=>by cases r<;>rfl
 |k,u::r,i+1,h=>by
  show kV (k+mlK u) r (i+1)=kV (k+mlK u) r i+_;rw[oV (k+mlK u) r i (by simpa using h)];rfl
 |_,[],i,h=>by simp at h
theorem Kz(k:Nat)(us:List VM)(i:Nat)(h:i≤us.length):kV k us i≤kV k us us.length:=by
 induction hn:us.length-i generalizing i with
 |zero=>rw[show i=us.length from by omega];exact MH _
 |succ n ih=>
  have z:=ih (i+1) (by omega) (by omega);rw[oV k us i (by omega)] at z;omega
theorem GV(us:List VM)(A:us.length≤100)(z:∀m∈us,m.x.body.length≤8000):kV 1 us us.length≤800301:=by
 have h:∀i,i≤us.length→kV 1 us i≤1+i*8003:=fun i=>by
  induction i with
  |zero=>intro _;rw[xc];omega
  |succ i ih=>
   intro E;have:=ih (by omega);have G:=z _ (MO (show i<us.length by omega));rw[oV 1 us i (by omega)];unfold mlK;omega
 have:=h us.length (MH _);omega
theorem uf(a:Option Addr)(cap k:Nat)(us:List VM)(w:World)(hk:kV k us us.length≤1000000)(hl:us.length≤1000)(hr:oa w a ((mvs k us).map VM.x)):
  Calls Tryz.prog 31 #[.slice a us.length cap,.int .i64 (k:Int)] w fun e w'=>e= .returned (.int .i64 ((kV k us us.length:Nat):Int))∧w'=w:=by
 have Z:((mvs k us).map VM.x).length=us.length:=(by rw[MI,fE]);have V:=a8 Z;clear Z;go_enter Tryz.func31,Tryz.ntmps31;go_wp2;go_loop [1,5] (fun s i=>∃j:Nat,j≤us.length∧i= .int .i64 j∧s= .int .i64 ((kV k us j:Nat):Int)) (fun _ i=>us.length-(intOf i).toNat)
 case atStart=>exact⟨0,MQ _,rfl,by rw[xc]⟩
 case round=>
  obtain⟨j,hj,rfl,rfl⟩:=hrel;by_cases N:j<us.length
  ·obtain⟨b,ae,rfl,hc⟩:=hr (by rw[V.out];omega);obtain⟨ai,ci,I,A,E,G,z⟩:=hc j (by rw[V.out];exact N);simp only[MY,rp k us j N] at I A E G z;have M:=oV k us j N;have J:=Kz k us (j+1) (by omega);have U:=a8 M;rw[M] at J;unfold mlK at J;unfold mk1 at I A E G z;simp only[gQ] at I A E G z;have Y:=a8 (show mlK us[j]=us[j].x.body.length+3 from rfl);have Q:=a8 (MN J hk);clear hc hr M J hk;generalize kV k us j=K at I A E G z U Q⊢;generalize us[j].x.body.length=L at G z Y Q;have hK:=Q.out;have O:=a8 (ue ai ci (K+3) L w (by omega) (by omega) z);clear z;generalize hR:K+3+L=R at O;have ac:¬(R:Int)<0:=(by omega);have ad:R≤1000000:=(by omega);have aa:=a8 hR;have n0:((K:Int) !=(K:Int))=false:=(by simp);have ab:K≤1000000:=(by omega);have c1:((K+1:Nat):Int)=(K:Int)+1:=(by omega);have c2:((K+2:Nat):Int)=(K:Int)+2:=(by omega);have c3:((K+3:Nat):Int)=(K:Int)+3:=(by omega);rw[c1] at A;rw[c2] at E;rw[c3] at O;have n1:(((K:Int)+1) !=((K:Int)+1))=false:=(by simp);have n2:(((K:Int)+2) !=((K:Int)+2))=false:=(by simp);clear hR hK c1 c2 c3;go_wp2_with fail;refine O.out.mono ?_;rintro e w3 ⟨rfl,rfl⟩;go_wp2;go_round
   case rel=>exact⟨j+1,by omega,by go_num,fy (by have h1:=U.out;have h2:=Y.out;have h5:=aa.out;omega)⟩
   case measure=>simp[intOf];omega
  ·obtain rfl:j=us.length:=(by omega);go_wp2;go_ret;exact⟨rfl,rfl⟩
theorem wP(a:Option Addr)(cap k:Nat)(A E x2 x3 x4:Value)(us:List VM)(w:World)(M:kV k us us.length≤1000000)(U:us.length≤1000)(N:oa w a ((mvs k us).map VM.x)):
  Calls Tryz.prog 12 #[.agg #[A,E,x2,x3,x4,.slice a us.length cap],.int .i64 (k:Int)] w fun e w'=>e= .returned (.int .i64 ((kV k us us.length:Nat):Int))∧Below w.heap.size w w':=by
 have I:Below w.heap.size w (w.alloc (.cells #[A,E,x2,x3,x4,.slice a us.length cap] 31)):=(MJ _ _).alloc (MH _) _;have L:=dN w #[A,E,x2,x3,x4,.slice a us.length cap] 31;have G:=a8 (uf a cap k us _ M U (N.below I));have K:=a8 I;have J:=a8 L;have Q:¬(((kV k us us.length:Nat):Int))<0:=(by omega);clear I L N M;go_enter Tryz.func12,Tryz.ntmps12;go_upto_region 1 with fail;generalize w.alloc (.cells #[A,E,x2,x3,x4,.slice a us.length cap] 31)=V at G K J⊢;obtain⟨-,-,-,-,-,Y⟩:=J.out.c6;generalize O:((kV k us us.length:Nat):Int)=z at Q G⊢;have R:=a8 O;clear O;go_wp2_with fail;refine G.out.mono ?_;rintro e Z ⟨rfl,rfl⟩;go_wp2;go_ret;exact⟨by rw[R.out];rfl,K.out⟩
def mpt(k:Nat)(us:List VM)(j:Nat):List VM:=(mvs k us).take j++us.drop j
theorem Hm(k:Nat)(us:List VM):mpt k us 0=us:=by simp[mpt]
theorem JM(k:Nat)(us:List VM):mpt k us us.length=mvs k us:=by
 unfold mpt;rw[Nx,Nn,←fE k us,NE]
theorem sN(k:Nat)(us:List VM)(j:Nat)(h:j≤us.length):(mpt k us j).length=us.length:=by
 unfold mpt;rw[MT,MZ,MU,fE];omega
theorem DK(k:Nat)(m:VM):vmC (mk1 k m)=[.int .u32 (k:Int),.int .i64 ((k+1:Nat):Int),.int .u32 ((k+2:Nat):Int),.slice m.ba m.x.body.length m.bc]:=by
 unfold vmC mk1;simp only[gQ]
theorem jD{α:Type}(f:α→α)(x:α)(r:List α):∀P:List α,(P++x::r).modify P.length f=P++f x::r
 |[]=>rfl
 |p::P=>by
  rw[List.cons_append,M2,List.modify_succ_cons,jD f x r P,List.cons_append]
theorem Hl(k:Nat)(us:List VM)(j:Nat)(h:j<us.length):
  ((((mpt k us j).map vmC).modify j (fun x=>x.set 0 (.int .u32 ((kV k us j:Nat):Int)))).modify j (fun x=>x.set 1 (.int .i64 ((kV k us j+1:Nat):Int)))).modify j (fun x=>x.set 2 (.int .u32 ((kV k us j+2:Nat):Int)))=(mpt k us (j+1)).map vmC:=by
 have I:((mvs k us).take j).length=j:=(by rw[MZ,fE];omega);have A:mpt k us j=(mvs k us).take j++us[j]::us.drop (j+1):=by
  unfold mpt;rw[Nl h]
 have E:mpt k us (j+1)=(mvs k us).take j++mk1 (kV k us j) us[j]::us.drop (j+1):=by
  unfold mpt;rw[gF (mvs k us) j (by rw[fE];exact h),rp k us j h,Nz];rfl
 rw[A,E,MS,MS,M0,M0,DK];generalize G:((mvs k us).take j).map vmC=P;have z:P.length=j:=(by rw[←G,MI];exact I);subst z;rw[jD,jD,jD];rfl
structure MkI(lo hi k:Nat)(a:Option Addr)(cap:Nat)(us:List VM)(w wr:World)(i j:Nat):Prop where
 row:je wr lo (.slice a us.length cap) (mpt k us i)
 bod:∀i (h:i<us.length),dO wr lo us[i].v (if i<j then iV (kV k us i+3) us[i].x.body.length else us[i].x.body)
 out:Out lo hi w wr
 sz:wr.heap.size=w.heap.size
theorem zW{v:Value}{ys:List VM}{u:Value}(h:je w lo v ys)(A:dO w lo u l)(g:Nat)(z:v.ownBlock=some g):u.ownBlock≠some g:=j8 h A (by decide) g z
theorem MkI.three{G:Nat}{us:List VM}(h:MkI lo G k (some ⟨g,0,none⟩) cap us w wr j j)(K:j<us.length)(A:g<G):
  MkI lo G k (some ⟨g,0,none⟩) cap us w (((wr.setCell ⟨g,j*4,none⟩ (.int .u32 ((kV k us j:Nat):Int))).setCell ⟨g,j*4+1,none⟩ (.int .i64 ((kV k us j+1:Nat):Int))).setCell ⟨g,j*4+2,none⟩ (.int .u32 ((kV k us j+2:Nat):Int))) (j+1) j:=by
 have E:=(b9.lt h.row g rfl).1;have L:∀b,b≠g→(((wr.setCell ⟨g,j*4,none⟩ (.int .u32 ((kV k us j:Nat):Int))).setCell ⟨g,j*4+1,none⟩ (.int .i64 ((kV k us j+1:Nat):Int))).setCell ⟨g,j*4+2,none⟩ (.int .u32 ((kV k us j+2:Nat):Int))).heap[b]? =wr.heap[b]? :=fun b z=>by
  rw[heap_setCell_other _ ⟨g,j*4+2,none⟩ b _ (by simpa using z),heap_setCell_other _ ⟨g,j*4+1,none⟩ b _ (by simpa using z),heap_setCell_other _ ⟨g,j*4,none⟩ b _ (by simpa using z)]
 refine⟨?_,fun i I=> ?_,?_,by simpa using h.sz⟩
 ·have J:=b9.store (b9.store (b9.store h.row j 0 (by omega) (.int .u32 ((kV k us j:Nat):Int))) j 1 (by omega) (.int .i64 ((kV k us j+1:Nat):Int))) j 2 (by omega) (.int .u32 ((kV k us j+2:Nat):Int));rw[Hl k us j K] at J;exact J
 ·exact gS (h.bod i I) (fun b z _=>L b (fun e=>zW h.row (h.bod i I) g rfl (by rw[←e];exact z)))
 ·exact((h.out.set E A).set E A).set E A
theorem FJ{us:List VM}(h:iM (us.map VM.v))(i j:Nat)(A:i<us.length)(E:j<us.length)(K:i≠j):us[i].v.ownBlock=none∨us[i].v.ownBlock≠us[j].v.ownBlock:=by
 have G:=M8.1 h;rcases NB i j with I|J
 ·have:=G i j (by simpa using A) (by simpa using E) I;simpa using this
 ·have:=G j i (by simpa using E) (by simpa using A) (by omega);simp only[MY] at this;rcases this with z|z
  ·rw[z];cases us[i].v.ownBlock with
   |none=>exact .inl rfl
   |some g=>exact .inr (by simp)
  ·exact .inr (fun e=>z e.symm)
theorem MkI.body{us:List VM}(h:MkI lo A k a cap us w W (j+1) j)(E:j<us.length)(M:iM (us.map VM.v))(N:∀g,us[j].v.ownBlock=some g→g<A)(O:dO w' lo us[j].v (iV (kV k us j+3) us[j].x.body.length))(z:W.grownBy w' us[j].v.ownBlock)(Q:w'.heap.size=W.heap.size):MkI lo A k a cap us w w' (j+1) (j+1):=by
 refine⟨?_,fun i I=> ?_,?_,Q.trans h.sz⟩
 ·refine b9.kept h.row z ?_;cases hv:(Value.slice a us.length cap).ownBlock with
  |none=>exact .inl rfl
  |some g=>exact .inr (fun e=>zW h.row (h.bod j E) g hv e.symm)
 ·by_cases L:i=j
  ·subst L;rw[if_pos (by omega)];exact O
  ·have K:=h.bod i I;have e:(if i<j+1 then iV (kV k us i+3) us[i].x.body.length else us[i].x.body)=(if i<j then iV (kV k us i+3) us[i].x.body.length else us[i].x.body):=by
    by_cases J:i<j
    ·rw[if_pos J,if_pos (by omega)]
    ·rw[if_neg J,if_neg (by omega)]
   rw[e];exact⟨K.1,World.ownsRow.kept K z (FJ M i j I E L)|>.2⟩
 ·exact h.out.trans (Out.of_grown z (fun g G=>⟨(World.ownsRow.lt (h.bod j E) g G).1,N g G⟩))
theorem ur(lo A k:Nat)(a:Option Addr)(cap:Nat)(us:List VM)(w:World)(hk:kV k us us.length≤1000000)(hl:us.length≤1000)(ho:je w lo (.slice a us.length cap) us)(hb:∀m∈us,dO w lo m.v m.x.body)(af:iM (us.map VM.v))(ah:∀g,(Value.slice a us.length cap).ownBlock=some g→g<A)(ag:∀m∈us,∀g,m.v.ownBlock=some g→g<A):
  Calls Tryz.prog 30 #[.slice a us.length cap,.int .i64 (k:Int)] w fun e w'=>e= .returned (.int .i64 ((kV k us us.length:Nat):Int))∧je w' lo (.slice a us.length cap) (mvs k us)∧(∀m∈mvs k us,dO w' lo m.v m.x.body)∧Out lo A w w':=by
 have HI:=a8 (show MkI lo A k a cap us w w 0 0 from⟨by rw[Hm];exact ho,fun i U=>by rw[if_neg (by omega)];exact hb _ (MO U),Out.refl _ _ _,rfl⟩);have ak:=a8 ah;have aj:=a8 ag;have ai:=a8 af;clear ho hb af ah ag;go_enter Tryz.func30,Tryz.ntmps30;go_wp2;go_loopw [1,5] (fun s i wr=>∃j:Nat,j≤us.length∧i= .int .i64 j∧s= .int .i64 ((kV k us j:Nat):Int)∧Hid (MkI lo A k a cap us w wr j j)) (fun _ i _=>us.length-(intOf i).toNat)
 case atStart=>exact⟨0,MQ _,rfl,by rw[xc],HI⟩
 case round=>
  obtain⟨j,hj,rfl,rfl,E⟩:=hrel;by_cases z:j<us.length
  ·have Y:=sN k us j hj;obtain⟨g,am,_,_⟩:=b9.at0 E.out.row (by rw[MI,Y];omega);subst am;have J:=a8 (E.out.three z (ak.out g rfl));have O:∀q (hq:q<4),wr.cell? ⟨g,j*4+q,none⟩=(vmC us[j])[q]? :=fun q hq=>by
    have he:(mpt k us j)[j]'(by rw[Y];exact z)=us[j]:=by
     unfold mpt;rw[List.getElem_append_right (by rw[MZ,fE];omega)];simp[fE,Nat.min_eq_left hj]
    have L:=b9.cell E.out.row j q (by rw[MI,Y];exact z) (by rw[MY];exact hq);rw[L];simp only[MY,he];exact(MM _).symm
   have k0:wr.cell? ⟨g,j*4,none⟩=some (.int .u32 (us[j].x.uid:Int)):=O 0 (by omega);have k1:wr.cell? ⟨g,j*4+1,none⟩=some (.int .i64 (us[j].x.stamp:Int)):=O 1 (by omega);have k2:wr.cell? ⟨g,j*4+2,none⟩=some (.int .u32 (us[j].x.flags:Int)):=O 2 (by omega);have M:wr.cell? ⟨g,j*4+3,none⟩=some (.slice us[j].ba us[j].x.body.length us[j].bc):=O 3 (by omega);have fz:=fun q=>b9.frozen E.out.row q;have ab:=oV k us j z;have V:=Kz k us (j+1) (by omega);have ad:=a8 ab;rw[ab] at V;unfold mlK at V;have ae:=a8 (show mlK us[j]=us[j].x.body.length+3 from rfl);have Z:=MN V hk;have Q:=a8 (show∀W,MkI lo A k (some ⟨g,0,none⟩) cap us w W (j+1) j→dO W lo (.slice us[j].ba us[j].x.body.length us[j].bc) us[j].x.body from fun W hW=>by have:=hW.bod j z;rw[if_neg (by omega)] at this;exact this);have R:=a8 (show∀W,MkI lo A k (some ⟨g,0,none⟩) cap us w W (j+1) j→W.cell? ⟨g,j*4+3,none⟩=some (.slice us[j].ba us[j].x.body.length us[j].bc) from fun W hW=>by
    have ac:=sN k us (j+1) (by omega);have he:(mpt k us (j+1))[j]'(by rw[ac];exact z)=mk1 (kV k us j) us[j]:=by
     unfold mpt;rw[List.getElem_append_left (by rw[MZ,fE];omega),List.getElem_take];exact rp k us j z
    have L:=b9.cell hW.row j 3 (by rw[MI,ac];exact z) (by rw[MY];exact Nat.lt_succ_self 3);rw[L];simp only[MY,he,DK];rfl)
   have N:=a8 (show∀W w',MkI lo A k (some ⟨g,0,none⟩) cap us w W (j+1) j→dO w' lo (.slice us[j].ba us[j].x.body.length us[j].bc) (iV (kV k us j+3) us[j].x.body.length)→W.grownBy w' (Value.slice us[j].ba us[j].x.body.length us[j].bc).ownBlock→w'.heap.size=W.heap.size→MkI lo A k (some ⟨g,0,none⟩) cap us w w' (j+1) (j+1) from fun W w' L h2 h3 h4=>L.body z ai.out (aj.out _ (MO z)) h2 h3 h4);clear O ab V Y;generalize us[j].x.body=l at M ae Z Q N R;generalize (us[j].x.uid:Int)=u0 at k0;generalize (us[j].x.stamp:Int)=s0 at k1;generalize (us[j].x.flags:Int)=f0 at k2;generalize us[j].ba=G at M Q N R;generalize us[j].bc=I at M Q N R;generalize kV k us j=K at J ad Z N⊢;have c1:((K+1:Nat):Int)=(K:Int)+1:=(by omega);have c2:((K+2:Nat):Int)=(K:Int)+1+1:=(by omega);have c3:((K+3:Nat):Int)=(K:Int)+1+1+1:=(by omega);rw[c1,c2] at J;have an:K+3≤1000000:=(by omega);have al:=a8 Z;clear Z;go_upto_region 10 with fail;generalize ((wr.setCell ⟨g,j*4,none⟩ (.int .u32 (K:Int))).setCell ⟨g,j*4+1,none⟩ (.int .i64 ((K:Int)+1))).setCell ⟨g,j*4+2,none⟩ (.int .u32 ((K:Int)+1+1))=W at J⊢;clear k0 k1 k2 M;have CB:=a8 (uq lo G I (K+3) l W (by omega) (by have:=al.out;omega) (Q.out W J.out));have M:W.cell? ⟨g,j*4+3,none⟩=some (.slice G l.length I):=R.out W J.out;rw[c3] at CB;clear fz;go_wp2_with fail;refine CB.out.mono ?_;rintro e w2 ⟨rfl,o2,t2,s2⟩;have HN:=a8 (N.out W w2 J.out o2 t2 s2);have hR:((K+3+l.length:Nat):Int)=((kV k us (j+1):Nat):Int):=(by have L:=ad.out;have h2:=ae.out;omega);rw[hR];clear o2 t2 s2 CB M hR;go_wp2;go_roundw
   case rel=>exact⟨j+1,by omega,by go_num,rfl,HN⟩
   case measure=>simp[intOf];omega
  ·obtain rfl:j=us.length:=(by omega);have HP:=a8 (show je wr lo (.slice a us.length cap) (mvs k us)∧(∀m∈mvs k us,dO wr lo m.v m.x.body)∧Out lo A w wr from⟨by have:=E.out.row;rw[JM] at this;exact this,fun m hm=>by
    obtain⟨i,U,rfl⟩:=ND.1 hm;have aa:i<us.length:=(by rw[fE] at U;exact U);have:=E.out.bod i aa;rw[if_pos aa] at this;rw[rp k us i aa];unfold mk1 VM.v;simp only[gQ];exact this,E.out.out⟩)
   clear E HI;go_wp2;go_ret;exact⟨rfl,HP.out⟩
structure GA(w:World)(lo:Nat)(a:Option Addr)(c:Nat)(ys:List VM):Prop where
 row:je w lo (.slice a ys.length c) ys
 bod:∀m∈ys,dO w lo m.v m.x.body
theorem GA.below{ys:List VM}(h:GA w lo a c ys)(z:Below w.heap.size w w'):GA w' lo a c ys:=
 ⟨b9.below h.row z (MH _),fun m A=>(h.bod m A).below z (MH _)⟩
theorem GA.out{K:Nat}{ys:List VM}(h:GA w lo a c ys)(I:Out K A w w')(E:A≤lo):GA w' lo a c ys:=
 ⟨b9.keep h.row (fun g z=>I.block g (b9.lt h.row g z).2 (.inr (MN E (b9.lt h.row g z).1))),fun m G=>gS (h.bod m G) (fun g z J=>I.block g J (.inr (MN E (World.ownsRow.lt (h.bod m G) g z).1)))⟩
theorem GA.at{ys:List VM}(h:GA w lo a c ys):oa w a (ys.map VM.x):=zE h.row h.bod
theorem xt(lo z k:Nat)(a:Option Addr)(cap:Nat)(A E x2 x3 x4:Value)(us:List VM)(w:World)(U:kV k us us.length≤1000000)(hl:us.length≤1000)(R:GA w lo a cap us)(K:iM (us.map VM.v))(M:∀g,(Value.slice a us.length cap).ownBlock=some g→g<z)(L:∀m∈us,∀g,m.v.ownBlock=some g→g<z):
  Calls Tryz.prog 11 #[.agg #[A,E,x2,x3,x4,.slice a us.length cap],.int .i64 (k:Int)] w fun e w'=>e= .returned (.int .i64 ((kV k us us.length:Nat):Int))∧GA w' lo a cap (mvs k us)∧Out lo z w w':=by
 have J:Below w.heap.size w (w.alloc (.cells #[A,E,x2,x3,x4,.slice a us.length cap] 31)):=(MJ _ _).alloc (MH _) _;have Q:=dN w #[A,E,x2,x3,x4,.slice a us.length cap] 31;have I:=R.below J;have G:=a8 (ur lo z k a cap us _ U hl I.row I.bod K M L);have O:=a8 J;have N:=a8 Q;clear J Q R I K M L U;go_enter Tryz.func11,Tryz.ntmps11;go_upto_region 1 with fail;generalize w.alloc (.cells #[A,E,x2,x3,x4,.slice a us.length cap] 31)=w1 at G O N⊢;obtain⟨-,-,-,-,-,p5⟩:=N.out.c6;go_wp2_with fail;refine G.out.mono ?_;rintro e Z ⟨rfl,V,b2,Y⟩;have HP:=a8 (show GA Z lo a cap (mvs k us)∧Out lo z w Z from⟨⟨by rw[fE];exact V,b2⟩,(Out.of_below O.out).trans Y⟩);clear V b2 Y G p5;go_wp2;go_ret;exact⟨rfl,HP.out⟩
end Go.Proofs.YtpdbolihakojcaaGreatDoor
