package open

import (
	"peerage/api"
	"peerage/capability"
	"peerage/octet"
)

// Subs of the verdicts.
const (
	unspecific   = 0
	badVersion   = 1
	badSystem    = 2
	badID        = 3
	badParameter = 4
	badHold      = 6
)

// parser reads an OPEN. Its steps are taken in order, until one of them has found an error.
type parser struct {
	r       *octet.Reader
	open    Open
	verdict api.Verdict
}

// fail keeps the first verdict.
func (p *parser) fail(sub, at int, data ...byte) {
	if p.verdict.Kind == api.Accept {
		p.verdict = api.Verdict{Kind: api.Notify, Code: 2, Sub: sub, Data: octet.Cat(data), At: at}
	}
}

// Parse returns the OPEN of some bytes, and the verdict.
func Parse(b []byte) (Open, api.Verdict) {
	p := &parser{r: octet.New(b)}
	steps := [...]func(){p.readSize, p.readVersion, p.readSystem, p.readHold, p.readID, p.readCount, p.readParameters, p.nameSystem}
	for _, step := range steps {
		step()
		if p.verdict.Kind != api.Accept {
			return Open{}, p.verdict
		}
	}
	return p.open, api.Verdict{}
}

func (p *parser) readSize() {
	if p.r.Left() < fixedSize {
		p.fail(unspecific, p.r.Left())
	}
}

func (p *parser) readVersion() {
	at := p.r.At()
	if x, _ := p.r.Number(1); x != version {
		p.fail(badVersion, at, 0, version)
	}
}

func (p *parser) readSystem() {
	at := p.r.At()
	if p.open.AS, _ = p.r.Number(2); p.open.AS == 0 {
		p.fail(badSystem, at)
	}
}

func (p *parser) readHold() {
	at := p.r.At()
	x, _ := p.r.Number(2)
	if p.open.Hold = int(x); x > 0 && x < leastHold {
		p.fail(badHold, at)
	}
}

func (p *parser) readID() {
	at := p.r.At()
	if p.open.ID, _ = p.r.Number(4); p.open.ID == 0 {
		p.fail(badID, at)
	}
}

func (p *parser) readCount() {
	at := p.r.At()
	if x, _ := p.r.Number(1); int(x) != p.r.Left() {
		p.fail(unspecific, at)
	}
}

func (p *parser) readParameters() {
	for p.r.Left() > 0 && p.verdict.Kind == api.Accept {
		p.readParameter()
	}
}

func (p *parser) readParameter() {
	at := p.r.At()
	kind, _ := p.r.Number(1)
	n, ok := p.r.Number(1)
	if !ok {
		p.fail(unspecific, at)
		return
	}
	b, ok := p.r.Take(int(n))
	if !ok {
		p.fail(unspecific, at)
		return
	}
	if kind != capabilities {
		p.fail(badParameter, at)
		return
	}
	caps, ok := capability.Read(b)
	if !ok {
		p.fail(unspecific, at)
		return
	}
	p.open.Caps = append(p.open.Caps, caps...)
}

// nameSystem lets the capabilities decide which system it is.
func (p *parser) nameSystem() {
	as, named := capability.System(p.open.Caps...)
	if !named {
		return
	}
	if p.open.AS = as; as == 0 {
		p.fail(badSystem, 1)
	}
}
