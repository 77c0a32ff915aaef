package value

import (
	"peerage/aggregate"
	"peerage/api"
	"peerage/basic"
	"peerage/community"
	"peerage/digits"
	"peerage/flag"
	"peerage/mp"
	"peerage/octet"
	"peerage/option"
	"peerage/segment"
)

// chapter is what handles the attributes of some types. Only valid attributes are given to bytes and text.
type chapter interface {
	valid(o api.Options, a api.Attr) bool
	bytes(o api.Options, a api.Attr) []byte
	text(a api.Attr) string
}

// reader is a chapter that reads a value without its head, and tells the kind of the verdict.
type reader interface {
	read(o api.Options, kind int, b []byte) (api.Attr, int)
}

// handler returns the chapter that handles a type.
func handler(kind int) chapter {
	_, known := flag.Class(kind)
	switch {
	case !known:
		return unknown{}
	case basic.Has(kind):
		return numbers{}
	case aggregate.Has(kind):
		return aggregators{}
	case community.Group(kind) > 0:
		return lists{}
	case mp.Has(kind):
		return families{}
	}
	return paths{}
}

// numbers handles what chapter basic does.
type numbers struct{}

func (numbers) valid(o api.Options, a api.Attr) bool { return basic.Valid(a) }

func (numbers) bytes(o api.Options, a api.Attr) []byte {
	b, _ := basic.Bytes(a)
	return b
}

func (numbers) text(a api.Attr) string { return basic.Text(a) }

func (numbers) read(o api.Options, kind int, b []byte) (api.Attr, int) {
	return basic.Read(kind, b)
}

// aggregators handles what chapter aggregate does.
type aggregators struct{}

func (aggregators) valid(o api.Options, a api.Attr) bool {
	return aggregate.Valid(option.Width(o), a) && !(o.AS4 && a.Type == api.Aggregator4)
}

func (aggregators) bytes(o api.Options, a api.Attr) []byte {
	b, _ := aggregate.Bytes(option.Width(o), a)
	return b
}

func (aggregators) text(a api.Attr) string { return aggregate.Text(a) }

func (aggregators) read(o api.Options, kind int, b []byte) (api.Attr, int) {
	return aggregate.Read(option.Width(o), kind, b)
}

// lists handles what chapter community does.
type lists struct{}

func (lists) valid(o api.Options, a api.Attr) bool { return community.Valid(a) }

func (lists) bytes(o api.Options, a api.Attr) []byte {
	b, _ := community.Bytes(a)
	return b
}

func (lists) text(a api.Attr) string { return community.Text(a) }

func (lists) read(o api.Options, kind int, b []byte) (api.Attr, int) {
	return community.Read(kind, b)
}

// families handles what chapter mp does.
type families struct{}

func (families) valid(o api.Options, a api.Attr) bool { return mp.Valid(o, a) }

func (families) bytes(o api.Options, a api.Attr) []byte {
	b, _ := mp.Bytes(o, a)
	return b
}

func (families) text(a api.Attr) string { return mp.Text(a) }

// paths handles Path and Path4.
type paths struct{}

// width returns the number of bytes of the numbers of a path.
func (paths) width(o api.Options, kind int) int {
	if kind == api.Path4 {
		return 4
	}
	return option.Width(o)
}

func (p paths) valid(o api.Options, a api.Attr) bool {
	if a.Type == api.Path4 && (o.AS4 || len(a.Segs) == 0) || !segment.Valid(p.width(o, a.Type), a.Segs...) {
		return false
	}
	a.Segs = nil
	return basic.Plain(a)
}

func (p paths) bytes(o api.Options, a api.Attr) []byte {
	b, _ := segment.Bytes(p.width(o, a.Type), a.Segs...)
	return b
}

func (paths) text(a api.Attr) string {
	name := "path"
	if a.Type == api.Path4 {
		name = "path4"
	}
	if len(a.Segs) == 0 {
		return name
	}
	return name + " " + segment.Text(a.Segs...)
}

func (p paths) read(o api.Options, kind int, b []byte) (api.Attr, int) {
	segs, ok := segment.Read(p.width(o, kind), b)
	switch {
	case kind == api.Path4 && len(segs) == 0:
		return api.Attr{}, api.Discard
	case !ok:
		return api.Attr{}, api.Withdraw
	}
	return api.Attr{Type: kind, Segs: segs}, api.Accept
}

// unknown handles the types that are not known.
type unknown struct{}

func (unknown) valid(o api.Options, a api.Attr) bool {
	if a.Type < 0 || a.Type > 255 || !a.Partial || len(a.Bytes) > mostBytes {
		return false
	}
	a.Bytes = nil
	return basic.Plain(a)
}

func (unknown) bytes(o api.Options, a api.Attr) []byte { return octet.Cat(a.Bytes) }

func (unknown) text(a api.Attr) string {
	if len(a.Bytes) == 0 {
		return flag.Name(a.Type)
	}
	return flag.Name(a.Type) + " " + digits.Hex(a.Bytes)
}

// read needs the head, too: its flags tell what becomes of the attribute.
func (unknown) read(at int, h flag.Head, r *octet.Reader) (api.Attr, api.Verdict) {
	b, _ := r.Take(r.Left())
	switch {
	case h.Flags&flag.Optional == 0:
		head, _ := flag.Bytes(h)
		return api.Attr{}, api.Verdict{Kind: api.Notify, Code: 3, Sub: 2, Data: octet.Cat(head, b), At: at}
	case h.Flags&flag.Transitive == 0:
		return api.Attr{}, api.Verdict{}
	}
	return api.Attr{Type: h.Type, Partial: true, Bytes: b}, api.Verdict{}
}
