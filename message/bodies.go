package message

import (
	"peerage/api"
	"peerage/mp"
	"peerage/notice"
	"peerage/open"
	"peerage/refresh"
	"peerage/update"
	"peerage/value"
)

// body is the field of a message that belongs to a kind.
type body interface {
	empty() bool
	bytes(o api.Options) ([]byte, bool)
	// read returns a message with the body that some bytes are.
	read(o api.Options, b []byte) (Message, api.Verdict)
	// same compares the body with that of a message of the same kind.
	same(m Message) bool
}

// texter is a body that has more to tell than the name of its kind. Only valid ones are asked.
type texter interface {
	text(o api.Options) string
}

// bodies returns the fields of a message by their kinds.
func bodies(m Message) map[int]body {
	return map[int]body{
		api.Open:      openBody{m.Open},
		api.Update:    updateBody{m.Update},
		api.Notice:    noticeBody{m.Notice},
		api.Keepalive: noBody{},
		api.Refresh:   refreshBody{m.Refresh},
	}
}

type openBody struct{ x open.Open }

func (b openBody) empty() bool                        { return open.Same(b.x, open.Open{}) }
func (b openBody) bytes(o api.Options) ([]byte, bool) { return open.Bytes(b.x) }
func (b openBody) same(m Message) bool                { return open.Same(b.x, m.Open) }
func (b openBody) text(o api.Options) string          { return open.Text(b.x) }

func (openBody) read(o api.Options, b []byte) (Message, api.Verdict) {
	x, v := open.Parse(b)
	return Message{Open: x}, v
}

type updateBody struct{ x update.Update }

func (b updateBody) empty() bool                        { return update.Empty(b.x) }
func (b updateBody) bytes(o api.Options) ([]byte, bool) { return update.Bytes(o, b.x) }
func (b updateBody) same(m Message) bool                { return update.Same(b.x, m.Update) }

func (updateBody) read(o api.Options, b []byte) (Message, api.Verdict) {
	x, v := update.Parse(o, b)
	return Message{Update: x}, v
}

func (b updateBody) text(o api.Options) string {
	text := "update"
	if len(b.x.Withdrawn) > 0 {
		text += " withdraw " + mp.Routes(b.x.Withdrawn...)
	}
	for _, a := range b.x.Attrs {
		text += " [" + value.Text(o, a) + "]"
	}
	if len(b.x.Routes) > 0 {
		text += " announce " + mp.Routes(b.x.Routes...)
	}
	return text
}

type noticeBody struct{ x notice.Notice }

func (b noticeBody) empty() bool                        { return notice.Same(b.x, notice.Notice{}) }
func (b noticeBody) bytes(o api.Options) ([]byte, bool) { return notice.Bytes(b.x) }
func (b noticeBody) same(m Message) bool                { return notice.Same(b.x, m.Notice) }
func (b noticeBody) text(o api.Options) string          { return "notification " + notice.Text(b.x) }

// The lengths that a header allows are those of a NOTIFICATION, so that it is always one.
func (noticeBody) read(o api.Options, b []byte) (Message, api.Verdict) {
	x, _ := notice.Parse(b)
	return Message{Notice: x}, api.Verdict{}
}

type refreshBody struct{ x refresh.Refresh }

func (b refreshBody) empty() bool                        { return b.x == refresh.Refresh{} }
func (b refreshBody) bytes(o api.Options) ([]byte, bool) { return refresh.Bytes(b.x) }
func (b refreshBody) same(m Message) bool                { return b.x == m.Refresh }
func (b refreshBody) text(o api.Options) string          { return refresh.Text(b.x) }

// As for NOTIFICATIONs, the length is right already.
func (refreshBody) read(o api.Options, b []byte) (Message, api.Verdict) {
	x, _ := refresh.Parse(b)
	return Message{Refresh: x}, api.Verdict{}
}

// noBody is the body of a Keepalive.
type noBody struct{}

func (noBody) empty() bool                        { return true }
func (noBody) bytes(o api.Options) ([]byte, bool) { return nil, true }
func (noBody) same(m Message) bool                { return true }

func (noBody) read(o api.Options, b []byte) (Message, api.Verdict) {
	return Message{}, api.Verdict{}
}
