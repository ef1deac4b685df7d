package conns

import (
	"bollard/api"
	"bollard/codec"
	"bollard/frame"
)

// feed answers each frame that ends in p.
func (c *Conns) feed(feeder *frame.Feeder, p []byte, now int) (told []byte, how end) {
	frames, ok := feeder.Feed(p)
	for _, b := range frames {
		r := c.answer(b, now)
		if r.Code == api.ErrOff {
			return told, cut
		}
		told = append(told, framed(r)...)
	}
	if !ok {
		return told, shut
	}
	return told, whole
}

// answer is the response to a frame's bytes.
func (c *Conns) answer(b []byte, now int) api.Response {
	r, e := codec.ParseRequest(b)
	if e != api.OK {
		return api.Response{Code: api.ErrText}
	}
	return c.desk.Do(r, now)
}

// framed is a response's frame, or, where it can have none, that of a response that says so.
func framed(r api.Response) []byte {
	if told, ok := wrapped(r); ok {
		return told
	}
	told, _ := wrapped(api.Response{Kind: r.Kind, ID: r.ID, Code: api.ErrBig})
	return told
}

// wrapped is a response's frame, if it has one.
func wrapped(r api.Response) ([]byte, bool) {
	b, e := codec.Response(r)
	if e != api.OK {
		return nil, false
	}
	return frame.Wrap(b)
}
