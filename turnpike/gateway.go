package turnpike

import (
	"slices"

	"turnpike/api"
	"turnpike/heads"
)

// find gives the open connection of that number; nil, if there is none.
func (g *Gateway) find(number int) *conn {
	for _, c := range g.conns {
		if c.number == number {
			return c
		}
	}
	return nil
}

// answer looks at a connection's head: the host is called, or the client refused.
func (g *Gateway) answer(c *conn, head string) []api.Event {
	target, refusal := g.judge(head)
	if refusal != "" {
		return g.refuse(c, refusal)
	}
	c.stage = calling
	return c.dial(target)
}

// judge gives where a head leads, or with what its client is refused.
func (g *Gateway) judge(text string) (target heads.Target, refusal string) {
	head, right := caught(func() heads.Head { return heads.Read(text) })
	if !right {
		return heads.Target{}, api.Bad
	}
	if head.Method != "CONNECT" {
		return heads.Target{}, api.Kind
	}
	target, right = caught(func() heads.Target { return heads.ReadTarget(head.Target) })
	if !right {
		return heads.Target{}, api.Bad
	}
	tenant, known := g.tenantOf(head)
	if !known {
		return heads.Target{}, api.Who
	}
	if allowed, _, _ := g.policy.Decide(tenant, target.Host, target.Port, g.minute); !allowed {
		return heads.Target{}, api.Deny
	}
	return target, ""
}

func (g *Gateway) tenantOf(head heads.Head) (name string, known bool) {
	credentials, one := head.Only("proxy-authorization")
	if !one {
		return "", false
	}
	return g.tenants.By(credentials)
}

// refuse answers the client, and the connection is over.
func (g *Gateway) refuse(c *conn, answer string) []api.Event {
	g.drop(c)
	return append(c.send(api.ToClient, answer), c.shut(api.ShutClient)...)
}

// leave takes it that the client has ended; unless its host has answered, there
// is nobody left for whom the connection would stay open.
func (g *Gateway) leave(c *conn) []api.Event {
	if c.stage != through {
		return g.abandon(c)
	}
	c.clientEnded = true
	g.dropIfBothEnded(c)
	return c.shut(api.ShutHost)
}

// age lets minutes go by for a connection, which is over if it was silent too long.
func (g *Gateway) age(c *conn, minutes int) []api.Event {
	c.silent += minutes
	if c.silent < api.MaxIdle {
		return nil
	}
	return g.abandon(c)
}

// abandon ends a connection on both sides, so far as they are open.
func (g *Gateway) abandon(c *conn) []api.Event {
	g.drop(c)
	return c.shut(c.unshut()...)
}

func (g *Gateway) dropIfBothEnded(c *conn) {
	if c.clientEnded && c.hostEnded {
		g.drop(c)
	}
}

func (g *Gateway) drop(c *conn) {
	g.conns = slices.DeleteFunc(g.conns, func(other *conn) bool { return other == c })
}
