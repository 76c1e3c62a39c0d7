"""A desk: a text with a program and requests, and the answers to these."""

from openorder.codemachine import code_run
from openorder.errors import NoFunction, OtherInputs, Unsound
from openorder.machine import run
from openorder.reader import read
from openorder.replies import conflict_reply, listed_reply, refused_reply, result_reply
from openorder.requests import requests_in
from openorder.watcher import first_conflict
from openorder.workshop import Workshop


def answers(text):
    """Return the list of the answers; raise BadText(at), Unsound(fault) or BadLine(at) ahead of all."""
    lines = text.split("\n")
    end = lines.index("") if "" in lines else len(lines)
    shop = Workshop(read("\n".join(lines[:end])))
    return [answer(shop, request) for request in requests_in(lines[end + 1:], end + 1)]


def answer(shop, request):
    """Return the answer to a request, with the name of the error's class if it raises one."""
    answerer = ANSWERERS[request[0]]
    try:
        return answerer(shop, request)
    except OtherInputs:
        return "refused OtherInputs"
    except NoFunction:
        return "refused NoFunction"
    except Unsound:
        return "refused Unsound"


def answer_run(shop, request):
    """run N .. / C .."""
    program = shop.program_now()
    return result_reply(program, run(program, request[1], request[2]))


def answer_conflict(shop, request):
    """conflict N .. / C .."""
    program = shop.program_now()
    return conflict_reply(program, first_conflict(program, request[1], request[2]))


def answer_check(shop, request):
    """check"""
    return refused_reply(shop.first_refused())


def answer_mend(shop, request):
    """mend"""
    return listed_reply(shop.mend())


def answer_code(shop, request):
    """code R N .."""
    result = code_run(shop.code_for(request[1]), request[2])[0]
    return result_reply(shop.program_now(), result)


def answer_function(shop, request):
    """fun .., a function's text"""
    function = request[1]
    if function[0] in shop.functions():
        return str(shop.replace(function))
    return str(shop.put(function))


def answer_take(shop, request):
    """take NAME"""
    return str(shop.take(request[1]))


def answer_undo(shop, request):
    """undo"""
    return "done" if shop.undo() else "nothing"


def answer_show(shop, request):
    """show"""
    return " / ".join(shop.text().split("\n"))


ANSWERERS = {
    "run": answer_run, "conflict": answer_conflict, "check": answer_check, "mend": answer_mend,
    "code": answer_code, "fun": answer_function, "take": answer_take, "undo": answer_undo,
    "show": answer_show,
}
